/- Own contracts: a key is read. No statement is proved here. -/
import Derived.Test.YtimajdbgeibalaaDoorNative
namespace Go.Proofs.YtimajdbgeibalaaDoor
open Go.RowKit
set_option linter.unusedVariables false
set_option linter.unusedSimpArgs false

theorem results_cell_tmp_mid {P : Program} {fn : Func} {p u : Tmp} {ty : TypeId} (h : fn.results = #[.cell p ty, .tmp u]) (tmps : Array Value) (w : World) (b : Nat) (cs : List Value) (d : TypeDesc) (x : Value)
    (hp : tmps.getD p undef = .pointer (some ⟨b, 0, none⟩)) (hu2 : tmps.getD u undef = x) (hc : w.rangeAt b 0 cs) (hu : P.underlying ty = some d) (hd : d.isRow = true) (hi : (P.info? ty).map (·.size) = some cs.length) :
    (results fn tmps).run P w = .ok (.tuple #[.agg cs.toArray, x]) w := by
  have hp' : tmps[p]?.getD undef = .pointer (some ⟨b, 0, none⟩) := by simpa using hp
  have hu' : tmps[u]?.getD undef = x := by simpa using hu2
  simp [results, h, hp', hu', asAddr, run_loadVar_mid w b 0 ty cs d hc hu hd hi]

theorem nums_size (xs : List Int) : (strOfNums xs).size = xs.length := by
  have := toList_nums xs
  rw [ByteArray.toList_eq] at this
  show (strOfNums xs).data.size = _
  rw [← Array.length_toList, this]; simp
theorem run_index_nums (xs : List Int) (i : Nat) (w : World) (hi : i < xs.length) (hx : ∀ x ∈ xs, 0 ≤ x ∧ x < 256) :
    (Instr.index 9 (.string (strOfNums xs)) (.int .i64 (i : Int))).run Tryd.prog w = .ok (.int .u8 (xs.getD i 0)) w := by
  have hsz := nums_size xs
  rw [run_index_string (P := Tryd.prog) w 9 _ .i64 (i : Int) Tryd.underlying9, dif_pos ⟨by omega, by omega⟩]
  have h1 := toList_nums xs
  rw [ByteArray.toList_eq] at h1
  have hb : i < (strOfNums xs).size := by omega
  have h2 : (strOfNums xs)[i]'hb = UInt8.ofNat (xs.getD i 0).toNat := by
    show (strOfNums xs).data[i] = _
    have h3 : (strOfNums xs).data.toList[i]? = some (UInt8.ofNat (xs.getD i 0).toNat) := by
      rw [h1]; simp [List.getD, hi]
    have h4 : (strOfNums xs).data.toList[i]? = some ((strOfNums xs).data[i]) := by simp
    exact Option.some.inj (h4.symm.trans h3)
  have hm : xs.getD i 0 ∈ xs := by simp [List.getD, hi]
  have hb2 := hx _ hm
  have h5 : (((strOfNums xs)[i]'hb).toNat : Int) = xs.getD i 0 := by
    rw [h2, UInt8.toNat_ofNat']; omega
  simp only [Int.toNat_natCast]
  rw [h5]

theorem exec_index {P : Program} (ev : Operand → Value) (op : Oper) (t : TypeId) (x y : Operand) (ho : op.op = .index t x y) (a b v : Value) (w : World) (hx : ev x = a) (hy : ev y = b)
    (h : (Instr.index t a b).run P w = .ok v w) : (execOp ev op).run P w = .ok (.value v) w := by
  unfold execOp
  simp only [ho, hx, hy, Sem.run_bind, Sem.run_pure, Result.andThen_ok, h]

theorem indexByte_lt (l : List UInt8) (c : UInt8) : Lib.indexByte l c < l.length := by
  induction l with
  | nil => rw [Lib.indexByte]; decide
  | cons b l ih =>
    rw [Lib.indexByte, List.length_cons]
    split
    · omega
    · split <;> omega
theorem unhex_lt (c : Int) : unhex c < 16 := indexByte_lt digitsB _
theorem unhex_ge (c : Int) : -1 ≤ unhex c := Lib.indexByte_ge _ _

theorem or16_all : (List.range 16).all (fun h => (List.range 16).all fun l => decide (bits .or .i64 ((h : Int) * 16) (l : Int) = (h : Int) * 16 + (l : Int))) = true := by kernel_rfl
theorem or16 (h l : Int) (h0 : 0 ≤ h) (h1 : h < 16) (l0 : 0 ≤ l) (l1 : l < 16) : bits .or .i64 (h * 16) l = h * 16 + l := by
  obtain ⟨n, rfl⟩ := Int.eq_ofNat_of_zero_le h0
  obtain ⟨m, rfl⟩ := Int.eq_ofNat_of_zero_le l0
  have := List.all_eq_true.1 or16_all n (by simp; omega)
  exact of_decide_eq_true (List.all_eq_true.1 this m (by simp; omega))

def goodAt (xs : List Int) (i : Nat) : Prop := 0 ≤ unhex (xs.getD (2 * i) 0) ∧ 0 ≤ unhex (xs.getD (2 * i + 1) 0)
instance (xs : List Int) (i : Nat) : Decidable (goodAt xs i) := by unfold goodAt; infer_instance
/-- It is the text of a key. -/
def readOk (xs : List Int) : Bool := (xs.length == 64) && (List.range 32).all fun i => decide (goodAt xs i)
theorem readOk_iff (xs : List Int) : readOk xs = true ↔ xs.length = 64 ∧ ∀ i, i < 32 → goodAt xs i := by
  simp only [readOk, Bool.and_eq_true, beq_iff_eq, List.all_eq_true, List.mem_range, decide_eq_true_eq]
theorem readOk_not {xs : List Int} (h : ¬ (xs.length = 64 ∧ ∀ i, i < 32 → goodAt xs i)) : readOk xs = false := by
  cases hr : readOk xs with
  | false => rfl
  | true => exact absurd ((readOk_iff xs).1 hr) h
def byteOf (xs : List Int) (i : Nat) : Int := unhex (xs.getD (2 * i) 0) * 16 + unhex (xs.getD (2 * i + 1) 0)
def keyOf (xs : List Int) (k : Nat) : List Int := (List.range k).map (byteOf xs)
theorem keyOf_succ (xs : List Int) (k : Nat) : keyOf xs (k + 1) = keyOf xs k ++ [byteOf xs k] := by simp [keyOf, List.range_succ]
theorem keyOf_len (xs : List Int) (k : Nat) : (keyOf xs k).length = k := by simp [keyOf]
/-- The key that is read. -/
def readK (xs : List Int) : List Int := if readOk xs then keyOf xs 32 else List.replicate 32 0

theorem read_start (w W : World) (h : (w.alloc (.cells ((List.replicate 32 (0 : Int)).map (Value.int .u8)).toArray 25)).alloc (.cells ((List.replicate 32 (0 : Int)).map (Value.int .u8)).toArray 25) = W) :
    BytesAt W w.heap.size 25 (List.replicate 32 0) ∧ BytesAt W (w.heap.size + 1) 25 (List.replicate 32 0) ∧ Turn (fun _ => False) w W := by
  subst h
  exact ⟨heap_alloc2_old w _ _, heap_alloc2_new w _ _, ((Turn.refl _ w).alloc _).alloc _⟩

def ReadPost (w : World) (xs : List Int) (e : Ending) (w' : World) : Prop := e = .returned (.tuple #[.agg ((readK xs).map (Value.int .u8)).toArray, .bool (readOk xs)]) ∧ Turn (fun _ => False) w w'

theorem zeros_ret {w wr : World} {xs : List Int} {B : Nat} (h : readOk xs = false) : (readK xs).map (Value.int .u8) = (List.replicate 32 (0 : Int)).map (Value.int .u8) := by unfold readK; rw [h]; rfl

set_option maxHeartbeats 1000000 in
set_option maxRecDepth 100000 in
theorem read_any (xs : List Int) (w : World) (hx : ∀ x ∈ xs, 0 ≤ x ∧ x < 256) (hl : xs.length ≤ 60000000000000) :
    Calls Tryd.prog 13 #[.string (strOfNums xs)] w (ReadPost w xs) := by
  have hsz := nums_size xs
  obtain ⟨st, hst⟩ : ∃ st, strOfNums xs = st := ⟨_, rfl⟩
  have hsi : ∀ (i : Nat) (w : World), i < xs.length → (Instr.index 9 (.string st) (.int .i64 (i : Int))).run Tryd.prog w = .ok (.int .u8 (xs.getD i 0)) w := fun i w hi => by rw [← hst]; exact run_index_nums xs i w hi hx
  have HI := Lib.hid hsi
  rw [hst] at hsz ⊢
  obtain ⟨n, hn⟩ : ∃ n, xs.length = n := ⟨_, rfl⟩
  rw [hn] at hsz hl
  have HN := Lib.hid hn
  clear hst hsi hn hx
  have z1c : ((List.replicate 32 (0 : Int)).map (Value.int .u8)).toArray.all (·.oneCell') = true := all_oneCell_toArray (ints_oneCell _ _)
  have zi25 : (Tryd.prog.info? 25).map (·.size) = some ((List.replicate 32 (0 : Int)).map (Value.int .u8)).toArray.size := by kernel_rfl
  go_enter Tryd.func13, Tryd.ntmps13
  by_cases h64 : n = 64
  · subst h64
    have hne : decide ((64 : Int) = 64) = true := by decide
    go_wp2_with fail
    generalize hW : World.alloc (World.alloc w _) _ = W
    obtain ⟨q1, q2, q3⟩ := read_start w W hW
    clear hW
    go_loopw [12] (fun iv wr => ∃ (k : Nat), k ≤ 32 ∧ iv = .int .i64 (k : Int) ∧ (∀ i, i < k → goodAt xs i) ∧ BytesAt wr (w.heap.size + 1) 25 (keyOf xs k ++ List.replicate (32 - k) 0) ∧ BytesAt wr w.heap.size 25 (List.replicate 32 0) ∧ Turn (fun _ => False) w wr) (fun iv _ => (32 - intOf iv).toNat)
    case atStart => exact ⟨0, by omega, rfl, fun i hi => by omega, q2, q1, q3⟩
    case round =>
      clear q1 q2 q3
      obtain ⟨k, hk, rfl, hgood, hB, hB0, hT⟩ := hrel
      have HG := Lib.hid hgood
      clear hgood
      by_cases hlt : k < 32
      · have hd : decide ((k : Int) < 32) = true := by simp; omega
        have hi0 : ∀ w, (Instr.index 9 (.string st) (.int .i64 (2 * (k : Int)))).run Tryd.prog w = .ok (.int .u8 (xs.getD (2 * k) 0)) w := fun w => by have := HI.out (2 * k) w (by have := HN.out; omega); simpa using this
        have hi1 : ∀ w, (Instr.index 9 (.string st) (.int .i64 (2 * (k : Int) + 1))).run Tryd.prog w = .ok (.int .u8 (xs.getD (2 * k + 1) 0)) w := fun w => by have := HI.out (2 * k + 1) w (by have := HN.out; omega); simpa using this
        obtain ⟨x, hxx⟩ : ∃ x, xs.getD (2 * k) 0 = x := ⟨_, rfl⟩
        obtain ⟨y, hyy⟩ : ∃ y, xs.getD (2 * k + 1) 0 = y := ⟨_, rfl⟩
        rw [hxx] at hi0
        rw [hyy] at hi1
        have HXX := Lib.hid hxx
        have HYY := Lib.hid hyy
        have HI0 := Lib.hid hi0
        have HI1 := Lib.hid hi1
        clear hxx hyy hi0 hi1
        have hw2 : IntKind.i64.wrap (2 * (k : Int)) = 2 * (k : Int) := IntWalk.i64_in _ (by omega)
        have hw3 : IntKind.i64.wrap (2 * (k : Int) + 1) = 2 * (k : Int) + 1 := IntWalk.i64_in _ (by omega)
        go_wp2_with fail
        refine wp_region_held_drew (S := fun _ => True) (by kernel_rfl) trivial (fun hHeld => ?_)
        refine wpAnyH_take (i := 0) (v := .string st) rfl (by kernel_rfl) (by kernel_rfl) (by kernel_rfl) (fun _ _ _ h => h) (Or.inl ⟨by rfl, ?y0⟩) (by assumption) ?r0
        case y0 => (intro w hSw; (try dsimp only at hSw); (try simp only [List.getElem_toArray, List.getElem_cons_zero, List.getElem_cons_succ]); go_simp; try with_reducible rfl)
        case r0 =>
        try simp only [Act.put, List.setIfInBounds_toArray, List.set_cons_zero, List.set_cons_succ, List.getElem_toArray, List.getElem_cons_zero, List.getElem_cons_succ]
        refine wpAnyH_take (i := 1) (v := .int .i64 (k : Int)) rfl (by kernel_rfl) (by kernel_rfl) (by kernel_rfl) (fun _ _ _ h => h) (Or.inl ⟨by rfl, ?y1⟩) (by assumption) ?r1
        case y1 => (intro w hSw; (try dsimp only at hSw); (try simp only [List.getElem_toArray, List.getElem_cons_zero, List.getElem_cons_succ]); go_simp; try with_reducible rfl)
        case r1 =>
        try simp only [Act.put, List.setIfInBounds_toArray, List.set_cons_zero, List.set_cons_succ, List.getElem_toArray, List.getElem_cons_zero, List.getElem_cons_succ]
        refine wpAnyH_take (i := 2) (v := .int .i64 (2 * (k : Int))) rfl (by kernel_rfl) (by kernel_rfl) (by kernel_rfl) (fun _ _ _ h => h) (Or.inl ⟨by rfl, ?y2⟩) (by assumption) ?r2
        case y2 => (intro w hSw; (try dsimp only at hSw); (try simp only [List.getElem_toArray, List.getElem_cons_zero, List.getElem_cons_succ]); go_simp; try with_reducible rfl)
        case r2 =>
        try simp only [Act.put, List.setIfInBounds_toArray, List.set_cons_zero, List.set_cons_succ, List.getElem_toArray, List.getElem_cons_zero, List.getElem_cons_succ]
        refine wpAnyH_take (i := 3) (v := .int .u8 x) rfl (by kernel_rfl) (by kernel_rfl) (by kernel_rfl) (fun _ _ _ h => h) (Or.inl ⟨by rfl, ?y3⟩) (by assumption) ?r3
        case y3 => (intro w hSw; exact exec_index _ _ 9 (.tmp 15) (.tmp 17) rfl (.string st) (.int .i64 (2 * (k : Int))) _ _ rfl rfl (HI0.out _))
        case r3 =>
        try simp only [Act.put, List.setIfInBounds_toArray, List.set_cons_zero, List.set_cons_succ, List.getElem_toArray, List.getElem_cons_zero, List.getElem_cons_succ]
        refine wpAnyH_take (i := 5) (v := .string st) rfl (by kernel_rfl) (by kernel_rfl) (by kernel_rfl) (fun _ _ _ h => h) (Or.inl ⟨by rfl, ?y5⟩) (by assumption) ?r5
        case y5 => (intro w hSw; (try dsimp only at hSw); (try simp only [List.getElem_toArray, List.getElem_cons_zero, List.getElem_cons_succ]); go_simp; try with_reducible rfl)
        case r5 =>
        try simp only [Act.put, List.setIfInBounds_toArray, List.set_cons_zero, List.set_cons_succ, List.getElem_toArray, List.getElem_cons_zero, List.getElem_cons_succ]
        refine wpAnyH_take (i := 6) (v := .int .i64 (k : Int)) rfl (by kernel_rfl) (by kernel_rfl) (by kernel_rfl) (fun _ _ _ h => h) (Or.inl ⟨by rfl, ?y6⟩) (by assumption) ?r6
        case y6 => (intro w hSw; (try dsimp only at hSw); (try simp only [List.getElem_toArray, List.getElem_cons_zero, List.getElem_cons_succ]); go_simp; try with_reducible rfl)
        case r6 =>
        try simp only [Act.put, List.setIfInBounds_toArray, List.set_cons_zero, List.set_cons_succ, List.getElem_toArray, List.getElem_cons_zero, List.getElem_cons_succ]
        refine wpAnyH_take (i := 7) (v := .int .i64 (2 * (k : Int))) rfl (by kernel_rfl) (by kernel_rfl) (by kernel_rfl) (fun _ _ _ h => h) (Or.inl ⟨by rfl, ?y7⟩) (by assumption) ?r7
        case y7 => (intro w hSw; (try dsimp only at hSw); (try simp only [List.getElem_toArray, List.getElem_cons_zero, List.getElem_cons_succ]); go_simp; try with_reducible rfl)
        case r7 =>
        try simp only [Act.put, List.setIfInBounds_toArray, List.set_cons_zero, List.set_cons_succ, List.getElem_toArray, List.getElem_cons_zero, List.getElem_cons_succ]
        refine wpAnyH_take (i := 8) (v := .int .i64 (2 * (k : Int) + 1)) rfl (by kernel_rfl) (by kernel_rfl) (by kernel_rfl) (fun _ _ _ h => h) (Or.inl ⟨by rfl, ?y8⟩) (by assumption) ?r8
        case y8 => (intro w hSw; (try dsimp only at hSw); (try simp only [List.getElem_toArray, List.getElem_cons_zero, List.getElem_cons_succ]); go_simp; try with_reducible rfl)
        case r8 =>
        try simp only [Act.put, List.setIfInBounds_toArray, List.set_cons_zero, List.set_cons_succ, List.getElem_toArray, List.getElem_cons_zero, List.getElem_cons_succ]
        refine wpAnyH_take (i := 9) (v := .int .u8 y) rfl (by kernel_rfl) (by kernel_rfl) (by kernel_rfl) (fun _ _ _ h => h) (Or.inl ⟨by rfl, ?y9⟩) (by assumption) ?r9
        case y9 => (intro w hSw; exact exec_index _ _ 9 (.tmp 20) (.tmp 23) rfl (.string st) (.int .i64 (2 * (k : Int) + 1)) _ _ rfl rfl (HI1.out _))
        case r9 =>
        try simp only [Act.put, List.setIfInBounds_toArray, List.set_cons_zero, List.set_cons_succ, List.getElem_toArray, List.getElem_cons_zero, List.getElem_cons_succ]
        have hT1 := hT.drew
        have hB1 := hB.turn (Turn.refl (fun _ => False) wr).drew id
        have hB01 := hB0.turn (Turn.refl (fun _ => False) wr).drew id
        generalize wr.drew = w1 at hT1 hB1 hB01 ⊢
        clear hT hB hB0
        refine wpAnyH_ready (rs := [4]) (by kernel_rfl) (by simp) ?_
        refine AllReadyH.cons rfl (fun K hK => ?_) AllReadyH.nil
        go_simp
        refine (index_any x _).mono ?_
        rintro r w2 ⟨rfl, rfl⟩
        refine hK.out _ _ trivial (fun _ => ?_)
        clear hK K
        try simp only [Act.put, List.setIfInBounds_toArray, List.set_cons_zero, List.set_cons_succ, List.getElem_toArray, List.getElem_cons_zero, List.getElem_cons_succ]
        refine wpAnyH_ready (rs := [10]) (by kernel_rfl) (by simp) ?_
        refine AllReadyH.cons rfl (fun K hK => ?_) AllReadyH.nil
        go_simp
        refine (index_any y _).mono ?_
        rintro r w2 ⟨rfl, rfl⟩
        refine hK.out _ _ trivial (fun _ => ?_)
        clear hK K
        try simp only [Act.put, List.setIfInBounds_toArray, List.set_cons_zero, List.set_cons_succ, List.getElem_toArray, List.getElem_cons_zero, List.getElem_cons_succ]
        refine wpAnyH_take (i := 11) (v := .int .i64 (unhex x)) rfl (by kernel_rfl) (by kernel_rfl) (by kernel_rfl) (fun _ _ _ h => h) (Or.inl ⟨by rfl, ?yp11⟩) (by assumption) ?rp11
        case yp11 => (intro w hSw; (try dsimp only at hSw); (try simp only [List.getElem_toArray, List.getElem_cons_zero, List.getElem_cons_succ]); go_simp; try with_reducible rfl)
        case rp11 =>
        try simp only [Act.put, List.setIfInBounds_toArray, List.set_cons_zero, List.set_cons_succ, List.getElem_toArray, List.getElem_cons_zero, List.getElem_cons_succ]
        refine wpAnyH_take (i := 12) (v := .int .i64 (unhex y)) rfl (by kernel_rfl) (by kernel_rfl) (by kernel_rfl) (fun _ _ _ h => h) (Or.inl ⟨by rfl, ?yp12⟩) (by assumption) ?rp12
        case yp12 => (intro w hSw; (try dsimp only at hSw); (try simp only [List.getElem_toArray, List.getElem_cons_zero, List.getElem_cons_succ]); go_simp; try with_reducible rfl)
        case rp12 =>
        try simp only [Act.put, List.setIfInBounds_toArray, List.set_cons_zero, List.set_cons_succ, List.getElem_toArray, List.getElem_cons_zero, List.getElem_cons_succ]
        refine wpAnyH_done (by kernel_rfl) ?_ _
        have hsz0 := hT1.size
        obtain ⟨a, ha⟩ : ∃ a, unhex x = a := ⟨_, rfl⟩
        obtain ⟨b, hb⟩ : ∃ b, unhex y = b := ⟨_, rfl⟩
        have ha16 : a < 16 := by rw [← ha]; exact unhex_lt x
        have hb16 : b < 16 := by rw [← hb]; exact unhex_lt y
        rw [ha, hb]
        have HA := Lib.hid ha
        have HBB := Lib.hid hb
        clear ha hb
        by_cases hbad : a < 0 ∨ b < 0
        · have hno : readOk xs = false := by
            have hng : ¬ goodAt xs k := by unfold goodAt; rw [HXX.out, HYY.out, HA.out, HBB.out]; omega
            exact readOk_not (fun h => hng (h.2 k hlt))
          have HNO := Lib.hid hno
          clear hno
          have hth : w2.there w.heap.size 0 ((List.replicate 32 (0 : Int)).map (Value.int .u8)).toArray.size := hB01.there
          by_cases ha0 : a < 0
          · have hda : decide (a < 0) = true := by simpa using ha0
            go_wp2_with (first | (with_reducible refine wpList_store_mid rfl 25 _ _ rfl w.heap.size 0 ((List.replicate 32 (0 : Int)).map (Value.int .u8)).toArray rfl rfl hth zi25 z1c ?_))
            have hrg := World.rangeAt_setCells_same w2 w.heap.size 0 ((List.replicate 32 (0 : Int)).map (Value.int .u8)) (by simpa using hth)
            refine bodyPost_ret (v := .tuple #[.agg ((List.replicate 32 (0 : Int)).map (Value.int .u8)).toArray, .bool false]) (results_cell_tmp_mid Tryd.results13 _ _ w.heap.size _ _ _ rfl rfl hrg Tryd.underlying25 rfl (by simpa using zi25)) rfl ⟨by unfold readK; rw [HNO.out]; rfl, ?_⟩
            exact hT1.trans (T := fun q => q = w.heap.size) (turn_setCells _ _ _ _) (fun q hq h => by omega)
          · have hda : decide (a < 0) = false := by simpa using ha0
            have hdb : decide (b < 0) = true := by simp; omega
            go_wp2_with (first | (with_reducible refine wpList_store_mid rfl 25 _ _ rfl w.heap.size 0 ((List.replicate 32 (0 : Int)).map (Value.int .u8)).toArray rfl rfl hth zi25 z1c ?_))
            have hrg := World.rangeAt_setCells_same w2 w.heap.size 0 ((List.replicate 32 (0 : Int)).map (Value.int .u8)) (by simpa using hth)
            refine bodyPost_ret (v := .tuple #[.agg ((List.replicate 32 (0 : Int)).map (Value.int .u8)).toArray, .bool false]) (results_cell_tmp_mid Tryd.results13 _ _ w.heap.size _ _ _ rfl rfl hrg Tryd.underlying25 rfl (by simpa using zi25)) rfl ⟨by unfold readK; rw [HNO.out]; rfl, ?_⟩
            exact hT1.trans (T := fun q => q = w.heap.size) (turn_setCells _ _ _ _) (fun q hq h => by omega)
        · have hda : decide (a < 0) = false := by simp; omega
          have hdb : decide (b < 0) = false := by simp; omega
          obtain ⟨ws, hws⟩ : ∃ ws, keyOf xs k ++ List.replicate (32 - k) 0 = ws := ⟨_, rfl⟩
          have hwl : ws.length = 32 := by rw [← hws]; simp [keyOf_len]; omega
          rw [hws] at hB1
          have c0 := hB1.cell k (by omega)
          have f0 := hB1.open_ k
          have hor := or16 a b (by omega) ha16 (by omega) hb16
          have hws4 : IntKind.i64.wrap (a * 16) = a * 16 := IntWalk.i64_in _ (by omega)
          have hmod : (a * 16 + b) % 256 = a * 16 + b := by omega
          have hB2 := hB1.set k (a * 16 + b)
          have HB2 := Lib.hid hB2
          have HWS := Lib.hid hws
          have HWL := Lib.hid hwl
          clear hB2 hws hwl hB1
          go_wp2_with fail
          refine ⟨⟨k + 1, by omega, by simp, ?_, ?_, ?_, ?_⟩, by simp [intOf]; omega⟩
          · intro i hi
            rcases Nat.lt_succ_iff_lt_or_eq.1 hi with h | rfl
            · exact HG.out i h
            · unfold goodAt; rw [HXX.out, HYY.out, HA.out, HBB.out]; omega
          · have e1 : keyOf xs (k + 1) ++ List.replicate (32 - (k + 1)) 0 = ws.set k (a * 16 + b) := by
              rw [← HWS.out, show 32 - k = (32 - (k + 1)) + 1 by omega, List.replicate_succ, set_at _ _ _ _ k (keyOf_len xs k), keyOf_succ]
              unfold byteOf; rw [HXX.out, HYY.out, HA.out, HBB.out]; simp
            rw [e1]; exact HB2.out
          · exact hB01.turn (Turn.setCell (S := fun q => q = w.heap.size + 1) (Turn.refl _ w2) (p := ⟨w.heap.size + 1, k, none⟩) (fun _ => rfl) _) (by omega)
          · exact Turn.setCell hT1 (p := ⟨w.heap.size + 1, k, none⟩) (fun h => by simp only at h; omega) _
      · obtain rfl : k = 32 := by omega
        have hyes : readOk xs = true := (readOk_iff xs).2 ⟨HN.out, HG.out⟩
        have hd : decide ((32 : Int) < 32) = false := by decide
        have hB' : BytesAt wr (w.heap.size + 1) 25 (keyOf xs 32) := by simpa using hB
        have hkl : (keyOf xs 32).length = 32 := keyOf_len xs 32
        obtain ⟨ks, hks⟩ : ∃ ks, keyOf xs 32 = ks := ⟨_, rfl⟩
        rw [hks] at hB' hkl
        have hi25 : (Tryd.prog.info? 25).map (·.size) = some (ks.map (Value.int .u8)).toArray.size := by rw [size25]; simp [hkl]
        have hth : wr.there w.heap.size 0 (ks.map (Value.int .u8)).toArray.size := by
          have := hB0.there
          simpa [hkl] using this
        have h1c : (ks.map (Value.int .u8)).toArray.all (·.oneCell') = true := all_oneCell_toArray (ints_oneCell _ _)
        have HKS := Lib.hid hks
        have HKL := Lib.hid hkl
        have HY := Lib.hid hyes
        have hW2 : wr.heap[w.heap.size + 1]? = some (.cells (ks.map (Value.int .u8)).toArray 25 (0, 0)) := hB'
        clear hB hB' hB0 hks hkl hyes
        go_wp2_with (first | (refine wpList_load_row rfl 25 _ rfl (w.heap.size + 1) rfl 25 _ (0, 0) _ hW2 Tryd.underlying25 rfl hi25 ?_) | (with_reducible refine wpList_store_mid rfl 25 _ _ rfl w.heap.size 0 _ rfl rfl hth hi25 h1c ?_))
        have hrg := World.rangeAt_setCells_same wr w.heap.size 0 (ks.map (Value.int .u8)) (by simpa using hth)
        refine bodyPost_ret (v := .tuple #[.agg (ks.map (Value.int .u8)).toArray, .bool true]) (results_cell_tmp_mid Tryd.results13 _ _ w.heap.size _ _ _ rfl rfl hrg Tryd.underlying25 rfl (by simpa using hi25)) rfl ⟨by unfold readK; rw [HY.out, ← HKS.out]; rfl, ?_⟩
        exact hT.trans (T := fun q => q = w.heap.size) (turn_setCells _ _ _ _) (fun q hq h => by omega)
  · have hne : ((n : Int) != 64) = true := by rw [bne_iff_ne]; omega
    have hne2 : ¬ ((n : Int) = 64) := by omega
    have hno : readOk xs = false := readOk_not (fun h => h64 (HN.out.symm.trans h.1))
    have HNO := Lib.hid hno
    clear hno
    go_wp2_with (generalize hW : World.alloc (World.alloc w _) _ = W; refine wpList_store_mid (op := ⟨none, .store 25 (.tmp 2) (.tmp 11), _, _, _, _⟩) rfl 25 (.tmp 2) (.tmp 11) rfl w.heap.size 0 ((List.replicate 32 (0 : Int)).map (Value.int .u8)).toArray rfl rfl (read_start w W hW).1.there zi25 z1c ?_)
    obtain ⟨q1, q2, hT1⟩ := read_start w W hW
    have hth : W.there w.heap.size 0 ((List.replicate 32 (0 : Int)).map (Value.int .u8)).toArray.size := q1.there
    have hrg := World.rangeAt_setCells_same W w.heap.size 0 ((List.replicate 32 (0 : Int)).map (Value.int .u8)) (by simpa using hth)
    refine bodyPost_ret (v := .tuple #[.agg ((List.replicate 32 (0 : Int)).map (Value.int .u8)).toArray, .bool false]) (results_cell_tmp_mid Tryd.results13 _ _ w.heap.size _ _ _ rfl rfl hrg Tryd.underlying25 rfl (by simpa using zi25)) rfl ⟨by unfold readK; rw [HNO.out]; rfl, ?_⟩
    exact hT1.trans (T := fun q => q = w.heap.size) (turn_setCells _ _ _ _) (fun q hq h => by omega)
end Go.Proofs.YtimajdbgeibalaaDoor
