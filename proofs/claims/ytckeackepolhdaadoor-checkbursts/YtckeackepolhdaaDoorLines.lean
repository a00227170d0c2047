/- Own: the walk of CheckLines. -/
import Derived.Test.YtckeackepolhdaaDoorCells
import Derived.RegionTactic
namespace Go.Proofs.YtckeackepolhdaaDoor
open Go.RowKit
set_option linter.unusedVariables false
set_option linter.unusedSimpArgs false

/-- Three bytes together. -/
def xor3 (a b c : Int) : Int := ((a.toNat ^^^ b.toNat ^^^ c.toNat : Nat) : Int)
def xorL : List Int → List Int → List Int → List Int
  | a :: al, b :: bl, c :: cl => xor3 a b c :: xorL al bl cl
  | _, _, _ => []
theorem reg_xorL (xs ys zs : List Int) (h1 : ys.length = xs.length) (h2 : zs.length = xs.length) (r s t : Nat) :
    reg (r ^^^ s ^^^ t) (xorL xs ys zs) = reg r xs ^^^ reg s ys ^^^ reg t zs := by
  induction xs generalizing ys zs r s t with
  | nil =>
    have hy : ys = [] := List.eq_nil_of_length_eq_zero h1
    have hz : zs = [] := List.eq_nil_of_length_eq_zero h2
    subst hy hz
    simp only [xorL, reg_nil]
  | cons x xs ih =>
    match ys, zs, h1, h2 with
    | y :: ys, z :: zs, h1, h2 =>
      simp only [List.length_cons, Nat.add_right_cancel_iff] at h1 h2
      simp only [xorL, reg_cons]
      rw [← ih ys zs h1 h2]
      congr 1
      unfold byteS xor3
      rw [← fN_xor, ← fN_xor, Int.toNat_natCast]
      congr 1
      apply Nat.eq_of_testBit_eq; intro i
      simp only [Nat.testBit_xor]
      cases r.testBit i <;> cases s.testBit i <;> cases t.testBit i <;> cases x.toNat.testBit i <;> cases y.toNat.testBit i <;> cases z.toNat.testBit i <;> rfl
theorem comp_nat (r : Nat) (h : r < 4294967296) : (4294967295 : Int) - (r : Int) = ((4294967295 ^^^ r : Nat) : Int) := by
  rw [← comp32 (r : Int) (by omega) (by omega), ← u32_xor_nat 4294967295 r (by omega) h]; rfl
theorem sum_nat (xs : List Int) (hx : BytesOk xs) : sumB xs = ((4294967295 ^^^ reg 4294967295 xs : Nat) : Int) := comp_nat _ (reg_lt (by omega) hx)
theorem xorL_len (xs ys zs : List Int) (h1 : ys.length = xs.length) (h2 : zs.length = xs.length) : (xorL xs ys zs).length = xs.length := by
  induction xs generalizing ys zs with
  | nil => simp [xorL]
  | cons x xs ih =>
    match ys, zs, h1, h2 with
    | y :: ys, z :: zs, h1, h2 =>
      simp only [List.length_cons, Nat.add_right_cancel_iff] at h1 h2
      simp [xorL, ih ys zs h1 h2]
theorem xor3_byte {a b c : Int} (ha : 0 ≤ a ∧ a < 256) (hb : 0 ≤ b ∧ b < 256) (hc : 0 ≤ c ∧ c < 256) : 0 ≤ xor3 a b c ∧ xor3 a b c < 256 := by
  have : a.toNat ^^^ b.toNat ^^^ c.toNat < 2 ^ 8 := Nat.xor_lt_two_pow (Nat.xor_lt_two_pow (by omega) (by omega)) (by omega)
  unfold xor3; omega
theorem xorL_ok (xs ys zs : List Int) (hx : BytesOk xs) (hy : BytesOk ys) (hz : BytesOk zs) : BytesOk (xorL xs ys zs) := by
  induction xs generalizing ys zs with
  | nil => intro v hv; simp [xorL] at hv
  | cons x xs ih =>
    match ys, zs, hy, hz with
    | [], _, _, _ => intro v hv; simp [xorL] at hv
    | _ :: _, [], _, _ => intro v hv; simp [xorL] at hv
    | y :: ys, z :: zs, hy, hz =>
      intro v hv
      rw [xorL, List.mem_cons] at hv
      rcases hv with rfl | hv
      · exact xor3_byte (hx x List.mem_cons_self) (hy y List.mem_cons_self) (hz z List.mem_cons_self)
      · exact ih ys zs (fun q hq => hx q (List.mem_cons_of_mem _ hq)) (fun q hq => hy q (List.mem_cons_of_mem _ hq)) (fun q hq => hz q (List.mem_cons_of_mem _ hq)) v hv
theorem sum_lines (xs ys zs : List Int) (hx : BytesOk xs) (hy : BytesOk ys) (hz : BytesOk zs) (h1 : ys.length = xs.length) (h2 : zs.length = xs.length) :
    sumB (xorL xs ys zs) = bits .xor .u32 (bits .xor .u32 (sumB xs) (sumB ys)) (sumB zs) := by
  have lx := reg_lt (s := 4294967295) (by omega) hx
  have ly := reg_lt (s := 4294967295) (by omega) hy
  have lz := reg_lt (s := 4294967295) (by omega) hz
  have e := reg_xorL xs ys zs h1 h2 4294967295 4294967295 4294967295
  rw [show (4294967295 ^^^ 4294967295 ^^^ 4294967295 : Nat) = 4294967295 by decide] at e
  rw [sum_nat _ (xorL_ok xs ys zs hx hy hz), sum_nat xs hx, sum_nat ys hy, sum_nat zs hz, e]
  have b : ∀ r, r < 4294967296 → 4294967295 ^^^ r < 4294967296 := fun r h => Nat.xor_lt_two_pow (n := 32) (by omega) h
  rw [u32_xor_nat _ _ (b _ lx) (b _ ly), u32_xor_nat _ _ (Nat.xor_lt_two_pow (n := 32) (b _ lx) (b _ ly)) (b _ lz)]
  congr 1
  generalize reg 4294967295 xs = p
  generalize reg 4294967295 ys = q
  generalize reg 4294967295 zs = r
  apply Nat.eq_of_testBit_eq; intro i
  simp only [Nat.testBit_xor]
  cases Nat.testBit 4294967295 i <;> cases p.testBit i <;> cases q.testBit i <;> cases r.testBit i <;> rfl
theorem xorL_take (xs ys zs : List Int) (h1 : ys.length = xs.length) (h2 : zs.length = xs.length) (k : Nat) (hk : k < xs.length) :
    xorL (xs.take (k + 1)) (ys.take (k + 1)) (zs.take (k + 1)) = xorL (xs.take k) (ys.take k) (zs.take k) ++ [xor3 (xs.getD k 0) (ys.getD k 0) (zs.getD k 0)] := by
  induction xs generalizing ys zs k with
  | nil => simp at hk
  | cons x xs ih =>
    match ys, zs, h1, h2 with
    | y :: ys, z :: zs, h1, h2 =>
      simp only [List.length_cons, Nat.add_right_cancel_iff] at h1 h2
      cases k with
      | zero => simp [xorL]
      | succ k =>
        have := ih ys zs h1 h2 k (by simpa using hk)
        simp only [List.take_succ_cons, xorL, List.cons_append]
        rw [this]
        simp [List.getD]

set_option maxHeartbeats 1600000 in
set_option maxRecDepth 100000 in
theorem lines_walk (v0 v1 v2 : Value) (xs ys zs : List Int) (w : World) (hv0 : Src w v0 xs) (hv1 : Src w v1 ys) (hv2 : Src w v2 zs) (hx : BytesOk xs) (hy : BytesOk ys) (hz : BytesOk zs) (ht : Tab w)
    (h200 : xs.length ≤ 200) (h1 : ys.length = xs.length) (h2 : zs.length = xs.length) :
    Calls Tryd.prog 8 #[v0, v1, v2] w (AwakePost w) := by
  have HV0 := Lib.hid hv0
  have HV1 := Lib.hid hv1
  have HV2 := Lib.hid hv2
  have HX := Lib.hid hx
  have HY := Lib.hid hy
  have HZ := Lib.hid hz
  have HT := Lib.hid ht
  have H1 := Lib.hid h1
  have H2 := Lib.hid h2
  obtain ⟨a0, c0, rfl, q0⟩ := src_any hv0
  obtain ⟨a1, c1, rfl, q1⟩ := src_any hv1
  obtain ⟨a2, c2, rfl, q2⟩ := src_any hv2
  have Q0 := Lib.hid q0
  have Q1 := Lib.hid q1
  have Q2 := Lib.hid q2
  rw [h1, h2]
  clear hv0 hv1 hv2 hx hy hz ht q0 q1 q2
  obtain ⟨n, hn⟩ : ∃ n, xs.length = n := ⟨_, rfl⟩
  rw [hn] at h1 h2 h200
  simp only [hn]
  have HN := Lib.hid hn
  clear hn h1 h2
  have hd : decide ((200 : Int) < (n : Int)) = false := by simp; omega
  have hne : ((n : Int) != (n : Int)) = false := by simp
  have hmk := fun w => run_make_bytes n n (Nat.le_refl _) (by omega) w
  go_enter Tryd.func8, Tryd.ntmps8
  go_wp2_with fail
  refine (awake_any w HT.out).mono ?_
  rintro e w1 ⟨rfl, t1⟩
  go_wp2_with fail
  have hB := made_at w1 n
  have T2 := t1.alloc (.cells (Array.replicate n (.int .u8 0)) 5)
  have hsz := t1.size
  generalize hW : w1.alloc (.cells (Array.replicate n (.int .u8 0)) 5) = w2 at hB T2 ⊢
  generalize hBB : w1.heap.size = B at hB hsz ⊢
  clear hmk hW t1 hBB w1
  go_loopw [8] (fun iv wr => ∃ k : Nat, k ≤ n ∧ iv = .int .i64 (k : Int) ∧ BytesAt wr B 5 (xorL (xs.take k) (ys.take k) (zs.take k) ++ List.replicate (n - k) 0) ∧ Turn (fun _ => False) w wr) (fun iv _ => (n - intOf iv).toNat)
  case atStart => exact ⟨0, by omega, rfl, by simpa [xorL] using hB, T2⟩
  case round =>
    clear hB T2
    obtain ⟨k, hk, rfl, hB, hT⟩ := hrel
    have HB := Lib.hid hB
    by_cases hlt : k < n
    · obtain ⟨p0, g0, o0, rfl, e0⟩ := Q0.out (by rw [HN.out]; omega)
      obtain ⟨p1, g1, o1, rfl, e1⟩ := Q1.out (by rw [H1.out, HN.out]; omega)
      obtain ⟨p2, g2, o2, rfl, e2⟩ := Q2.out (by rw [H2.out, HN.out]; omega)
      have f0 := e0 k (by rw [HN.out]; omega)
      have f1 := e1 k (by rw [H1.out, HN.out]; omega)
      have f2 := e2 k (by rw [H2.out, HN.out]; omega)
      rw [HN.out] at p0
      rw [H1.out, HN.out] at p1
      rw [H2.out, HN.out] at p2
      have c0 := (hT.cell (p := ⟨g0, o0 + k, none⟩) (World.block_lt_of_cell? w _ f0) id).trans f0
      have c1 := (hT.cell (p := ⟨g1, o1 + k, none⟩) (World.block_lt_of_cell? w _ f1) id).trans f1
      have c2 := (hT.cell (p := ⟨g2, o2 + k, none⟩) (World.block_lt_of_cell? w _ f2) id).trans f2
      obtain ⟨ws, hws⟩ : ∃ ws, xorL (xs.take k) (ys.take k) (zs.take k) ++ List.replicate (n - k) 0 = ws := ⟨_, rfl⟩
      rw [hws] at hB
      have hwl : ws.length = n := by
        rw [← hws, List.length_append, xorL_len _ _ _ (by have := H1.out; simp; omega) (by have := H2.out; simp; omega)]
        have := HN.out; simp; omega
      have cB := hB.cell k (by omega)
      have fB := hB.open_ k
      have HWS := Lib.hid hws
      have mx : xs.getD k 0 ∈ xs := by have := HN.out; simp [List.getD, show k < xs.length by omega]
      have my : ys.getD k 0 ∈ ys := by have := HN.out; have := H1.out; simp [List.getD, show k < ys.length by omega]
      have mz : zs.getD k 0 ∈ zs := by have := HN.out; have := H2.out; simp [List.getD, show k < zs.length by omega]
      have bx := HX.out _ mx
      have by_ := HY.out _ my
      have bz := HZ.out _ mz
      have HSet := Lib.hid (hB.set k (xor3 (xs.getD k 0) (ys.getD k 0) (zs.getD k 0)))
      have HStep := Lib.hid (xorL_take xs ys zs H1.out H2.out k (by rw [HN.out]; exact hlt))
      have x1 := u8_xor _ _ bx.1 bx.2 by_.1 by_.2
      generalize xs.getD k 0 = x at c0 bx HSet HStep x1
      generalize ys.getD k 0 = y at c1 by_ HSet HStep x1
      generalize zs.getD k 0 = z at c2 bz HSet HStep
      have x2 : bits .xor .u8 ((x.toNat ^^^ y.toNat : Nat) : Int) z = xor3 x y z := by
        have hh : x.toNat ^^^ y.toNat < 2 ^ 8 := Nat.xor_lt_two_pow (by omega) (by omega)
        rw [u8_xor _ _ (by omega) (by omega) bz.1 bz.2, Int.toNat_natCast]; rfl
      generalize ((x.toNat ^^^ y.toNat : Nat) : Int) = xy at x1 x2
      generalize xor3 x y z = xyz at HSet HStep x2
      generalize ws.getD k 0 = old at cB
      clear e0 e1 e2 f0 f1 f2 hws mx my mz bx by_ bz hB
      go_wp2_with fail
      go_region
      go_wp2_with fail
      go_roundw
      case rel =>
        refine ⟨k + 1, by omega, by go_num, ?_, ?_⟩
        · have e2 : List.replicate (n - k) (0 : Int) = 0 :: List.replicate (n - (k + 1)) 0 := by
            rw [show n - k = (n - (k + 1)) + 1 by omega, List.replicate_succ]
          have e3 : xorL (xs.take (k + 1)) (ys.take (k + 1)) (zs.take (k + 1)) ++ List.replicate (n - (k + 1)) 0 = ws.set k xyz := by
            rw [← HWS.out, e2, HStep.out, set_at _ _ _ _ k (by
              rw [xorL_len _ _ _ (by have := H1.out; simp; omega) (by have := H2.out; simp; omega)]
              have := HN.out; simp; omega)]
            simp
          rw [e3]; exact HSet.out
        · exact (hT.setCell (p := ⟨B, k, none⟩) (fun h => by have h2 : B < w.heap.size := h; omega) _).drew
      case measure => simp [intOf]; omega
    · obtain rfl : k = n := by omega
      have hdk : decide ((k : Int) < (k : Int)) = false := by simp
      have hRB : Src wr (.slice (some ⟨B, 0, none⟩) k k) (xorL xs ys zs) := by
        have h0 : BytesAt wr B 5 (xorL xs ys zs) := by
          have h := HB.out
          rw [Nat.sub_self, List.replicate_zero, List.append_nil, List.take_of_length_le (by have := HN.out; omega), List.take_of_length_le (by have := HN.out; have := H1.out; omega), List.take_of_length_le (by have := HN.out; have := H2.out; omega)] at h
          exact h
        exact .inl (h0.reads k k (by rw [xorL_len _ _ _ H1.out H2.out, HN.out]) (Nat.le_refl _))
      have HRB := Lib.hid hRB
      have HTT := Lib.hid hT
      clear hB hT hRB HB
      have R0 := HV0.out.turn HTT.out (fun _ _ => id)
      have R1 := HV1.out.turn HTT.out (fun _ _ => id)
      have R2 := HV2.out.turn HTT.out (fun _ _ => id)
      rw [HN.out] at R0
      rw [H1.out, HN.out] at R1
      rw [H2.out, HN.out] at R2
      have hl0 : xs.length ≤ 70000000000000 := by rw [HN.out]; omega
      go_wp2_with fail
      refine (of_any _ (xorL xs ys zs) _ HRB.out (xorL_ok _ _ _ HX.out HY.out HZ.out) (HT.out.turn HTT.out) (by rw [xorL_len _ _ _ H1.out H2.out]; exact hl0)).mono ?_
      rintro e w3 ⟨rfl, rfl⟩
      go_wp2_with fail
      refine (of_any _ xs _ R0 HX.out (HT.out.turn HTT.out) hl0).mono ?_
      rintro e w3 ⟨rfl, rfl⟩
      go_wp2_with fail
      refine (of_any _ ys _ R1 HY.out (HT.out.turn HTT.out) (by rw [H1.out]; exact hl0)).mono ?_
      rintro e w3 ⟨rfl, rfl⟩
      go_wp2_with fail
      refine (of_any _ zs _ R2 HZ.out (HT.out.turn HTT.out) (by rw [H2.out]; exact hl0)).mono ?_
      rintro e w3 ⟨rfl, rfl⟩
      have E := Lib.hid (sum_lines xs ys zs HX.out HY.out HZ.out H1.out H2.out)
      go_wp2_with fail
      go_ret
      refine ⟨?_, HTT.out⟩
      show Ending.returned (.bool (sumB (xorL xs ys zs) == bits .xor .u32 (bits .xor .u32 (sumB xs) (sumB ys)) (sumB zs))) = _
      rw [E.out]; simp

set_option maxHeartbeats 1600000 in
set_option maxRecDepth 100000 in
theorem lines_not (v0 v1 v2 : Value) (xs ys zs : List Int) (w : World) (hv0 : Src w v0 xs) (hv1 : Src w v1 ys) (hv2 : Src w v2 zs) (ht : Tab w)
    (h : 200 < xs.length ∨ (¬ 200 < xs.length ∧ ys.length ≠ xs.length) ∨ (¬ 200 < xs.length ∧ ys.length = xs.length ∧ zs.length ≠ xs.length)) :
    Calls Tryd.prog 8 #[v0, v1, v2] w (AwakePost w) := by
  have HT := Lib.hid ht
  obtain ⟨a0, c0, rfl, _⟩ := src_any hv0
  obtain ⟨a1, c1, rfl, _⟩ := src_any hv1
  obtain ⟨a2, c2, rfl, _⟩ := src_any hv2
  clear hv0 hv1 hv2 ht
  generalize xs.length = n at h ⊢
  generalize ys.length = m at h ⊢
  generalize zs.length = q at h ⊢
  rcases h with h | ⟨h1, h⟩ | ⟨h1, h2, h⟩
  · have hd : decide ((200 : Int) < (n : Int)) = true := by simp; omega
    go_enter Tryd.func8, Tryd.ntmps8
    go_wp2_with fail
    refine (awake_any w HT.out).mono ?_
    rintro e w1 ⟨rfl, t1⟩
    go_wp2_with fail
    refine (awake_any w1 (HT.out.turn t1)).mono ?_
    rintro e w2 ⟨rfl, t2⟩
    go_wp2_with fail
    go_ret
    exact ⟨rfl, t1.trans t2 (fun _ _ => id)⟩
  · have hd : decide ((200 : Int) < (n : Int)) = false := by simp; omega
    have hne : ((m : Int) != (n : Int)) = true := by simp; omega
    go_enter Tryd.func8, Tryd.ntmps8
    go_wp2_with fail
    refine (awake_any w HT.out).mono ?_
    rintro e w1 ⟨rfl, t1⟩
    go_wp2_with fail
    refine (awake_any w1 (HT.out.turn t1)).mono ?_
    rintro e w2 ⟨rfl, t2⟩
    go_wp2_with fail
    go_ret
    exact ⟨rfl, t1.trans t2 (fun _ _ => id)⟩
  · subst h2
    have hd : decide ((200 : Int) < (m : Int)) = false := by simp; omega
    have hne : ((m : Int) != (m : Int)) = false := by simp
    have hne2 : ((q : Int) != (m : Int)) = true := by simp; omega
    go_enter Tryd.func8, Tryd.ntmps8
    go_wp2_with fail
    refine (awake_any w HT.out).mono ?_
    rintro e w1 ⟨rfl, t1⟩
    go_wp2_with fail
    refine (awake_any w1 (HT.out.turn t1)).mono ?_
    rintro e w2 ⟨rfl, t2⟩
    go_wp2_with fail
    go_ret
    exact ⟨rfl, t1.trans t2 (fun _ _ => id)⟩

theorem checkLines_walk (v0 v1 v2 : Value) (xs ys zs : List Int) (w : World) (hv0 : Src w v0 xs) (hv1 : Src w v1 ys) (hv2 : Src w v2 zs) (hx : BytesOk xs) (hy : BytesOk ys) (hz : BytesOk zs) (ht : Tab w) :
    Calls Tryd.prog 8 #[v0, v1, v2] w (AwakePost w) := by
  by_cases h200 : xs.length ≤ 200 ∧ ys.length = xs.length ∧ zs.length = xs.length
  · exact lines_walk v0 v1 v2 xs ys zs w hv0 hv1 hv2 hx hy hz ht h200.1 h200.2.1 h200.2.2
  · exact lines_not v0 v1 v2 xs ys zs w hv0 hv1 hv2 ht (by omega)
end Go.Proofs.YtckeackepolhdaaDoor
