/- Own: bits that are turned within 32 are seen by the sum; the walk of CheckBursts. -/
import Derived.Test.YtckeackepolhdaaDoorSeals
import Derived.Test.YtckeackepolhdaaDoorLines
namespace Go.Proofs.YtckeackepolhdaaDoor
open Go.RowKit
set_option linter.unusedVariables false
set_option linter.unusedSimpArgs false

/-- A register that is another one stays apart. -/
theorem reg_start (u v : Nat) (xs : List Int) : reg (u ^^^ v) xs = reg u xs ^^^ fN (8 * xs.length) v := by
  induction xs generalizing u v with
  | nil => simp [reg_nil, fN]
  | cons x xs ih =>
    have e : byteS (u ^^^ v) x = byteS u x ^^^ fN 8 v := by
      unfold byteS
      rw [← fN_xor]
      congr 1
      rw [Nat.xor_assoc, Nat.xor_comm v, ← Nat.xor_assoc]
    rw [reg_cons, reg_cons, e, ih, ← fN_add, List.length_cons]
    congr 2
/-- One bit of one byte turned. -/
theorem reg_turn (s : Nat) (ts : List Int) (q e : Nat) (hq : q < ts.length) (he : e < 8) (hb : BytesOk ts) :
    reg s (ts.set q (((ts.getD q 0).toNat ^^^ 2 ^ e : Nat) : Int)) = reg s ts ^^^ fN (8 * (ts.length - q) - e) 1 := by
  have h1 : ts = ts.take q ++ ts.getD q 0 :: ts.drop (q + 1) := by
    conv => lhs; rw [← List.take_append_drop q ts, List.drop_eq_getElem_cons hq]
    simp [List.getD, hq]
  generalize hx : ts.getD q 0 = x at h1 ⊢
  generalize ha : ts.take q = a at h1
  generalize hbb : ts.drop (q + 1) = b at h1
  have hal : a.length = q := by rw [← ha]; simp; omega
  have hbl : b.length = ts.length - q - 1 := by rw [← hbb]; simp; omega
  have h2 : ts.set q ((x.toNat ^^^ 2 ^ e : Nat) : Int) = a ++ ((x.toNat ^^^ 2 ^ e : Nat) : Int) :: b := by
    rw [h1]; exact set_at _ _ _ _ q hal
  rw [h2, reg_app, reg_cons]
  conv => rhs; rw [h1]
  rw [reg_app, reg_cons]
  have h3 : byteS (reg s a) ((x.toNat ^^^ 2 ^ e : Nat) : Int) = byteS (reg s a) x ^^^ fN (8 - e) 1 := by
    unfold byteS
    rw [Int.toNat_natCast, ← Nat.xor_assoc, fN_xor]
    congr 1
    have h4 := fN_shift e 1
    rw [Nat.mul_one] at h4
    conv => lhs; rw [show 8 = (8 - e) + e by omega, fN_add, h4]
  rw [h3, reg_start, ← fN_add, hbl]
  congr 2
  have : (a ++ x :: b).length = ts.length := by rw [← h1]
  rw [this]
  omega

theorem reg_four (r : Nat) (x : Nat) (hx : x < 4294967296) : reg r (fourB (x : Int)) = fN 32 (r ^^^ x) := by
  have e0 : ((x : Int) % 256).toNat = x % 256 := by omega
  have e1 : ((x : Int) / 256 % 256).toNat = x / 256 % 256 := by omega
  have e2 : ((x : Int) / 65536 % 256).toNat = x / 65536 % 256 := by omega
  have e3 : ((x : Int) / 16777216 % 256).toNat = x / 16777216 % 256 := by omega
  unfold fourB
  simp only [reg_cons, reg_nil, byteS, e0, e1, e2, e3]
  -- x is its four bytes
  have s1 : x = 2 ^ 8 * (x / 256) ^^^ x % 256 := split_bits x 8
  have s2 : x / 256 = 2 ^ 8 * (x / 65536) ^^^ x / 256 % 256 := by
    have := split_bits (x / 256) 8
    rwa [Nat.div_div_eq_div_mul] at this
  have s3 : x / 65536 = 2 ^ 8 * (x / 16777216) ^^^ x / 65536 % 256 := by
    have := split_bits (x / 65536) 8
    rwa [Nat.div_div_eq_div_mul] at this
  have s4 : x / 16777216 % 256 = x / 16777216 := by omega
  have f1 : fN 8 (r ^^^ x) = fN 8 (r ^^^ x % 256) ^^^ x / 256 := by
    conv => lhs; rw [s1, Nat.xor_comm (2 ^ 8 * (x / 256)), ← Nat.xor_assoc, fN_xor, fN_shift]
  have f2 : fN 8 (fN 8 (r ^^^ x)) = fN 8 (fN 8 (r ^^^ x % 256) ^^^ x / 256 % 256) ^^^ x / 65536 := by
    rw [f1]
    conv => lhs; rw [s2, Nat.xor_comm (2 ^ 8 * (x / 65536)), ← Nat.xor_assoc, fN_xor, fN_shift]
  have f3 : fN 8 (fN 8 (fN 8 (r ^^^ x))) = fN 8 (fN 8 (fN 8 (r ^^^ x % 256) ^^^ x / 256 % 256) ^^^ x / 65536 % 256) ^^^ x / 16777216 := by
    rw [f2]
    conv => lhs; rw [s3, Nat.xor_comm (2 ^ 8 * (x / 16777216)), ← Nat.xor_assoc, fN_xor, fN_shift]
  rw [s4, ← f3, ← fN_add, ← fN_add, ← fN_add]

/-- A sector is sealed just if the register behind all of it is that behind its own noughts. -/
theorem four_back (l : List Int) (hl : l.length = 4) (hb : BytesOk l) : ∃ x : Nat, x < 4294967296 ∧ l = fourB (x : Int) := by
  match l, hl with
  | [a, b, c, d], _ =>
    have h0 := hb a (by simp)
    have h1 := hb b (by simp)
    have h2 := hb c (by simp)
    have h3 := hb d (by simp)
    refine ⟨(a + 256 * b + 65536 * c + 16777216 * d).toNat, by omega, ?_⟩
    rw [Int.toNat_of_nonneg (by omega)]
    unfold fourB
    congr 1
    · omega
    congr 1
    · omega
    congr 1
    · omega
    congr 1
    omega
theorem four_inj (x y : Nat) (hx : x < 4294967296) (hy : y < 4294967296) (h : fourB (x : Int) = fourB (y : Int)) : x = y := by
  unfold fourB at h
  injection h with h0 h
  injection h with h1 h
  injection h with h2 h
  injection h with h3 h
  omega
theorem seal_reg (ts : List Int) (hl : ts.length = 64) (hb : BytesOk ts) : ts = sealB ts ↔ reg 4294967295 ts = fN 32 4294967295 := by
  have hp : padB ts = ts.take 60 := by unfold padB; rw [show 60 - ts.length = 0 by omega]; simp
  obtain ⟨x, hx, h4⟩ := four_back (ts.drop 60) (by simp [hl]) (fun y hy => hb y (List.mem_of_mem_drop hy))
  have hts : ts = padB ts ++ fourB (x : Int) := by rw [hp, ← h4, List.take_append_drop]
  have hpb : BytesOk (padB ts) := padB_ok ts hb
  have hr := reg_lt (s := 4294967295) (by omega) hpb
  have hs := sum_nat (padB ts) hpb
  generalize hrr : reg 4294967295 (padB ts) = r at hr hs
  have hc : 4294967295 ^^^ r < 4294967296 := Nat.xor_lt_two_pow (n := 32) (by omega) hr
  have e1 : reg 4294967295 ts = fN 32 (r ^^^ x) := by
    conv => lhs; rw [hts]
    rw [reg_app, hrr, reg_four _ _ hx]
  have e2 : (ts = sealB ts) ↔ x = 4294967295 ^^^ r := by
    constructor
    · intro h
      have h5 : padB ts ++ fourB (x : Int) = padB ts ++ fourB (sumB (padB ts)) := by rw [← hts]; exact h
      have h6 := List.append_cancel_left h5
      rw [hs] at h6
      exact four_inj _ _ hx hc h6
    · intro h
      unfold sealB
      rw [hs, ← h]; exact hts
  rw [e1, e2]
  constructor
  · intro h
    congr 1
    rw [h, Nat.xor_comm 4294967295, ← Nat.xor_assoc, Nat.xor_self, Nat.zero_xor]
  · intro h
    have h7 : fN 32 ((r ^^^ x) ^^^ 4294967295) = 0 := by rw [fN_xor, h, Nat.xor_self]
    have h8 := fN_nought 32 (Nat.xor_lt_two_pow (n := 32) (Nat.xor_lt_two_pow (n := 32) hr hx) (by omega)) h7
    have h9 : r ^^^ (x ^^^ 4294967295) = 0 := by rw [← Nat.xor_assoc]; exact h8
    have h10 := congrArg (r ^^^ ·) h9
    simp only [Nat.xor_zero] at h10
    rw [← Nat.xor_assoc, Nat.xor_self, Nat.zero_xor] at h10
    rw [← h10, Nat.xor_comm x, ← Nat.xor_assoc, Nat.xor_self, Nat.zero_xor]

/-- What is turned so far: the sector, and its register. -/
def Turned (ts : List Int) (k p i : Nat) : Prop := ts.length = 64 ∧ BytesOk ts ∧ reg 4294967295 ts = fN 32 4294967295 ^^^ fN (512 - k) (p % 2 ^ i)
theorem turned_start (xs : List Int) (hx : BytesOk xs) (k p : Nat) : Turned (sealB xs) k p 0 := by
  refine ⟨sealB_len xs, sealB_ok xs hx, ?_⟩
  rw [(seal_reg (sealB xs) (sealB_len xs) (sealB_ok xs hx)).1 (seal_seal xs), Nat.pow_zero, Nat.mod_one, fN_zero, Nat.xor_zero]
theorem mod_skip (p i : Nat) (h : p / 2 ^ i % 2 = 0) : p % 2 ^ (i + 1) = p % 2 ^ i := by rw [mod_succ_xor, h, Nat.mul_zero, Nat.xor_zero]
theorem turned_skip {ts : List Int} {k p i : Nat} (h : Turned ts k p i) (h0 : p / 2 ^ i % 2 = 0) : Turned ts k p (i + 1) := by
  refine ⟨h.1, h.2.1, ?_⟩
  rw [mod_skip p i h0]; exact h.2.2
theorem turned_bit {ts : List Int} {k p i : Nat} (h : Turned ts k p i) (h1 : p / 2 ^ i % 2 = 1) (hk : k + i < 512) :
    Turned (ts.set ((k + i) / 8) (((ts.getD ((k + i) / 8) 0).toNat ^^^ 2 ^ ((k + i) % 8) : Nat) : Int)) k p (i + 1) := by
  have hq : (k + i) / 8 < ts.length := by rw [h.1]; omega
  refine ⟨by rw [List.length_set, h.1], fun x hx => ?_, ?_⟩
  · rcases List.mem_or_eq_of_mem_set hx with h2 | h2
    · exact h.2.1 x h2
    · have hm : ts.getD ((k + i) / 8) 0 ∈ ts := by simp [List.getD, hq]
      have := h.2.1 _ hm
      have h3 : (2 : Nat) ^ ((k + i) % 8) < 2 ^ 8 := Nat.pow_lt_pow_right (by omega) (by omega)
      have h4 : (ts.getD ((k + i) / 8) 0).toNat ^^^ 2 ^ ((k + i) % 8) < 2 ^ 8 := Nat.xor_lt_two_pow (by omega) h3
      rw [h2]; omega
  · rw [reg_turn _ _ _ _ hq (by omega) h.2.1, h.2.2, h.1, mod_succ_xor, h1, Nat.mul_one, fN_xor, Nat.xor_assoc]
    congr 2
    have h5 := fN_shift i 1
    rw [Nat.mul_one] at h5
    rw [show 512 - k = (512 - k - i) + i by omega, fN_add, h5]
    congr 1
    omega
theorem turned_end {ts : List Int} {k p i : Nat} (h : Turned ts k p i) (hi : i ≤ 32) (hp : p < 4294967296) : ts = sealB ts ↔ p % 2 ^ i = 0 := by
  have hlt : p % 2 ^ i < 4294967296 := Nat.lt_of_le_of_lt (Nat.mod_le _ _) hp
  rw [seal_reg ts h.1 h.2.1, h.2.2]
  constructor
  · intro e
    have h1 := congrArg (fN 32 4294967295 ^^^ ·) e
    simp only [Nat.xor_self] at h1
    rw [← Nat.xor_assoc, Nat.xor_self, Nat.zero_xor] at h1
    exact fN_nought _ hlt h1
  · intro e; rw [e, fN_zero, Nat.xor_zero]

set_option maxHeartbeats 1600000 in
set_option maxRecDepth 100000 in
theorem bursts_walk (v : Value) (xs : List Int) (at_ pat : Int) (w : World) (hv : Src w v xs) (hx : BytesOk xs) (hat : 0 ≤ at_ ∧ at_ < 65536) (hpt : 0 ≤ pat ∧ pat < 4294967296) (ht : Tab w) (h60 : xs.length ≤ 60) :
    Calls Tryd.prog 7 #[v, .int .u16 at_, .int .u32 pat] w (AwakePost w) := by
  have HV := Lib.hid hv
  have HX := Lib.hid hx
  have HT := Lib.hid ht
  obtain ⟨a, c, rfl, q⟩ := src_any hv
  clear hv hx ht q
  have hd : decide ((60 : Int) < (xs.length : Int)) = false := by simp; omega
  obtain ⟨p, rfl⟩ := Int.eq_ofNat_of_zero_le hpt.1
  have hp : p < 4294967296 := by omega
  obtain ⟨k, hk⟩ : ∃ k : Nat, at_ % 512 = (k : Int) := ⟨(at_ % 512).toNat, by omega⟩
  have hk512 : k < 512 := by omega
  have hk2 : at_.tmod 512 = (k : Int) := by rw [Int.tmod_eq_emod_of_nonneg hat.1]; exact hk
  go_enter Tryd.func7, Tryd.ntmps7
  go_wp2_with fail
  refine (awake_any w HT.out).mono ?_
  rintro e w1 ⟨rfl, t1⟩
  go_wp2_with fail
  refine (seal_any _ xs w1 (HV.out.turn t1 (fun _ _ => id)) HX.out (HT.out.turn t1)).mono ?_
  rintro e w2 ⟨rfl, b2, t2⟩
  have hs1 := t1.size
  generalize w1.heap.size = B at b2 hs1 ⊢
  have T2 := t1.trans t2 (fun _ _ => id)
  clear t2 t1
  go_wp2_with fail
  go_loopw [9, 10] (fun tv iv wr => ∃ (i : Nat) (ts : List Int), i ≤ 32 ∧ k + i ≤ 512 ∧ iv = .int .i64 (i : Int) ∧ tv = .bool (decide (p % 2 ^ i ≠ 0)) ∧ Turned ts k p i ∧ BytesAt wr B 5 ts ∧ Turn (fun _ => False) w wr) (fun _ iv _ => (32 - intOf iv).toNat)
  case atStart => exact ⟨0, sealB xs, by omega, by omega, rfl, by simp [Nat.mod_one], turned_start xs HX.out k p, b2, T2⟩
  case round =>
    clear b2 T2
    obtain ⟨i, ts, hi, hki, rfl, rfl, htu, hB, hT⟩ := hrel
    have HTU := Lib.hid htu
    by_cases hlt : i < 32 ∧ k + i < 512
    · have d1 : decide ((i : Int) < 32) = true := by simp; omega
      have d2 : decide ((k : Int) + (i : Int) < 512) = true := by simp; omega
      have dsum : (k : Int) + (i : Int) = ((k + i : Nat) : Int) := by omega
      have hpi : (p : Int) / 2 ^ i % 2 = ((p / 2 ^ i % 2 : Nat) : Int) := by rw [Int.natCast_emod, Int.natCast_ediv, Int.natCast_pow]; rfl
      have htm : ((p : Int) / 2 ^ i).tmod 2 = (p : Int) / 2 ^ i % 2 := Int.tmod_eq_emod_of_nonneg (Int.ediv_nonneg (by omega) (Int.pow_nonneg (by omega)))
      by_cases hbit : p / 2 ^ i % 2 = 1
      · have hb1 : (((p : Int) / 2 ^ i).tmod 2 == 1) = true := by rw [htm, hpi, hbit]; rfl
        have hm : ts.getD ((k + i) / 8) 0 ∈ ts := by simp [List.getD, htu.1, show (k + i) / 8 < 64 by omega]
        have hbq := htu.2.1 _ hm
        have cB := hB.cell ((k + i) / 8) (by rw [htu.1]; omega)
        have fB := hB.open_ ((k + i) / 8)
        have HTN := Lib.hid (turned_bit htu hbit hlt.2)
        have hpow : (2 : Nat) ^ ((k + i) % 8) < 2 ^ 8 := Nat.pow_lt_pow_right (by omega) (by omega)
        have hne : p % 2 ^ (i + 1) ≠ 0 := by
          rw [Nat.mod_pow_succ, hbit]
          have : 0 < 2 ^ i := Nat.pow_pos (by omega)
          omega
        have HNE := Lib.hid hne
        have xr : bits .xor .u8 (ts.getD ((k + i) / 8) 0) ((2 ^ ((k + i) % 8) : Nat) : Int) = (((ts.getD ((k + i) / 8) 0).toNat ^^^ 2 ^ ((k + i) % 8) : Nat) : Int) := by
          rw [u8_xor _ _ hbq.1 hbq.2 (Int.natCast_nonneg _) (Int.ofNat_lt.2 hpow), Int.toNat_natCast]
        have HBS := Lib.hid (hB.set ((k + i) / 8) (((ts.getD ((k + i) / 8) 0).toNat ^^^ 2 ^ ((k + i) % 8) : Nat) : Int))
        generalize (((ts.getD ((k + i) / 8) 0).toNat ^^^ 2 ^ ((k + i) % 8) : Nat) : Int) = y at xr HBS HTN
        generalize ts.getD ((k + i) / 8) 0 = old at cB xr
        obtain ⟨m, hmm⟩ : ∃ m, k + i = m := ⟨_, rfl⟩
        have hm512 : m < 512 := by omega
        rw [hmm] at cB fB xr HBS HTN dsum
        have xr2 : bits .xor .u8 old ((2 : Int) ^ (m % 8) % 256) = y := by
          rw [← xr, Int.natCast_pow, Int.emod_eq_of_lt (Int.pow_nonneg (by omega))]
          · rfl
          · have := Int.ofNat_lt.2 (show 2 ^ (m % 8) < 256 from Nat.pow_lt_pow_right (n := 8) (by omega) (by omega))
            rw [Int.natCast_pow] at this; exact this
        have HMM := Lib.hid hmm
        have HPI := Lib.hid hpi
        clear hm hbq hne htu hpi hmm htm hB xr
        go_wp2_with fail
        go_region
        go_wp2_with fail
        go_roundw
        case rel =>
          have hm3 := HMM.out
          exact ⟨i + 1, _, by omega, by omega, by go_num, by rw [decide_eq_true HNE.out], HTN.out, HBS.out.drew, (hT.setCell (p := ⟨B, m / 8, none⟩) (fun h => by have h2 : B < w.heap.size := h; omega) _).drew⟩
        case measure => simp [intOf]; omega
      · have hb1 : (((p : Int) / 2 ^ i).tmod 2 == 1) = false := by rw [htm, hpi, beq_eq_false_iff_ne]; omega
        have HSK := Lib.hid (turned_skip htu (show p / 2 ^ i % 2 = 0 by omega))
        have HMS := Lib.hid (mod_skip p i (show p / 2 ^ i % 2 = 0 by omega))
        have HB := Lib.hid hB
        clear htu hpi htm hB hbit dsum
        go_wp2_with fail
        go_roundw
        case rel => exact ⟨i + 1, ts, by omega, by omega, by go_num, by rw [HMS.out], HSK.out, HB.out, hT⟩
        case measure => simp [intOf]; omega
    · have HB := Lib.hid hB
      clear hB htu
      by_cases h32 : i < 32
      · have d1 : decide ((i : Int) < 32) = true := by simp; omega
        have d2 : decide ((k : Int) + (i : Int) < 512) = false := by simp; omega
        clear hlt
        go_wp2_with fail
        refine (open_any _ ts wr (.inl (HB.out.reads 64 64 (HTU.out.1.symm) (by omega))) HTU.out.2.1 (HT.out.turn hT)).mono ?_
        rintro e w5 ⟨t5, h5⟩
        have T5 := hT.trans t5 (fun _ _ => id)
        have HE := Lib.hid (turned_end HTU.out hi hp)
        rcases h5 with ⟨hs, v5, rfl, hR8⟩ | ⟨hs, rfl⟩
        · have hz : decide (p % 2 ^ i ≠ 0) = false := by simp [HE.out.1 hs]
          rw [hz]
          clear hz hs
          go_wp2_with fail
          go_ret
          exact ⟨rfl, T5⟩
        · have hz : decide (p % 2 ^ i ≠ 0) = true := by
            rw [decide_eq_true_eq]
            exact fun h => hs (HE.out.2 h)
          rw [hz]
          clear hz hs
          go_wp2_with fail
          go_ret
          exact ⟨rfl, T5⟩
      · have d1 : decide ((i : Int) < 32) = false := by simp; omega
        clear hlt
        go_wp2_with fail
        refine (open_any _ ts wr (.inl (HB.out.reads 64 64 (HTU.out.1.symm) (by omega))) HTU.out.2.1 (HT.out.turn hT)).mono ?_
        rintro e w5 ⟨t5, h5⟩
        have T5 := hT.trans t5 (fun _ _ => id)
        have HE := Lib.hid (turned_end HTU.out hi hp)
        rcases h5 with ⟨hs, v5, rfl, hR8⟩ | ⟨hs, rfl⟩
        · have hz : decide (p % 2 ^ i ≠ 0) = false := by simp [HE.out.1 hs]
          rw [hz]
          clear hz hs
          go_wp2_with fail
          go_ret
          exact ⟨rfl, T5⟩
        · have hz : decide (p % 2 ^ i ≠ 0) = true := by
            rw [decide_eq_true_eq]
            exact fun h => hs (HE.out.2 h)
          rw [hz]
          clear hz hs
          go_wp2_with fail
          go_ret
          exact ⟨rfl, T5⟩

set_option maxHeartbeats 1600000 in
set_option maxRecDepth 100000 in
theorem checkBursts_walk (v : Value) (xs : List Int) (at_ pat : Int) (w : World) (hv : Src w v xs) (hx : BytesOk xs) (hat : 0 ≤ at_ ∧ at_ < 65536) (hpt : 0 ≤ pat ∧ pat < 4294967296) (ht : Tab w) :
    Calls Tryd.prog 7 #[v, .int .u16 at_, .int .u32 pat] w (AwakePost w) := by
  by_cases h60 : xs.length ≤ 60
  · exact bursts_walk v xs at_ pat w hv hx hat hpt ht h60
  · have HT := Lib.hid ht
    obtain ⟨a, c, rfl, q⟩ := src_any hv
    clear hv hx ht q
    have hd : decide ((60 : Int) < (xs.length : Int)) = true := by simp; omega
    go_enter Tryd.func7, Tryd.ntmps7
    go_wp2_with fail
    refine (awake_any w HT.out).mono ?_
    rintro e w1 ⟨rfl, t1⟩
    go_wp2_with fail
    refine (awake_any w1 (HT.out.turn t1)).mono ?_
    rintro e w2 ⟨rfl, t2⟩
    go_wp2_with fail
    go_ret
    exact ⟨rfl, t1.trans t2 (fun _ _ => id)⟩
end Go.Proofs.YtckeackepolhdaaDoor
