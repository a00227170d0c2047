/- Own: the walk of JournalErrs. -/
import Derived.Test.YtakmkkgpkbpbkaaHarm
import Derived.Test.YtakmkkgpkbpbkaaTwice
namespace Go.Proofs.Ytakmkkgpkbpbkaa
open Go.RowKit
set_option linter.unusedVariables false
set_option linter.unusedSimpArgs false

/-- A write that is refused. -/
theorem write_no (w : World) (F R : Nat → Prop) (J D : Nat) (d : DiskM) (L : Nat) (C : List (List Int)) (n : Nat) (v : Value) (l : List (Int × List Int)) (r : Int) (h : JC w F J D d L C n) (hn : 200 ≤ n)
    (hp : PagesIn w R v l) (hR : ∀ k, R k → k < w.heap.size ∧ ¬ F k ∧ k ≠ J) (hb : ∀ x ∈ l, BytesOk x.2) (hl : l.length ≤ 1000000) (hr : (24 < l.length ∧ r = 5) ∨ (l.length ≤ 24 ∧ fitsB C.length l = false ∧ r = 1)) :
    Calls Try.prog 13 #[.pointer (some ⟨J, 0, none⟩), v] w fun e w' => e = .returned (.int .i64 r) ∧ ∃ F', JC w' F' J D d L C n ∧ StepJ w F J w' F' := by
  have hlen := h.calm.calm.len
  have hlim := h.lim
  refine (jwrite_any w F R J D d L v l h.jh hp hR hb hl (h.room.less hn) (by omega)).mono ?_
  rintro e w' ⟨rfl, F', hj, hs⟩
  have hm : jwriteM d L l = ((d, r), L) := by
    unfold jwriteM
    rcases hr with ⟨h1, rfl⟩ | ⟨h1, h2, rfl⟩
    · rw [if_pos h1]
    · rw [if_neg (by omega), if_neg (by rw [hlen, show 49 + C.length - 49 = C.length by omega, h2]; decide)]
  rw [hm] at hj ⊢
  exact ⟨rfl, F', { h with jh := hj }, hs⟩
theorem on_h (w : World) (F : Nat → Prop) (J D : Nat) (d : DiskM) (L : Nat) (C : List (List Int)) (n : Nat) (h : JC w F J D d L C n) :
    Calls Try.prog 19 #[.pointer (some ⟨J, 0, none⟩)] w fun e w' => e = .returned (.bool true) ∧ w' = w := by
  refine (jon_any w F J D d L h.jh).mono ?_
  rintro e w' ⟨rfl, rfl⟩
  exact ⟨by rw [h.calm.off]; rfl, rfl⟩
def onesP (k j : Nat) : List (Int × List Int) := (List.range j).map fun i => (((i % k : Nat) : Int), [1])
theorem onesP_next (k j : Nat) : onesP k (j + 1) = onesP k j ++ [(((j % k : Nat) : Int), [1])] := by simp [onesP, List.range_succ]
theorem onesP_len (k j : Nat) : (onesP k j).length = j := by simp [onesP]
theorem onesP_fit (k j : Nat) (hk : 0 < k) : fitsB k (onesP k j) = true := by
  refine List.all_eq_true.2 (fun x hx => ?_)
  simp only [onesP, List.mem_map, List.mem_range] at hx
  obtain ⟨i, _, rfl⟩ := hx
  have := Nat.mod_lt i hk
  simp; omega
theorem onesP_ok (k j : Nat) : ∀ x ∈ onesP k j, BytesOk x.2 := fun x hx => by
  simp only [onesP, List.mem_map, List.mem_range] at hx
  obtain ⟨i, _, rfl⟩ := hx
  intro y hy
  simp at hy; omega

set_option maxHeartbeats 4000000 in
set_option maxRecDepth 100000 in
theorem errs_neg (vp : Value) (x : Int) (ps : List Int) (n s : Nat) (w : World) (hv : Src w vp ps) (op : BytesOk ps) (np : ∀ k, vp.ownBlock = some k → 0 < ps.length → k < w.heap.size) (hn : n < 256) (hs : s < 256) (h49 : 49 < s) (hp : ps.length ≤ 100) (hx : -9223372036854775808 ≤ x ∧ x < 9223372036854775808)
    (hc : x < 0) : Calls Try.prog 4 #[.int .i64 x, vp, .int .u8 (n : Int), .int .u8 (s : Int)] w (AwakePost w) := by
  obtain ⟨i0, hi, hz0, hz1, hz2⟩ := info_parts Try.info46
  have hz46 := zero46
  have HV := Lib.hid hv
  have HOP := Lib.hid op
  have HNP := Lib.hid np
  obtain ⟨ap', cp, rfl, _⟩ := src_any hv
  clear hv op np
  obtain ⟨k, hk⟩ : ∃ k, s - 49 = k := ⟨_, rfl⟩
  try rw [hk] at hc
  have hk0 : 0 < k := by omega
  have hkk : ((k : Int) == 0) = false := by rw [beq_eq_false_iff_ne]; omega
  have hkk2 : (k == 0) = false := by rw [beq_eq_false_iff_ne]; omega
  have hks : (s : Int) - 49 = (k : Int) := by omega
  obtain ⟨m, hm⟩ : ∃ m, n % 40 = m := ⟨_, rfl⟩
  have hm40 : m < 40 := by omega
  have hmod : ((n : Int)).tmod 40 = (m : Int) := by rw [Int.tmod_eq_emod_of_nonneg (by omega)]; omega
  have g1 : decide ((100 : Int) < (ps.length : Int)) = false := by simp; omega
  have g2 : decide (100 < ps.length) = false := by simp; omega
  have g3 : decide ((s : Int) ≤ 49) = false := by simp; omega
  have g4 : decide (s ≤ 49) = false := by simp; omega
  have c1 : decide ((0 : Int) ≤ x) = false := by simp; omega
  clear hm
  go_enter Try.func4, Try.ntmps4
  go_wp2_with fail
  refine (awake_any w).mono ?_
  rintro e w1 ⟨rfl, t1⟩
  go_wp2_with fail
  refine (new_h w1 s 1000 (by omega) (by omega)).mono ?_
  rintro e w2 ⟨D, F2, rfl, hd2, hF2, t2⟩
  have HD2 := Lib.hid hd2
  clear hd2
  go_wp2_with fail
  refine (open_h w2 F2 D (newM s) 0 _ 900 HD2.out rfl (by omega)).mono ?_
  rintro e w3 ⟨J, F3, d3, L3, rfl, hj3, ha3, hJ3, hs3, hL3⟩
  have T3 : Turn (fun _ => False) w w3 := ((t1.trans t2 (fun _ _ => id))).trans hs3.turn (fun q hq h => by have := hF2 q h; have := t1.size; omega)
  have hF3 : ∀ q, F3 q → w.heap.size ≤ q := fun q hq => by
    have := t1.size; have := t2.size
    rcases hs3.grown q hq with h | h
    · have := hF2 q h; omega
    · omega
  obtain ⟨C, hCe⟩ : ∃ C, List.replicate (s - 49) noughts = C := ⟨_, rfl⟩
  have hC : C.length = k := by rw [← hCe]; simp [hk]
  rw [hCe] at hj3
  have HJ3 := Lib.hid hj3
  have HA3 := Lib.hid ha3
  have hJw : w.heap.size ≤ J := by have := t1.size; have := t2.size; omega
  have hJlt := hj3.jh.jat.lt
  have hF3l := hj3.jh.dh.2
  clear hj3 ha3 hs3 hF2 t1 t2 hJ3 hCe hk
  go_wp2_with fail
  have hpg := pages_two w3 (fun q => q < w.heap.size ∨ (w3.heap.size ≤ q ∧ q < w3.heap.size + 1)) 0 x (.slice none 0 0) (.slice ap' ps.length cp) [] ps (nil_src _) (HV.out.turn T3 (fun _ _ => id)) (fun h => by simp at h) (fun h0 q hq => .inl (HNP.out q hq h0)) (.inr ⟨by omega, by omega⟩)
  have t4 := (Turn.refl (fun _ => False) w3).alloc (.cells #[.int .i64 0, .slice none 0 0, .int .i64 x, .slice ap' ps.length cp] 46)
  have hsz4 : (w3.alloc (.cells #[.int .i64 0, .slice none 0 0, .int .i64 x, .slice ap' ps.length cp] 46)).heap.size = w3.heap.size + 1 := by simp
  generalize w3.alloc (.cells #[.int .i64 0, .slice none 0 0, .int .i64 x, .slice ap' ps.length cp] 46) = w4 at hpg t4 hsz4 ⊢
  refine (write_no w4 F3 _ J D d3 L3 _ 900 _ _ 1 (HJ3.out.turn0 t4) (by omega) hpg (fun q hq => ⟨by have := T3.size; omega, fun hF => by have := hF3l q hF; have := hF3 q hF; omega, by omega⟩) (fun y hy' => by
    simp at hy'
    rcases hy' with rfl | rfl
    · intro z hz; simp at hz
    · exact HOP.out) (by simp) (.inr ⟨by simp, fits_bad (j := 1) (x := (x, ps)) rfl (by rw [hC]; dsimp only; omega), rfl⟩)).mono ?_
  rintro e w5 ⟨rfl, F5, hj5', hs5⟩
  have hj5 : JC w5 F5 J D d3 L3 C 700 := { hj5' with room := hj5'.room.less (by omega), lim := by have := hj5'.lim; omega }
  obtain ⟨C5, hC5⟩ : ∃ C5, C = C5 := ⟨_, rfl⟩
  obtain ⟨d5, hd5⟩ : ∃ d5, d3 = d5 := ⟨_, rfl⟩
  obtain ⟨L5, hL5⟩ : ∃ L5, L3 = L5 := ⟨_, rfl⟩
  have HA5 := Lib.hid (hd5 ▸ HA3.out)
  rw [hd5, hL5] at hj5
  rw [hC5] at hj5
  have hC5l : C5.length = k := by rw [← hC5]; exact hC
  have T5 : Turn (fun _ => False) w w5 := (T3.trans t4 (fun _ _ => id)).trans hs5.turn (fun q hq h => by
    rcases h with h | h
    · have := hF3 q h; omega
    · omega)
  have hF5 : ∀ q, F5 q → w.heap.size ≤ q := fun q hq => by
    rcases hs5.grown q hq with h | h
    · exact hF3 q h
    · have := T3.size; omega
  have HJ5 := Lib.hid hj5
  clear hj5 hpg hs5 hC5
  go_wp2_with fail
  refine (jread_bad w5 F5 J D d5 L5 x HJ5.out.jh (by have hl5 := HJ5.out.calm.calm.len; rw [hl5, hC5l]; omega)).mono ?_
  rintro e w6 ⟨rfl, hw6⟩
  have t6 : Turn (fun _ => False) w5 w6 := by rw [hw6]; exact Turn.refl _ _
  clear hw6
  have hF5l := HJ5.out.jh.dh.2
  have hJlt5 := HJ5.out.jh.jat.lt
  have hs56 := t6.size
  go_wp2_with fail
  go_loopw [21, 22] (fun ov iv wr => ∃ j : Nat, j ≤ m ∧ iv = .int .i64 (j : Int) ∧ ∃ pq, onesP k j = pq.map (fun p => (p.1, p.2.2)) ∧ PsOk w6 wr ov pq ∧ wr.ownsRow w6.heap.size 46 2 ov j (flatP pq) ∧ Turn (fun _ => False) w6 wr) (fun _ iv _ => (m - intOf iv).toNat)
  case atStart => exact ⟨0, Nat.zero_le _, rfl, [], rfl, (fun p hp => by simp at hp), World.ownsRow_nil _ _ _ _, Turn.refl _ _⟩
  case round =>
    obtain ⟨j, hj, rfl, pq, hl, hps, ho, tr⟩ := hrel
    have HL := Lib.hid hl
    have HPS := Lib.hid hps
    have HO := Lib.hid ho
    clear hl hps ho
    by_cases hlt : j < m
    · have hd3 : decide ((j : Int) < (m : Int)) = true := by simp; omega
      obtain ⟨y, hy⟩ : ∃ y, j % k = y := ⟨_, rfl⟩
      have hmodj : ((j : Int)).tmod (k : Int) = (y : Int) := by rw [Int.tmod_eq_emod_of_nonneg (by omega)]; rw [← hy]; omega
      have HY := Lib.hid hy
      clear hy
      have ta : Turn (fun _ => False) wr (wr.alloc (.cells #[.int .u8 1] 5)) := (Turn.refl _ wr).alloc _
      have hrd := reads_block (w := wr.alloc (.cells #[.int .u8 1] 5)) (g := wr.heap.size) (xs := [1]) (ty := 5) (f := (0, 0)) (heap_alloc_new wr _) 1 rfl
      have hsza : (wr.alloc (.cells #[.int .u8 1] 5)).heap.size = wr.heap.size + 1 := by simp
      obtain ⟨wa, hwa⟩ : ∃ wa, wr.alloc (.cells #[.int .u8 1] 5) = wa := ⟨_, rfl⟩
      rw [hwa] at ta hrd hsza
      have tb : Turn (fun _ => False) wa (wa.alloc (.cells #[.int .i64 (y : Int), .slice (some ⟨wr.heap.size, 0, none⟩) 1 1] 46)) := (Turn.refl _ wa).alloc _
      have hnb := heap_alloc_new wa (.cells #[.int .i64 (y : Int), .slice (some ⟨wr.heap.size, 0, none⟩) 1 1] 46)
      have hszb : (wa.alloc (.cells #[.int .i64 (y : Int), .slice (some ⟨wr.heap.size, 0, none⟩) 1 1] 46)).heap.size = wr.heap.size + 2 := by simp [hsza]
      obtain ⟨wb, hwb⟩ : ∃ wb, wa.alloc (.cells #[.int .i64 (y : Int), .slice (some ⟨wr.heap.size, 0, none⟩) 1 1] 46) = wb := ⟨_, rfl⟩
      rw [hwb, hsza] at hnb
      rw [hwb] at tb hszb
      have hnews : ∀ (q : Nat) u, [Value.int .i64 (y : Int), .slice (some ⟨wr.heap.size, 0, none⟩) 1 1][q]? = some u → wb.cell? ((⟨wr.heap.size + 1, 0, none⟩ : Addr).add q) = some u := by
        intro q u hq
        rw [Addr.add_mid, Nat.zero_add, cell_of_row _ _ _ _ 46 (0, 0) hnb]
        simpa using hq
      have HNW := Lib.hid hnews
      have tab := ta.trans tb (fun _ _ => id)
      have HOB := Lib.hid (tab.owns HO.out (fun _ _ => id))
      have HRD := Lib.hid (hrd.turn tb (fun _ _ => id))
      clear hnews hnb hrd
      go_wp2_with (at_builtin; refine wpList_append_where _ rfl (.tmp 115) (.tmp 121) 34 rfl w6.heap.size 46 i0 (.agg #[.int .i64 0, .slice none 0 0]) 2 32 Try.underlying34 hi hz0 hz1 hz2 rfl (by decide) _ j (flatP pq) rfl HOB.out ⟨wr.heap.size + 1, 0, none⟩ 1 1 [.int .i64 (y : Int), .slice (some ⟨wr.heap.size, 0, none⟩) 1 1] rfl rfl HNW.out (fun u hu => by simp at hu; rcases hu with rfl | rfl <;> rfl) ?d3 ?d4 ?d5 ?_)
      case d3 => unfold maxLen; omega
      case d4 => omega
      case d5 => have h1 := tr.size; have h2 := tab.size; omega
      intro v5 w5' ho5 hg5 hf5 _
      have t5' : Turn (fun q => u21.ownBlock = some q) wb w5' := (Turn.refl (fun q => u21.ownBlock = some q) wb).grown hg5 (fun q h _ => h)
      have HPOST := Lib.hid (page_step HL.out HPS.out HO.out tr tab t5' hf5 ho5 HRD.out (fun q hq => by have hq' : wr.heap.size = q := Option.some.inj hq; omega) (fun q hq => by have hq' : wr.heap.size = q := Option.some.inj hq; omega))
      clear ho5 hg5 hf5 hmodj hwa hwb
      go_wp2_with fail
      go_roundw
      case rel =>
        obtain ⟨T5', ps', hl', hps', ho'⟩ := HPOST.out
        refine ⟨j + 1, by omega, by go_num, ps', ?_, hps', ho', T5'⟩
        rw [onesP_next, HY.out]; exact hl'
      case measure => simp [intOf]; omega
    · obtain rfl : j = m := by omega
      have hpg := pages_of HL.out HPS.out HO.out
      obtain ⟨oa, oc, hov, _⟩ := hpg.form
      rw [onesP_len] at hov
      subst hov
      have HPG := Lib.hid hpg
      have t56 := t6.trans tr (fun _ _ => id)
      have hszr := tr.size
      clear hpg
      go_wp2_with fail
      by_cases h24 : j ≤ 24
      · have e1 : decide ((j : Int) ≤ 24) = true := by simp; omega
        have e2 : decide (j ≤ 24) = true := by simp; omega
        refine (write_h wr F5 _ J D d5 L5 C5 500 _ _ (HJ5.out.turn0 t56) HA5.out HPG.out (fun q hq => ⟨hq.2, fun hF => by have := hF5l q hF; have := hq.1; omega, by have := hq.1; omega⟩) (onesP_ok k j) (by rw [onesP_len]; exact h24) (by rw [hC5l]; exact onesP_fit k j hk0)).mono ?_
        rintro e w8 ⟨rfl, F8, d8, L8, hj8, _, hs8⟩
        have HJ8 := Lib.hid hj8
        have hC8 : ((putM C5 (onesP k j)).length : Int) = (k : Int) := by rw [putM_len, hC5l]
        clear hj8
        go_wp2_with fail
        refine (sectors_h w8 F8 J D d8 L8 _ 500 HJ8.out).mono ?_
        rintro e w9 ⟨rfl, rfl⟩
        rw [hC8]
        clear hC8
        go_wp2_with fail
        refine (on_h w9 F8 J D d8 L8 _ 500 HJ8.out).mono ?_
        rintro e w10 ⟨rfl, rfl⟩
        have HT := Lib.hid ((T5.trans t56 (fun _ _ => id)).trans hs8.turn (fun q hq h => by
          rcases h with h | h
          · have := hF5 q h; omega
          · omega))
        clear hs8 t56 tr T5 T3 t6 t4
        go_wp2_with fail
        go_ret
        exact ⟨rfl, HT.out⟩
      · have e1 : decide ((j : Int) ≤ 24) = false := by simp; omega
        have e2 : decide (j ≤ 24) = false := by simp; omega
        refine (write_no wr F5 _ J D d5 L5 C5 700 _ _ 5 (HJ5.out.turn0 t56) (by omega) HPG.out (fun q hq => ⟨hq.2, fun hF => by have := hF5l q hF; have := hq.1; omega, by have := hq.1; omega⟩) (onesP_ok k j) (by rw [onesP_len]; omega) (.inl ⟨by rw [onesP_len]; omega, rfl⟩)).mono ?_
        rintro e w8 ⟨rfl, F8, hj8, hs8⟩
        have HJ8 := Lib.hid hj8
        have hC8 : (C5.length : Int) = (k : Int) := by rw [hC5l]
        clear hj8
        go_wp2_with fail
        refine (sectors_h w8 F8 J D d5 L5 _ 700 HJ8.out).mono ?_
        rintro e w9 ⟨rfl, rfl⟩
        rw [hC8]
        clear hC8
        go_wp2_with fail
        refine (on_h w9 F8 J D d5 L5 _ 700 HJ8.out).mono ?_
        rintro e w10 ⟨rfl, rfl⟩
        have HT := Lib.hid ((T5.trans t56 (fun _ _ => id)).trans hs8.turn (fun q hq h => by
          rcases h with h | h
          · have := hF5 q h; omega
          · omega))
        clear hs8 t56 tr T5 T3 t6 t4
        go_wp2_with fail
        go_ret
        exact ⟨rfl, HT.out⟩

set_option maxHeartbeats 4000000 in
set_option maxRecDepth 100000 in
theorem errs_in64 (vp : Value) (x : Int) (ps : List Int) (n s : Nat) (w : World) (hv : Src w vp ps) (op : BytesOk ps) (np : ∀ k, vp.ownBlock = some k → 0 < ps.length → k < w.heap.size) (hn : n < 256) (hs : s < 256) (h49 : 49 < s) (hp : ps.length ≤ 100) (hx : -9223372036854775808 ≤ x ∧ x < 9223372036854775808)
    (hc : 0 ≤ x ∧ x < ((s - 49 : Nat) : Int)) (h64 : ps.length ≤ 64) : Calls Try.prog 4 #[.int .i64 x, vp, .int .u8 (n : Int), .int .u8 (s : Int)] w (AwakePost w) := by
  obtain ⟨i0, hi, hz0, hz1, hz2⟩ := info_parts Try.info46
  have hz46 := zero46
  have HV := Lib.hid hv
  have HOP := Lib.hid op
  have HNP := Lib.hid np
  obtain ⟨ap', cp, rfl, _⟩ := src_any hv
  clear hv op np
  obtain ⟨k, hk⟩ : ∃ k, s - 49 = k := ⟨_, rfl⟩
  try rw [hk] at hc
  have hk0 : 0 < k := by omega
  have hkk : ((k : Int) == 0) = false := by rw [beq_eq_false_iff_ne]; omega
  have hkk2 : (k == 0) = false := by rw [beq_eq_false_iff_ne]; omega
  have hks : (s : Int) - 49 = (k : Int) := by omega
  obtain ⟨m, hm⟩ : ∃ m, n % 40 = m := ⟨_, rfl⟩
  have hm40 : m < 40 := by omega
  have hmod : ((n : Int)).tmod 40 = (m : Int) := by rw [Int.tmod_eq_emod_of_nonneg (by omega)]; omega
  have g1 : decide ((100 : Int) < (ps.length : Int)) = false := by simp; omega
  have g2 : decide (100 < ps.length) = false := by simp; omega
  have g3 : decide ((s : Int) ≤ 49) = false := by simp; omega
  have g4 : decide (s ≤ 49) = false := by simp; omega
  have c1 : decide ((0 : Int) ≤ x) = true := by simp; omega
  have c2 : decide (x < (k : Int)) = true := by simp; omega
  have c3 : decide ((ps.length : Int) ≤ 64) = true := by simp; omega
  have c4 : decide (ps.length ≤ 64) = true := by simp; omega
  clear hm
  go_enter Try.func4, Try.ntmps4
  go_wp2_with fail
  refine (awake_any w).mono ?_
  rintro e w1 ⟨rfl, t1⟩
  go_wp2_with fail
  refine (new_h w1 s 1000 (by omega) (by omega)).mono ?_
  rintro e w2 ⟨D, F2, rfl, hd2, hF2, t2⟩
  have HD2 := Lib.hid hd2
  clear hd2
  go_wp2_with fail
  refine (open_h w2 F2 D (newM s) 0 _ 900 HD2.out rfl (by omega)).mono ?_
  rintro e w3 ⟨J, F3, d3, L3, rfl, hj3, ha3, hJ3, hs3, hL3⟩
  have T3 : Turn (fun _ => False) w w3 := ((t1.trans t2 (fun _ _ => id))).trans hs3.turn (fun q hq h => by have := hF2 q h; have := t1.size; omega)
  have hF3 : ∀ q, F3 q → w.heap.size ≤ q := fun q hq => by
    have := t1.size; have := t2.size
    rcases hs3.grown q hq with h | h
    · have := hF2 q h; omega
    · omega
  obtain ⟨C, hCe⟩ : ∃ C, List.replicate (s - 49) noughts = C := ⟨_, rfl⟩
  have hC : C.length = k := by rw [← hCe]; simp [hk]
  rw [hCe] at hj3
  have HJ3 := Lib.hid hj3
  have HA3 := Lib.hid ha3
  have hJw : w.heap.size ≤ J := by have := t1.size; have := t2.size; omega
  have hJlt := hj3.jh.jat.lt
  have hF3l := hj3.jh.dh.2
  clear hj3 ha3 hs3 hF2 t1 t2 hJ3 hCe hk
  go_wp2_with fail
  have hpg := pages_two w3 (fun q => q < w.heap.size ∨ (w3.heap.size ≤ q ∧ q < w3.heap.size + 1)) 0 x (.slice none 0 0) (.slice ap' ps.length cp) [] ps (nil_src _) (HV.out.turn T3 (fun _ _ => id)) (fun h => by simp at h) (fun h0 q hq => .inl (HNP.out q hq h0)) (.inr ⟨by omega, by omega⟩)
  have t4 := (Turn.refl (fun _ => False) w3).alloc (.cells #[.int .i64 0, .slice none 0 0, .int .i64 x, .slice ap' ps.length cp] 46)
  have hsz4 : (w3.alloc (.cells #[.int .i64 0, .slice none 0 0, .int .i64 x, .slice ap' ps.length cp] 46)).heap.size = w3.heap.size + 1 := by simp
  generalize w3.alloc (.cells #[.int .i64 0, .slice none 0 0, .int .i64 x, .slice ap' ps.length cp] 46) = w4 at hpg t4 hsz4 ⊢
  refine (write_h w4 F3 _ J D d3 L3 _ 700 _ _ (HJ3.out.turn0 t4) HA3.out hpg (fun q hq => ⟨by have := T3.size; omega, fun hF => by have := hF3l q hF; have := hF3 q hF; omega, by omega⟩) (fun y hy' => by
    simp at hy'
    rcases hy' with rfl | rfl
    · intro z hz; simp at hz
    · exact HOP.out) (by simp) (fits_two (by rw [hC]; omega) (by rw [hC]; omega) (by simp) h64)).mono ?_
  rintro e w5 ⟨rfl, F5, d5, L5, hj5, ha5, hs5⟩
  obtain ⟨C5, hC5⟩ : ∃ C5, putM C [(0, []), (x, ps)] = C5 := ⟨_, rfl⟩
  have hC5l : C5.length = k := by rw [← hC5, putM_len]; exact hC
  rw [hC5] at hj5
  have HA5 := Lib.hid ha5
  have T5 : Turn (fun _ => False) w w5 := (T3.trans t4 (fun _ _ => id)).trans hs5.turn (fun q hq h => by
    rcases h with h | h
    · have := hF3 q h; omega
    · omega)
  have hF5 : ∀ q, F5 q → w.heap.size ≤ q := fun q hq => by
    rcases hs5.grown q hq with h | h
    · exact hF3 q h
    · have := T3.size; omega
  have HJ5 := Lib.hid hj5
  clear hj5 hpg hs5 hC5
  go_wp2_with fail
  obtain ⟨xn, rfl⟩ := Int.eq_ofNat_of_zero_le hc.1
  refine (read_h w5 F5 J D d5 L5 C5 700 xn HJ5.out (by rw [hC5l]; omega)).mono ?_
  rintro e w6 ⟨B, rfl, _, _, _, t6⟩
  have hF5l := HJ5.out.jh.dh.2
  have hJlt5 := HJ5.out.jh.jat.lt
  have hs56 := t6.size
  go_wp2_with fail
  go_loopw [21, 22] (fun ov iv wr => ∃ j : Nat, j ≤ m ∧ iv = .int .i64 (j : Int) ∧ ∃ pq, onesP k j = pq.map (fun p => (p.1, p.2.2)) ∧ PsOk w6 wr ov pq ∧ wr.ownsRow w6.heap.size 46 2 ov j (flatP pq) ∧ Turn (fun _ => False) w6 wr) (fun _ iv _ => (m - intOf iv).toNat)
  case atStart => exact ⟨0, Nat.zero_le _, rfl, [], rfl, (fun p hp => by simp at hp), World.ownsRow_nil _ _ _ _, Turn.refl _ _⟩
  case round =>
    obtain ⟨j, hj, rfl, pq, hl, hps, ho, tr⟩ := hrel
    have HL := Lib.hid hl
    have HPS := Lib.hid hps
    have HO := Lib.hid ho
    clear hl hps ho
    by_cases hlt : j < m
    · have hd3 : decide ((j : Int) < (m : Int)) = true := by simp; omega
      obtain ⟨y, hy⟩ : ∃ y, j % k = y := ⟨_, rfl⟩
      have hmodj : ((j : Int)).tmod (k : Int) = (y : Int) := by rw [Int.tmod_eq_emod_of_nonneg (by omega)]; rw [← hy]; omega
      have HY := Lib.hid hy
      clear hy
      have ta : Turn (fun _ => False) wr (wr.alloc (.cells #[.int .u8 1] 5)) := (Turn.refl _ wr).alloc _
      have hrd := reads_block (w := wr.alloc (.cells #[.int .u8 1] 5)) (g := wr.heap.size) (xs := [1]) (ty := 5) (f := (0, 0)) (heap_alloc_new wr _) 1 rfl
      have hsza : (wr.alloc (.cells #[.int .u8 1] 5)).heap.size = wr.heap.size + 1 := by simp
      obtain ⟨wa, hwa⟩ : ∃ wa, wr.alloc (.cells #[.int .u8 1] 5) = wa := ⟨_, rfl⟩
      rw [hwa] at ta hrd hsza
      have tb : Turn (fun _ => False) wa (wa.alloc (.cells #[.int .i64 (y : Int), .slice (some ⟨wr.heap.size, 0, none⟩) 1 1] 46)) := (Turn.refl _ wa).alloc _
      have hnb := heap_alloc_new wa (.cells #[.int .i64 (y : Int), .slice (some ⟨wr.heap.size, 0, none⟩) 1 1] 46)
      have hszb : (wa.alloc (.cells #[.int .i64 (y : Int), .slice (some ⟨wr.heap.size, 0, none⟩) 1 1] 46)).heap.size = wr.heap.size + 2 := by simp [hsza]
      obtain ⟨wb, hwb⟩ : ∃ wb, wa.alloc (.cells #[.int .i64 (y : Int), .slice (some ⟨wr.heap.size, 0, none⟩) 1 1] 46) = wb := ⟨_, rfl⟩
      rw [hwb, hsza] at hnb
      rw [hwb] at tb hszb
      have hnews : ∀ (q : Nat) u, [Value.int .i64 (y : Int), .slice (some ⟨wr.heap.size, 0, none⟩) 1 1][q]? = some u → wb.cell? ((⟨wr.heap.size + 1, 0, none⟩ : Addr).add q) = some u := by
        intro q u hq
        rw [Addr.add_mid, Nat.zero_add, cell_of_row _ _ _ _ 46 (0, 0) hnb]
        simpa using hq
      have HNW := Lib.hid hnews
      have tab := ta.trans tb (fun _ _ => id)
      have HOB := Lib.hid (tab.owns HO.out (fun _ _ => id))
      have HRD := Lib.hid (hrd.turn tb (fun _ _ => id))
      clear hnews hnb hrd
      go_wp2_with (at_builtin; refine wpList_append_where _ rfl (.tmp 115) (.tmp 121) 34 rfl w6.heap.size 46 i0 (.agg #[.int .i64 0, .slice none 0 0]) 2 32 Try.underlying34 hi hz0 hz1 hz2 rfl (by decide) _ j (flatP pq) rfl HOB.out ⟨wr.heap.size + 1, 0, none⟩ 1 1 [.int .i64 (y : Int), .slice (some ⟨wr.heap.size, 0, none⟩) 1 1] rfl rfl HNW.out (fun u hu => by simp at hu; rcases hu with rfl | rfl <;> rfl) ?d3 ?d4 ?d5 ?_)
      case d3 => unfold maxLen; omega
      case d4 => omega
      case d5 => have h1 := tr.size; have h2 := tab.size; omega
      intro v5 w5' ho5 hg5 hf5 _
      have t5' : Turn (fun q => u21.ownBlock = some q) wb w5' := (Turn.refl (fun q => u21.ownBlock = some q) wb).grown hg5 (fun q h _ => h)
      have HPOST := Lib.hid (page_step HL.out HPS.out HO.out tr tab t5' hf5 ho5 HRD.out (fun q hq => by have hq' : wr.heap.size = q := Option.some.inj hq; omega) (fun q hq => by have hq' : wr.heap.size = q := Option.some.inj hq; omega))
      clear ho5 hg5 hf5 hmodj hwa hwb
      go_wp2_with fail
      go_roundw
      case rel =>
        obtain ⟨T5', ps', hl', hps', ho'⟩ := HPOST.out
        refine ⟨j + 1, by omega, by go_num, ps', ?_, hps', ho', T5'⟩
        rw [onesP_next, HY.out]; exact hl'
      case measure => simp [intOf]; omega
    · obtain rfl : j = m := by omega
      have hpg := pages_of HL.out HPS.out HO.out
      obtain ⟨oa, oc, hov, _⟩ := hpg.form
      rw [onesP_len] at hov
      subst hov
      have HPG := Lib.hid hpg
      have t56 := t6.trans tr (fun _ _ => id)
      have hszr := tr.size
      clear hpg
      go_wp2_with fail
      by_cases h24 : j ≤ 24
      · have e1 : decide ((j : Int) ≤ 24) = true := by simp; omega
        have e2 : decide (j ≤ 24) = true := by simp; omega
        refine (write_h wr F5 _ J D d5 L5 C5 500 _ _ (HJ5.out.turn0 t56) HA5.out HPG.out (fun q hq => ⟨hq.2, fun hF => by have := hF5l q hF; have := hq.1; omega, by have := hq.1; omega⟩) (onesP_ok k j) (by rw [onesP_len]; exact h24) (by rw [hC5l]; exact onesP_fit k j hk0)).mono ?_
        rintro e w8 ⟨rfl, F8, d8, L8, hj8, _, hs8⟩
        have HJ8 := Lib.hid hj8
        have hC8 : ((putM C5 (onesP k j)).length : Int) = (k : Int) := by rw [putM_len, hC5l]
        clear hj8
        go_wp2_with fail
        refine (sectors_h w8 F8 J D d8 L8 _ 500 HJ8.out).mono ?_
        rintro e w9 ⟨rfl, rfl⟩
        rw [hC8]
        clear hC8
        go_wp2_with fail
        refine (on_h w9 F8 J D d8 L8 _ 500 HJ8.out).mono ?_
        rintro e w10 ⟨rfl, rfl⟩
        have HT := Lib.hid ((T5.trans t56 (fun _ _ => id)).trans hs8.turn (fun q hq h => by
          rcases h with h | h
          · have := hF5 q h; omega
          · omega))
        clear hs8 t56 tr T5 T3 t6 t4
        go_wp2_with fail
        go_ret
        exact ⟨rfl, HT.out⟩
      · have e1 : decide ((j : Int) ≤ 24) = false := by simp; omega
        have e2 : decide (j ≤ 24) = false := by simp; omega
        refine (write_no wr F5 _ J D d5 L5 C5 700 _ _ 5 (HJ5.out.turn0 t56) (by omega) HPG.out (fun q hq => ⟨hq.2, fun hF => by have := hF5l q hF; have := hq.1; omega, by have := hq.1; omega⟩) (onesP_ok k j) (by rw [onesP_len]; omega) (.inl ⟨by rw [onesP_len]; omega, rfl⟩)).mono ?_
        rintro e w8 ⟨rfl, F8, hj8, hs8⟩
        have HJ8 := Lib.hid hj8
        have hC8 : (C5.length : Int) = (k : Int) := by rw [hC5l]
        clear hj8
        go_wp2_with fail
        refine (sectors_h w8 F8 J D d5 L5 _ 700 HJ8.out).mono ?_
        rintro e w9 ⟨rfl, rfl⟩
        rw [hC8]
        clear hC8
        go_wp2_with fail
        refine (on_h w9 F8 J D d5 L5 _ 700 HJ8.out).mono ?_
        rintro e w10 ⟨rfl, rfl⟩
        have HT := Lib.hid ((T5.trans t56 (fun _ _ => id)).trans hs8.turn (fun q hq h => by
          rcases h with h | h
          · have := hF5 q h; omega
          · omega))
        clear hs8 t56 tr T5 T3 t6 t4
        go_wp2_with fail
        go_ret
        exact ⟨rfl, HT.out⟩

set_option maxHeartbeats 4000000 in
set_option maxRecDepth 100000 in
theorem errs_in65 (vp : Value) (x : Int) (ps : List Int) (n s : Nat) (w : World) (hv : Src w vp ps) (op : BytesOk ps) (np : ∀ k, vp.ownBlock = some k → 0 < ps.length → k < w.heap.size) (hn : n < 256) (hs : s < 256) (h49 : 49 < s) (hp : ps.length ≤ 100) (hx : -9223372036854775808 ≤ x ∧ x < 9223372036854775808)
    (hc : 0 ≤ x ∧ x < ((s - 49 : Nat) : Int)) (h64 : 64 < ps.length) : Calls Try.prog 4 #[.int .i64 x, vp, .int .u8 (n : Int), .int .u8 (s : Int)] w (AwakePost w) := by
  obtain ⟨i0, hi, hz0, hz1, hz2⟩ := info_parts Try.info46
  have hz46 := zero46
  have HV := Lib.hid hv
  have HOP := Lib.hid op
  have HNP := Lib.hid np
  obtain ⟨ap', cp, rfl, _⟩ := src_any hv
  clear hv op np
  obtain ⟨k, hk⟩ : ∃ k, s - 49 = k := ⟨_, rfl⟩
  try rw [hk] at hc
  have hk0 : 0 < k := by omega
  have hkk : ((k : Int) == 0) = false := by rw [beq_eq_false_iff_ne]; omega
  have hkk2 : (k == 0) = false := by rw [beq_eq_false_iff_ne]; omega
  have hks : (s : Int) - 49 = (k : Int) := by omega
  obtain ⟨m, hm⟩ : ∃ m, n % 40 = m := ⟨_, rfl⟩
  have hm40 : m < 40 := by omega
  have hmod : ((n : Int)).tmod 40 = (m : Int) := by rw [Int.tmod_eq_emod_of_nonneg (by omega)]; omega
  have g1 : decide ((100 : Int) < (ps.length : Int)) = false := by simp; omega
  have g2 : decide (100 < ps.length) = false := by simp; omega
  have g3 : decide ((s : Int) ≤ 49) = false := by simp; omega
  have g4 : decide (s ≤ 49) = false := by simp; omega
  have c1 : decide ((0 : Int) ≤ x) = true := by simp; omega
  have c2 : decide (x < (k : Int)) = true := by simp; omega
  have c3 : decide ((ps.length : Int) ≤ 64) = false := by simp; omega
  have c4 : decide (ps.length ≤ 64) = false := by simp; omega
  clear hm
  go_enter Try.func4, Try.ntmps4
  go_wp2_with fail
  refine (awake_any w).mono ?_
  rintro e w1 ⟨rfl, t1⟩
  go_wp2_with fail
  refine (new_h w1 s 1000 (by omega) (by omega)).mono ?_
  rintro e w2 ⟨D, F2, rfl, hd2, hF2, t2⟩
  have HD2 := Lib.hid hd2
  clear hd2
  go_wp2_with fail
  refine (open_h w2 F2 D (newM s) 0 _ 900 HD2.out rfl (by omega)).mono ?_
  rintro e w3 ⟨J, F3, d3, L3, rfl, hj3, ha3, hJ3, hs3, hL3⟩
  have T3 : Turn (fun _ => False) w w3 := ((t1.trans t2 (fun _ _ => id))).trans hs3.turn (fun q hq h => by have := hF2 q h; have := t1.size; omega)
  have hF3 : ∀ q, F3 q → w.heap.size ≤ q := fun q hq => by
    have := t1.size; have := t2.size
    rcases hs3.grown q hq with h | h
    · have := hF2 q h; omega
    · omega
  obtain ⟨C, hCe⟩ : ∃ C, List.replicate (s - 49) noughts = C := ⟨_, rfl⟩
  have hC : C.length = k := by rw [← hCe]; simp [hk]
  rw [hCe] at hj3
  have HJ3 := Lib.hid hj3
  have HA3 := Lib.hid ha3
  have hJw : w.heap.size ≤ J := by have := t1.size; have := t2.size; omega
  have hJlt := hj3.jh.jat.lt
  have hF3l := hj3.jh.dh.2
  clear hj3 ha3 hs3 hF2 t1 t2 hJ3 hCe hk
  go_wp2_with fail
  have hpg := pages_two w3 (fun q => q < w.heap.size ∨ (w3.heap.size ≤ q ∧ q < w3.heap.size + 1)) 0 x (.slice none 0 0) (.slice ap' ps.length cp) [] ps (nil_src _) (HV.out.turn T3 (fun _ _ => id)) (fun h => by simp at h) (fun h0 q hq => .inl (HNP.out q hq h0)) (.inr ⟨by omega, by omega⟩)
  have t4 := (Turn.refl (fun _ => False) w3).alloc (.cells #[.int .i64 0, .slice none 0 0, .int .i64 x, .slice ap' ps.length cp] 46)
  have hsz4 : (w3.alloc (.cells #[.int .i64 0, .slice none 0 0, .int .i64 x, .slice ap' ps.length cp] 46)).heap.size = w3.heap.size + 1 := by simp
  generalize w3.alloc (.cells #[.int .i64 0, .slice none 0 0, .int .i64 x, .slice ap' ps.length cp] 46) = w4 at hpg t4 hsz4 ⊢
  refine (write_no w4 F3 _ J D d3 L3 _ 900 _ _ 1 (HJ3.out.turn0 t4) (by omega) hpg (fun q hq => ⟨by have := T3.size; omega, fun hF => by have := hF3l q hF; have := hF3 q hF; omega, by omega⟩) (fun y hy' => by
    simp at hy'
    rcases hy' with rfl | rfl
    · intro z hz; simp at hz
    · exact HOP.out) (by simp) (.inr ⟨by simp, fits_bad (j := 1) (x := (x, ps)) rfl (by rw [hC]; dsimp only; omega), rfl⟩)).mono ?_
  rintro e w5 ⟨rfl, F5, hj5', hs5⟩
  have hj5 : JC w5 F5 J D d3 L3 C 700 := { hj5' with room := hj5'.room.less (by omega), lim := by have := hj5'.lim; omega }
  obtain ⟨C5, hC5⟩ : ∃ C5, C = C5 := ⟨_, rfl⟩
  obtain ⟨d5, hd5⟩ : ∃ d5, d3 = d5 := ⟨_, rfl⟩
  obtain ⟨L5, hL5⟩ : ∃ L5, L3 = L5 := ⟨_, rfl⟩
  have HA5 := Lib.hid (hd5 ▸ HA3.out)
  rw [hd5, hL5] at hj5
  rw [hC5] at hj5
  have hC5l : C5.length = k := by rw [← hC5]; exact hC
  have T5 : Turn (fun _ => False) w w5 := (T3.trans t4 (fun _ _ => id)).trans hs5.turn (fun q hq h => by
    rcases h with h | h
    · have := hF3 q h; omega
    · omega)
  have hF5 : ∀ q, F5 q → w.heap.size ≤ q := fun q hq => by
    rcases hs5.grown q hq with h | h
    · exact hF3 q h
    · have := T3.size; omega
  have HJ5 := Lib.hid hj5
  clear hj5 hpg hs5 hC5
  go_wp2_with fail
  obtain ⟨xn, rfl⟩ := Int.eq_ofNat_of_zero_le hc.1
  refine (read_h w5 F5 J D d5 L5 C5 700 xn HJ5.out (by rw [hC5l]; omega)).mono ?_
  rintro e w6 ⟨B, rfl, _, _, _, t6⟩
  have hF5l := HJ5.out.jh.dh.2
  have hJlt5 := HJ5.out.jh.jat.lt
  have hs56 := t6.size
  go_wp2_with fail
  go_loopw [21, 22] (fun ov iv wr => ∃ j : Nat, j ≤ m ∧ iv = .int .i64 (j : Int) ∧ ∃ pq, onesP k j = pq.map (fun p => (p.1, p.2.2)) ∧ PsOk w6 wr ov pq ∧ wr.ownsRow w6.heap.size 46 2 ov j (flatP pq) ∧ Turn (fun _ => False) w6 wr) (fun _ iv _ => (m - intOf iv).toNat)
  case atStart => exact ⟨0, Nat.zero_le _, rfl, [], rfl, (fun p hp => by simp at hp), World.ownsRow_nil _ _ _ _, Turn.refl _ _⟩
  case round =>
    obtain ⟨j, hj, rfl, pq, hl, hps, ho, tr⟩ := hrel
    have HL := Lib.hid hl
    have HPS := Lib.hid hps
    have HO := Lib.hid ho
    clear hl hps ho
    by_cases hlt : j < m
    · have hd3 : decide ((j : Int) < (m : Int)) = true := by simp; omega
      obtain ⟨y, hy⟩ : ∃ y, j % k = y := ⟨_, rfl⟩
      have hmodj : ((j : Int)).tmod (k : Int) = (y : Int) := by rw [Int.tmod_eq_emod_of_nonneg (by omega)]; rw [← hy]; omega
      have HY := Lib.hid hy
      clear hy
      have ta : Turn (fun _ => False) wr (wr.alloc (.cells #[.int .u8 1] 5)) := (Turn.refl _ wr).alloc _
      have hrd := reads_block (w := wr.alloc (.cells #[.int .u8 1] 5)) (g := wr.heap.size) (xs := [1]) (ty := 5) (f := (0, 0)) (heap_alloc_new wr _) 1 rfl
      have hsza : (wr.alloc (.cells #[.int .u8 1] 5)).heap.size = wr.heap.size + 1 := by simp
      obtain ⟨wa, hwa⟩ : ∃ wa, wr.alloc (.cells #[.int .u8 1] 5) = wa := ⟨_, rfl⟩
      rw [hwa] at ta hrd hsza
      have tb : Turn (fun _ => False) wa (wa.alloc (.cells #[.int .i64 (y : Int), .slice (some ⟨wr.heap.size, 0, none⟩) 1 1] 46)) := (Turn.refl _ wa).alloc _
      have hnb := heap_alloc_new wa (.cells #[.int .i64 (y : Int), .slice (some ⟨wr.heap.size, 0, none⟩) 1 1] 46)
      have hszb : (wa.alloc (.cells #[.int .i64 (y : Int), .slice (some ⟨wr.heap.size, 0, none⟩) 1 1] 46)).heap.size = wr.heap.size + 2 := by simp [hsza]
      obtain ⟨wb, hwb⟩ : ∃ wb, wa.alloc (.cells #[.int .i64 (y : Int), .slice (some ⟨wr.heap.size, 0, none⟩) 1 1] 46) = wb := ⟨_, rfl⟩
      rw [hwb, hsza] at hnb
      rw [hwb] at tb hszb
      have hnews : ∀ (q : Nat) u, [Value.int .i64 (y : Int), .slice (some ⟨wr.heap.size, 0, none⟩) 1 1][q]? = some u → wb.cell? ((⟨wr.heap.size + 1, 0, none⟩ : Addr).add q) = some u := by
        intro q u hq
        rw [Addr.add_mid, Nat.zero_add, cell_of_row _ _ _ _ 46 (0, 0) hnb]
        simpa using hq
      have HNW := Lib.hid hnews
      have tab := ta.trans tb (fun _ _ => id)
      have HOB := Lib.hid (tab.owns HO.out (fun _ _ => id))
      have HRD := Lib.hid (hrd.turn tb (fun _ _ => id))
      clear hnews hnb hrd
      go_wp2_with (at_builtin; refine wpList_append_where _ rfl (.tmp 115) (.tmp 121) 34 rfl w6.heap.size 46 i0 (.agg #[.int .i64 0, .slice none 0 0]) 2 32 Try.underlying34 hi hz0 hz1 hz2 rfl (by decide) _ j (flatP pq) rfl HOB.out ⟨wr.heap.size + 1, 0, none⟩ 1 1 [.int .i64 (y : Int), .slice (some ⟨wr.heap.size, 0, none⟩) 1 1] rfl rfl HNW.out (fun u hu => by simp at hu; rcases hu with rfl | rfl <;> rfl) ?d3 ?d4 ?d5 ?_)
      case d3 => unfold maxLen; omega
      case d4 => omega
      case d5 => have h1 := tr.size; have h2 := tab.size; omega
      intro v5 w5' ho5 hg5 hf5 _
      have t5' : Turn (fun q => u21.ownBlock = some q) wb w5' := (Turn.refl (fun q => u21.ownBlock = some q) wb).grown hg5 (fun q h _ => h)
      have HPOST := Lib.hid (page_step HL.out HPS.out HO.out tr tab t5' hf5 ho5 HRD.out (fun q hq => by have hq' : wr.heap.size = q := Option.some.inj hq; omega) (fun q hq => by have hq' : wr.heap.size = q := Option.some.inj hq; omega))
      clear ho5 hg5 hf5 hmodj hwa hwb
      go_wp2_with fail
      go_roundw
      case rel =>
        obtain ⟨T5', ps', hl', hps', ho'⟩ := HPOST.out
        refine ⟨j + 1, by omega, by go_num, ps', ?_, hps', ho', T5'⟩
        rw [onesP_next, HY.out]; exact hl'
      case measure => simp [intOf]; omega
    · obtain rfl : j = m := by omega
      have hpg := pages_of HL.out HPS.out HO.out
      obtain ⟨oa, oc, hov, _⟩ := hpg.form
      rw [onesP_len] at hov
      subst hov
      have HPG := Lib.hid hpg
      have t56 := t6.trans tr (fun _ _ => id)
      have hszr := tr.size
      clear hpg
      go_wp2_with fail
      by_cases h24 : j ≤ 24
      · have e1 : decide ((j : Int) ≤ 24) = true := by simp; omega
        have e2 : decide (j ≤ 24) = true := by simp; omega
        refine (write_h wr F5 _ J D d5 L5 C5 500 _ _ (HJ5.out.turn0 t56) HA5.out HPG.out (fun q hq => ⟨hq.2, fun hF => by have := hF5l q hF; have := hq.1; omega, by have := hq.1; omega⟩) (onesP_ok k j) (by rw [onesP_len]; exact h24) (by rw [hC5l]; exact onesP_fit k j hk0)).mono ?_
        rintro e w8 ⟨rfl, F8, d8, L8, hj8, _, hs8⟩
        have HJ8 := Lib.hid hj8
        have hC8 : ((putM C5 (onesP k j)).length : Int) = (k : Int) := by rw [putM_len, hC5l]
        clear hj8
        go_wp2_with fail
        refine (sectors_h w8 F8 J D d8 L8 _ 500 HJ8.out).mono ?_
        rintro e w9 ⟨rfl, rfl⟩
        rw [hC8]
        clear hC8
        go_wp2_with fail
        refine (on_h w9 F8 J D d8 L8 _ 500 HJ8.out).mono ?_
        rintro e w10 ⟨rfl, rfl⟩
        have HT := Lib.hid ((T5.trans t56 (fun _ _ => id)).trans hs8.turn (fun q hq h => by
          rcases h with h | h
          · have := hF5 q h; omega
          · omega))
        clear hs8 t56 tr T5 T3 t6 t4
        go_wp2_with fail
        go_ret
        exact ⟨rfl, HT.out⟩
      · have e1 : decide ((j : Int) ≤ 24) = false := by simp; omega
        have e2 : decide (j ≤ 24) = false := by simp; omega
        refine (write_no wr F5 _ J D d5 L5 C5 700 _ _ 5 (HJ5.out.turn0 t56) (by omega) HPG.out (fun q hq => ⟨hq.2, fun hF => by have := hF5l q hF; have := hq.1; omega, by have := hq.1; omega⟩) (onesP_ok k j) (by rw [onesP_len]; omega) (.inl ⟨by rw [onesP_len]; omega, rfl⟩)).mono ?_
        rintro e w8 ⟨rfl, F8, hj8, hs8⟩
        have HJ8 := Lib.hid hj8
        have hC8 : (C5.length : Int) = (k : Int) := by rw [hC5l]
        clear hj8
        go_wp2_with fail
        refine (sectors_h w8 F8 J D d5 L5 _ 700 HJ8.out).mono ?_
        rintro e w9 ⟨rfl, rfl⟩
        rw [hC8]
        clear hC8
        go_wp2_with fail
        refine (on_h w9 F8 J D d5 L5 _ 700 HJ8.out).mono ?_
        rintro e w10 ⟨rfl, rfl⟩
        have HT := Lib.hid ((T5.trans t56 (fun _ _ => id)).trans hs8.turn (fun q hq h => by
          rcases h with h | h
          · have := hF5 q h; omega
          · omega))
        clear hs8 t56 tr T5 T3 t6 t4
        go_wp2_with fail
        go_ret
        exact ⟨rfl, HT.out⟩

set_option maxHeartbeats 4000000 in
set_option maxRecDepth 100000 in
theorem errs_ge (vp : Value) (x : Int) (ps : List Int) (n s : Nat) (w : World) (hv : Src w vp ps) (op : BytesOk ps) (np : ∀ k, vp.ownBlock = some k → 0 < ps.length → k < w.heap.size) (hn : n < 256) (hs : s < 256) (h49 : 49 < s) (hp : ps.length ≤ 100) (hx : -9223372036854775808 ≤ x ∧ x < 9223372036854775808)
    (hc : ((s - 49 : Nat) : Int) ≤ x) : Calls Try.prog 4 #[.int .i64 x, vp, .int .u8 (n : Int), .int .u8 (s : Int)] w (AwakePost w) := by
  obtain ⟨i0, hi, hz0, hz1, hz2⟩ := info_parts Try.info46
  have hz46 := zero46
  have HV := Lib.hid hv
  have HOP := Lib.hid op
  have HNP := Lib.hid np
  obtain ⟨ap', cp, rfl, _⟩ := src_any hv
  clear hv op np
  obtain ⟨k, hk⟩ : ∃ k, s - 49 = k := ⟨_, rfl⟩
  try rw [hk] at hc
  have hk0 : 0 < k := by omega
  have hkk : ((k : Int) == 0) = false := by rw [beq_eq_false_iff_ne]; omega
  have hkk2 : (k == 0) = false := by rw [beq_eq_false_iff_ne]; omega
  have hks : (s : Int) - 49 = (k : Int) := by omega
  obtain ⟨m, hm⟩ : ∃ m, n % 40 = m := ⟨_, rfl⟩
  have hm40 : m < 40 := by omega
  have hmod : ((n : Int)).tmod 40 = (m : Int) := by rw [Int.tmod_eq_emod_of_nonneg (by omega)]; omega
  have g1 : decide ((100 : Int) < (ps.length : Int)) = false := by simp; omega
  have g2 : decide (100 < ps.length) = false := by simp; omega
  have g3 : decide ((s : Int) ≤ 49) = false := by simp; omega
  have g4 : decide (s ≤ 49) = false := by simp; omega
  have c1 : decide ((0 : Int) ≤ x) = true := by simp; omega
  have c2 : decide (x < (k : Int)) = false := by simp; omega
  clear hm
  go_enter Try.func4, Try.ntmps4
  go_wp2_with fail
  refine (awake_any w).mono ?_
  rintro e w1 ⟨rfl, t1⟩
  go_wp2_with fail
  refine (new_h w1 s 1000 (by omega) (by omega)).mono ?_
  rintro e w2 ⟨D, F2, rfl, hd2, hF2, t2⟩
  have HD2 := Lib.hid hd2
  clear hd2
  go_wp2_with fail
  refine (open_h w2 F2 D (newM s) 0 _ 900 HD2.out rfl (by omega)).mono ?_
  rintro e w3 ⟨J, F3, d3, L3, rfl, hj3, ha3, hJ3, hs3, hL3⟩
  have T3 : Turn (fun _ => False) w w3 := ((t1.trans t2 (fun _ _ => id))).trans hs3.turn (fun q hq h => by have := hF2 q h; have := t1.size; omega)
  have hF3 : ∀ q, F3 q → w.heap.size ≤ q := fun q hq => by
    have := t1.size; have := t2.size
    rcases hs3.grown q hq with h | h
    · have := hF2 q h; omega
    · omega
  obtain ⟨C, hCe⟩ : ∃ C, List.replicate (s - 49) noughts = C := ⟨_, rfl⟩
  have hC : C.length = k := by rw [← hCe]; simp [hk]
  rw [hCe] at hj3
  have HJ3 := Lib.hid hj3
  have HA3 := Lib.hid ha3
  have hJw : w.heap.size ≤ J := by have := t1.size; have := t2.size; omega
  have hJlt := hj3.jh.jat.lt
  have hF3l := hj3.jh.dh.2
  clear hj3 ha3 hs3 hF2 t1 t2 hJ3 hCe hk
  go_wp2_with fail
  have hpg := pages_two w3 (fun q => q < w.heap.size ∨ (w3.heap.size ≤ q ∧ q < w3.heap.size + 1)) 0 x (.slice none 0 0) (.slice ap' ps.length cp) [] ps (nil_src _) (HV.out.turn T3 (fun _ _ => id)) (fun h => by simp at h) (fun h0 q hq => .inl (HNP.out q hq h0)) (.inr ⟨by omega, by omega⟩)
  have t4 := (Turn.refl (fun _ => False) w3).alloc (.cells #[.int .i64 0, .slice none 0 0, .int .i64 x, .slice ap' ps.length cp] 46)
  have hsz4 : (w3.alloc (.cells #[.int .i64 0, .slice none 0 0, .int .i64 x, .slice ap' ps.length cp] 46)).heap.size = w3.heap.size + 1 := by simp
  generalize w3.alloc (.cells #[.int .i64 0, .slice none 0 0, .int .i64 x, .slice ap' ps.length cp] 46) = w4 at hpg t4 hsz4 ⊢
  refine (write_no w4 F3 _ J D d3 L3 _ 900 _ _ 1 (HJ3.out.turn0 t4) (by omega) hpg (fun q hq => ⟨by have := T3.size; omega, fun hF => by have := hF3l q hF; have := hF3 q hF; omega, by omega⟩) (fun y hy' => by
    simp at hy'
    rcases hy' with rfl | rfl
    · intro z hz; simp at hz
    · exact HOP.out) (by simp) (.inr ⟨by simp, fits_bad (j := 1) (x := (x, ps)) rfl (by rw [hC]; dsimp only; omega), rfl⟩)).mono ?_
  rintro e w5 ⟨rfl, F5, hj5', hs5⟩
  have hj5 : JC w5 F5 J D d3 L3 C 700 := { hj5' with room := hj5'.room.less (by omega), lim := by have := hj5'.lim; omega }
  obtain ⟨C5, hC5⟩ : ∃ C5, C = C5 := ⟨_, rfl⟩
  obtain ⟨d5, hd5⟩ : ∃ d5, d3 = d5 := ⟨_, rfl⟩
  obtain ⟨L5, hL5⟩ : ∃ L5, L3 = L5 := ⟨_, rfl⟩
  have HA5 := Lib.hid (hd5 ▸ HA3.out)
  rw [hd5, hL5] at hj5
  rw [hC5] at hj5
  have hC5l : C5.length = k := by rw [← hC5]; exact hC
  have T5 : Turn (fun _ => False) w w5 := (T3.trans t4 (fun _ _ => id)).trans hs5.turn (fun q hq h => by
    rcases h with h | h
    · have := hF3 q h; omega
    · omega)
  have hF5 : ∀ q, F5 q → w.heap.size ≤ q := fun q hq => by
    rcases hs5.grown q hq with h | h
    · exact hF3 q h
    · have := T3.size; omega
  have HJ5 := Lib.hid hj5
  clear hj5 hpg hs5 hC5
  go_wp2_with fail
  refine (jread_bad w5 F5 J D d5 L5 x HJ5.out.jh (by have hl5 := HJ5.out.calm.calm.len; rw [hl5, hC5l]; omega)).mono ?_
  rintro e w6 ⟨rfl, hw6⟩
  have t6 : Turn (fun _ => False) w5 w6 := by rw [hw6]; exact Turn.refl _ _
  clear hw6
  have hF5l := HJ5.out.jh.dh.2
  have hJlt5 := HJ5.out.jh.jat.lt
  have hs56 := t6.size
  go_wp2_with fail
  go_loopw [21, 22] (fun ov iv wr => ∃ j : Nat, j ≤ m ∧ iv = .int .i64 (j : Int) ∧ ∃ pq, onesP k j = pq.map (fun p => (p.1, p.2.2)) ∧ PsOk w6 wr ov pq ∧ wr.ownsRow w6.heap.size 46 2 ov j (flatP pq) ∧ Turn (fun _ => False) w6 wr) (fun _ iv _ => (m - intOf iv).toNat)
  case atStart => exact ⟨0, Nat.zero_le _, rfl, [], rfl, (fun p hp => by simp at hp), World.ownsRow_nil _ _ _ _, Turn.refl _ _⟩
  case round =>
    obtain ⟨j, hj, rfl, pq, hl, hps, ho, tr⟩ := hrel
    have HL := Lib.hid hl
    have HPS := Lib.hid hps
    have HO := Lib.hid ho
    clear hl hps ho
    by_cases hlt : j < m
    · have hd3 : decide ((j : Int) < (m : Int)) = true := by simp; omega
      obtain ⟨y, hy⟩ : ∃ y, j % k = y := ⟨_, rfl⟩
      have hmodj : ((j : Int)).tmod (k : Int) = (y : Int) := by rw [Int.tmod_eq_emod_of_nonneg (by omega)]; rw [← hy]; omega
      have HY := Lib.hid hy
      clear hy
      have ta : Turn (fun _ => False) wr (wr.alloc (.cells #[.int .u8 1] 5)) := (Turn.refl _ wr).alloc _
      have hrd := reads_block (w := wr.alloc (.cells #[.int .u8 1] 5)) (g := wr.heap.size) (xs := [1]) (ty := 5) (f := (0, 0)) (heap_alloc_new wr _) 1 rfl
      have hsza : (wr.alloc (.cells #[.int .u8 1] 5)).heap.size = wr.heap.size + 1 := by simp
      obtain ⟨wa, hwa⟩ : ∃ wa, wr.alloc (.cells #[.int .u8 1] 5) = wa := ⟨_, rfl⟩
      rw [hwa] at ta hrd hsza
      have tb : Turn (fun _ => False) wa (wa.alloc (.cells #[.int .i64 (y : Int), .slice (some ⟨wr.heap.size, 0, none⟩) 1 1] 46)) := (Turn.refl _ wa).alloc _
      have hnb := heap_alloc_new wa (.cells #[.int .i64 (y : Int), .slice (some ⟨wr.heap.size, 0, none⟩) 1 1] 46)
      have hszb : (wa.alloc (.cells #[.int .i64 (y : Int), .slice (some ⟨wr.heap.size, 0, none⟩) 1 1] 46)).heap.size = wr.heap.size + 2 := by simp [hsza]
      obtain ⟨wb, hwb⟩ : ∃ wb, wa.alloc (.cells #[.int .i64 (y : Int), .slice (some ⟨wr.heap.size, 0, none⟩) 1 1] 46) = wb := ⟨_, rfl⟩
      rw [hwb, hsza] at hnb
      rw [hwb] at tb hszb
      have hnews : ∀ (q : Nat) u, [Value.int .i64 (y : Int), .slice (some ⟨wr.heap.size, 0, none⟩) 1 1][q]? = some u → wb.cell? ((⟨wr.heap.size + 1, 0, none⟩ : Addr).add q) = some u := by
        intro q u hq
        rw [Addr.add_mid, Nat.zero_add, cell_of_row _ _ _ _ 46 (0, 0) hnb]
        simpa using hq
      have HNW := Lib.hid hnews
      have tab := ta.trans tb (fun _ _ => id)
      have HOB := Lib.hid (tab.owns HO.out (fun _ _ => id))
      have HRD := Lib.hid (hrd.turn tb (fun _ _ => id))
      clear hnews hnb hrd
      go_wp2_with (at_builtin; refine wpList_append_where _ rfl (.tmp 115) (.tmp 121) 34 rfl w6.heap.size 46 i0 (.agg #[.int .i64 0, .slice none 0 0]) 2 32 Try.underlying34 hi hz0 hz1 hz2 rfl (by decide) _ j (flatP pq) rfl HOB.out ⟨wr.heap.size + 1, 0, none⟩ 1 1 [.int .i64 (y : Int), .slice (some ⟨wr.heap.size, 0, none⟩) 1 1] rfl rfl HNW.out (fun u hu => by simp at hu; rcases hu with rfl | rfl <;> rfl) ?d3 ?d4 ?d5 ?_)
      case d3 => unfold maxLen; omega
      case d4 => omega
      case d5 => have h1 := tr.size; have h2 := tab.size; omega
      intro v5 w5' ho5 hg5 hf5 _
      have t5' : Turn (fun q => u21.ownBlock = some q) wb w5' := (Turn.refl (fun q => u21.ownBlock = some q) wb).grown hg5 (fun q h _ => h)
      have HPOST := Lib.hid (page_step HL.out HPS.out HO.out tr tab t5' hf5 ho5 HRD.out (fun q hq => by have hq' : wr.heap.size = q := Option.some.inj hq; omega) (fun q hq => by have hq' : wr.heap.size = q := Option.some.inj hq; omega))
      clear ho5 hg5 hf5 hmodj hwa hwb
      go_wp2_with fail
      go_roundw
      case rel =>
        obtain ⟨T5', ps', hl', hps', ho'⟩ := HPOST.out
        refine ⟨j + 1, by omega, by go_num, ps', ?_, hps', ho', T5'⟩
        rw [onesP_next, HY.out]; exact hl'
      case measure => simp [intOf]; omega
    · obtain rfl : j = m := by omega
      have hpg := pages_of HL.out HPS.out HO.out
      obtain ⟨oa, oc, hov, _⟩ := hpg.form
      rw [onesP_len] at hov
      subst hov
      have HPG := Lib.hid hpg
      have t56 := t6.trans tr (fun _ _ => id)
      have hszr := tr.size
      clear hpg
      go_wp2_with fail
      by_cases h24 : j ≤ 24
      · have e1 : decide ((j : Int) ≤ 24) = true := by simp; omega
        have e2 : decide (j ≤ 24) = true := by simp; omega
        refine (write_h wr F5 _ J D d5 L5 C5 500 _ _ (HJ5.out.turn0 t56) HA5.out HPG.out (fun q hq => ⟨hq.2, fun hF => by have := hF5l q hF; have := hq.1; omega, by have := hq.1; omega⟩) (onesP_ok k j) (by rw [onesP_len]; exact h24) (by rw [hC5l]; exact onesP_fit k j hk0)).mono ?_
        rintro e w8 ⟨rfl, F8, d8, L8, hj8, _, hs8⟩
        have HJ8 := Lib.hid hj8
        have hC8 : ((putM C5 (onesP k j)).length : Int) = (k : Int) := by rw [putM_len, hC5l]
        clear hj8
        go_wp2_with fail
        refine (sectors_h w8 F8 J D d8 L8 _ 500 HJ8.out).mono ?_
        rintro e w9 ⟨rfl, rfl⟩
        rw [hC8]
        clear hC8
        go_wp2_with fail
        refine (on_h w9 F8 J D d8 L8 _ 500 HJ8.out).mono ?_
        rintro e w10 ⟨rfl, rfl⟩
        have HT := Lib.hid ((T5.trans t56 (fun _ _ => id)).trans hs8.turn (fun q hq h => by
          rcases h with h | h
          · have := hF5 q h; omega
          · omega))
        clear hs8 t56 tr T5 T3 t6 t4
        go_wp2_with fail
        go_ret
        exact ⟨rfl, HT.out⟩
      · have e1 : decide ((j : Int) ≤ 24) = false := by simp; omega
        have e2 : decide (j ≤ 24) = false := by simp; omega
        refine (write_no wr F5 _ J D d5 L5 C5 700 _ _ 5 (HJ5.out.turn0 t56) (by omega) HPG.out (fun q hq => ⟨hq.2, fun hF => by have := hF5l q hF; have := hq.1; omega, by have := hq.1; omega⟩) (onesP_ok k j) (by rw [onesP_len]; omega) (.inl ⟨by rw [onesP_len]; omega, rfl⟩)).mono ?_
        rintro e w8 ⟨rfl, F8, hj8, hs8⟩
        have HJ8 := Lib.hid hj8
        have hC8 : (C5.length : Int) = (k : Int) := by rw [hC5l]
        clear hj8
        go_wp2_with fail
        refine (sectors_h w8 F8 J D d5 L5 _ 700 HJ8.out).mono ?_
        rintro e w9 ⟨rfl, rfl⟩
        rw [hC8]
        clear hC8
        go_wp2_with fail
        refine (on_h w9 F8 J D d5 L5 _ 700 HJ8.out).mono ?_
        rintro e w10 ⟨rfl, rfl⟩
        have HT := Lib.hid ((T5.trans t56 (fun _ _ => id)).trans hs8.turn (fun q hq h => by
          rcases h with h | h
          · have := hF5 q h; omega
          · omega))
        clear hs8 t56 tr T5 T3 t6 t4
        go_wp2_with fail
        go_ret
        exact ⟨rfl, HT.out⟩

set_option maxHeartbeats 1600000 in
set_option maxRecDepth 100000 in
theorem errs_small (vp : Value) (x : Int) (ps : List Int) (n s : Nat) (w : World) (hv : Src w vp ps) (hs : s < 256) (h49 : s ≤ 49) (hp : ps.length ≤ 100) :
    Calls Try.prog 4 #[.int .i64 x, vp, .int .u8 (n : Int), .int .u8 (s : Int)] w (AwakePost w) := by
  obtain ⟨ap', cp, rfl, _⟩ := src_any hv
  clear hv
  have g1 : decide ((100 : Int) < (ps.length : Int)) = false := by simp; omega
  have g2 : decide (100 < ps.length) = false := by simp; omega
  have g3 : decide ((s : Int) ≤ 49) = true := by simp; omega
  have g4 : decide (s ≤ 49) = true := by simp; omega
  go_enter Try.func4, Try.ntmps4
  go_wp2_with fail
  refine (awake_any w).mono ?_
  rintro e w1 ⟨rfl, t1⟩
  go_wp2_with fail
  refine (new_dh s w1 (s : Int) (by omega)).mono ?_
  rintro e w2 ⟨D, F2, rfl, hd2, hF2, t2⟩
  have hlen : (newM s).safe.length ≤ 49 := by simp [newM]; omega
  have hom : openM (newM s) = (newM s, 1) := by unfold openM; rw [if_pos hlen]
  have HOM := Lib.hid hom
  have HD2 := Lib.hid hd2
  clear hd2 hom
  go_wp2_with fail
  refine (open_bad w2 F2 D (newM s) HD2.out (.inl hlen)).mono ?_
  rintro e w3 ⟨F3, hd3, hs3, hp3⟩
  rw [HOM.out, if_neg (by show ¬ ((1 : Int) = 0); decide)] at hp3
  subst hp3
  have HT3 := Lib.hid ((t1.trans t2 (fun _ _ => id)).trans hs3.turn (fun q hq h => by have := hF2 q h; have := t1.size; omega))
  clear hd3 hs3 t1 t2
  go_wp2_with fail
  refine (nil_open w3).mono ?_
  rintro e w4 ⟨rfl, rfl⟩
  go_wp2_with fail
  refine (nilj_read w4 x).mono ?_
  rintro e w5 ⟨rfl, rfl⟩
  go_wp2_with fail
  refine (nilj_sectors w5).mono ?_
  rintro e w6 ⟨rfl, rfl⟩
  go_wp2_with fail
  refine (nilj_write w6 _).mono ?_
  rintro e w7 ⟨rfl, rfl⟩
  go_wp2_with fail
  refine (nilj_on w7).mono ?_
  rintro e w8 ⟨rfl, rfl⟩
  go_wp2_with fail
  go_ret
  exact ⟨rfl, HT3.out⟩
set_option maxHeartbeats 1600000 in
set_option maxRecDepth 100000 in
theorem journalErrs_walk (vp : Value) (x : Int) (ps : List Int) (n s : Int) (w : World) (hx : -9223372036854775808 ≤ x ∧ x < 9223372036854775808) (hv : Src w vp ps) (op : BytesOk ps) (np : ∀ k, vp.ownBlock = some k → 0 < ps.length → k < w.heap.size) (hn : 0 ≤ n ∧ n < 256) (hs : 0 ≤ s ∧ s < 256) :
    Calls Try.prog 4 #[.int .i64 x, vp, .int .u8 n, .int .u8 s] w (AwakePost w) := by
  obtain ⟨n, rfl⟩ := Int.eq_ofNat_of_zero_le hn.1
  obtain ⟨s, rfl⟩ := Int.eq_ofNat_of_zero_le hs.1
  by_cases hp : ps.length ≤ 100
  · by_cases h49 : s ≤ 49
    · exact errs_small vp x ps n s w hv (by omega) h49 hp
    · by_cases h1 : x < 0
      · exact errs_neg vp x ps n s w hv op np (by omega) (by omega) (by omega) hp hx h1
      · by_cases h2 : x < ((s - 49 : Nat) : Int)
        · by_cases h3 : ps.length ≤ 64
          · exact errs_in64 vp x ps n s w hv op np (by omega) (by omega) (by omega) hp hx ⟨by omega, h2⟩ h3
          · exact errs_in65 vp x ps n s w hv op np (by omega) (by omega) (by omega) hp hx ⟨by omega, h2⟩ (by omega)
        · exact errs_ge vp x ps n s w hv op np (by omega) (by omega) (by omega) hp hx (by omega)
  · obtain ⟨aa, ca, rfl, _⟩ := src_any hv
    clear hv op np
    have g1 : decide ((100 : Int) < (ps.length : Int)) = true := by simp; omega
    have g2 : decide (100 < ps.length) = true := by simp; omega
    go_enter Try.func4, Try.ntmps4
    go_wp2_with fail
    refine (awake_any w).mono ?_
    rintro e w1 ⟨rfl, t1⟩
    go_wp2_with fail
    refine (awake_any w1).mono ?_
    rintro e w2 ⟨rfl, t2⟩
    go_wp2_with fail
    go_ret
    exact ⟨rfl, t1.trans t2 (fun _ _ => id)⟩
end Go.Proofs.Ytakmkkgpkbpbkaa
