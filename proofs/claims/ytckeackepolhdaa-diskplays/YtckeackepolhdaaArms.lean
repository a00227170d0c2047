/- Own: a disk's counts; the walk of DiskArms. -/
import Derived.Test.YtckeackepolhdaaHas
namespace Go.Proofs.Ytckeackepolhdaa
open Go.RowKit
set_option linter.unusedVariables false
set_option linter.unusedSimpArgs false

/-- A disk's counts. -/
structure St (d : DiskM) (n wet acts : Nat) (armed : Bool) (left : Nat) (off : Bool) : Prop where
  n : d.safe.length = n
  wet : d.wet.length = wet
  acts : d.acts = acts
  armed : d.armed = armed
  left : d.left = left
  off : d.off = off
theorem St.fits {d : DiskM} {n wet acts left : Nat} {armed off : Bool} (h : St d n wet acts armed left off) (h1 : wet ≤ 1000000000000) (h2 : acts < 4611686018427387904) (h3 : left < 4611686018427387904) : Fits d :=
  ⟨by rw [h.acts]; exact h2, by rw [h.left]; exact h3, by rw [h.wet]; exact h1⟩
theorem St.new (n : Nat) : St (newM n) n 0 0 false 0 false := ⟨by simp [newM], rfl, rfl, rfl, rfl, rfl⟩
theorem St.arm {d : DiskM} {n wet acts left : Nat} {armed off : Bool} (h : St d n wet acts armed left off) (k : Nat) : St (d.armedBy (k : Int)) n wet acts true k off :=
  ⟨h.n, h.wet, h.acts, by simp [DiskM.armedBy], by simp [DiskM.armedBy], h.off⟩
theorem St.act_free {d : DiskM} {n wet acts left : Nat} {off : Bool} (h : St d n wet acts false left off) : St d.act n wet (acts + 1) false left off ∧ d.actE = 0 := by
  obtain ⟨ds, dw, da, dm, dl, df⟩ := d
  obtain ⟨h1, h2, h3, h4, h5, h6⟩ := h
  dsimp only at h1 h2 h3 h4 h5 h6
  subst h3 h4 h5 h6
  exact ⟨⟨h1, h2, rfl, rfl, rfl, rfl⟩, rfl⟩
theorem St.act_more {d : DiskM} {n wet acts left : Nat} {off : Bool} (h : St d n wet acts true (left + 1) off) : St d.act n wet (acts + 1) true left off ∧ d.actE = 0 := by
  obtain ⟨ds, dw, da, dm, dl, df⟩ := d
  obtain ⟨h1, h2, h3, h4, h5, h6⟩ := h
  dsimp only at h1 h2 h3 h4 h5 h6
  subst h3 h4 h5 h6
  exact ⟨⟨h1, h2, rfl, rfl, rfl, rfl⟩, rfl⟩
theorem St.act_stop {d : DiskM} {n wet acts : Nat} {off : Bool} (h : St d n wet acts true 0 off) : St d.act n wet (acts + 1) true 0 true ∧ d.actE = 9 := by
  obtain ⟨ds, dw, da, dm, dl, df⟩ := d
  obtain ⟨h1, h2, h3, h4, h5, h6⟩ := h
  dsimp only at h1 h2 h3 h4 h5 h6
  subst h3 h4 h5 h6
  exact ⟨⟨h1, h2, rfl, rfl, rfl, rfl⟩, rfl⟩
theorem St.put {d : DiskM} {n wet acts left : Nat} {armed off : Bool} (h : St d n wet acts armed left off) (x : Nat × List Int) : St { d with wet := d.wet ++ [x] } n (wet + 1) acts armed left off :=
  ⟨h.n, by simp [h.wet], h.acts, h.armed, h.left, h.off⟩
theorem St.write_eq {d : DiskM} {n wet acts left : Nat} {armed : Bool} (h : St d n wet acts armed left false) (i : Nat) (xs : List Int) (hi : i < n) (hx : xs.length ≤ 64) :
    d.write (i : Int) xs = (({ d with wet := d.wet ++ [(i, pad64 xs)] } : DiskM).act, ({ d with wet := d.wet ++ [(i, pad64 xs)] } : DiskM).actE) := by
  unfold DiskM.write
  rw [if_pos ⟨by rw [h.n]; omega, hx⟩, h.off, if_neg (by decide), Int.toNat_natCast]
theorem St.write_off {d : DiskM} {n wet acts left : Nat} {armed : Bool} (h : St d n wet acts armed left true) (i : Nat) (xs : List Int) (hi : i < n) (hx : xs.length ≤ 64) : d.write (i : Int) xs = (d, 9) := by
  unfold DiskM.write
  rw [if_pos ⟨by rw [h.n]; omega, hx⟩, h.off, if_pos rfl]
theorem St.crash {d : DiskM} {n wet acts left : Nat} {armed off : Bool} (h : St d n wet acts armed left off) (ms : List Int) : St (d.crashed ms) n 0 acts false 0 false :=
  ⟨by simp [DiskM.crashed, keepK_len, h.n], rfl, h.acts, rfl, rfl, rfl⟩
theorem St.flushed {d : DiskM} {n wet acts left : Nat} {armed off : Bool} (h : St d n wet acts armed left off) : St d.flushed n 0 acts armed left off :=
  ⟨by simp [DiskM.flushed, keepK_len, h.n], rfl, h.acts, h.armed, h.left, h.off⟩
theorem St.flush_free {d : DiskM} {n wet acts left : Nat} (h : St d n wet acts false left false) : St d.flush.1 n 0 (acts + 1) false left false ∧ d.flush.2 = 0 := by
  obtain ⟨h1, h2⟩ := h.act_free
  unfold DiskM.flush
  rw [h.off, if_neg (by decide), h2, if_neg (by decide)]
  exact ⟨h1.flushed, rfl⟩
theorem St.flush_stop {d : DiskM} {n wet acts : Nat} (h : St d n wet acts true 0 false) : d.flush = (d.act, 9) ∧ St d.act n wet (acts + 1) true 0 true := by
  obtain ⟨h1, h2⟩ := h.act_stop
  unfold DiskM.flush
  rw [h.off, if_neg (by decide), h2, if_pos rfl]
  exact ⟨rfl, h1⟩

/-- A byte that was just made is written. -/
theorem write_new (w0 w : World) (D : Nat) (d : DiskM) (i : Int) (x : Int) (h : Has w0 w D d) (hf : Fits d) (hx : 0 ≤ x ∧ x < 256) :
    Calls Try.prog 14 #[.pointer (some ⟨D, 0, none⟩), .int .i64 i, .slice (some ⟨w.heap.size, 0, none⟩) 1 1] (w.alloc (.cells #[.int .u8 x] 5)) (RetHas w0 D (d.write i [x]).1 (.int .i64 (d.write i [x]).2)) :=
  write_has w0 _ D d i _ [x] (h.turn ((Turn.refl (fun _ => False) w).alloc _)) hf (.inl (one_reads w x (0, 0))) (one_ok x hx)

set_option maxHeartbeats 4000000 in
set_option maxRecDepth 100000 in
theorem diskArms_walk (n : Int) (fl : Bool) (w : World) (hn : 0 ≤ n ∧ n < 256) : Calls Try.prog 8 #[.int .u8 n, .bool fl] w (AwakePost w) := by
  obtain ⟨k, hk⟩ : ∃ k : Nat, n % 40 = (k : Int) := ⟨(n % 40).toNat, by omega⟩
  have hk40 : k < 40 := by omega
  have hk2 : n.tmod 40 = (k : Int) := by rw [Int.tmod_eq_emod_of_nonneg hn.1]; exact hk
  go_enter Try.func8, Try.ntmps8
  go_wp2_with fail
  refine (awake_any w).mono ?_
  rintro e w1 ⟨rfl, t1⟩
  go_wp2_with fail
  refine (new_has 2 w w1 2 rfl t1).mono ?_
  rintro e w2 ⟨D, rfl, h2⟩
  have H2 := Lib.hid h2
  clear h2
  go_wp2_with fail
  refine (arm_has w w2 D _ (k : Int) H2.out (by omega)).mono ?_
  rintro e w3 ⟨rfl, h3⟩
  have H3 := Lib.hid h3
  have S3 := Lib.hid ((St.new 2).arm k)
  clear h3
  go_wp2_with fail
  go_loopw [7] (fun iv wr => ∃ (i : Nat) (d : DiskM), i ≤ k ∧ iv = .int .i64 (i : Int) ∧ Has w wr D d ∧ St d 2 i i true (k - i) false) (fun iv _ => (k - intOf iv).toNat)
  case atStart => exact ⟨0, _, Nat.zero_le _, rfl, H3.out, S3.out⟩
  case round =>
    clear H2 H3 S3
    obtain ⟨i, d, hi, rfl, hd, hst⟩ := hrel
    have HD := Lib.hid hd
    have HS := Lib.hid hst
    clear hd hst
    have hfit : Fits d := HS.out.fits (by omega) (by omega) (by omega)
    by_cases hlt : i < k
    · have hdk : decide ((i : Int) < (k : Int)) = true := by simp; omega
      have hlf : k - i = (k - (i + 1)) + 1 := by omega
      have hs1 := HS.out
      rw [hlf] at hs1
      have hweq := HS.out.write_eq (i % 2) [1] (Nat.mod_lt _ (by omega)) (by simp)
      obtain ⟨hs2, he2⟩ := (hs1.put (i % 2, pad64 [1])).act_more
      go_wp2_with fail
      refine (write_new w wr D d ((i % 2 : Nat) : Int) 1 HD.out hfit (by decide)).mono ?_
      rintro e w4 ⟨rfl, h4⟩
      rw [hweq] at h4
      rw [hweq, he2]
      have H4 := Lib.hid h4
      have S4 := Lib.hid hs2
      clear h4 hs2 hs1 hweq he2
      go_wp2_with fail
      go_roundw
      case rel => exact ⟨i + 1, _, by omega, by go_num, H4.out, S4.out⟩
      case measure => simp [intOf]; omega
    · obtain rfl : i = k := by omega
      have hdk : decide ((i : Int) < (i : Int)) = false := by simp
      have hs1 := HS.out
      rw [Nat.sub_self] at hs1
      have hweq := hs1.write_eq 0 [2] (by omega) (by simp)
      obtain ⟨hs2, he2⟩ := (hs1.put (0, pad64 [2])).act_stop
      go_wp2_with fail
      refine (write_new w wr D d ((0 : Nat) : Int) 2 HD.out hfit (by decide)).mono ?_
      rintro e w4 ⟨rfl, h4⟩
      rw [hweq] at h4
      rw [hweq, he2]
      have H4 := Lib.hid h4
      have S4 := Lib.hid hs2
      clear h4 hs2 hs1 hweq he2 HS HD hfit
      generalize ({ d with wet := d.wet ++ [(0, pad64 [2])] } : DiskM).act = d4 at H4 S4
      cases fl with
      | false =>
        go_wp2_with fail
        have hw5 := S4.out.write_off 1 [] (by omega) (by simp)
        refine (write_has w w4 D d4 ((1 : Nat) : Int) _ [] H4.out (S4.out.fits (by omega) (by omega) (by omega)) (nil_src w4) (fun x hx => (by cases hx))).mono ?_
        rintro e w5 ⟨rfl, h5⟩
        rw [hw5] at h5
        rw [hw5]
        have H5 := Lib.hid h5
        clear h5 hw5
        go_wp2_with fail
        refine (on_has w w5 D d4 H5.out).mono ?_
        rintro e w6 ⟨rfl, rfl⟩
        rw [S4.out.off]
        go_wp2_with fail
        refine (crash_has w w6 D d4 _ [] H5.out (S4.out.fits (by omega) (by omega) (by omega)) (nil_src w6) (fun h => (by simp at h)) (fun x hx => (by cases hx)) (by simp)).mono ?_
        rintro e w7 ⟨rfl, h7⟩
        have H7 := Lib.hid h7
        have S7 := Lib.hid (S4.out.crash [])
        clear h7
        generalize d4.crashed [] = d7 at H7 S7
        go_wp2_with fail
        refine (on_has w w7 D d7 H7.out).mono ?_
        rintro e w8 ⟨rfl, rfl⟩
        rw [S7.out.off]
        go_wp2_with fail
        have hw8 := S7.out.write_eq 1 [] (by omega) (by simp)
        obtain ⟨hs8, he8⟩ := (S7.out.put (1, pad64 [])).act_free
        refine (write_has w w8 D d7 ((1 : Nat) : Int) _ [] H7.out (S7.out.fits (by omega) (by omega) (by omega)) (nil_src w8) (fun x hx => (by cases hx))).mono ?_
        rintro e w9 ⟨rfl, h9⟩
        rw [hw8] at h9
        rw [hw8, he8]
        have H9 := Lib.hid h9
        have S9 := Lib.hid hs8
        clear h9 hs8 hw8 he8
        generalize ({ d7 with wet := d7.wet ++ [(1, pad64 [])] } : DiskM).act = d9 at H9 S9
        go_wp2_with fail
        refine (flush_has w w9 D d9 H9.out (S9.out.fits (by omega) (by omega) (by omega))).mono ?_
        rintro e w10 ⟨rfl, h10⟩
        rw [S9.out.flush_free.2]
        have HT := Lib.hid h10.turned
        clear h10
        go_wp2_with fail
        go_ret
        exact ⟨rfl, HT.out⟩
      | true =>
        go_wp2_with fail
        refine (crash_has_new w w4 D d4 255 H4.out (S4.out.fits (by omega) (by omega) (by omega)) (by decide)).mono ?_
        rintro e w4a ⟨rfl, h4a⟩
        have H4a := Lib.hid h4a
        have S4a := Lib.hid (S4.out.crash [255])
        clear h4a H4 S4
        generalize d4.crashed [255] = d4a at H4a S4a
        go_wp2_with fail
        refine (arm_has w w4a D d4a ((0 : Nat) : Int) H4a.out (by omega)).mono ?_
        rintro e w4b ⟨rfl, h4b⟩
        have H4b := Lib.hid h4b
        have S4b := Lib.hid (S4a.out.arm 0)
        clear h4b H4a S4a
        generalize d4a.armedBy ((0 : Nat) : Int) = d4b at H4b S4b
        go_wp2_with fail
        refine (flush_has w w4b D d4b H4b.out (S4b.out.fits (by omega) (by omega) (by omega))).mono ?_
        rintro e w5c ⟨rfl, h4c⟩
        obtain ⟨hfe, hfs⟩ := S4b.out.flush_stop
        rw [hfe] at h4c
        rw [hfe]
        have H4 := Lib.hid h4c
        have S4 := Lib.hid hfs
        clear h4c hfs hfe H4b S4b
        generalize d4b.act = d4 at H4 S4
        go_wp2_with fail
        have hw5 := S4.out.write_off 1 [] (by omega) (by simp)
        refine (write_has w w5c D d4 ((1 : Nat) : Int) _ [] H4.out (S4.out.fits (by omega) (by omega) (by omega)) (nil_src w5c) (fun x hx => (by cases hx))).mono ?_
        rintro e w5 ⟨rfl, h5⟩
        rw [hw5] at h5
        rw [hw5]
        have H5 := Lib.hid h5
        clear h5 hw5
        go_wp2_with fail
        refine (on_has w w5 D d4 H5.out).mono ?_
        rintro e w6 ⟨rfl, rfl⟩
        rw [S4.out.off]
        go_wp2_with fail
        refine (crash_has w w6 D d4 _ [] H5.out (S4.out.fits (by omega) (by omega) (by omega)) (nil_src w6) (fun h => (by simp at h)) (fun x hx => (by cases hx)) (by simp)).mono ?_
        rintro e w7 ⟨rfl, h7⟩
        have H7 := Lib.hid h7
        have S7 := Lib.hid (S4.out.crash [])
        clear h7
        generalize d4.crashed [] = d7 at H7 S7
        go_wp2_with fail
        refine (on_has w w7 D d7 H7.out).mono ?_
        rintro e w8 ⟨rfl, rfl⟩
        rw [S7.out.off]
        go_wp2_with fail
        have hw8 := S7.out.write_eq 1 [] (by omega) (by simp)
        obtain ⟨hs8, he8⟩ := (S7.out.put (1, pad64 [])).act_free
        refine (write_has w w8 D d7 ((1 : Nat) : Int) _ [] H7.out (S7.out.fits (by omega) (by omega) (by omega)) (nil_src w8) (fun x hx => (by cases hx))).mono ?_
        rintro e w9 ⟨rfl, h9⟩
        rw [hw8] at h9
        rw [hw8, he8]
        have H9 := Lib.hid h9
        have S9 := Lib.hid hs8
        clear h9 hs8 hw8 he8
        generalize ({ d7 with wet := d7.wet ++ [(1, pad64 [])] } : DiskM).act = d9 at H9 S9
        go_wp2_with fail
        refine (flush_has w w9 D d9 H9.out (S9.out.fits (by omega) (by omega) (by omega))).mono ?_
        rintro e w10 ⟨rfl, h10⟩
        rw [S9.out.flush_free.2]
        have HT := Lib.hid h10.turned
        clear h10
        go_wp2_with fail
        go_ret
        exact ⟨rfl, HT.out⟩
end Go.Proofs.Ytckeackepolhdaa
