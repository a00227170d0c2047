/- Own contracts: what bytes tell as a chart, whole. No statement is proved here. -/
import Derived.Test.YtokjlhpkjebnkaaPd
import Derived.Deep.Cut
import Derived.Deep.CutRange
namespace Go.Proofs.Ytokjlhpkjebnkaa
set_option maxRecDepth 100000
open Go.RowKit
set_option linter.unusedVariables false
set_option linter.unusedSimpArgs false


theorem DeS.elem {w W : World} {X G : Nat} {o : Option (List Int)} (h : DeS w W X G o) (a : Int) (ha : 0 ≤ a ∧ a ≤ 1000000000) : Calls Try.prog 51 #[.pointer (some ⟨X, 0, none⟩), .int .i64 a] W fun e w' => e = .returned (.agg (stElem a o).1.vals.toArray) ∧ DeS w w' X G (stElem a o).2 ∧ Turn (fun k => k = X) W w' :=
  (element_st X G a ha W o h.st h.gl).mono fun e w' hp => ⟨hp.1, h.next hp.2.1 hp.2.2, hp.2.2⟩
theorem stElem_id (a : Int) (o : Option (List Int)) : a ≤ (stElem a o).1.id ∧ (stElem a o).1.id ≤ a + 1048576 := by
  have := stNum_range (most := 1048576) (by omega) o
  unfold stElem
  dsimp only
  omega
/-- The row behind k rounds: k elements, and zero elements. -/
structure RowS (W : World) (R k n : Nat) (L : List El) : Prop where
  len : L.length = k
  cells : W.heap[R]? = some (.cells (elsV (L ++ List.replicate (n - k) el0)).toArray 24 (0, 0))
theorem set_next {L : List El} {n k : Nat} (E : El) (hk : L.length = k) (hlt : k < n) : (L ++ List.replicate (n - k) el0).set k E = (L ++ [E]) ++ List.replicate (n - (k + 1)) el0 := by
  rw [List.set_append_right _ _ (by omega), hk, Nat.sub_self, show n - k = (n - (k + 1)) + 1 by omega, List.replicate_succ, List.set_cons_zero, List.append_assoc]
  rfl
theorem row_id {w : World} {R k : Nat} {A B : List El} {E : El} (h : w.heap[R]? = some (.cells (elsV ((A ++ [E]) ++ B)).toArray 24 (0, 0))) (hk : A.length = k) : w.cell? ⟨R, k * 10, none⟩ = some (.int .i64 E.id) := by
  rw [cell_of_row w R _ _ 24 (0, 0) h]
  have hl := elsV_len A
  rw [elsV_app, elsV_app, elsV_single, List.append_assoc]
  simp only [List.getElem?_toArray]
  rw [List.getElem?_append_right (by omega), show k * 10 - (elsV A).length = 0 by omega]
  rfl
def DecPost (w : World) (xs : List Int) (e : Ending) (w' : World) : Prop := Turn (fun _ => False) w w' ∧ ((decE xs = none ∧ e = .returned (.tuple #[.slice none 0 0, .int .i64 7])) ∨ ∃ c R, decE xs = some c ∧ e = .returned (.tuple #[.slice (some ⟨R, 0, none⟩) c.length c.length, .int .i64 0]) ∧ w.heap.size ≤ R ∧ w'.heap[R]? = some (.cells (elsV c).toArray 24 (0, 0)))
theorem rowV_of {w : World} {R : Nat} {c : List El} (h : w.heap[R]? = some (.cells (elsV c).toArray 24 (0, 0))) : RowV w (.slice (some ⟨R, 0, none⟩) c.length c.length) c := by
  refine .inr ⟨R, 0, c.length, rfl, Nat.le_refl _, fun _ => (Array.getElem?_eq_some_iff.1 h).1, fun k hk j v hj => ?_⟩
  have hr := range_of h
  have hp := elsV_part c k hk
  have hj10 : j < 10 := by
    have := (List.getElem?_eq_some_iff.1 hj).1
    rw [El.vlen] at this
    exact this
  have := hr (k * 10 + j) v (by
    rw [← hp, List.getElem?_take_of_lt hj10, List.getElem?_drop] at hj
    exact hj)
  rw [Nat.zero_add] at this
  rw [Nat.zero_add]
  exact this
set_option maxHeartbeats 16000000 in
theorem decode_any (w : World) (v : Value) (xs : List Int) (hr : Src w v xs) (hl : xs.length ≤ 70000000000000) (hb : Bytes8 xs) : Calls Try.prog 32 #[v] w (DecPost w xs) := by
  obtain ⟨o0, ho0⟩ : ∃ o, (if xs.take 2 = [67, 49] then some (xs.drop 2) else none : Option (List Int)) = o := ⟨_, rfl⟩
  obtain ⟨p, hp⟩ : ∃ p, stNum 40 o0 = p := ⟨_, rfl⟩
  obtain ⟨q, hq⟩ : ∃ q, stMany p.1.toNat 0 p.2 = q := ⟨_, rfl⟩
  have hdec : decE xs = if q.2 = some [] ∧ rightE q.1 = true then some q.1 else none := by
    unfold decE
    simp only [ho0, hp, hq]
  have hpr := stNum_range (most := 40) (by omega) o0
  rw [hp] at hpr
  obtain ⟨n, hn⟩ : ∃ n, p.1.toNat = n := ⟨_, rfl⟩
  have hpn : p.1 = (n : Int) := by omega
  have hn40 : n ≤ 40 := by omega
  have HEY := Lib.hid (neweye_st v xs w hl hr hb)
  have HO0 := Lib.hid ho0
  have HP := Lib.hid hp
  have HQ := Lib.hid hq
  have HDEC := Lib.hid hdec
  have HPN := Lib.hid hpn
  have HN := Lib.hid hn
  clear hdec hpr hq hp ho0 hr hl hb hpn hn
  go_enter Try.func32, Try.ntmps32
  go_wp2_with fail
  refine (HEY.out).mono ?_
  rintro e w1 ⟨X, G, rfl, s1⟩
  have S1 := Lib.hid s1
  clear s1
  go_wp2_with fail
  refine (raw2_st X G w1 xs S1.out.st).mono ?_
  rintro e w2 ⟨r, s, rfl, hcv, t2, hcase⟩
  have T2 := Lib.hid t2
  have HC := Lib.hid hcase
  clear t2 hcase
  go_wp2_with (with_reducible (show wpList _ _ _ (Oper.mk (some 13) _ _ _ _ _ :: _) _ _); refine still ?_)
  refine list_exec rfl _ _ (exec_neq_str _ _ rfl s c1 _ rfl rfl) ?_
  obtain ⟨b, hb⟩ : ∃ b, (!decide (s = c1)) = b := ⟨_, rfl⟩
  rw [hb]
  clear hcv
  have HM : Hid (b = false → DeS w w2 X G o0) := fun hbb => by
    have hs : s = c1 := by rw [hbb] at hb; simpa using hb
    rcases HC.out with ⟨h1, h2, h3⟩ | ⟨h1, h2, h3⟩
    · have := HO0.out
      rw [if_pos h1] at this
      rw [← this]
      exact S1.out.next h3 T2.out
    · exact absurd hs h2
  have HB : Hid (b = true → BadEye w2 X ∧ o0 = none) := fun hbb => by
    have hs : s ≠ c1 := by rw [hbb] at hb; simpa using hb
    rcases HC.out with ⟨h1, h2, h3⟩ | ⟨h1, h2, h3⟩
    · exact absurd h2 hs
    · have := HO0.out
      rw [if_neg h1] at this
      exact ⟨h3, this.symm⟩
  clear HC hb
  try simp only [Act.put, List.setIfInBounds_toArray, List.set_cons_zero, List.set_cons_succ, List.getElem_toArray, List.getElem_cons_zero, List.getElem_cons_succ]
  go_upto_if 13 with fail
  go_cut [] from 13 to 15 (fun w' => DeS w w' X G o0)
  case first =>
    cases b with
    | true =>
      go_wp2_with fail
      refine (fail_bad X G w2 (HB.out (by first | rfl | trivial)).1).mono ?_
      rintro e w3 ⟨rfl, k1, k2⟩
      have K1 := Lib.hid (S1.out.next k1 (T2.out.trans k2 (fun _ _ => id)))
      clear k1 k2
      go_wp2_with fail
      go_meet
      case rel => rw [(HB.out (by first | rfl | trivial)).2]; exact K1.out
    | false =>
      go_wp2_with fail
      go_meet
      case rel => exact HM.out (by first | rfl | trivial)
  case rest =>
    have S2 := Lib.hid hcut
    clear hcut HM HB
    go_wp2_with fail
    refine (num_st X G 40 (by omega) wc o0 S2.out.st).mono ?_
    rintro e w3 ⟨rfl, k1, k2⟩
    rw [HP.out] at k1
    rw [HP.out, HPN.out]
    have S3 := Lib.hid (S2.out.next k1 k2)
    clear k1 k2
    have hmk := run_make_els (n : Int) (by omega) w3
    rw [Int.toNat_natCast] at hmk
    have hbR := box_alloc w3 24 (elsV (List.replicate n el0))
    obtain ⟨R, hR⟩ : ∃ R, w3.heap.size = R := ⟨_, rfl⟩
    obtain ⟨w4, hw4⟩ : ∃ w4, w3.alloc (.cells (elsV (List.replicate n el0)).toArray 24) = w4 := ⟨_, rfl⟩
    rw [hR, hw4] at hmk
    rw [hw4] at hbR
    have hbh := hbR.heap
    rw [hR] at hbh
    have S4 := Lib.hid (show DeS w w4 X G p.2 from ⟨S3.out.st.turn hbR.turn id id, S3.out.turn.trans hbR.turn (fun _ _ => id), S3.out.xb, S3.out.gb, Nat.lt_of_lt_of_le S3.out.gl hbR.turn.size⟩)
    have hRX : X < R ∧ G < R ∧ w.heap.size ≤ R := ⟨by have := S3.out.st.lt; omega, by have := S3.out.gl; omega, by have := S3.out.turn.size; omega⟩
    have R0 := Lib.hid (show RowS w4 R 0 n [] from ⟨rfl, hbh⟩)
    have HRX := Lib.hid hRX
    clear hbR hbh hR hw4 hRX
    go_wp2_with fail
    clear hmk
    go_loopw [6, 21] (fun av iv wr => ∃ (k : Nat) (a : Int) (L : List El) (o : Option (List Int)), k ≤ n ∧ iv = .int .i64 (k : Int) ∧ av = .int .i64 a ∧ (0 ≤ a ∧ a ≤ 1048576 * (k : Int)) ∧ RowS wr R k n L ∧ DeS w wr X G o ∧ stMany n 0 p.2 = (L ++ (stMany (n - k) a o).1, (stMany (n - k) a o).2)) (fun _ iv _ => n - (intOf iv).toNat)
    case atStart => exact ⟨0, 0, [], p.2, Nat.zero_le _, rfl, rfl, by omega, R0.out, S4.out, rfl⟩
    case round =>
      obtain ⟨k, a, L, o, hk, rfl, rfl, ha, hrow, hst, hmany⟩ := hrel
      have ROW := Lib.hid hrow
      have ST := Lib.hid hst
      have MANY := Lib.hid hmany
      clear hrow hst hmany
      by_cases hlt : k < n
      · have dk : decide ((k : Int) < (n : Int)) = true := decide_eq_true (by omega)
        have gi : (0 : Int) ≤ (k : Int) ∧ (k : Int) < (n : Int) := by omega
        obtain ⟨E, hE⟩ : ∃ E, (stElem a o).1 = E := ⟨_, rfl⟩
        have hid := stElem_id a o
        rw [hE] at hid
        have HE := Lib.hid hE
        have HID := Lib.hid hid
        clear hE hid
        go_wp2_with fail
        refine (ST.out.elem a (by omega)).mono ?_
        rintro e w5 ⟨rfl, s5, t5⟩
        rw [HE.out]
        have hr5 := (t5.block R (Array.getElem?_eq_some_iff.1 ROW.out.cells).1 (by have := HRX.out; omega)).trans ROW.out.cells
        have S5 := Lib.hid s5
        have HR5 := Lib.hid hr5
        clear s5 t5 hr5
        go_wp2_with (with_reducible (show wpList _ _ _ (Oper.mk none (.store 24 (.tmp 29) (.tmp 28)) _ _ _ _ :: _) _ _); refine still ?_)
        refine row_put w5 R k _ E HR5.out (by rw [List.length_append, List.length_replicate, ROW.out.len]; omega) rfl (.tmp 29) (.tmp 28) rfl rfl rfl (fun w6 h6 t6 => ?_)
        rw [set_next E ROW.out.len hlt] at h6
        have c6 := row_id h6 ROW.out.len
        have HR6 := Lib.hid h6
        have S6 := Lib.hid (show DeS w w6 X G (stElem a o).2 from ⟨S5.out.st.turn t6 (by have := HRX.out; omega) (by have := HRX.out; omega), S5.out.turn.trans t6 (fun i hi hc => by have := HRX.out; omega), S5.out.xb, S5.out.gb, Nat.lt_of_lt_of_le S5.out.gl t6.size⟩)
        clear h6 t6
        go_wp2_with fail
        go_roundw
        case rel =>
          refine ⟨k + 1, E.id, L ++ [E], (stElem a o).2, by omega, by go_num, rfl, by have := HID.out; omega, ⟨by rw [List.length_append, ROW.out.len]; rfl, HR6.out⟩, S6.out, ?_⟩
          rw [MANY.out, show n - k = (n - (k + 1)) + 1 by omega]
          simp only [stMany]
          rw [HE.out, List.append_assoc]
          rfl
        case measure => simp [intOf]; omega
      · have dk : decide ((k : Int) < (n : Int)) = false := decide_eq_false (by omega)
        have hkn : k = n := by omega
        have hq1 : q = (L, o) := by
          have := MANY.out
          rw [hkn, Nat.sub_self] at this
          simp only [stMany, List.append_nil] at this
          rw [← HQ.out, HN.out, this]
        have hcl := ROW.out.cells
        rw [hkn, Nat.sub_self, List.replicate_zero, List.append_nil] at hcl
        have hln : L.length = n := by rw [ROW.out.len, hkn]
        have hrv := rowV_of hcl
        rw [hln] at hrv
        have hdq : decE xs = if o = some [] ∧ rightE L = true then some L else none := by rw [HDEC.out, hq1]
        have HDQ := Lib.hid hdq
        have HRV := Lib.hid hrv
        have HCL := Lib.hid hcl
        have HLN := Lib.hid hln
        clear hq1 hdq hrv hcl hln hkn
        go_wp2_with fail
        refine (end_st X G wr o ST.out.st).mono ?_
        rintro e w5 ⟨⟨f, rfl, hf⟩, rfl⟩
        have HF := Lib.hid hf
        clear hf
        by_cases hf0 : f = 0
        · have ho : o = some [] := HF.out.1 hf0
          have HOO := Lib.hid ho
          have df : (f != 0) = false := by simpa using hf0
          clear ho
          have hrt := right_any wr _ L HRV.out (by have := HLN.out; omega)
          cases hrl : rightE L with
          | true =>
            rw [hrl] at hrt
            have HRT := Lib.hid hrt
            have HND := Lib.hid (show decE xs = some L by rw [HDQ.out, if_pos ⟨HOO.out, hrl⟩])
            clear hrt hrl
            go_wp2_with (go_at_call 30; refine (HRT.out).mono ?_; rintro e w6 ⟨rfl, t6⟩)
            go_ret2
            refine ⟨ST.out.turn.trans t6 (fun _ _ => id), .inr ⟨L, R, HND.out, by rw [HLN.out]; rfl, HRX.out.2.2, (t6.block R (Array.getElem?_eq_some_iff.1 HCL.out).1 id).trans HCL.out⟩⟩
          | false =>
            rw [hrl] at hrt
            have HRT := Lib.hid hrt
            have HND := Lib.hid (show decE xs = none by rw [HDQ.out, if_neg (fun h => by rw [hrl] at h; exact absurd h.2 (by decide))])
            clear hrt hrl
            go_wp2_with (go_at_call 30; refine (HRT.out).mono ?_; rintro e w6 ⟨rfl, t6⟩)
            go_ret2
            exact ⟨ST.out.turn.trans t6 (fun _ _ => id), .inl ⟨HND.out, rfl⟩⟩
        · have ho : ¬ o = some [] := fun h => hf0 (HF.out.2 h)
          have df : (f != 0) = true := by simpa using hf0
          have HND := Lib.hid (show decE xs = none by rw [HDQ.out, if_neg (fun h => ho h.1)])
          clear ho
          go_wp2_with fail
          go_ret2
          exact ⟨ST.out.turn, .inl ⟨HND.out, rfl⟩⟩
end Go.Proofs.Ytokjlhpkjebnkaa
