/- Own texts, packed: Or1, Or2. No statement is proved here. -/
import Derived.Test.YtkciaafkhpjnaaaQ09
import Derived.Test.YtkciaafkhpjnaaaQ20
import Derived.Laws.MakeOwn
namespace Go.Proofs.Ytkciaafkhpjnaaa
set_option maxRecDepth 100000
open Go.RowKit
set_option linter.unusedVariables false
set_option linter.unusedSimpArgs false

theorem info4p : (Try.prog.info? 4).map (fun i => (i.zero, i.size, i.bytes)) = some (some (.bool false), 1, 1) := by kernel_rfl
def boolsV (l : List Bool) : List Value := l.map Value.bool
theorem boolsV_len (l : List Bool) : (boolsV l).length = l.length := by simp [boolsV]
theorem made_bools (n : Nat) : madeCells (Value.cells (.bool false)) n = (boolsV (List.replicate n false)).toArray := by
  unfold madeCells
  apply Array.ext'
  simp only [Array.toList_map, Array.toList_range, boolsV, List.map_replicate]
  rw [List.eq_replicate_iff]
  refine ⟨by simp, fun x hx => ?_⟩
  obtain ⟨i, _, rfl⟩ := List.mem_map.1 hx
  have : (Value.cells (.bool false)) = #[.bool false] := rfl
  rw [this]
  simp [Nat.mod_one]
theorem run_make_bools (n : Nat) (hn : n ≤ 1000) (w : World) : (Instr.makeSlice 98 (.int .i64 (n : Int)) (.int .i64 (n : Int))).run Try.prog w = .ok (.slice (some ⟨w.heap.size, 0, none⟩) n n) (w.alloc (.cells (boolsV (List.replicate n false)).toArray 4)) := by
  obtain ⟨i0, hi, hz0, hz1, hz2⟩ := info_parts info4p
  have h := run_make (P := Try.prog) w 98 4 i0 _ Try.underlying98 hi hz0 .i64 .i64 n n (by omega) (Int.le_refl _) (by rw [hz2]; omega) (by omega)
  rw [h, hz1, made_bools]
  simp
theorem exec_make_bools (ev : Operand → Value) (op : Oper) (x : Operand) (ho : op.op = .makeSlice 98 x x) (n : Nat) (hn : n ≤ 1000) (hx : ev x = .int .i64 (n : Int)) (w : World) : (execOp ev op).run Try.prog w = .ok (.value (.slice (some ⟨w.heap.size, 0, none⟩) n n)) (w.alloc (.cells (boolsV (List.replicate n false)).toArray 4)) := by
  unfold execOp
  simp only [ho, hx, Sem.run_bind, run_make_bools n hn, Result.andThen_ok]
  rfl
/-- A row of truths in a block. -/
def BoolsAt (w : World) (T : Nat) (l : List Bool) : Prop := w.heap[T]? = some (.cells (boolsV l).toArray 4 (0, 0))
theorem BoolsAt.cell {w : World} {T : Nat} {l : List Bool} (h : BoolsAt w T l) (k : Nat) (hk : k < l.length) : w.cell? ⟨T, k, none⟩ = some (.bool (l.getD k false)) := by
  rw [cell_of_row w T k _ 4 (0, 0) h]
  simp [boolsV, List.getD, hk]
theorem boolsV_set (l : List Bool) (k : Nat) (b : Bool) : (boolsV l).set k (.bool b) = boolsV (l.set k b) := by simp [boolsV, List.map_set]
/-- Which are taken. -/
def takenB (c W out : List El) : List Bool := c.map (fun e => hasB W e.id || hasB out e.id)
theorem taken_len (c W out : List El) : (takenB c W out).length = c.length := by simp [takenB]
theorem taken_get (c W out : List El) (k : Nat) (hk : k < c.length) : (takenB c W out).getD k false = (hasB W (c.getD k el0).id || hasB out (c.getD k el0).id) := by
  simp [takenB, List.getD, hk]
theorem taken_set {c W out : List El} (hr : Rises c) (i : Nat) (hi : i < c.length) : takenB c W (out ++ [c.getD i el0]) = (takenB c W out).set i true := by
  apply List.ext_getElem (by simp [takenB])
  intro k h1 h2
  have hk : k < c.length := by simpa [takenB] using h1
  have e1 : (takenB c W (out ++ [c.getD i el0]))[k]'h1 = (hasB W (c.getD k el0).id || hasB (out ++ [c.getD i el0]) (c.getD k el0).id) := by simp [takenB, List.getD, hk]
  rw [e1, List.getElem_set, hasB_app, hasB_one]
  by_cases e : i = k
  · subst e; simp
  · rw [if_neg e]
    have hne : ¬ (c.getD i el0).id = (c.getD k el0).id := by
      rcases Nat.lt_or_ge i k with h | h
      · have := hr.get (i := i) (j := k) h hk; omega
      · have := hr.get (i := k) (j := i) (by omega) hi; omega
    rw [decide_eq_false hne, Bool.or_false]
    simp [takenB, List.getD, hk]
def leftC (bs : List Bool) : Nat := (bs.filter (fun b => !b)).length
theorem left_set : ∀ (bs : List Bool) (i : Nat), i < bs.length → bs.getD i false = false → leftC (bs.set i true) + 1 = leftC bs := by
  intro bs
  induction bs with
  | nil => intro i hi; simp at hi
  | cons b bs ih =>
    intro i hi h
    cases i with
    | zero =>
      have : b = false := h
      subst this
      simp [leftC]
    | succ i =>
      have := ih i (by simpa using hi) (by simpa [List.getD] using h)
      unfold leftC at *
      simp only [List.set_cons_succ, List.filter_cons]
      by_cases hb : (!b) = true
      · rw [if_pos hb, if_pos hb, List.length_cons, List.length_cons]; omega
      · rw [if_neg hb, if_neg hb]; omega
theorem left_lt (bs : List Bool) : leftC bs ≤ bs.length := List.length_filter_le _ _
theorem left_snoc (bs : List Bool) (b : Bool) : leftC (bs ++ [b]) = if b = true then leftC bs else leftC bs + 1 := by
  unfold leftC
  rw [List.filter_append, List.length_append]
  cases b <;> simp
theorem left_zero_ok {c W : List El} : decide ((leftC (takenB c W (ordE c W)) : Int) = 0) = ordOk c W := by
  have h : leftC (takenB c W (ordE c W)) = 0 ↔ ordOk c W = true := by
    unfold leftC ordOk takenB
    rw [List.length_eq_zero_iff, List.filter_eq_nil_iff, List.all_eq_true]
    simp only [List.mem_map, forall_exists_index, and_imp, forall_apply_eq_imp_iff₂, Bool.not_eq_true', Bool.not_eq_false]
  cases ho : ordOk c W
  · exact decide_eq_false (fun h2 => by have := h.1 (by omega); rw [ho] at this; cases this)
  · exact decide_eq_true (by have := h.2 ho; omega)
theorem step_if {w out : List El} {e : El} : stepO w out e = if (hasB w e.id || hasB out e.id) = true then out else if (decide (e.par = 0) || hasB w e.par || hasB out e.par) = true then out ++ [e] else out := rfl
theorem rfind3 (w : World) (v : Value) (l : List El) (nr : Int) (hv : RowV w v l) (hr : Rises l) (hb : l.length ≤ 1000) : Calls Try.prog 20 #[v, .int .i64 nr] w fun e w' => w = w' ∧ ∃ i : Int, e = .returned (.int .i64 i) ∧ decide (0 ≤ i) = hasB l nr ∧ (hasB l nr = true → ∃ k : Nat, k < l.length ∧ i = (k : Int) ∧ (l.getD k el0).id = nr) := by
  refine (rfind2 w v l nr hv hr hb).mono ?_
  rintro e w' ⟨rfl, i, rfl, h⟩
  refine ⟨rfl, i, rfl, ?_⟩
  rcases h with ⟨k, hk, rfl, hg⟩ | ⟨rfl, hg⟩
  · have hB : hasB l nr = true := by unfold hasB; rw [hg]; rfl
    exact ⟨by rw [hB]; exact decide_eq_true (by omega), fun _ => ⟨k, hk, rfl, (getE_some hg).2⟩⟩
  · have hB : hasB l nr = false := by unfold hasB; rw [hg]; rfl
    exact ⟨by rw [hB]; exact decide_eq_false (by omega), fun h => by rw [hB] at h; cases h⟩

end Go.Proofs.Ytkciaafkhpjnaaa
namespace Go.Proofs.Ytkciaafkhpjnaaa
set_option maxRecDepth 100000
open Go.RowKit
set_option linter.unusedVariables false
set_option linter.unusedSimpArgs false

theorem own_neT {w : World} {base T : Nat} {v : Value} {n : Nat} {xs : List Value} {l : List Bool} (h : w.ownsRow base 38 10 v n xs) (hB : BoolsAt w T l) : ∀ q, v.ownBlock = some q → q = T → False := by
  intro q hq e
  subst e
  rcases h.2 with ⟨rfl, _⟩ | ⟨g, cap, cur, rfl, _, h3, _⟩
  · cases hq
  · injection hq with hq
    subst hq
    have hB : w.heap[g]? = _ := hB
    rw [hB] at h3
    injection h3 with h3
    injection h3 with _ h4 _
    exact absurd h4 (by decide)
/-- What order tells. -/
def OrdP (w : World) (c W : List El) (e : Ending) (w' : World) : Prop := ∃ v, e = .returned (.tuple #[v, .bool (ordOk c W)]) ∧ w'.ownsRow w.heap.size 38 10 v (ordE c W).length (elsV (ordE c W)) ∧ Turn (fun _ => False) w w'
/-- The state between two rounds' steps: what is taken, told thrice. -/
structure OrS (w0 w : World) (T : Nat) (c W out : List El) (ov lv : Value) : Prop where
  ord : OrdF c W [] out
  bools : BoolsAt w T (takenB c W out)
  left : lv = .int .i64 (leftC (takenB c W out) : Int)
  own : w.ownsRow w0.heap.size 38 10 ov out.length (elsV out)
  turn : Turn (fun _ => False) w0 w
theorem OrS.len {w0 w : World} {T : Nat} {c W out : List El} {ov lv : Value} (h : OrS w0 w T c W out ov lv) : out.length ≤ 1000000 → out.length ≤ 1000000 := id
theorem fold_len (w : List El) : ∀ (l out : List El), (l.foldl (stepO w) out).length ≤ out.length + l.length := by
  intro l
  induction l with
  | nil => intro out; simp
  | cons a l ih =>
    intro out
    have h1 := ih (stepO w out a)
    have h2 : (stepO w out a).length ≤ out.length + 1 := by
      unfold stepO
      split
      · omega
      · split <;> simp
    simp only [List.foldl_cons, List.length_cons]
    omega
theorem rounds_len (w c : List El) : ∀ n, (roundsO w c n).length ≤ n * c.length
  | 0 => by simp [roundsO]
  | n + 1 => by
    have h1 := fold_len w c (roundsO w c n)
    have h2 := rounds_len w c n
    have h3 : (n + 1) * c.length = n * c.length + c.length := Nat.succ_mul _ _
    show (c.foldl (stepO w) (roundsO w c n)).length ≤ _
    omega
theorem fold_take (w : List El) (c out : List El) (i : Nat) (hi : i < c.length) : (c.take (i + 1)).foldl (stepO w) out = stepO w ((c.take i).foldl (stepO w) out) (c.getD i el0) := by
  rw [take_snoc c i hi, List.foldl_append]; rfl
set_option maxHeartbeats 8000000 in
theorem rorder_any (w : World) (vc vw : Value) (c W : List El) (hc : RowV w vc c) (hw : RowV w vw W) (hrc : Rises c) (hrw : Rises W) (hl : c.length ≤ 100) (hlw : W.length ≤ 100) : Calls Try.prog 38 #[vc, vw] w (OrdP w c W) := by
  obtain ⟨la, lc, rfl⟩ := hc.form
  obtain ⟨n, hn⟩ : ∃ n, c.length = n := ⟨_, rfl⟩
  simp only [hn] at hc hl ⊢
  have HC := Lib.hid hc
  have HW := Lib.hid hw
  have HRC := Lib.hid hrc
  have HRW := Lib.hid hrw
  have HN := Lib.hid hn
  have HLW := Lib.hid (show W.length ≤ 1000 by omega)
  have HLC := Lib.hid (show c.length ≤ 1000 by omega)
  have hn1 : n ≤ 100 := hl
  clear hc hw hrc hrw hn hlw hl
  have hbx := box_alloc w 4 (boolsV (List.replicate n false))
  obtain ⟨T, hT⟩ : ∃ T, w.heap.size = T := ⟨_, rfl⟩
  obtain ⟨w1, hw1⟩ : ∃ w1, w.alloc (.cells (boolsV (List.replicate n false)).toArray 4) = w1 := ⟨_, rfl⟩
  have hx : ∀ ev op x, op.op = .makeSlice 98 x x → ev x = .int .i64 (n : Int) → (execOp ev op).run Try.prog w = .ok (.value (.slice (some ⟨T, 0, none⟩) n n)) w1 := fun ev op x ho h => by rw [← hw1, ← hT]; exact exec_make_bools ev op x ho n (by omega) h w
  rw [hw1] at hbx
  have hh := hbx.heap
  rw [hT] at hh
  have HXM := Lib.hid hx
  have HB1 := Lib.hid (show BoolsAt w1 T (List.replicate n false) from hh)
  have T1 := Lib.hid hbx.turn
  have HTW := Lib.hid hT
  clear hx hbx hh hw1 hT
  go_enter Try.func38, Try.ntmps38
  go_wp2_with (with_reducible (show wpList _ _ _ (Oper.mk (some 15) (.makeSlice 98 _ _) _ _ _ _ :: _) _ _); refine still ?_)
  refine list_exec rfl _ _ (HXM.out _ _ (.tmp 14) rfl rfl) ?_
  go_wp2_with fail
  go_loopw [8, 9] (fun lv iv wr => ∃ i : Nat, i ≤ n ∧ iv = .int .i64 (i : Int) ∧ lv = .int .i64 (leftC ((takenB c W []).take i) : Int) ∧ BoolsAt wr T ((takenB c W []).take i ++ List.replicate (n - i) false) ∧ Turn (fun _ => False) w wr) (fun _ iv _ => n - (intOf iv).toNat)
  case atStart => exact ⟨0, Nat.zero_le _, rfl, rfl, HB1.out, T1.out⟩
  case round =>
    obtain ⟨i, hin, rfl, rfl, hbs, htr⟩ := hrel
    have HBS := Lib.hid hbs
    have HT := Lib.hid htr
    clear hbs htr
    have hll : leftC ((takenB c W []).take i) ≤ n := by have := left_lt ((takenB c W []).take i); rw [List.length_take] at this; omega
    by_cases hlt : i < n
    · have gi : (0 : Int) ≤ (i : Int) ∧ (i : Int) < (n : Int) := by omega
      have dk : decide ((i : Int) < (n : Int)) = true := decide_eq_true (by omega)
      obtain ⟨g, o, rfl, hcc, hs⟩ := (HC.out.turn HT.out (fun _ _ => id)).one HN.out i hlt
      have htl := taken_len c W []
      have htg := taken_get c W [] i (by rw [HN.out]; exact hlt)
      obtain ⟨x, hx⟩ : ∃ x, c.getD i el0 = x := ⟨_, rfl⟩
      rw [hx] at hs htg
      have hhn : hasB [] x.id = false := rfl
      rw [hhn, Bool.or_false] at htg
      have c0 := range0 hs
      obtain ⟨b, hb⟩ : ∃ b, hasB W x.id = b := ⟨_, rfl⟩
      rw [hb] at htg
      have hsn : (takenB c W []).take (i + 1) = (takenB c W []).take i ++ [b] := by
        rw [List.take_succ_eq_append_getElem (by rw [htl, HN.out]; exact hlt)]
        congr 2
        rw [← htg]; simp [List.getD, htl, HN.out, hlt]
      have hset : (takenB c W []).take i ++ List.replicate (n - i) false = (takenB c W []).take i ++ false :: List.replicate (n - (i + 1)) false := by
        rw [show n - i = (n - (i + 1)) + 1 by omega, List.replicate_succ]
      have hlen : ((takenB c W []).take i).length = i := by rw [List.length_take, htl, HN.out]; omega
      have hset2 : ((takenB c W []).take i ++ List.replicate (n - i) false).set i b = (takenB c W []).take (i + 1) ++ List.replicate (n - (i + 1)) false := by
        rw [hset, hsn, List.set_append_right _ _ (by omega), hlen, Nat.sub_self, List.set_cons_zero, List.append_assoc]; rfl
      have hbl : ((takenB c W []).take i ++ List.replicate (n - i) false).length = n := by rw [List.length_append, hlen, List.length_replicate]; omega
      have hls : leftC ((takenB c W []).take (i + 1)) = if b = true then leftC ((takenB c W []).take i) else leftC ((takenB c W []).take i) + 1 := by rw [hsn, left_snoc]
      have HSET := Lib.hid hset2
      have HBL := Lib.hid hbl
      have HLS := Lib.hid hls
      have HF := Lib.hid (fun wa (h : RowV wa vw W) => rfind3 wa vw W x.id h HRW.out HLW.out)
      have HBB := Lib.hid hb
      clear hx hs hcc htl htg hsn hset hset2 hlen hbl hls hb hhn
      go_wp2_with fail
      refine (HF.out wr (HW.out.turn HT.out (fun _ _ => id))).mono ?_
      rintro r wa ⟨rfl, k, rfl, hk, _⟩
      rw [HBB.out] at hk
      go_wp2_with (with_reducible (show wpList _ _ _ (Oper.mk none (.store 4 (.tmp 32) (.tmp 31)) _ _ _ _ :: _) _ _); refine still ?_)
      refine list_set1E wr T 4 4 (boolsV ((takenB c W []).take i ++ List.replicate (n - i) false)) i (.bool b) HBS.out (by rw [boolsV_len, HBL.out]; exact hlt) rfl rfl (by kernel_rfl) rfl (.tmp 32) (.tmp 31) rfl rfl (by first | rfl | (show Value.bool (decide (0 ≤ k)) = _; rw [hk])) (fun w5 h5 t5 => ?_)
      rw [boolsV_set, HSET.out] at h5
      have HB5 := Lib.hid (show BoolsAt w5 T _ from h5)
      have T5 := Lib.hid (HT.out.trans t5 (fun q hq e => by have := HTW.out; omega))
      clear h5 t5 hk
      obtain ⟨L0, hL0⟩ : ∃ L0, leftC ((takenB c W []).take i) = L0 := ⟨_, rfl⟩
      rw [hL0] at HLS hll ⊢
      clear hL0
      have hcl : w5.cell? ⟨T, i, none⟩ = some (.bool b) := by
        have h1 := HB5.out.cell i (by rw [← HSET.out, List.length_set, HBL.out]; exact hlt)
        rw [← HSET.out] at h1
        rw [h1]
        simp [List.getD, HBL.out, hlt]
      cases b
      · go_wp2_with fail
        go_roundw
        case rel => exact ⟨i + 1, by omega, by go_num, by rw [HLS.out]; go_num, HB5.out, T5.out⟩
        case measure => simp [intOf]; omega
      · go_wp2_with fail
        go_roundw
        case rel => exact ⟨i + 1, by omega, by go_num, by rw [HLS.out]; rfl, HB5.out, T5.out⟩
        case measure => simp [intOf]; omega
    · have hke : i = n := by omega
      subst hke
      have e1 : (takenB c W []).take i ++ List.replicate (i - i) false = takenB c W [] := by
        rw [Nat.sub_self, List.replicate_zero, List.append_nil, List.take_of_length_le (by rw [taken_len, HN.out]; omega)]
      have e2 : (takenB c W []).take i = takenB c W [] := List.take_of_length_le (by rw [taken_len, HN.out]; omega)
      rw [e2]
      have hbs := HBS.out
      rw [e1] at hbs
      have HS0 := Lib.hid (show OrS w wr T c W [] (.slice none 0 0) (.int .i64 (leftC (takenB c W []) : Int)) from ⟨trivial, hbs, rfl, World.ownsRow_nil _ _ _ _, HT.out⟩)
      clear hbs e1 e2 hll
      obtain ⟨LV, hLV⟩ : ∃ LV, Value.int .i64 (leftC (takenB c W []) : Int) = LV := ⟨_, rfl⟩
      rw [hLV] at HS0 ⊢
      clear hLV
      go_wp2_with fail
      go_loopw [6, 8, 10] (fun ov lv rv ws => ∃ r : Nat, r ≤ i + 1 ∧ rv = .int .i64 (r : Int) ∧ OrS w ws T c W (roundsO W c r) ov lv) (fun _ _ rv _ => i + 1 - (intOf rv).toNat)
      case atStart => exact ⟨0, Nat.zero_le _, rfl, HS0.out⟩
      case round =>
        obtain ⟨r, hri, rfl, hos⟩ := hrel
        have HOS := Lib.hid hos
        clear hos
        by_cases hrl : r < i + 1
        · have dr : decide ((r : Int) ≤ (i : Int)) = true := decide_eq_true (by omega)
          go_wp2_with fail
          have HRL := Lib.hid hrl
          clear dr hrl hri
          rename_i hle K9 a9
          clear hle
          go_loopw [6, 8, 11] (fun ov lv jv wq => ∃ j : Nat, j ≤ i ∧ jv = .int .i64 (j : Int) ∧ OrS w wq T c W ((c.take j).foldl (stepO W) (roundsO W c r)) ov lv) (fun _ _ jv _ => i - (intOf jv).toNat)
          case atStart => exact ⟨0, Nat.zero_le _, rfl, HOS.out⟩
          case round =>
            obtain ⟨j, hji, rfl, hos⟩ := hrel
            by_cases hlt : j < i
            · have gi : (0 : Int) ≤ (j : Int) ∧ (j : Int) < (i : Int) := by omega
              have dj : decide ((j : Int) < (i : Int)) = true := decide_eq_true (by omega)
              have hsn := fold_take W c (roundsO W c r) j (by rw [HN.out]; exact hlt)
              have hol := fold_len W (c.take j) (roundsO W c r)
              have hrl2 := rounds_len W c r
              have hmul : r * c.length ≤ 101 * 100 := Nat.mul_le_mul (by have := HRL.out; omega) (by rw [HN.out]; omega)
              rw [List.length_take, HN.out] at hol
              obtain ⟨out, hout⟩ : ∃ out, (c.take j).foldl (stepO W) (roundsO W c r) = out := ⟨_, rfl⟩
              rw [hout] at hos hsn hol
              have HOL := Lib.hid (show out.length ≤ 20000 by omega)
              have hlv := hos.left
              subst hlv
              have HOQ := Lib.hid hos
              have HBS2 := Lib.hid hos.bools
              obtain ⟨g, o, rfl, hcc, hs⟩ := (HC.out.turn hos.turn (fun _ _ => id)).one HN.out j hlt
              have hgw : g < w.heap.size := by
                rcases HC.out with ⟨h1, h2⟩ | ⟨g2, o2, c2, h1, _, h3, _⟩
                · cases h1
                · injection h1 with q1 _ _
                  injection q1 with q1
                  injection q1 with q1 _ _
                  subst q1
                  exact h3 (by rw [HN.out]; omega)
              have HGT := Lib.hid (show ¬ g = T by have := HTW.out; omega)
              have hcell := hos.bools.cell j (by rw [taken_len, HN.out]; exact hlt)
              have htg := taken_get c W out j (by rw [HN.out]; exact hlt)
              have hxc := getD_mem (l := c) (k := j) (by rw [HN.out]; exact hlt)
              obtain ⟨x, hx⟩ : ∃ x, c.getD j el0 = x := ⟨_, rfl⟩
              rw [hx] at hs htg hsn hxc
              have HXE := Lib.hid hx
              have HXC := Lib.hid hxc
              have HSN := Lib.hid hsn
              have HXR := Lib.hid hs
              have c2 : wr.cell? ⟨g, o + j * 10 + 2, none⟩ = some (.int .i64 x.par) := hs 2 _ rfl
              obtain ⟨tk, htk⟩ : ∃ tk, (hasB W x.id || hasB out x.id) = tk := ⟨_, rfl⟩
              rw [htg, htk] at hcell
              rw [htk] at htg
              have HTK := Lib.hid htk
              have HTG := Lib.hid htg
              have HPO := Lib.hid (fun h : hasB out x.par = true => (show hasB c x.par = true from by
                obtain ⟨z, hz, hi⟩ := hasB_iff.1 h
                exact hasB_iff.2 ⟨z, (hos.ord.mem z hz).1, hi⟩))
              have HVC := Lib.hid (HC.out.turn hos.turn (fun _ _ => id))
              have HVW := Lib.hid (HW.out.turn hos.turn (fun _ _ => id))
              have hbl : leftC (takenB c W out) ≤ 100 := by have := left_lt (takenB c W out); rw [taken_len, HN.out] at this; omega
              obtain ⟨L0, hL0⟩ : ∃ L0, leftC (takenB c W out) = L0 := ⟨_, rfl⟩
              rw [hL0] at hbl ⊢
              have HL0 := Lib.hid hL0
              clear hx hsn hol hrl2 hmul hout hos hcc hs htg hxc htk hgw hL0
              cases tk
              · go_wp2_with fail
                refine (rfind3 wr _ c x.par HVC.out HRC.out HLC.out).mono ?_
                rintro r0 wa ⟨rfl, k, rfl, hk, hkk⟩
                have HKK := Lib.hid hkk
                clear hkk hcell
                by_cases hp0 : x.par = 0
                · have q0 : (x.par == 0) = true := by simpa using hp0
                  have HP0 := Lib.hid (show decide (x.par = 0) = true from decide_eq_true hp0)
                  clear hp0
                  have HST := Lib.hid (show stepO W out x = out ++ [x] from (by unfold stepO; rw [if_neg (by rw [HTK.out]; decide), if_pos (by rw [HP0.out]; rfl)]))
                  have hset := taken_set (W := W) (out := out) HRC.out j (by rw [HN.out]; exact hlt)
                  rw [HXE.out] at hset
                  have hls := left_set (takenB c W out) j (by rw [taken_len, HN.out]; exact hlt) (by rw [HTG.out])
                  rw [← hset] at hls
                  have HSE := Lib.hid hset
                  have HLS := Lib.hid hls
                  clear hset hls
                  go_wp2_with (with_reducible (show wpList _ _ _ (Oper.mk none (.store 4 (.tmp 91) _) _ _ _ _ :: _) _ _); refine still ?_)
                  refine list_set1E wr T 4 4 (boolsV (takenB c W out)) j (.bool true) HBS2.out (by rw [boolsV_len, taken_len, HN.out]; exact hlt) rfl rfl (by kernel_rfl) rfl (.tmp 91) _ rfl rfl rfl (fun w5 h5 t5 => ?_)
                  rw [boolsV_set, ← HSE.out] at h5
                  have HB5 := Lib.hid (show BoolsAt w5 T (takenB c W (out ++ [x])) from h5)
                  have T5 := Lib.hid (HOQ.out.turn.trans t5 (fun q hq e => by have := HTW.out; omega))
                  have O5 := Lib.hid (t5.owns HOQ.out.own (fun q hq e => own_neT HOQ.out.own HBS2.out q hq e))
                  have HX5 := Lib.hid (rangeAt_turn HXR.out t5 (fun e => HGT.out e))
                  clear h5 t5
                  obtain ⟨vy, wy, hry, hoy, ty, ay, cy, hvy⟩ := app_one w5 w.heap.size 24 24 Try.underlying24 u6 out x O5.out (by have := T5.out.size; omega) (by have := HOL.out; omega)
                  subst hvy
                  have HRY := Lib.hid hry
                  have HOY := Lib.hid hoy
                  have HBY := Lib.hid (show BoolsAt wy T (takenB c W (out ++ [x])) from (ty.block T (Array.getElem?_eq_some_iff.1 HB5.out).1 (fun e => own_neT O5.out HB5.out T e rfl)).trans HB5.out)
                  have TY := Lib.hid (turn_on O5.out (Nat.le_refl _) T5.out ty)
                  clear hry hoy ty
                  go_wp2_with (with_reducible (show wpList _ _ _ (Oper.mk (some 96) (.load 38 (.tmp 95)) _ _ _ _ :: _) _ _); refine still ?_)
                  refine wpList_load_mid rfl 38 (.tmp 95) rfl g (o + j * 10) rfl x.vals _ HX5.out Try.underlying38 rfl el_info ?_
                  go_wp2_with (with_reducible (show wpList _ _ _ (Oper.mk (some 97) (.buildSlice 24 _ _) _ _ _ _ :: _) _ _); refine still ?_)
                  refine list_exec rfl _ _ (exec_build_one _ _ (.tmp 96) 24 Try.underlying24 rfl x rfl _) ?_
                  go_wp2_with (with_reducible (show wpList _ _ _ (Oper.mk (some 98) (_) _ _ _ _ :: _) _ _); refine still ?_)
                  refine list_exec rfl _ _ (exec_append _ _ (.tmp 92) (.tmp 97) 24 rfl _ _ _ _ _ rfl rfl HRY.out) ?_
                  obtain ⟨L1, hL1⟩ : ∃ L1, leftC (takenB c W (out ++ [x])) = L1 := ⟨_, rfl⟩
                  have hl1 : L0 = L1 + 1 := by rw [← HL0.out, ← hL1]; exact HLS.out.symm
                  have hb1 : L1 ≤ 100 := by have := left_lt (takenB c W (out ++ [x])); rw [taken_len, HN.out, hL1] at this; omega
                  subst hl1
                  have HL1 := Lib.hid hL1
                  clear hL1
                  go_wp2_with fail
                  go_roundw
                  case rel => exact ⟨j + 1, by omega, by go_num, by rw [HSN.out, HST.out]; exact ⟨by have := step_ord HOQ.out.ord HXC.out; rw [HST.out] at this; exact this, HBY.out, by first | (rw [HL1.out]; done) | (rw [HL1.out]; go_num), HOY.out, TY.out⟩⟩
                  case measure => simp [intOf]; omega
                · have q0 : (x.par == 0) = false := by simpa using hp0
                  have HP0 := Lib.hid (show decide (x.par = 0) = false from decide_eq_false hp0)
                  clear hp0
                  obtain ⟨hW, hhW⟩ : ∃ b, hasB W x.par = b := ⟨_, rfl⟩
                  have HHW := Lib.hid hhW
                  clear hhW
                  cases hW
                  · obtain ⟨hCc, hhC⟩ : ∃ b, hasB c x.par = b := ⟨_, rfl⟩
                    rw [hhC] at hk
                    have HHC := Lib.hid hhC
                    clear hhC
                    cases hCc
                    · have HNO := Lib.hid (show hasB out x.par = false from Bool.eq_false_iff.2 (fun h => by have := HPO.out h; rw [HHC.out] at this; cases this))
                      go_wp2_with (go_at_call 20; refine (rfind3 wr _ W x.par HVW.out HRW.out HLW.out).mono ?_; rintro r1 wb ⟨rfl, k2, rfl, hk2, _⟩; rw [HHW.out] at hk2; refine still ?_)
                      unfold Still
                      have HST := Lib.hid (show stepO W out x = out from (by unfold stepO; rw [if_neg (by rw [HTK.out]; decide), if_neg (by rw [HP0.out, HHW.out, HNO.out]; decide)]))
                      go_wp2_with fail
                      go_roundw
                      case rel => exact ⟨j + 1, by omega, by go_num, by rw [HSN.out, HST.out]; exact ⟨HOQ.out.ord, HBS2.out, by rw [HL0.out], HOQ.out.own, HOQ.out.turn⟩⟩
                      case measure => simp [intOf]; omega
                    · obtain ⟨kk, hkl, rfl, hki⟩ := HKK.out HHC.out
                      have hcellk := HBS2.out.cell kk (by rw [taken_len]; exact hkl)
                      rw [taken_get c W out kk hkl, hki, HHW.out, Bool.false_or] at hcellk
                      have gk : (0 : Int) ≤ (kk : Int) ∧ (kk : Int) < (i : Int) := by have := HN.out; omega
                      clear hkl hki
                      go_wp2_with (go_at_call 20; refine (rfind3 wr _ W x.par HVW.out HRW.out HLW.out).mono ?_; rintro r1 wb ⟨rfl, k2, rfl, hk2, _⟩; rw [HHW.out] at hk2; refine still ?_)
                      unfold Still
                      obtain ⟨ho, hho⟩ : ∃ b, hasB out x.par = b := ⟨_, rfl⟩
                      rw [hho] at hcellk
                      have HHO := Lib.hid hho
                      clear hho
                      
                      cases ho
                      · skip
                        have HST := Lib.hid (show stepO W out x = out from (by unfold stepO; rw [if_neg (by rw [HTK.out]; decide), if_neg (by rw [HP0.out, HHW.out, HHO.out]; decide)]))
                        go_wp2_with fail
                        go_roundw
                        case rel => exact ⟨j + 1, by omega, by go_num, by rw [HSN.out, HST.out]; exact ⟨HOQ.out.ord, HBS2.out, by rw [HL0.out], HOQ.out.own, HOQ.out.turn⟩⟩
                        case measure => simp [intOf]; omega
                      · skip
                        have HST := Lib.hid (show stepO W out x = out ++ [x] from (by unfold stepO; rw [if_neg (by rw [HTK.out]; decide), if_pos (by rw [HHO.out]; simp)]))
                        have hset := taken_set (W := W) (out := out) HRC.out j (by rw [HN.out]; exact hlt)
                        rw [HXE.out] at hset
                        have hls := left_set (takenB c W out) j (by rw [taken_len, HN.out]; exact hlt) (by rw [HTG.out])
                        rw [← hset] at hls
                        have HSE := Lib.hid hset
                        have HLS := Lib.hid hls
                        clear hset hls
                        go_wp2_with (with_reducible (show wpList _ _ _ (Oper.mk none (.store 4 (.tmp 91) _) _ _ _ _ :: _) _ _); refine still ?_)
                        refine list_set1E wr T 4 4 (boolsV (takenB c W out)) j (.bool true) HBS2.out (by rw [boolsV_len, taken_len, HN.out]; exact hlt) rfl rfl (by kernel_rfl) rfl (.tmp 91) _ rfl rfl rfl (fun w5 h5 t5 => ?_)
                        rw [boolsV_set, ← HSE.out] at h5
                        have HB5 := Lib.hid (show BoolsAt w5 T (takenB c W (out ++ [x])) from h5)
                        have T5 := Lib.hid (HOQ.out.turn.trans t5 (fun q hq e => by have := HTW.out; omega))
                        have O5 := Lib.hid (t5.owns HOQ.out.own (fun q hq e => own_neT HOQ.out.own HBS2.out q hq e))
                        have HX5 := Lib.hid (rangeAt_turn HXR.out t5 (fun e => HGT.out e))
                        clear h5 t5
                        obtain ⟨vy, wy, hry, hoy, ty, ay, cy, hvy⟩ := app_one w5 w.heap.size 24 24 Try.underlying24 u6 out x O5.out (by have := T5.out.size; omega) (by have := HOL.out; omega)
                        subst hvy
                        have HRY := Lib.hid hry
                        have HOY := Lib.hid hoy
                        have HBY := Lib.hid (show BoolsAt wy T (takenB c W (out ++ [x])) from (ty.block T (Array.getElem?_eq_some_iff.1 HB5.out).1 (fun e => own_neT O5.out HB5.out T e rfl)).trans HB5.out)
                        have TY := Lib.hid (turn_on O5.out (Nat.le_refl _) T5.out ty)
                        clear hry hoy ty
                        go_wp2_with (with_reducible (show wpList _ _ _ (Oper.mk (some 96) (.load 38 (.tmp 95)) _ _ _ _ :: _) _ _); refine still ?_)
                        refine wpList_load_mid rfl 38 (.tmp 95) rfl g (o + j * 10) rfl x.vals _ HX5.out Try.underlying38 rfl el_info ?_
                        go_wp2_with (with_reducible (show wpList _ _ _ (Oper.mk (some 97) (.buildSlice 24 _ _) _ _ _ _ :: _) _ _); refine still ?_)
                        refine list_exec rfl _ _ (exec_build_one _ _ (.tmp 96) 24 Try.underlying24 rfl x rfl _) ?_
                        go_wp2_with (with_reducible (show wpList _ _ _ (Oper.mk (some 98) (_) _ _ _ _ :: _) _ _); refine still ?_)
                        refine list_exec rfl _ _ (exec_append _ _ (.tmp 92) (.tmp 97) 24 rfl _ _ _ _ _ rfl rfl HRY.out) ?_
                        obtain ⟨L1, hL1⟩ : ∃ L1, leftC (takenB c W (out ++ [x])) = L1 := ⟨_, rfl⟩
                        have hl1 : L0 = L1 + 1 := by rw [← HL0.out, ← hL1]; exact HLS.out.symm
                        have hb1 : L1 ≤ 100 := by have := left_lt (takenB c W (out ++ [x])); rw [taken_len, HN.out, hL1] at this; omega
                        subst hl1
                        have HL1 := Lib.hid hL1
                        clear hL1
                        go_wp2_with fail
                        go_roundw
                        case rel => exact ⟨j + 1, by omega, by go_num, by rw [HSN.out, HST.out]; exact ⟨by have := step_ord HOQ.out.ord HXC.out; rw [HST.out] at this; exact this, HBY.out, by first | (rw [HL1.out]; done) | (rw [HL1.out]; go_num), HOY.out, TY.out⟩⟩
                        case measure => simp [intOf]; omega
                  · skip
                    go_wp2_with (go_at_call 20; refine (rfind3 wr _ W x.par HVW.out HRW.out HLW.out).mono ?_; rintro r1 wb ⟨rfl, k2, rfl, hk2, _⟩; rw [HHW.out] at hk2; refine still ?_)
                    unfold Still
                    have HST := Lib.hid (show stepO W out x = out ++ [x] from (by unfold stepO; rw [if_neg (by rw [HTK.out]; decide), if_pos (by rw [HHW.out]; simp)]))
                    have hset := taken_set (W := W) (out := out) HRC.out j (by rw [HN.out]; exact hlt)
                    rw [HXE.out] at hset
                    have hls := left_set (takenB c W out) j (by rw [taken_len, HN.out]; exact hlt) (by rw [HTG.out])
                    rw [← hset] at hls
                    have HSE := Lib.hid hset
                    have HLS := Lib.hid hls
                    clear hset hls
                    go_wp2_with (with_reducible (show wpList _ _ _ (Oper.mk none (.store 4 (.tmp 91) _) _ _ _ _ :: _) _ _); refine still ?_)
                    refine list_set1E wr T 4 4 (boolsV (takenB c W out)) j (.bool true) HBS2.out (by rw [boolsV_len, taken_len, HN.out]; exact hlt) rfl rfl (by kernel_rfl) rfl (.tmp 91) _ rfl rfl rfl (fun w5 h5 t5 => ?_)
                    rw [boolsV_set, ← HSE.out] at h5
                    have HB5 := Lib.hid (show BoolsAt w5 T (takenB c W (out ++ [x])) from h5)
                    have T5 := Lib.hid (HOQ.out.turn.trans t5 (fun q hq e => by have := HTW.out; omega))
                    have O5 := Lib.hid (t5.owns HOQ.out.own (fun q hq e => own_neT HOQ.out.own HBS2.out q hq e))
                    have HX5 := Lib.hid (rangeAt_turn HXR.out t5 (fun e => HGT.out e))
                    clear h5 t5
                    obtain ⟨vy, wy, hry, hoy, ty, ay, cy, hvy⟩ := app_one w5 w.heap.size 24 24 Try.underlying24 u6 out x O5.out (by have := T5.out.size; omega) (by have := HOL.out; omega)
                    subst hvy
                    have HRY := Lib.hid hry
                    have HOY := Lib.hid hoy
                    have HBY := Lib.hid (show BoolsAt wy T (takenB c W (out ++ [x])) from (ty.block T (Array.getElem?_eq_some_iff.1 HB5.out).1 (fun e => own_neT O5.out HB5.out T e rfl)).trans HB5.out)
                    have TY := Lib.hid (turn_on O5.out (Nat.le_refl _) T5.out ty)
                    clear hry hoy ty
                    go_wp2_with (with_reducible (show wpList _ _ _ (Oper.mk (some 96) (.load 38 (.tmp 95)) _ _ _ _ :: _) _ _); refine still ?_)
                    refine wpList_load_mid rfl 38 (.tmp 95) rfl g (o + j * 10) rfl x.vals _ HX5.out Try.underlying38 rfl el_info ?_
                    go_wp2_with (with_reducible (show wpList _ _ _ (Oper.mk (some 97) (.buildSlice 24 _ _) _ _ _ _ :: _) _ _); refine still ?_)
                    refine list_exec rfl _ _ (exec_build_one _ _ (.tmp 96) 24 Try.underlying24 rfl x rfl _) ?_
                    go_wp2_with (with_reducible (show wpList _ _ _ (Oper.mk (some 98) (_) _ _ _ _ :: _) _ _); refine still ?_)
                    refine list_exec rfl _ _ (exec_append _ _ (.tmp 92) (.tmp 97) 24 rfl _ _ _ _ _ rfl rfl HRY.out) ?_
                    obtain ⟨L1, hL1⟩ : ∃ L1, leftC (takenB c W (out ++ [x])) = L1 := ⟨_, rfl⟩
                    have hl1 : L0 = L1 + 1 := by rw [← HL0.out, ← hL1]; exact HLS.out.symm
                    have hb1 : L1 ≤ 100 := by have := left_lt (takenB c W (out ++ [x])); rw [taken_len, HN.out, hL1] at this; omega
                    subst hl1
                    have HL1 := Lib.hid hL1
                    clear hL1
                    go_wp2_with fail
                    go_roundw
                    case rel => exact ⟨j + 1, by omega, by go_num, by rw [HSN.out, HST.out]; exact ⟨by have := step_ord HOQ.out.ord HXC.out; rw [HST.out] at this; exact this, HBY.out, by first | (rw [HL1.out]; done) | (rw [HL1.out]; go_num), HOY.out, TY.out⟩⟩
                    case measure => simp [intOf]; omega
              · skip
                have HST := Lib.hid (show stepO W out x = out from (by unfold stepO; rw [if_pos HTK.out]))
                go_wp2_with fail
                go_roundw
                case rel => exact ⟨j + 1, by omega, by go_num, by rw [HSN.out, HST.out]; exact ⟨HOQ.out.ord, HBS2.out, by rw [HL0.out], HOQ.out.own, HOQ.out.turn⟩⟩
                case measure => simp [intOf]; omega
            · have hje : j = i := by omega
              subst hje
              have dj : decide ((j : Int) < (j : Int)) = false := decide_eq_false (by omega)
              have hpass : (c.take j).foldl (stepO W) (roundsO W c r) = roundsO W c (r + 1) := by rw [List.take_of_length_le (by rw [HN.out]; omega)]; rfl
              rw [hpass] at hos
              have HOP := Lib.hid hos
              clear hos hpass
              have hr100 : r ≤ 100 := by have := HRL.out; omega
              go_wp2_with fail
              go_roundw
              case rel => exact ⟨r + 1, by have := HRL.out; omega, by have := HRL.out; go_num, HOP.out⟩
              case measure => have := HRL.out; simp [intOf]; omega
        · have hre : r = i + 1 := by omega
          subst hre
          have dr : decide (((i + 1 : Nat) : Int) ≤ (i : Int)) = false := decide_eq_false (by omega)
          have HOK := Lib.hid (show ordE c W = roundsO W c (i + 1) by unfold ordE; rw [HN.out])
          have hlv := HOS.out.left
          rw [← HOK.out] at hlv
          subst hlv
          have HZ := Lib.hid (left_zero_ok (c := c) (W := W))
          obtain ⟨LC, hLC⟩ : ∃ LC, leftC (takenB c W (ordE c W)) = LC := ⟨_, rfl⟩
          rw [hLC] at HZ ⊢
          clear hLC
          go_wp2_with fail
          go_ret2
          refine ⟨_, by rw [← HZ.out]; rfl, by rw [HOK.out]; exact HOS.out.own, HOS.out.turn⟩

end Go.Proofs.Ytkciaafkhpjnaaa
