/- Own texts, packed: Kg, Kh. -/
import Derived.Test.YtboofamenpcnhaaGreatDoorV45
import Derived.Test.YtboofamenpcnhaaGreatDoorV50
import Derived.Test.YtboofamenpcnhaaGreatDoorV00
namespace Go.Proofs.YtboofamenpcnhaaGreatDoor
set_option maxRecDepth 100000
open Go.RowKit Go.Shelf
set_option linter.unusedVariables false
set_option linter.unusedSimpArgs false
theorem bytesLess_cb : ∀ a b : List UInt8, Op.bytesLess a b = decide (Lib.compareBytes a b < 0)
  | [], [] => rfl
  | [], b :: bs => rfl
  | a :: la, [] => rfl
  | a :: la, b :: bs => by
    have ih := bytesLess_cb la bs
    unfold Lib.compareBytes
    rw [Op.bytesLess]
    by_cases h1 : a < b
    · simp [h1]
    · by_cases h2 : b < a
      · have hne : ¬ a = b := fun e => by subst e; exact h1 h2
        simp [h1, h2, hne]
      · have he : a = b := UInt8.toNat_inj.1 (by simp only [UInt8.lt_iff_toNat_lt] at h1 h2; omega)
        subst he
        simp [ih]
theorem toList_bU (xs : List Int) : (strOfNums xs).toList = bU xs := by rw [ByteArray.toList_eq, strOfNums_data]; rfl
theorem less_key {x y : Ky} (h : cmpK x y < 0) : Op.bytesLess (strOfNums x.key).toList (strOfNums y.key).toList = true := by
  rw [toList_bU, toList_bU, bytesLess_cb]
  exact decide_eq_true h
theorem bU_inj : ∀ {xs ys : List Int}, BytesOk xs → BytesOk ys → bU xs = bU ys → xs = ys
  | [], [], _, _, _ => rfl
  | [], y :: ys, _, _, h => by simp [bU] at h
  | x :: xs, [], _, _, h => by simp [bU] at h
  | x :: xs, y :: ys, hx, hy, h => by
    simp only [bU, List.map_cons, List.cons.injEq] at h
    have h1 := hx x List.mem_cons_self
    have h2 := hy y List.mem_cons_self
    have h3 : x.toNat = y.toNat := by
      have := congrArg UInt8.toNat h.1
      have e1 : (x.toNat.toUInt8).toNat = x.toNat := by show x.toNat % 256 = _; omega
      have e2 : (y.toNat.toUInt8).toNat = y.toNat := by show y.toNat % 256 = _; omega
      rw [e1, e2] at this
      exact this
    rw [show x = y by omega, bU_inj (fun z hz => hx z (List.mem_cons_of_mem _ hz)) (fun z hz => hy z (List.mem_cons_of_mem _ hz)) h.2]
theorem cmpK_zero {x y : Ky} (hx : x.Ok) (hy : y.Ok) (h : cmpK x y = 0) : x.key = y.key := bU_inj hx.ok hy.ok (cb_eq _ _ h)
/-- Keys in a row, as a value. -/
def KV (w : World) (a : Option Addr) (l : List Ky) : Prop := ∀ k, k < l.length → ∃ g, a = some ⟨g, 0, none⟩ ∧ g < w.heap.size ∧ w.rangeAt g (k * 32) (l.getD k ky0).vals
theorem KV.turn {w w' : World} {a : Option Addr} {l : List Ky} (h : KV w a l) (t : Turn (fun _ => False) w w') : KV w' a l := fun k hk => by
  obtain ⟨g, h1, h2, h3⟩ := h k hk
  exact ⟨g, h1, Nat.lt_of_lt_of_le h2 t.size, rangeAt_turn h3 t id⟩
theorem kv_of {w : World} {B n : Nat} {lv : Value} {l : List Ky} (h : w.ownsRow B 32 32 lv n (kysV l)) (hok : ∀ o ∈ l, o.Ok) (hl : l.length = n) : ∃ a c, lv = .slice a n c ∧ n ≤ c ∧ KV w a l := by
  rcases h.2 with ⟨rfl, h0⟩ | ⟨g, cap, cur, rfl, _, hg, hnc, _, _, ht⟩
  · exact ⟨none, 0, by rw [h0], by omega, fun k hk => by omega⟩
  · refine ⟨_, cap, rfl, hnc, fun k hk => ?_⟩
    have hkb : KBk w g l (cur.toList.drop (n * 32)) := ⟨by rw [hg, ← ht, List.take_append_drop], hok⟩
    exact ⟨g, rfl, hkb.lt, by have := hkb.row.at_ k hk; rwa [Nat.zero_add] at this⟩
theorem src_arr {w : World} {g o : Nat} {x : Ky} (h : w.rangeAt g o x.vals) (hx : x.Ok) : Src w (.slice (some ⟨g, o, none⟩) 32 32) x.key := by
  refine .inl (.inr ⟨g, o, 32, by rw [hx.len], by rw [hx.len]; exact Nat.le_refl _, fun i hi => ?_⟩)
  exact h i _ (by simp [Ky.vals, List.getD, hi])
theorem conv_exec (ev : Operand → Value) (op : Oper) (x : Operand) (ho : op.op = .convert 29 9 x) {v : Value} {xs : List Int} {w : World} (hx : ev x = v) (hr : Src w v xs) : (execOp ev op).run Tryz.prog w = .ok (.value (.string (strOfNums xs))) w := by
  unfold execOp
  simp only [ho, hx, Sem.run_bind, hr.conv, Result.andThen_ok, Sem.run_pure]
/-- A row of bytes that an argument holds. -/
structure BRow (w : World) (u : Value) (xs : List Int) : Prop where
  src : Src w u xs
  ok : BytesOk xs
  cap : ∀ a l c, u = .slice a l c → c ≤ 9223372036854775807
  old : ∀ q, u.ownBlock = some q → 0 < xs.length → q < w.heap.size
theorem BRow.turn {w w' : World} {u : Value} {xs : List Int} (h : BRow w u xs) (t : Turn (fun _ => False) w w') : BRow w' u xs := ⟨h.src.turn t (fun _ _ => id), h.ok, h.cap, fun q h1 h2 => Nat.lt_of_lt_of_le (h.old q h1 h2) t.size⟩
def RowsIn (w : World) (la : Option Addr) (n : Nat) : Prop := ∀ i, i < n → ∃ g o u xs, la = some ⟨g, o, none⟩ ∧ w.cell? ⟨g, o + i, none⟩ = some u ∧ BRow w u xs
theorem RowsIn.turn {w w' : World} {la : Option Addr} {n : Nat} (h : RowsIn w la n) (t : Turn (fun _ => False) w w') : RowsIn w' la n := fun i hi => by
  obtain ⟨g, o, u, xs, h1, h2, h3⟩ := h i hi
  exact ⟨g, o, u, xs, h1, (t.cell (p := ⟨g, o + i, none⟩) (World.block_lt_of_cell? w _ h2) id).trans h2, h3.turn t⟩
/-- What a shelf holds behind some puts. -/
def KSt (w0 wr : World) (B S J M D i : Nat) (obs : List Ob) (T : Nat) : Prop := ∃ F G d L C rm, SH wr B F G S J M D d L C rm 200 (below T) (slE obs) firstE rootsL ∧ (12 - i) * 200 ≤ rm ∧ obs.length ≤ i ∧ T ≤ 10 * i ∧ (∀ o ∈ obs, 0 < o.size ∧ o.size ≤ 900 ∧ 60 ≤ o.first ∧ o.first.toNat + secN o.size.toNat ≤ 60 + T) ∧ (obs.map Ob.key).Nodup ∧ (∀ k, Mn F G J S k → B ≤ k) ∧ Turn (fun _ => False) w0 wr
theorem KSt.turn0 {w0 wr w' : World} {B S J M D i : Nat} {obs : List Ob} {T : Nat} (h : KSt w0 wr B S J M D i obs T) (t : Turn (fun _ => False) wr w') : KSt w0 w' B S J M D i obs T := by
  obtain ⟨F, G, d, L, C, rm, h1, h2, h3, h4, h5, h6, h7, h8⟩ := h
  exact ⟨F, G, d, L, C, rm, h1.turn0 t, h2, h3, h4, h5, h6, h7, h8.trans t (fun _ _ => id)⟩
theorem KSt.next {w0 wr : World} {B S J M D i : Nat} {obs : List Ob} {T : Nat} (h : KSt w0 wr B S J M D i obs T) : KSt w0 wr B S J M D (i + 1) obs T := by
  obtain ⟨F, G, d, L, C, rm, h1, h2, h3, h4, h5, h6, h7, h8⟩ := h
  exact ⟨F, G, d, L, C, rm, h1, by omega, by omega, by omega, h5, h6, h7, h8⟩
theorem KSt.slok {w0 wr : World} {B S J M D i : Nat} {obs : List Ob} {T : Nat} (h : KSt w0 wr B S J M D i obs T) (hi : i ≤ 12) : SlOk (slE obs) 260 := by
  obtain ⟨F, G, d, L, C, rm, h1, h2, h3, h4, h5, h6, h7, h8⟩ := h
  intro k hk hs
  by_cases e : k < obs.length
  · rw [slE_in e] at hs ⊢
    have := h5 _ (memb e)
    exact ⟨this.2.2.1, this.2.1, by omega⟩
  · rw [slE_out (by omega)] at hs
    exact absurd hs (by decide)
/-- The objects' keys. -/
theorem KSt.has {w0 wr : World} {B S J M D i : Nat} {obs : List Ob} {T : Nat} (h : KSt w0 wr B S J M D i obs T) (hi : i ≤ 12) (key : List Int) : HasP (slE obs) key ↔ key ∈ obs.map Ob.key := by
  obtain ⟨F, G, d, L, C, rm, h1, h2, h3, h4, h5, h6, h7, h8⟩ := h
  exact hasP_slE (by omega) key (fun o ho => (h5 o ho).1)
/-- An object is put: one that is there, or a new one. -/
def PutK (w0 : World) (B S J M D i : Nat) (obs : List Ob) (T : Nat) (ps key : List Int) (e : Ending) (w' : World) : Prop :=
  e = .returned (.tuple #[.agg (keyV key).toArray, .int .i64 0]) ∧ ((key ∈ obs.map Ob.key ∧ KSt w0 w' B S J M D (i + 1) obs T) ∨ (key ∉ obs.map Ob.key ∧ ∃ o, KSt w0 w' B S J M D (i + 1) (obs ++ [o]) (T + secN ps.length)))
theorem put_k (w0 wr : World) (B S J M D i : Nat) (obs : List Ob) (T : Nat) (h : KSt w0 wr B S J M D i obs T) (hi : i < 12) (hB : w0.heap.size ≤ B) (ps : List Int) (Z : Nat) (hZ : ps.length = Z) (h0 : 0 < Z) (h6 : Z ≤ 600) (hbo : BytesOk ps) (g o c : Nat) (hc : Z ≤ c) (hc9 : c ≤ 9223372036854775807)
    (hcell : ∀ i, i < ps.length → wr.cell? ⟨g, o + i, none⟩ = some (.int .u8 (ps.getD i 0))) (hg : g < B) :
    Calls Tryz.prog 12 #[.pointer (some ⟨S, 0, none⟩), .slice (some ⟨g, o, none⟩) Z c] wr (PutK w0 B S J M D i obs T ps (keyB (shaE firstE rootsL ps) 8)) := by
  have hhas := h.has (by omega) (keyB (shaE firstE rootsL ps) 8)
  obtain ⟨F, G, d, L, C, rm, h1, h2, h3, h4, h5, hnd, hbm, h8⟩ := h
  obtain ⟨r, rfl⟩ : ∃ r, rm = r + 200 := ⟨rm - 200, by omega⟩
  have hsec : 0 < secN Z ∧ secN Z ≤ 10 := by unfold secN; omega
  refine (sput_any wr B F G S J M D d L C r 200 (below T) (slE obs) firstE rootsL h1 ps Z hZ h0 (by omega) hbo g o c hc hc9 hcell (fun hm => by have := hbm _ hm; omega)).mono ?_
  rintro e w' (⟨q1, rfl, t⟩ | ⟨q1, q2, _⟩ | ⟨q1, slot, a, q2, q3, q4, q5, rfl, F', G', d', L', hs, hst⟩)
  · exact ⟨rfl, .inl ⟨hhas.1 q1, F, G, d, L, C, r + 200, h1.turn0 t, by omega, by omega, by omega, h5, hnd, hbm, h8.trans t (fun _ _ => id)⟩⟩
  · exfalso
    rcases q2 with q2 | q2
    · exact q2 obs.length (by omega) (slE_out (Nat.le_refl _))
    · have := below_least (T := T) (P := 200) (N := secN ps.length) (by rw [hZ]; omega) (by rw [hZ]; omega) _ q2
      cases this
  · have hslot : slot = obs.length := by
      by_cases e : slot < obs.length
      · rw [slE_in e] at q3
        have := (h5 _ (memb e)).1
        rw [q3] at this
        exact absurd this (by decide)
      · by_cases e2 : obs.length < slot
        · exact absurd (slE_out (Nat.le_refl _)) (q4 obs.length e2)
        · omega
    subst hslot
    have ha := below_least (T := T) (P := 200) (N := secN ps.length) (by rw [hZ]; omega) (by rw [hZ]; omega) _ q5
    cases ha
    rw [below_more, slE_set (by omega)] at hs
    have ht : Turn (fun _ => False) w0 w' := h8.trans hst.turn (fun k hk e => by have := hbm k e; omega)
    refine ⟨rfl, .inr ⟨fun hm => q1 (hhas.2 hm), obOf firstE rootsL ps T, F', G', d', L', _, r, hs, by omega, by rw [List.length_append, List.length_singleton]; omega, by rw [hZ]; omega, fun o ho => ?_, ?_, hs.bM, ht⟩⟩
    · rcases List.mem_append.1 ho with ho | ho
      · have := h5 o ho
        exact ⟨this.1, this.2.1, this.2.2.1, by omega⟩
      · rw [List.mem_singleton.1 ho]
        refine ⟨?_, ?_, ?_, ?_⟩
        · show (0 : Int) < (ps.length : Int); omega
        · show ((ps.length : Int)) ≤ 900; omega
        · show (60 : Int) ≤ 60 + (T : Int); omega
        · show (60 + (T : Int)).toNat + secN ((ps.length : Int)).toNat ≤ 60 + (T + secN ps.length)
          rw [Int.toNat_natCast]; omega
    · rw [List.map_append, List.map_cons, List.map_nil, List.nodup_append]
      refine ⟨hnd, by simp, fun a ha b hb => ?_⟩
      rw [List.mem_singleton.1 hb]
      intro e
      rw [e] at ha
      exact q1 (hhas.2 ha)
end Go.Proofs.YtboofamenpcnhaaGreatDoor
namespace Go.Proofs.YtboofamenpcnhaaGreatDoor
set_option maxRecDepth 100000
open Go.RowKit Go.Shelf
set_option linter.unusedVariables false
set_option linter.unusedSimpArgs false
theorem info23k {k : List Int} (h : k.length = 32) : (Tryz.prog.info? 23).map (·.size) = some (keyV k).length := by
  have : (Tryz.prog.info? 23).map (·.size) = some 32 := by kernel_rfl
  rw [this, keyV, List.length_map, h]
set_option maxHeartbeats 16000000 in
theorem skeys_walk (w : World) (tb : Tb w firstE rootsL) (la : Option Addr) (n lc : Nat) (hrow : RowsIn w la n) (other : List Int) (hol : other.length = 32) (hoo : BytesOk other) :
    Calls Tryz.prog 3 #[.slice la n lc, .agg (keyV other).toArray] w fun e w' => e = .returned (.bool true) ∧ Turn (fun _ => False) w w' := by
  have hz := zero32
  have hbx := box_alloc w 23 (keyV other)
  obtain ⟨X, hX⟩ : ∃ X, w.heap.size = X := ⟨_, rfl⟩
  obtain ⟨w1, hw1⟩ : ∃ w1, w.alloc (.cells (keyV other).toArray 23) = w1 := ⟨_, rfl⟩
  rw [hw1] at hbx
  have hxr := hbx.range
  rw [hX] at hxr
  have HXR := Lib.hid hxr
  have HXW := Lib.hid (show X < w1.heap.size from by rw [← hX, hbx.size]; omega)
  have T1 := Lib.hid hbx.turn
  have HTB := Lib.hid (tb.turn0 hbx.turn)
  have HROW := Lib.hid (hrow.turn hbx.turn)
  have HOO := Lib.hid hoo
  clear hbx hxr tb hrow hoo
  by_cases hbig : 12 < n
  · have hd : decide ((12 : Int) < (n : Int)) = true := decide_eq_true (by omega)
    go_enter Tryz.func3, Tryz.ntmps3
    go_wp2_with fail
    refine (sawake_any w1 firstE rootsL HTB.out).mono ?_
    rintro e w2 ⟨rfl, t2⟩
    have T2 := Lib.hid (T1.out.trans t2 (fun _ _ => id))
    have HTB2 := Lib.hid (HTB.out.turn0 t2)
    clear t2
    go_wp2_with fail
    refine (sawake_any w2 firstE rootsL HTB2.out).mono ?_
    rintro e w3 ⟨rfl, t3⟩
    have T3 := Lib.hid (T2.out.trans t3 (fun _ _ => id))
    clear t3
    go_wp2_with fail
    go_ret
    exact ⟨rfl, T3.out⟩
  have hn12 : n ≤ 12 := by omega
  have hd : decide ((12 : Int) < (n : Int)) = false := decide_eq_false (by omega)
  clear hbig
  go_enter Tryz.func3, Tryz.ntmps3
  go_wp2_with fail
  refine (sawake_any w1 firstE rootsL HTB.out).mono ?_
  rintro e w2 ⟨rfl, t2⟩
  have T12 := Lib.hid t2
  have T2 := Lib.hid (T1.out.trans t2 (fun _ _ => id))
  have HTB2 := Lib.hid (HTB.out.turn0 t2)
  have hfr := fresh_any w2 200 3000 firstE rootsL HTB2.out (by omega) (by omega)
  have HFR := Lib.hid hfr
  clear t2 hfr
  go_wp2_with fail
  refine HFR.out.mono ?_
  rintro e w3 ⟨D, S, J, M, F, G, d, L, rfl, hs, t3⟩
  obtain ⟨B, hB⟩ : ∃ B, w2.heap.size = B := ⟨_, rfl⟩
  have HBB := Lib.hid (show w2.heap.size ≤ B from by omega)
  have HXB := Lib.hid (show X < B from by have := HXW.out; have := T12.out.size; omega)
  have HK0 := Lib.hid (show KSt w2 w3 B S J M D 0 [] 0 from ⟨F, G, d, L, _, 3000, by rw [below_zero, slE_nil, ← hB]; exact hs, by omega, Nat.le_refl _, by omega, (fun o ho => by cases ho), List.Pairwise.nil, (fun k hk => by rw [← hB]; exact hs.bM k hk), t3⟩)
  have HROW2 := Lib.hid (HROW.out.turn T12.out)
  have HXR2 := Lib.hid (rangeAt_turn HXR.out T12.out id)
  have HX2 := Lib.hid (show X < w2.heap.size from by have := HXW.out; have := T12.out.size; omega)
  clear hs t3 hB
  go_wp2_with fail
  go_loopw [8, 9, 10] (fun nv sv iv wr => ∃ (i T : Nat) (obs : List Ob), i ≤ n ∧ iv = .int .i64 (i : Int) ∧ nv = .int .i64 (obs.length : Int) ∧ sv = .int .i64 (T : Int) ∧ KSt w2 wr B S J M D i obs T) (fun _ _ iv _ => n - (intOf iv).toNat)
  case atStart => exact ⟨0, 0, [], Nat.zero_le _, rfl, rfl, rfl, HK0.out⟩
  case round =>
    obtain ⟨i, T, obs, hi, rfl, rfl, rfl, hk⟩ := hrel
    have HK := Lib.hid hk
    obtain ⟨m, hm⟩ : ∃ m, obs.length = m := ⟨_, rfl⟩
    have HM := Lib.hid hm
    rw [hm]
    have hb := hk
    obtain ⟨_, _, _, _, _, _, _, _, hmi, hti, _, _, _, htr⟩ := hb
    have hmb : m ≤ i ∧ T ≤ 10 * i := ⟨by omega, hti⟩
    have HTR := Lib.hid htr
    clear hk hm hmi hti htr
    by_cases hlt : i < n
    · have dk : decide ((i : Int) < (n : Int)) = true := decide_eq_true (by omega)
      have gi : (0 : Int) ≤ (i : Int) ∧ (i : Int) < (n : Int) := by omega
      obtain ⟨g, o, u, ps, rfl, hcu, hbr⟩ := HROW2.out i hlt
      obtain ⟨ua, uc, rfl, -⟩ := src_any hbr.src
      have hc9 := hbr.cap _ _ _ rfl
      obtain ⟨Z, hZ⟩ : ∃ Z, ps.length = Z := ⟨_, rfl⟩
      rw [hZ] at hcu hbr
      have HZ := Lib.hid hZ
      have HCU := Lib.hid ((HTR.out.cell (p := ⟨g, o + i, none⟩) (World.block_lt_of_cell? w2 _ hcu) id).trans hcu)
      have HBR := Lib.hid hbr
      have hcw := HCU.out
      clear hcu hbr hZ
      by_cases hz0 : Z = 0
      · have d1 : ((Z : Int) == 0) = true := by simp; omega
        go_wp2_with fail
        go_ret
        exact ⟨rfl, T2.out.trans HTR.out (fun _ _ => id)⟩
      have d1 : ((Z : Int) == 0) = false := by simp; omega
      by_cases hz6 : 600 < Z
      · have d2 : decide ((600 : Int) < (Z : Int)) = true := decide_eq_true (by omega)
        go_wp2_with fail
        go_ret
        exact ⟨rfl, T2.out.trans HTR.out (fun _ _ => id)⟩
      have d2 : decide ((600 : Int) < (Z : Int)) = false := decide_eq_false (by omega)
      have hrd : Reads w2 (.slice ua Z uc) ps := by
        rcases HBR.out.src with h | ⟨x, c, h1, h2⟩
        · exact h
        · have := HZ.out; rw [h2] at this; simp at this; omega
      obtain ⟨g2, o2, rfl, hzl, hcc⟩ : ∃ g o, ua = some ⟨g, o, none⟩ ∧ Z ≤ uc ∧ ∀ i, i < ps.length → w2.cell? ⟨g, o + i, none⟩ = some (.int .u8 (ps.getD i 0)) := by
        rcases hrd with ⟨_, h2⟩ | ⟨g, o, cap, h1, h2, h3⟩
        · have := HZ.out; rw [h2] at this; simp at this; omega
        · have h4 := HZ.out
          rw [h4] at h1 h2
          cases h1
          exact ⟨g, o, rfl, h2, h3⟩
      have HCC := Lib.hid hcc
      have HCW := Lib.hid (show ∀ wq, Turn (fun _ => False) w2 wq → ∀ i, i < ps.length → wq.cell? ⟨g2, o2 + i, none⟩ = some (.int .u8 (ps.getD i 0)) from fun wq t j hj => (t.cell (p := ⟨g2, o2 + j, none⟩) (World.block_lt_of_cell? w2 _ (hcc j hj)) id).trans (hcc j hj))
      have HGB := Lib.hid (show g2 < B from by have h0 : g2 < w2.heap.size := World.block_lt_of_cell? w2 ⟨g2, o2 + 0, none⟩ (hcc 0 (by have := HZ.out; omega)); have := HBB.out; omega)
      have HZL := Lib.hid (show Z ≤ uc ∧ uc ≤ 9223372036854775807 from ⟨hzl, hc9⟩)
      have HZ6 := Lib.hid (show 0 < Z ∧ Z ≤ 600 from by omega)
      obtain ⟨key, hkey⟩ : ∃ key, keyB (shaE firstE rootsL ps) 8 = key := ⟨_, rfl⟩
      have hkl : key.length = 32 := by rw [← hkey]; exact keyB_len _ 8
      have HKEY := Lib.hid hkey
      have HST := Lib.hid (show ∀ wq, Turn (fun _ => False) w2 wq → Calls Tryz.prog 11 #[.slice (some ⟨g2, o2, none⟩) Z uc] wq (KeyPost wq key) from fun wq t => by
        rw [← hkey]
        exact RefT.ref_some ⟨g2, o2, none⟩ Z uc ps wq HZ.out (.inl (.inr ⟨g2, o2, uc, rfl, by have := HZ.out; omega, HCW.out wq t⟩)) HBR.out.ok (by have := HZ6.out; omega))
      have hq63 : ((Z : Int) + 63).tdiv 64 = ((secN Z : Nat) : Int) := by rw [Int.tdiv_eq_ediv_of_nonneg (by omega)]; unfold secN; omega
      have hsb : secN Z ≤ 10 := by unfold secN; omega
      clear hrd hcc hzl hc9 hkey
      go_wp2_with fail
      refine (HST.out wr HTR.out).mono ?_
      rintro e w5 ⟨rfl, t5⟩
      rw [show (key.map (Value.int .u8)).toArray = (keyV key).toArray from rfl]
      have HK5 := Lib.hid (HK.out.turn0 t5)
      have HT5 := Lib.hid (HTR.out.trans t5 (fun _ _ => id))
      have T5 := Lib.hid t5
      clear t5
      have hsh : ShAt w5 S J M (slE obs) := by
        obtain ⟨F, G, d, L, C, rm, h1, _⟩ := HK5.out
        exact h1.sh
      have HSH := Lib.hid hsh
      clear hsh
      go_wp2_with fail
      refine (has_sh S J M (slE obs) key hkl w5 HSH.out).mono ?_
      rintro e w6 ⟨t6, hcase⟩
      have HK6 := Lib.hid (HK5.out.turn0 t6)
      have HT6 := Lib.hid (HT5.out.trans t6 (fun _ _ => id))
      have T6 := Lib.hid (T5.out.trans t6 (fun _ _ => id))
      have hcw6 := (T6.out.cell (p := ⟨g, o + i, none⟩) (World.block_lt_of_cell? wr _ HCU.out) id).trans HCU.out
      clear t6 hcw
      rcases hcase with ⟨hP, rfl⟩ | ⟨hP, rfl⟩
      · have hin := (HK6.out.has (by omega) key).1 hP
        have HIN := Lib.hid hin
        clear hP hin
        go_wp2_with fail
        refine (put_k w2 w6 B S J M D i obs T HK6.out (by omega) HBB.out ps Z HZ.out HZ6.out.1 HZ6.out.2 HBR.out.ok g2 o2 uc HZL.out.1 HZL.out.2 (HCW.out w6 HT6.out) HGB.out).mono ?_
        rintro e w7 ⟨rfl, hput⟩
        rw [HKEY.out] at hput ⊢
        rcases hput with ⟨_, hk7⟩ | ⟨hno, _⟩
        rotate_left
        · exact absurd HIN.out hno
        have HK7 := Lib.hid hk7
        clear hk7
        have HT7 := Lib.hid (show Turn (fun _ => False) w2 w7 from by obtain ⟨_, _, _, _, _, _, _, _, _, _, _, _, _, h⟩ := HK7.out; exact h)
        clear hcw6
        go_wp2_with (with_reducible (show wpList _ _ _ (Oper.mk none (.store 32 (.tmp 11) (.tmp 82)) _ _ _ _ :: _) _ _); refine still ?_)
        refine list_box w7 32 z32 (keyV key) (by simp [keyV, hkl, z32]) (fun v hv => by obtain ⟨x, _, rfl⟩ := List.mem_map.1 hv; rfl) (info32k hkl) rfl (.tmp 11) (.tmp 82) rfl rfl rfl ?_
        intro w8 hB8
        obtain ⟨E, hE⟩ : ∃ E, w7.heap.size = E := ⟨_, rfl⟩
        have hr8 := hB8.range
        rw [hE] at hr8 ⊢
        have HT8 := Lib.hid (HT7.out.trans hB8.turn (fun _ _ => id))
        have HK8 := Lib.hid (HK7.out.turn0 hB8.turn)
        have hcg : w2.cell? ⟨g, o + i, none⟩ = some (.slice (some ⟨g2, o2, none⟩) Z uc) := by
          obtain ⟨g', o', u', ps', h1, h2, _⟩ := HROW2.out i hlt
          cases h1
          have := HCU.out
          rw [HTR.out.cell (p := ⟨g, o + i, none⟩) (World.block_lt_of_cell? w2 _ h2) id] at this
          exact this
        have HSS := Lib.hid (show w8.rangeAt E 0 (keyV key) ∧ w8.cell? ⟨g, o + i, none⟩ = some (.slice (some ⟨g2, o2, none⟩) Z uc) from ⟨hr8, (HT8.out.cell (p := ⟨g, o + i, none⟩) (World.block_lt_of_cell? w2 _ hcg) id).trans hcg⟩)
        have heq : ∀ W, (Op.equalIn 10000 32 (.agg (keyV key).toArray) (.agg (keyV key).toArray)).run Tryz.prog W = .ok (key == key) W := fun W => equalIn_bytes 32 32 9998 Tryz.underlying32 key key hkl hkl W
        have hkk : (key == key) = true := by simp
        clear hB8 hr8 hE hcg
        go_wp2_with fail
        refine wp_region_held_drew (S := fun wq => wq.rangeAt E 0 (keyV key) ∧ wq.cell? ⟨g, o + i, none⟩ = some (.slice (some ⟨g2, o2, none⟩) Z uc)) (by kernel_rfl) HSS.out (fun hHeld => ?_)
        refine wpAnyH_take (i := 0) (v := .int .i64 0) rfl (by kernel_rfl) (by kernel_rfl) (by kernel_rfl) (fun _ _ _ h => h) (Or.inl ⟨by rfl, ?yq1⟩) (by assumption) ?rq1
        case yq1 => (intro wq hSw; (try simp only [zq1, zq2, zq3]); go_simp; (try with_reducible rfl); all_goals (try omega))
        case rq1 =>
        try simp only [Act.put, zq4, zq5, zq6, zq1, zq2, zq3]
        refine wpAnyH_take (i := 1) (v := .bool false) rfl (by kernel_rfl) (by kernel_rfl) (by kernel_rfl) (fun _ _ _ h => h) (Or.inl ⟨by rfl, ?yq2⟩) (by assumption) ?rq2
        case yq2 => (intro wq hSw; (try simp only [zq1, zq2, zq3]); go_simp; (try with_reducible rfl); all_goals (try omega))
        case rq2 =>
        try simp only [Act.put, zq4, zq5, zq6, zq1, zq2, zq3]
        refine wpAnyH_take (i := 2) (v := .bool false) rfl (by kernel_rfl) (by kernel_rfl) (by kernel_rfl) (fun _ _ _ h => h) (Or.inl ⟨by rfl, ?yq3⟩) (by assumption) ?rq3
        case yq3 => (intro wq hSw; (try simp only [zq1, zq2, zq3]); go_simp; (try with_reducible rfl); all_goals (try omega))
        case rq3 =>
        try simp only [Act.put, zq4, zq5, zq6, zq1, zq2, zq3]
        refine wpAnyH_take (i := 3) (v := .agg (keyV key).toArray) rfl (by kernel_rfl) (by kernel_rfl) (by kernel_rfl) (fun _ _ _ h => h) (Or.inl ⟨by rfl, ?yl3a⟩) (by assumption) ?rl3a
        case yl3a => (intro wq hSw; exact exec_load_mid _ _ 32 _ rfl E 0 rfl (keyV key) _ _ hSw.1 Tryz.underlying32 rfl (info32k hkl))
        case rl3a =>
        try simp only [Act.put, zq4, zq5, zq6, zq1, zq2, zq3]
        refine wpAnyH_take (i := 4) (v := .slice (some ⟨g, o, none⟩) n lc) rfl (by kernel_rfl) (by kernel_rfl) (by kernel_rfl) (fun _ _ _ h => h) (Or.inl ⟨by rfl, ?yq4⟩) (by assumption) ?rq4
        case yq4 => (intro wq hSw; (try simp only [zq1, zq2, zq3]); go_simp; (try with_reducible rfl); all_goals (try omega))
        case rq4 =>
        try simp only [Act.put, zq4, zq5, zq6, zq1, zq2, zq3]
        refine wpAnyH_take (i := 5) (v := .int .i64 (i : Int)) rfl (by kernel_rfl) (by kernel_rfl) (by kernel_rfl) (fun _ _ _ h => h) (Or.inl ⟨by rfl, ?yq5⟩) (by assumption) ?rq5
        case yq5 => (intro wq hSw; (try simp only [zq1, zq2, zq3]); go_simp; (try with_reducible rfl); all_goals (try omega))
        case rq5 =>
        try simp only [Act.put, zq4, zq5, zq6, zq1, zq2, zq3]
        refine wpAnyH_take (i := 6) (v := .pointer (some ⟨g, o + i, none⟩)) rfl (by kernel_rfl) (by kernel_rfl) (by kernel_rfl) (fun _ _ _ h => h) (Or.inl ⟨by rfl, ?yq6⟩) (by assumption) ?rq6
        case yq6 => (intro wq hSw; (try simp only [zq1, zq2, zq3]); go_simp; (try with_reducible rfl); all_goals (try omega))
        case rq6 =>
        try simp only [Act.put, zq4, zq5, zq6, zq1, zq2, zq3]
        refine wpAnyH_take (i := 7) (v := .slice (some ⟨g2, o2, none⟩) Z uc) rfl (by kernel_rfl) (by kernel_rfl) (by kernel_rfl) (fun _ _ _ h => h) (Or.inl ⟨by rfl, ?yq7⟩) (by assumption) ?rq7
        case yq7 => (intro wq hSw; obtain ⟨q1, q2⟩ := hSw; (try simp only [zq1, zq2, zq3]); go_simp; (try with_reducible rfl); all_goals (try omega))
        case rq7 =>
        try simp only [Act.put, zq4, zq5, zq6, zq1, zq2, zq3]
        refine wpAnyH_ready (rs := [8]) (by kernel_rfl) (by simp) ?_
        refine AllReadyH.cons rfl (fun K hK => ?_) AllReadyH.nil
        go_simp
        refine (HST.out w8.drew (HT8.out.trans (Turn.refl (fun _ => False) w8).drew (fun _ _ => id))).mono ?_
        rintro e w9 ⟨rfl, t9⟩
        rw [show (key.map (Value.int .u8)).toArray = (keyV key).toArray from rfl]
        have T9 := Lib.hid (show Turn (fun _ => False) w8 w9 from (Turn.refl (fun _ => False) w8).drew.trans t9 (fun _ _ => id))
        clear t9
        refine hK.out _ _ ⟨rangeAt_turn HSS.out.1 T9.out id, (T9.out.cell (p := ⟨g, o + i, none⟩) (World.block_lt_of_cell? w8 _ HSS.out.2) id).trans HSS.out.2⟩ (fun _ => ?_)
        clear hK K
        try simp only [Act.put, zq4, zq5, zq6, zq1, zq2, zq3]
        refine wpAnyH_take (i := 9) (v := .bool false) rfl (by kernel_rfl) (by kernel_rfl) (by kernel_rfl) (fun _ _ _ h => h) (Or.inl ⟨by rfl, ?yq8⟩) (by assumption) ?rq8
        case yq8 => (intro wq hSw; (try simp only [zq1, zq2, zq3]); go_simp; (try with_reducible rfl); all_goals (try omega))
        case rq8 =>
        try simp only [Act.put, zq4, zq5, zq6, zq1, zq2, zq3]
        refine wpAnyH_take (i := 10) (v := .bool false) rfl (by kernel_rfl) (by kernel_rfl) (by kernel_rfl) (fun _ _ _ h => h) (Or.inl ⟨by rfl, ?yq9⟩) (by assumption) ?rq9
        case yq9 => (intro wq hSw; (try simp only [zq1, zq2, zq3]); go_simp; (try with_reducible rfl); all_goals (try omega))
        case rq9 =>
        try simp only [Act.put, zq4, zq5, zq6, zq1, zq2, zq3]
        refine wpAnyH_done (by kernel_rfl) ?_ _
        clear hHeld heq hkk
        have HK9 := Lib.hid (HK8.out.turn0 T9.out)
        go_wp2_with fail
        go_roundw
        case rel => exact ⟨i + 1, T, obs, by omega, by go_num, by rw [HM.out], rfl, HK9.out⟩
        case measure => simp [intOf]; omega
      · have hno := fun h => hP ((HK6.out.has (by omega) key).2 h)
        have HNO := Lib.hid hno
        clear hP hno
        go_wp2_with fail
        refine (put_k w2 w6 B S J M D i obs T HK6.out (by omega) HBB.out ps Z HZ.out HZ6.out.1 HZ6.out.2 HBR.out.ok g2 o2 uc HZL.out.1 HZL.out.2 (HCW.out w6 HT6.out) HGB.out).mono ?_
        rintro e w7 ⟨rfl, hput⟩
        rw [HKEY.out] at hput ⊢
        rcases hput with ⟨hin, _⟩ | ⟨_, o3, hk7⟩
        · exact absurd hin HNO.out
        rw [HZ.out] at hk7
        have HK7 := Lib.hid hk7
        clear hk7
        have HT7 := Lib.hid (show Turn (fun _ => False) w2 w7 from by obtain ⟨_, _, _, _, _, _, _, _, _, _, _, _, _, h⟩ := HK7.out; exact h)
        clear hcw6
        go_wp2_with (with_reducible (show wpList _ _ _ (Oper.mk none (.store 32 (.tmp 11) (.tmp 82)) _ _ _ _ :: _) _ _); refine still ?_)
        refine list_box w7 32 z32 (keyV key) (by simp [keyV, hkl, z32]) (fun v hv => by obtain ⟨x, _, rfl⟩ := List.mem_map.1 hv; rfl) (info32k hkl) rfl (.tmp 11) (.tmp 82) rfl rfl rfl ?_
        intro w8 hB8
        obtain ⟨E, hE⟩ : ∃ E, w7.heap.size = E := ⟨_, rfl⟩
        have hr8 := hB8.range
        rw [hE] at hr8 ⊢
        have HT8 := Lib.hid (HT7.out.trans hB8.turn (fun _ _ => id))
        have HK8 := Lib.hid (HK7.out.turn0 hB8.turn)
        have hcg : w2.cell? ⟨g, o + i, none⟩ = some (.slice (some ⟨g2, o2, none⟩) Z uc) := by
          obtain ⟨g', o', u', ps', h1, h2, _⟩ := HROW2.out i hlt
          cases h1
          have := HCU.out
          rw [HTR.out.cell (p := ⟨g, o + i, none⟩) (World.block_lt_of_cell? w2 _ h2) id] at this
          exact this
        have HSS := Lib.hid (show w8.rangeAt E 0 (keyV key) ∧ w8.cell? ⟨g, o + i, none⟩ = some (.slice (some ⟨g2, o2, none⟩) Z uc) from ⟨hr8, (HT8.out.cell (p := ⟨g, o + i, none⟩) (World.block_lt_of_cell? w2 _ hcg) id).trans hcg⟩)
        have heq : ∀ W, (Op.equalIn 10000 32 (.agg (keyV key).toArray) (.agg (keyV key).toArray)).run Tryz.prog W = .ok (key == key) W := fun W => equalIn_bytes 32 32 9998 Tryz.underlying32 key key hkl hkl W
        have hkk : (key == key) = true := by simp
        clear hB8 hr8 hE hcg
        go_wp2_with fail
        refine wp_region_held_drew (S := fun wq => wq.rangeAt E 0 (keyV key) ∧ wq.cell? ⟨g, o + i, none⟩ = some (.slice (some ⟨g2, o2, none⟩) Z uc)) (by kernel_rfl) HSS.out (fun hHeld => ?_)
        refine wpAnyH_take (i := 0) (v := .int .i64 0) rfl (by kernel_rfl) (by kernel_rfl) (by kernel_rfl) (fun _ _ _ h => h) (Or.inl ⟨by rfl, ?yq10⟩) (by assumption) ?rq10
        case yq10 => (intro wq hSw; (try simp only [zq1, zq2, zq3]); go_simp; (try with_reducible rfl); all_goals (try omega))
        case rq10 =>
        try simp only [Act.put, zq4, zq5, zq6, zq1, zq2, zq3]
        refine wpAnyH_take (i := 1) (v := .bool false) rfl (by kernel_rfl) (by kernel_rfl) (by kernel_rfl) (fun _ _ _ h => h) (Or.inl ⟨by rfl, ?yq11⟩) (by assumption) ?rq11
        case yq11 => (intro wq hSw; (try simp only [zq1, zq2, zq3]); go_simp; (try with_reducible rfl); all_goals (try omega))
        case rq11 =>
        try simp only [Act.put, zq4, zq5, zq6, zq1, zq2, zq3]
        refine wpAnyH_take (i := 2) (v := .bool false) rfl (by kernel_rfl) (by kernel_rfl) (by kernel_rfl) (fun _ _ _ h => h) (Or.inl ⟨by rfl, ?yq12⟩) (by assumption) ?rq12
        case yq12 => (intro wq hSw; (try simp only [zq1, zq2, zq3]); go_simp; (try with_reducible rfl); all_goals (try omega))
        case rq12 =>
        try simp only [Act.put, zq4, zq5, zq6, zq1, zq2, zq3]
        refine wpAnyH_take (i := 3) (v := .agg (keyV key).toArray) rfl (by kernel_rfl) (by kernel_rfl) (by kernel_rfl) (fun _ _ _ h => h) (Or.inl ⟨by rfl, ?yl3b⟩) (by assumption) ?rl3b
        case yl3b => (intro wq hSw; exact exec_load_mid _ _ 32 _ rfl E 0 rfl (keyV key) _ _ hSw.1 Tryz.underlying32 rfl (info32k hkl))
        case rl3b =>
        try simp only [Act.put, zq4, zq5, zq6, zq1, zq2, zq3]
        refine wpAnyH_take (i := 4) (v := .slice (some ⟨g, o, none⟩) n lc) rfl (by kernel_rfl) (by kernel_rfl) (by kernel_rfl) (fun _ _ _ h => h) (Or.inl ⟨by rfl, ?yq13⟩) (by assumption) ?rq13
        case yq13 => (intro wq hSw; (try simp only [zq1, zq2, zq3]); go_simp; (try with_reducible rfl); all_goals (try omega))
        case rq13 =>
        try simp only [Act.put, zq4, zq5, zq6, zq1, zq2, zq3]
        refine wpAnyH_take (i := 5) (v := .int .i64 (i : Int)) rfl (by kernel_rfl) (by kernel_rfl) (by kernel_rfl) (fun _ _ _ h => h) (Or.inl ⟨by rfl, ?yq14⟩) (by assumption) ?rq14
        case yq14 => (intro wq hSw; (try simp only [zq1, zq2, zq3]); go_simp; (try with_reducible rfl); all_goals (try omega))
        case rq14 =>
        try simp only [Act.put, zq4, zq5, zq6, zq1, zq2, zq3]
        refine wpAnyH_take (i := 6) (v := .pointer (some ⟨g, o + i, none⟩)) rfl (by kernel_rfl) (by kernel_rfl) (by kernel_rfl) (fun _ _ _ h => h) (Or.inl ⟨by rfl, ?yq15⟩) (by assumption) ?rq15
        case yq15 => (intro wq hSw; (try simp only [zq1, zq2, zq3]); go_simp; (try with_reducible rfl); all_goals (try omega))
        case rq15 =>
        try simp only [Act.put, zq4, zq5, zq6, zq1, zq2, zq3]
        refine wpAnyH_take (i := 7) (v := .slice (some ⟨g2, o2, none⟩) Z uc) rfl (by kernel_rfl) (by kernel_rfl) (by kernel_rfl) (fun _ _ _ h => h) (Or.inl ⟨by rfl, ?yq16⟩) (by assumption) ?rq16
        case yq16 => (intro wq hSw; obtain ⟨q1, q2⟩ := hSw; (try simp only [zq1, zq2, zq3]); go_simp; (try with_reducible rfl); all_goals (try omega))
        case rq16 =>
        try simp only [Act.put, zq4, zq5, zq6, zq1, zq2, zq3]
        refine wpAnyH_ready (rs := [8]) (by kernel_rfl) (by simp) ?_
        refine AllReadyH.cons rfl (fun K hK => ?_) AllReadyH.nil
        go_simp
        refine (HST.out w8.drew (HT8.out.trans (Turn.refl (fun _ => False) w8).drew (fun _ _ => id))).mono ?_
        rintro e w9 ⟨rfl, t9⟩
        rw [show (key.map (Value.int .u8)).toArray = (keyV key).toArray from rfl]
        have T9 := Lib.hid (show Turn (fun _ => False) w8 w9 from (Turn.refl (fun _ => False) w8).drew.trans t9 (fun _ _ => id))
        clear t9
        refine hK.out _ _ ⟨rangeAt_turn HSS.out.1 T9.out id, (T9.out.cell (p := ⟨g, o + i, none⟩) (World.block_lt_of_cell? w8 _ HSS.out.2) id).trans HSS.out.2⟩ (fun _ => ?_)
        clear hK K
        try simp only [Act.put, zq4, zq5, zq6, zq1, zq2, zq3]
        refine wpAnyH_take (i := 9) (v := .bool false) rfl (by kernel_rfl) (by kernel_rfl) (by kernel_rfl) (fun _ _ _ h => h) (Or.inl ⟨by rfl, ?yq17⟩) (by assumption) ?rq17
        case yq17 => (intro wq hSw; (try simp only [zq1, zq2, zq3]); go_simp; (try with_reducible rfl); all_goals (try omega))
        case rq17 =>
        try simp only [Act.put, zq4, zq5, zq6, zq1, zq2, zq3]
        refine wpAnyH_take (i := 10) (v := .bool false) rfl (by kernel_rfl) (by kernel_rfl) (by kernel_rfl) (fun _ _ _ h => h) (Or.inl ⟨by rfl, ?yq18⟩) (by assumption) ?rq18
        case yq18 => (intro wq hSw; (try simp only [zq1, zq2, zq3]); go_simp; (try with_reducible rfl); all_goals (try omega))
        case rq18 =>
        try simp only [Act.put, zq4, zq5, zq6, zq1, zq2, zq3]
        refine wpAnyH_done (by kernel_rfl) ?_ _
        clear hHeld heq hkk
        have HK9 := Lib.hid (HK8.out.turn0 T9.out)
        go_wp2_with fail
        go_roundw
        case rel => exact ⟨i + 1, T + secN Z, obs ++ [o3], by omega, by go_num, by rw [List.length_append, List.length_singleton, HM.out]; go_num, by go_num, HK9.out⟩
        case measure => simp [intOf]; omega
    · have dk : decide ((i : Int) < (n : Int)) = false := decide_eq_false (by omega)
      obtain ⟨F, G, d, L, C, rm, hSH, _, hml, hTl, hob, hnd, hbm, htr⟩ := HK.out
      have hml12 : obs.length ≤ 12 := by omega
      have hos : ∀ o ∈ obs, 0 < o.size := fun o ho => (hob o ho).1
      have hnob := nOb_slE hSH.sh.sgood (by omega) hos
      have hkeys := callsIn_wide.1 (keyss_in wr S J M (slE obs) hSH.sh _ (sorts_any (slE obs) hSH.sh.sgood (by rw [hnob]; exact hml12)))
      rw [keys_slE hSH.sh.sgood (by omega) hos, hnob, HM.out] at hkeys
      have HKS := Lib.hid hkeys
      have HSH := Lib.hid hSH
      have HND := Lib.hid hnd
      have HSL := Lib.hid (HK.out.slok (by omega))
      have HHP := Lib.hid (HK.out.has (by omega) other)
      have HTL := Lib.hid (show T ≤ 200 ∧ m ≤ 12 from by have := HM.out; omega)
      have HLF := Lib.hid (show ∀ wq, Turn (fun _ => False) wr wq → Calls Tryz.prog 15 #[.pointer (some ⟨S, 0, none⟩)] wq fun e w' => e = .returned (.tuple #[.int .i64 (48 - (m : Int)), .int .i64 ((200 - T : Nat) : Int)]) ∧ Turn (fun _ => False) wq w' from fun wq t => by
        have h1 := HSH.out.turn0 t
        refine (sleft_any wq S J M 200 G (below T) (slE obs) h1.sh h1.mu (by omega)).mono ?_
        rintro e w' ⟨rfl, tt⟩
        exact ⟨by rw [nOb_slE h1.sh.sgood (by omega) hos, HM.out, below_cnt T 200 HTL.out.1], tt⟩)
      have HGT := Lib.hid (show ∀ wq, Turn (fun _ => False) wr wq → Calls Tryz.prog 14 #[.pointer (some ⟨S, 0, none⟩), .agg (keyV other).toArray] wq (GetPost wq C (slE obs) firstE rootsL other) from fun wq t => by
        have h1 := HSH.out.turn0 t
        have h2 := h1.len
        exact sget_any wq S J M D F d L rm C (slE obs) firstE rootsL other hol h1.tb h1.sh h1.jc (by rw [h2]; exact HSL.out) (by omega))
      have HHS := Lib.hid (show ∀ wq, Turn (fun _ => False) wr wq → Calls Tryz.prog 10 #[.pointer (some ⟨S, 0, none⟩), .agg (keyV other).toArray] wq fun e w' => Turn (fun _ => False) wq w' ∧ ((HasP (slE obs) other ∧ e = .returned (.bool true)) ∨ (¬ HasP (slE obs) other ∧ e = .returned (.bool false))) from fun wq t => has_sh S J M (slE obs) other hol wq (HSH.out.turn0 t).sh)
      have HDN := Lib.hid (show ¬ HasP (slE obs) other → ∀ wq, Turn (fun _ => False) wr wq → Calls Tryz.prog 16 #[.pointer (some ⟨S, 0, none⟩), .agg (keyV other).toArray] wq fun e w' => e = .returned (.int .i64 2) ∧ Turn (fun _ => False) wq w' from fun hno wq t => sdrop_none wq S J M (slE obs) other hol (HSH.out.turn0 t).sh hno)
      clear hSH hml hTl hob hnd hbm htr hml12 hos hnob hkeys
      go_wp2_with fail
      refine HKS.out.mono ?_
      rintro e w4 ⟨lv, ys, rfl, ⟨l, rfl, hperm, hlok, hsrt⟩, hown, t4⟩
      have hll : l.length = m := by have := hperm.length_eq; rw [List.length_map, HM.out] at this; exact this
      obtain ⟨ka, kc, rfl, hmc, hkv⟩ := kv_of hown hlok hll
      have hpk : (l.map Ky.key).Perm (obs.map Ob.key) := by
        have := hperm.map Ky.key
        rw [List.map_map] at this
        exact this
      have hnk : (l.map Ky.key).Nodup := hpk.nodup_iff.2 HND.out
      have hstrict : ∀ p q, p < q → q < l.length → cmpK (l.getD p ky0) (l.getD q ky0) < 0 := fun p q hpq hq => by
        have h1 := hsrt p q hpq hq
        by_cases h2 : cmpK (l.getD p ky0) (l.getD q ky0) = 0
        · exfalso
          have gp : l.getD p ky0 = l[p] := by simp [List.getD, show p < l.length by omega]
          have gq : l.getD q ky0 = l[q] := by simp [List.getD, hq]
          rw [gp, gq] at h2
          have h3 := cmpK_zero (hlok _ (List.getElem_mem _)) (hlok _ (List.getElem_mem _)) h2
          have h4 : (l.map Ky.key)[p]'(by rw [List.length_map]; omega) = (l.map Ky.key)[q]'(by rw [List.length_map]; omega) := by rw [List.getElem_map, List.getElem_map]; exact h3
          exact List.pairwise_iff_getElem.1 hnk p q _ _ hpq h4
        · omega
      have HSTR := Lib.hid hstrict
      have HLL := Lib.hid hll
      have HLOK := Lib.hid hlok
      have HKV := Lib.hid hkv
      have HMC := Lib.hid hmc
      have HPK := Lib.hid hpk
      have HT4 := Lib.hid t4
      have HT24 := Lib.hid (HTR.out.trans t4 (fun _ _ => id))
      clear hperm hlok hsrt hown t4 hll hmc hkv hpk hnk hstrict
      go_wp2_with fail
      go_loopw [14] (fun iv wq => ∃ q : Nat, 1 ≤ q ∧ (q ≤ m ∨ q = 1) ∧ iv = .int .i64 (q : Int) ∧ Turn (fun _ => False) w4 wq) (fun iv _ => 13 - (intOf iv).toNat)
      case atStart => exact ⟨1, Nat.le_refl _, .inr rfl, rfl, Turn.refl _ _⟩
      case round =>
        obtain ⟨q, hq1, hqm, rfl, htq⟩ := hrel
        by_cases hlq : q < m
        · have dq : decide ((q : Int) < (m : Int)) = true := decide_eq_true (by omega)
          have gq : (0 : Int) ≤ (q : Int) ∧ (q : Int) < (m : Int) := by omega
          have gq1 : (0 : Int) ≤ (q : Int) - 1 ∧ (q : Int) - 1 < (m : Int) := by omega
          have gq2 : (0 : Int) ≤ (q : Int) - 1 := by omega
          have gq3 : (q : Int) - 1 < (m : Int) := by omega
          have htn : ((q : Int) - 1).toNat = q - 1 := by omega
          have hwq : IntKind.i64.wrap ((q : Int) - 1) = (q : Int) - 1 := by rw [IntKind.wrap_i64]; omega
          obtain ⟨g, rfl, hgw, hr2⟩ := (HKV.out.turn htq) q (by rw [HLL.out]; exact hlq)
          obtain ⟨g', hgg, _, hr1⟩ := (HKV.out.turn htq) (q - 1) (by rw [HLL.out]; omega)
          cases hgg
          have hxok : (l.getD (q - 1) ky0).Ok := by
            have e : l.getD (q - 1) ky0 = l[q - 1]'(by rw [HLL.out]; omega) := by simp [List.getD, show q - 1 < l.length by rw [HLL.out]; omega]
            rw [e]; exact HLOK.out _ (List.getElem_mem _)
          have hyok : (l.getD q ky0).Ok := by
            have e : l.getD q ky0 = l[q]'(by rw [HLL.out]; exact hlq) := by simp [List.getD, show q < l.length by rw [HLL.out]; exact hlq]
            rw [e]; exact HLOK.out _ (List.getElem_mem _)
          have hbl := less_key (HSTR.out (q - 1) q (by omega) (by rw [HLL.out]; exact hlq))
          obtain ⟨x, hx⟩ : ∃ x, l.getD (q - 1) ky0 = x := ⟨_, rfl⟩
          obtain ⟨y, hy⟩ : ∃ y, l.getD q ky0 = y := ⟨_, rfl⟩
          rw [hx] at hr1 hxok hbl
          rw [hy] at hr2 hyok hbl
          obtain ⟨SX, hSX⟩ : ∃ SX, strOfNums x.key = SX := ⟨_, rfl⟩
          obtain ⟨SY, hSY⟩ : ∃ SY, strOfNums y.key = SY := ⟨_, rfl⟩
          rw [hSX, hSY] at hbl
          have HSX := Lib.hid hSX
          have HSY := Lib.hid hSY
          have HXO := Lib.hid hxok
          have HYO := Lib.hid hyok
          have HRR := Lib.hid (show wr.rangeAt g ((q - 1) * 32) x.vals ∧ wr.rangeAt g (q * 32) y.vals from ⟨hr1, hr2⟩)
          have HTQ := Lib.hid htq
          clear hx hy hSX hSY hr1 hr2 hxok hyok htq
          go_wp2_with fail
          refine wp_region_held_drew (S := fun wq => wq.rangeAt g ((q - 1) * 32) x.vals ∧ wq.rangeAt g (q * 32) y.vals) (by kernel_rfl) HRR.out (fun hHeld => ?_)
          refine wpAnyH_take (i := 0) (v := .slice (some ⟨g, 0, none⟩) m kc) rfl (by kernel_rfl) (by kernel_rfl) (by kernel_rfl) (fun _ _ _ h => h) (Or.inl ⟨by rfl, ?yq19⟩) (by assumption) ?rq19
          case yq19 => (intro wq hSw; (try simp only [zq1, zq2, zq3]); go_simp; (try with_reducible rfl); all_goals (try omega))
          case rq19 =>
          try simp only [Act.put, zq4, zq5, zq6, zq1, zq2, zq3]
          refine wpAnyH_take (i := 1) (v := .int .i64 (q : Int)) rfl (by kernel_rfl) (by kernel_rfl) (by kernel_rfl) (fun _ _ _ h => h) (Or.inl ⟨by rfl, ?yq20⟩) (by assumption) ?rq20
          case yq20 => (intro wq hSw; (try simp only [zq1, zq2, zq3]); go_simp; (try with_reducible rfl); all_goals (try omega))
          case rq20 =>
          try simp only [Act.put, zq4, zq5, zq6, zq1, zq2, zq3]
          refine wpAnyH_take (i := 2) (v := .int .i64 ((q : Int) - 1)) rfl (by kernel_rfl) (by kernel_rfl) (by kernel_rfl) (fun _ _ _ h => h) (Or.inl ⟨by rfl, ?yq21⟩) (by assumption) ?rq21
          case yq21 => (intro wq hSw; (try simp only [zq1, zq2, zq3]); go_simp; (try with_reducible rfl); all_goals (try omega))
          case rq21 =>
          try simp only [Act.put, zq4, zq5, zq6, zq1, zq2, zq3]
          refine wpAnyH_take (i := 3) (v := .pointer (some ⟨g, (q - 1) * 32, none⟩)) rfl (by kernel_rfl) (by kernel_rfl) (by kernel_rfl) (fun _ _ _ h => h) (Or.inl ⟨by rfl, ?yq22⟩) (by assumption) ?rq22
          case yq22 => (intro wq hSw; (try simp only [zq1, zq2, zq3]); go_simp; (try with_reducible rfl); all_goals (try omega))
          case rq22 =>
          try simp only [Act.put, zq4, zq5, zq6, zq1, zq2, zq3]
          refine wpAnyH_take (i := 4) (v := .slice (some ⟨g, (q - 1) * 32, none⟩) 32 32) rfl (by kernel_rfl) (by kernel_rfl) (by kernel_rfl) (fun _ _ _ h => h) (Or.inl ⟨by rfl, ?yq23⟩) (by assumption) ?rq23
          case yq23 => (intro wq hSw; (try simp only [zq1, zq2, zq3]); go_simp; (try with_reducible rfl); all_goals (try omega))
          case rq23 =>
          try simp only [Act.put, zq4, zq5, zq6, zq1, zq2, zq3]
          refine wpAnyH_take (i := 5) (v := .string SX) rfl (by kernel_rfl) (by kernel_rfl) (by kernel_rfl) (fun _ _ _ h => h) (Or.inl ⟨by rfl, ?yq24⟩) (by assumption) ?rq24
          case yq24 => (intro wq hSw; rw [← HSX.out]; exact conv_exec (v := .slice (some ⟨g, (q - 1) * 32, none⟩) 32 32) (xs := x.key) _ _ _ rfl rfl (src_arr hSw.1 HXO.out))
          case rq24 =>
          try simp only [Act.put, zq4, zq5, zq6, zq1, zq2, zq3]
          refine wpAnyH_take (i := 6) (v := .slice (some ⟨g, 0, none⟩) m kc) rfl (by kernel_rfl) (by kernel_rfl) (by kernel_rfl) (fun _ _ _ h => h) (Or.inl ⟨by rfl, ?yq25⟩) (by assumption) ?rq25
          case yq25 => (intro wq hSw; (try simp only [zq1, zq2, zq3]); go_simp; (try with_reducible rfl); all_goals (try omega))
          case rq25 =>
          try simp only [Act.put, zq4, zq5, zq6, zq1, zq2, zq3]
          refine wpAnyH_take (i := 7) (v := .int .i64 (q : Int)) rfl (by kernel_rfl) (by kernel_rfl) (by kernel_rfl) (fun _ _ _ h => h) (Or.inl ⟨by rfl, ?yq26⟩) (by assumption) ?rq26
          case yq26 => (intro wq hSw; (try simp only [zq1, zq2, zq3]); go_simp; (try with_reducible rfl); all_goals (try omega))
          case rq26 =>
          try simp only [Act.put, zq4, zq5, zq6, zq1, zq2, zq3]
          refine wpAnyH_take (i := 8) (v := .pointer (some ⟨g, q * 32, none⟩)) rfl (by kernel_rfl) (by kernel_rfl) (by kernel_rfl) (fun _ _ _ h => h) (Or.inl ⟨by rfl, ?yq27⟩) (by assumption) ?rq27
          case yq27 => (intro wq hSw; (try simp only [zq1, zq2, zq3]); go_simp; (try with_reducible rfl); all_goals (try omega))
          case rq27 =>
          try simp only [Act.put, zq4, zq5, zq6, zq1, zq2, zq3]
          refine wpAnyH_take (i := 9) (v := .slice (some ⟨g, q * 32, none⟩) 32 32) rfl (by kernel_rfl) (by kernel_rfl) (by kernel_rfl) (fun _ _ _ h => h) (Or.inl ⟨by rfl, ?yq28⟩) (by assumption) ?rq28
          case yq28 => (intro wq hSw; (try simp only [zq1, zq2, zq3]); go_simp; (try with_reducible rfl); all_goals (try omega))
          case rq28 =>
          try simp only [Act.put, zq4, zq5, zq6, zq1, zq2, zq3]
          refine wpAnyH_take (i := 10) (v := .string SY) rfl (by kernel_rfl) (by kernel_rfl) (by kernel_rfl) (fun _ _ _ h => h) (Or.inl ⟨by rfl, ?yq29⟩) (by assumption) ?rq29
          case yq29 => (intro wq hSw; rw [← HSY.out]; exact conv_exec (v := .slice (some ⟨g, q * 32, none⟩) 32 32) (xs := y.key) _ _ _ rfl rfl (src_arr hSw.2 HYO.out))
          case rq29 =>
          try simp only [Act.put, zq4, zq5, zq6, zq1, zq2, zq3]
          refine wpAnyH_take (i := 11) (v := .bool false) rfl (by kernel_rfl) (by kernel_rfl) (by kernel_rfl) (fun _ _ _ h => h) (Or.inl ⟨by rfl, ?yq30⟩) (by assumption) ?rq30
          case yq30 => (intro wq hSw; (try simp only [zq1, zq2, zq3]); go_simp; (try with_reducible rfl); all_goals (try omega))
          case rq30 =>
          try simp only [Act.put, zq4, zq5, zq6, zq1, zq2, zq3]
          refine wpAnyH_done (by kernel_rfl) ?_ _
          clear hHeld hbl
          go_wp2_with fail
          go_roundw
          case rel => exact ⟨q + 1, by omega, .inl (by omega), by go_num, HTQ.out.drew⟩
          case measure => have := HTL.out.2; simp [intOf]; omega
        · have dq : decide ((q : Int) < (m : Int)) = false := decide_eq_false (by omega)
          have HTQ := Lib.hid htq
          clear htq
          go_wp2_with fail
          go_loopw [15, 16] (fun tv iv wq => ∃ q : Nat, q ≤ m ∧ iv = .int .i64 (q : Int) ∧ tv = .bool ((l.take q).any fun x => x.key == other) ∧ Turn (fun _ => False) w4 wq) (fun _ iv _ => m - (intOf iv).toNat)
          case atStart => exact ⟨0, Nat.zero_le _, rfl, rfl, HTQ.out⟩
          case round =>
            obtain ⟨q, hqm, rfl, rfl, htq⟩ := hrel
            obtain ⟨H, hH⟩ : ∃ H, ((l.take q).any fun x => x.key == other) = H := ⟨_, rfl⟩
            rw [hH]
            have HH := Lib.hid hH
            have HTQ := Lib.hid htq
            clear hH htq
            by_cases hlq : q < m
            · have dq : decide ((q : Int) < (m : Int)) = true := decide_eq_true (by omega)
              have gq : (0 : Int) ≤ (q : Int) ∧ (q : Int) < (m : Int) := by omega
              obtain ⟨g, rfl, hgw, hr2⟩ := (HKV.out.turn HTQ.out) q (by rw [HLL.out]; exact hlq)
              have hyok : (l.getD q ky0).Ok := by
                have e : l.getD q ky0 = l[q]'(by rw [HLL.out]; exact hlq) := by simp [List.getD, show q < l.length by rw [HLL.out]; exact hlq]
                rw [e]; exact HLOK.out _ (List.getElem_mem _)
              obtain ⟨y, hy⟩ : ∃ y, l.getD q ky0 = y := ⟨_, rfl⟩
              have HSNO := Lib.hid (show ((l.take (q + 1)).any fun x => x.key == other) = (H || (y.key == other)) from by
                have hql : q < l.length := by rw [HLL.out]; exact hlq
                rw [List.take_add_one, List.any_append, HH.out, List.getElem?_eq_getElem hql, ← hy]
                simp [List.getD, hql])
              rw [hy] at hr2 hyok
              have heq : ∀ W, (Op.equalIn 10000 32 (.agg y.vals.toArray) (.agg (keyV other).toArray)).run Tryz.prog W = .ok (y.key == other) W := fun W => equalIn_bytes 32 32 9998 Tryz.underlying32 y.key other hyok.len hol W
              have HRR := Lib.hid (show wr.rangeAt g (q * 32) y.vals ∧ wr.rangeAt X 0 (keyV other) from ⟨hr2, rangeAt_turn HXR2.out (HT24.out.trans HTQ.out (fun _ _ => id)) id⟩)
              have hyi : (Tryz.prog.info? 32).map (·.size) = some y.vals.length := by rw [hyok.vlen]; exact info32
              clear hy hr2 hyok
              go_wp2_with fail
              cases H
              · refine wp_region_held_drew (S := fun wq => wq.rangeAt g (q * 32) y.vals ∧ wq.rangeAt X 0 (keyV other)) (by kernel_rfl) HRR.out (fun hHeld => ?_)
                refine wpAnyH_take (i := 0) (v := .bool false) rfl (by kernel_rfl) (by kernel_rfl) (by kernel_rfl) (fun _ _ _ h => h) (Or.inl ⟨by rfl, ?yaLfalse1⟩) (by assumption) ?raLfalse1
                case yaLfalse1 => (intro wq hSw; (try simp only [zq1, zq2, zq3]); go_simp; (try with_reducible rfl); all_goals (try omega))
                case raLfalse1 =>
                try simp only [Act.put, zq4, zq5, zq6, zq1, zq2, zq3]
                refine wpAnyH_take (i := 1) (v := .bool false) rfl (by kernel_rfl) (by kernel_rfl) (by kernel_rfl) (fun _ _ _ h => h) (Or.inl ⟨by rfl, ?yaLfalse2⟩) (by assumption) ?raLfalse2
                case yaLfalse2 => (intro wq hSw; (try simp only [zq1, zq2, zq3]); go_simp; (try with_reducible rfl); all_goals (try omega))
                case raLfalse2 =>
                try simp only [Act.put, zq4, zq5, zq6, zq1, zq2, zq3]
                refine wpAnyH_take (i := 2) (v := .slice (some ⟨g, 0, none⟩) m kc) rfl (by kernel_rfl) (by kernel_rfl) (by kernel_rfl) (fun _ _ _ h => h) (Or.inl ⟨by rfl, ?yaLfalse3⟩) (by assumption) ?raLfalse3
                case yaLfalse3 => (intro wq hSw; (try simp only [zq1, zq2, zq3]); go_simp; (try with_reducible rfl); all_goals (try omega))
                case raLfalse3 =>
                try simp only [Act.put, zq4, zq5, zq6, zq1, zq2, zq3]
                refine wpAnyH_take (i := 3) (v := .int .i64 ((q : Int))) rfl (by kernel_rfl) (by kernel_rfl) (by kernel_rfl) (fun _ _ _ h => h) (Or.inl ⟨by rfl, ?yaLfalse4⟩) (by assumption) ?raLfalse4
                case yaLfalse4 => (intro wq hSw; (try simp only [zq1, zq2, zq3]); go_simp; (try with_reducible rfl); all_goals (try omega))
                case raLfalse4 =>
                try simp only [Act.put, zq4, zq5, zq6, zq1, zq2, zq3]
                refine wpAnyH_take (i := 4) (v := .pointer (some ⟨g, q * 32, none⟩)) rfl (by kernel_rfl) (by kernel_rfl) (by kernel_rfl) (fun _ _ _ h => h) (Or.inl ⟨by rfl, ?yaLfalse5⟩) (by assumption) ?raLfalse5
                case yaLfalse5 => (intro wq hSw; (try simp only [zq1, zq2, zq3]); go_simp; (try with_reducible rfl); all_goals (try omega))
                case raLfalse5 =>
                try simp only [Act.put, zq4, zq5, zq6, zq1, zq2, zq3]
                refine wpAnyH_take (i := 5) (v := .agg y.vals.toArray) rfl (by kernel_rfl) (by kernel_rfl) (by kernel_rfl) (fun _ _ _ h => h) (Or.inl ⟨by rfl, ?yaLfalse6⟩) (by assumption) ?raLfalse6
                case yaLfalse6 => (intro wq hSw; exact exec_load_mid _ _ 32 _ rfl g (q * 32) rfl y.vals _ _ hSw.1 Tryz.underlying32 rfl hyi)
                case raLfalse6 =>
                try simp only [Act.put, zq4, zq5, zq6, zq1, zq2, zq3]
                refine wpAnyH_take (i := 6) (v := .agg (keyV other).toArray) rfl (by kernel_rfl) (by kernel_rfl) (by kernel_rfl) (fun _ _ _ h => h) (Or.inl ⟨by rfl, ?yaLfalse7⟩) (by assumption) ?raLfalse7
                case yaLfalse7 => (intro wq hSw; exact exec_load_mid _ _ 23 _ rfl X 0 rfl (keyV other) _ _ hSw.2 Tryz.underlying23 rfl (info23k hol))
                case raLfalse7 =>
                try simp only [Act.put, zq4, zq5, zq6, zq1, zq2, zq3]
                refine wpAnyH_take (i := 7) (v := .bool (y.key == other)) rfl (by kernel_rfl) (by kernel_rfl) (by kernel_rfl) (fun _ _ _ h => h) (Or.inl ⟨by rfl, ?yaLfalse8⟩) (by assumption) ?raLfalse8
                case yaLfalse8 => (intro wq hSw; (try simp only [zq1, zq2, zq3]); go_simp; (try with_reducible rfl); all_goals (try omega))
                case raLfalse8 =>
                try simp only [Act.put, zq4, zq5, zq6, zq1, zq2, zq3]
                refine wpAnyH_take (i := 8) (v := .bool (y.key == other)) rfl (by kernel_rfl) (by kernel_rfl) (by kernel_rfl) (fun _ _ _ h => h) (Or.inl ⟨by rfl, ?yaLfalse9⟩) (by assumption) ?raLfalse9
                case yaLfalse9 => (intro wq hSw; (try simp only [zq1, zq2, zq3]); go_simp; (try with_reducible rfl); all_goals (try omega))
                case raLfalse9 =>
                try simp only [Act.put, zq4, zq5, zq6, zq1, zq2, zq3]
                refine wpAnyH_take (i := 9) (v := .bool (y.key == other)) rfl (by kernel_rfl) (by kernel_rfl) (by kernel_rfl) (fun _ _ _ h => h) (Or.inl ⟨by rfl, ?yaLfalse10⟩) (by assumption) ?raLfalse10
                case yaLfalse10 => (intro wq hSw; (try simp only [zq1, zq2, zq3]); go_simp; (try with_reducible rfl); all_goals (try omega))
                case raLfalse10 =>
                try simp only [Act.put, zq4, zq5, zq6, zq1, zq2, zq3]
                refine wpAnyH_done (by kernel_rfl) ?_ _
                clear hHeld heq
                go_wp2_with fail
                go_roundw
                case rel => exact ⟨q + 1, by omega, by go_num, by rw [HSNO.out]; rfl, HTQ.out.drew⟩
                case measure => simp [intOf]; omega
              · refine wp_region_held_drew (S := fun wq => wq.rangeAt g (q * 32) y.vals ∧ wq.rangeAt X 0 (keyV other)) (by kernel_rfl) HRR.out (fun hHeld => ?_)
                refine wpAnyH_take (i := 0) (v := .bool true) rfl (by kernel_rfl) (by kernel_rfl) (by kernel_rfl) (fun _ _ _ h => h) (Or.inl ⟨by rfl, ?yaLtrue1⟩) (by assumption) ?raLtrue1
                case yaLtrue1 => (intro wq hSw; (try simp only [zq1, zq2, zq3]); go_simp; (try with_reducible rfl); all_goals (try omega))
                case raLtrue1 =>
                try simp only [Act.put, zq4, zq5, zq6, zq1, zq2, zq3]
                refine wpAnyH_take (i := 1) (v := .bool true) rfl (by kernel_rfl) (by kernel_rfl) (by kernel_rfl) (fun _ _ _ h => h) (Or.inl ⟨by rfl, ?yaLtrue2⟩) (by assumption) ?raLtrue2
                case yaLtrue2 => (intro wq hSw; (try simp only [zq1, zq2, zq3]); go_simp; (try with_reducible rfl); all_goals (try omega))
                case raLtrue2 =>
                try simp only [Act.put, zq4, zq5, zq6, zq1, zq2, zq3]
                refine wpAnyH_take (i := 2) (v := undef) rfl (by kernel_rfl) (by kernel_rfl) (by kernel_rfl) (fun _ _ _ h => h) (Or.inr ⟨by rfl, rfl⟩) (by assumption) ?raLtrue3
                case raLtrue3 =>
                try simp only [Act.put, zq4, zq5, zq6, zq1, zq2, zq3]
                refine wpAnyH_take (i := 3) (v := undef) rfl (by kernel_rfl) (by kernel_rfl) (by kernel_rfl) (fun _ _ _ h => h) (Or.inr ⟨by rfl, rfl⟩) (by assumption) ?raLtrue4
                case raLtrue4 =>
                try simp only [Act.put, zq4, zq5, zq6, zq1, zq2, zq3]
                refine wpAnyH_take (i := 4) (v := undef) rfl (by kernel_rfl) (by kernel_rfl) (by kernel_rfl) (fun _ _ _ h => h) (Or.inr ⟨by rfl, rfl⟩) (by assumption) ?raLtrue5
                case raLtrue5 =>
                try simp only [Act.put, zq4, zq5, zq6, zq1, zq2, zq3]
                refine wpAnyH_take (i := 5) (v := undef) rfl (by kernel_rfl) (by kernel_rfl) (by kernel_rfl) (fun _ _ _ h => h) (Or.inr ⟨by rfl, rfl⟩) (by assumption) ?raLtrue6
                case raLtrue6 =>
                try simp only [Act.put, zq4, zq5, zq6, zq1, zq2, zq3]
                refine wpAnyH_take (i := 6) (v := undef) rfl (by kernel_rfl) (by kernel_rfl) (by kernel_rfl) (fun _ _ _ h => h) (Or.inr ⟨by rfl, rfl⟩) (by assumption) ?raLtrue7
                case raLtrue7 =>
                try simp only [Act.put, zq4, zq5, zq6, zq1, zq2, zq3]
                refine wpAnyH_take (i := 7) (v := undef) rfl (by kernel_rfl) (by kernel_rfl) (by kernel_rfl) (fun _ _ _ h => h) (Or.inr ⟨by rfl, rfl⟩) (by assumption) ?raLtrue8
                case raLtrue8 =>
                try simp only [Act.put, zq4, zq5, zq6, zq1, zq2, zq3]
                refine wpAnyH_take (i := 8) (v := .bool true) rfl (by kernel_rfl) (by kernel_rfl) (by kernel_rfl) (fun _ _ _ h => h) (Or.inl ⟨by rfl, ?yaLtrue9⟩) (by assumption) ?raLtrue9
                case yaLtrue9 => (intro wq hSw; (try simp only [zq1, zq2, zq3]); go_simp; (try with_reducible rfl); all_goals (try omega))
                case raLtrue9 =>
                try simp only [Act.put, zq4, zq5, zq6, zq1, zq2, zq3]
                refine wpAnyH_take (i := 9) (v := .bool true) rfl (by kernel_rfl) (by kernel_rfl) (by kernel_rfl) (fun _ _ _ h => h) (Or.inl ⟨by rfl, ?yaLtrue10⟩) (by assumption) ?raLtrue10
                case yaLtrue10 => (intro wq hSw; (try simp only [zq1, zq2, zq3]); go_simp; (try with_reducible rfl); all_goals (try omega))
                case raLtrue10 =>
                try simp only [Act.put, zq4, zq5, zq6, zq1, zq2, zq3]
                refine wpAnyH_done (by kernel_rfl) ?_ _
                clear hHeld heq
                go_wp2_with fail
                go_roundw
                case rel => exact ⟨q + 1, by omega, by go_num, by rw [HSNO.out]; rfl, HTQ.out.drew⟩
                case measure => simp [intOf]; omega
            · have dq : decide ((q : Int) < (m : Int)) = false := decide_eq_false (by omega)
              have hth : H = true ↔ HasP (slE obs) other := by
                rw [HHP.out, ← HH.out, List.take_of_length_le (by rw [HLL.out]; omega), List.any_eq_true, ← HPK.out.mem_iff, List.mem_map]
                constructor
                · rintro ⟨x, hx, he⟩; exact ⟨x, hx, by simpa using he⟩
                · rintro ⟨x, hx, he⟩; exact ⟨x, hx, by simpa using he⟩
              have HTH := Lib.hid hth
              have HTW := Lib.hid (HT4.out.trans HTQ.out (fun _ _ => id))
              have HT2Q := Lib.hid (HT24.out.trans HTQ.out (fun _ _ => id))
              have hxr := rangeAt_turn HXR2.out HT2Q.out id
              have h48 : IntKind.i64.wrap (48 - (m : Int)) = 48 - (m : Int) := by have := HTL.out; rw [IntKind.wrap_i64]; omega
              have h200 : IntKind.i64.wrap (200 - (T : Int)) = ((200 - T : Nat) : Int) := by have := HTL.out; rw [IntKind.wrap_i64]; omega
              clear hth
              go_wp2_with (with_reducible (show wpList _ _ _ (Oper.mk (some 132) (.load 23 (.tmp 3)) _ _ _ _ :: _) _ _); refine still ?_)
              refine wpList_load_mid rfl 23 (.tmp 3) rfl X 0 rfl (keyV other) _ hxr Tryz.underlying23 rfl (info23k hol) ?_
              go_wp2_with fail
              refine (HGT.out _ HTW.out).mono ?_
              rintro e w5 ⟨t5, hget⟩
              have T5 := Lib.hid (HTW.out.trans t5 (fun _ _ => id))
              have T25 := Lib.hid (HT2Q.out.trans t5 (fun _ _ => id))
              clear t5 hxr
              obtain ⟨gv, ge, rfl, hge⟩ : ∃ gv ge, e = .returned (.tuple #[gv, .int .i64 ge]) ∧ (¬ HasP (slE obs) other → ge = 2) := by
                rcases hget with ⟨_, rfl⟩ | ⟨k, h1, h2, h3, ⟨_, rfl⟩ | ⟨_, a, c, rfl, _⟩⟩
                · exact ⟨_, _, rfl, fun _ => rfl⟩
                · exact ⟨_, _, rfl, fun hno => absurd ⟨k, h1, h2, h3⟩ hno⟩
                · exact ⟨_, _, rfl, fun hno => absurd ⟨k, h1, h2, h3⟩ hno⟩
              have HGE := Lib.hid hge
              clear hget hge
              go_wp2_with fail
              refine (HLF.out _ T5.out).mono ?_
              rintro e w6 ⟨rfl, t6⟩
              have T6 := Lib.hid (T5.out.trans t6 (fun _ _ => id))
              have T26 := Lib.hid (T25.out.trans t6 (fun _ _ => id))
              have hxr := rangeAt_turn HXR2.out T26.out id
              clear t6
              have hmm : ((m : Int) == (m : Int)) = true := by simp
              cases H
              · have HNO := Lib.hid (show ¬ HasP (slE obs) other from fun h => by have := HTH.out.2 h; cases this)
                have hge2 := HGE.out HNO.out
                subst hge2
                go_wp2_with (with_reducible (show wpList _ _ _ (Oper.mk (some 159) _ _ _ _ _ :: _) _ _); refine still ?_)
                refine list_load (by rfl) 23 (.tmp 3) rfl X 0 rfl (keyV other) _ hxr Tryz.underlying23 rfl (info23k hol) ?_
                go_wp2_with (first | (with_reducible (show wpList _ _ _ (Oper.mk (some 171) _ _ _ _ _ :: _) _ _); refine still ?_) | (go_at_call 10; refine (HHS.out _ T6.out).mono ?_; rintro e w7 ⟨t7, hcase⟩; obtain rfl : e = .returned (.bool false) := (by first | exact (hcase.resolve_left (fun h => HNO.out h.1)).2); have T7 := Lib.hid (T6.out.trans t7 (fun _ _ => id)); have T27 := Lib.hid (T26.out.trans t7 (fun _ _ => id)); have hxr7 := rangeAt_turn HXR2.out T27.out id; clear t7 hcase hxr))
                refine list_load (by rfl) 23 (.tmp 3) rfl X 0 rfl (keyV other) _ hxr7 Tryz.underlying23 rfl (info23k hol) ?_
                go_wp2_with (go_at_call 16; refine (HDN.out HNO.out _ T7.out).mono ?_; rintro e w8 ⟨rfl, t8⟩; have T28 := Lib.hid (T27.out.trans t8 (fun _ _ => id)); clear t8)
                go_ret
                exact ⟨by first | rfl | simp, T2.out.trans T28.out (fun _ _ => id)⟩
              · have HYES := Lib.hid (HTH.out.1 rfl)
                go_wp2_with (with_reducible (show wpList _ _ _ (Oper.mk (some 159) _ _ _ _ _ :: _) _ _); refine still ?_)
                refine list_load (by rfl) 23 (.tmp 3) rfl X 0 rfl (keyV other) _ hxr Tryz.underlying23 rfl (info23k hol) ?_
                go_wp2_with (go_at_call 10; refine (HHS.out _ T6.out).mono ?_; rintro e w7 ⟨t7, hcase⟩; obtain rfl : e = .returned (.bool true) := (by first | exact (hcase.resolve_right (fun h => h.1 HYES.out)).2); have T7 := Lib.hid (T6.out.trans t7 (fun _ _ => id)); have T27 := Lib.hid (T26.out.trans t7 (fun _ _ => id)); have hxr7 := rangeAt_turn HXR2.out T27.out id; clear t7 hcase hxr)
                go_ret
                exact ⟨by first | rfl | simp, T2.out.trans T27.out (fun _ _ => id)⟩
end Go.Proofs.YtboofamenpcnhaaGreatDoor
