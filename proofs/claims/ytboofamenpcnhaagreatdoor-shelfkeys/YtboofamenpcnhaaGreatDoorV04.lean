/- Own texts, packed: Q14. -/
import Derived.Test.YtboofamenpcnhaaGreatDoorV02
namespace Go.Proofs.YtboofamenpcnhaaGreatDoor
set_option maxRecDepth 100000
open Go.RowKit
set_option linter.unusedVariables false
set_option linter.unusedSimpArgs false
/-- The six cells of a disk. -/
structure HeadM where
  sv : Value
  wv : Value
  acts : Nat
  armed : Bool
  left : Nat
  off : Bool
def HeadM.cells (h : HeadM) : Array Value := #[h.sv, h.wv, .int .i64 (h.acts : Int), .bool h.armed, .int .i64 (h.left : Int), .bool h.off]
def Head (w : World) (D : Nat) (h : HeadM) : Prop := w.heap[D]? = some (.cells h.cells 101 (0, 0))
theorem Head.lt {w : World} {D : Nat} {h : HeadM} (hd : Head w D h) : D < w.heap.size := (Array.getElem?_eq_some_iff.1 hd).1
theorem Head.cell {w : World} {D : Nat} {h : HeadM} (hd : Head w D h) (i : Nat) : w.cell? ⟨D, i, none⟩ = h.cells[i]? := cell_of_row w D i _ 101 (0, 0) hd
theorem Head.free {w : World} {D : Nat} {h : HeadM} (hd : Head w D h) (i : Nat) : w.frozen? ⟨D, i, none⟩ = false := frozen_of_row w D i _ 101 hd
theorem Head.turn {w w' : World} {D : Nat} {h : HeadM} {S : Nat → Prop} (hd : Head w D h) (ht : Turn S w w') (hn : ¬ S D) : Head w' D h := (ht.block D hd.lt hn).trans hd
theorem Head.set {w : World} {D : Nat} {h h' : HeadM} (hd : Head w D h) (i : Nat) (v : Value) (e : h.cells.setIfInBounds i v = h'.cells) : Head (w.setCell ⟨D, i, none⟩ v) D h' := by
  unfold Head
  rw [heap_setCell_same w D i _ 101 _ hd, e]
theorem Head.all {w : World} {D : Nat} {h : HeadM} (hd : Head w D h) :
    w.cell? ⟨D, 0, none⟩ = some h.sv ∧ w.cell? ⟨D, 1, none⟩ = some h.wv ∧ w.cell? ⟨D, 2, none⟩ = some (.int .i64 (h.acts : Int)) ∧ w.cell? ⟨D, 3, none⟩ = some (.bool h.armed) ∧ w.cell? ⟨D, 4, none⟩ = some (.int .i64 (h.left : Int)) ∧ w.cell? ⟨D, 5, none⟩ = some (.bool h.off) :=
  ⟨hd.cell 0, hd.cell 1, hd.cell 2, hd.cell 3, hd.cell 4, hd.cell 5⟩
theorem turn_cell (w : World) (D i : Nat) (v : Value) : Turn (fun k => k = D) w (w.setCell ⟨D, i, none⟩ v) := Turn.setCell (S := fun k => k = D) (Turn.refl _ w) (p := ⟨D, i, none⟩) (fun _ => rfl) v
/-- One act more. -/
def HeadM.act (h : HeadM) : HeadM :=
  if h.armed = false then { h with acts := h.acts + 1 } else if h.left = 0 then { h with acts := h.acts + 1, off := true } else { h with acts := h.acts + 1, left := h.left - 1 }
def HeadM.actE (h : HeadM) : Int := if h.armed = false then 0 else if h.left = 0 then 9 else 0
set_option maxHeartbeats 800000 in
set_option maxRecDepth 100000 in
theorem act_any (D : Nat) (h : HeadM) (w : World) (hd : Head w D h) (hb : h.acts < 4611686018427387904) (hl : h.left < 4611686018427387904) :
    Calls Tryz.prog 56 #[.pointer (some ⟨D, 0, none⟩)] w fun e w' => e = .returned (.int .i64 h.actE) ∧ Head w' D h.act ∧ Turn (fun k => k = D) w w' := by
  obtain ⟨sv, wv, acts, armed, left, off⟩ := h
  obtain ⟨c0, c1, c2, c3, c4, c5⟩ := hd.all
  have f2 := hd.free 2
  have f4 := hd.free 4
  have f5 := hd.free 5
  dsimp only at c0 c1 c2 c3 c4 c5 hb hl
  have HD := Lib.hid hd
  clear hd
  cases armed with
  | false =>
    go_enter Tryz.func56, Tryz.ntmps56
    go_wp2_with fail
    go_ret
    exact ⟨rfl, HD.out.set 2 _ rfl, turn_cell _ _ _ _⟩
  | true =>
    by_cases h0 : left = 0
    · subst h0
      go_enter Tryz.func56, Tryz.ntmps56
      go_wp2_with fail
      go_ret
      have H1 : Head (w.setCell ⟨D, 2, none⟩ (.int .i64 ((acts : Int) + 1))) D ⟨sv, wv, acts + 1, true, 0, off⟩ := HD.out.set 2 _ rfl
      exact ⟨rfl, H1.set 5 _ rfl, (turn_cell _ _ _ _).trans (turn_cell _ _ _ _) (fun _ _ => id)⟩
    · have hne : ((left : Int) == 0) = false := by rw [beq_eq_false_iff_ne]; omega
      go_enter Tryz.func56, Tryz.ntmps56
      go_wp2_with fail
      go_ret
      have H1 : Head (w.setCell ⟨D, 2, none⟩ (.int .i64 ((acts : Int) + 1))) D ⟨sv, wv, acts + 1, true, left, off⟩ := HD.out.set 2 _ rfl
      have e1 : HeadM.actE ⟨sv, wv, acts, true, left, off⟩ = 0 := by simp [HeadM.actE, h0]
      have e2 : HeadM.act ⟨sv, wv, acts, true, left, off⟩ = ⟨sv, wv, acts + 1, true, left - 1, off⟩ := by simp [HeadM.act, h0]
      rw [e1, e2]
      refine ⟨rfl, H1.set 4 _ ?_, (turn_cell _ _ _ _).trans (turn_cell _ _ _ _) (fun _ _ => id)⟩
      simp [HeadM.cells]; omega
set_option maxHeartbeats 800000 in
theorem sectors_any (D n c : Nat) (a : Option Addr) (h : HeadM) (w : World) (hd : Head w D h) (hs : h.sv = .slice a n c) :
    Calls Tryz.prog 43 #[.pointer (some ⟨D, 0, none⟩)] w fun e w' => e = .returned (.int .i64 (n : Int)) ∧ w' = w := by
  obtain ⟨c0, _⟩ := hd.all
  rw [hs] at c0
  clear hd
  go_enter Tryz.func43, Tryz.ntmps43
  go_wp2_with fail
  go_ret
  exact ⟨rfl, rfl⟩
set_option maxHeartbeats 800000 in
set_option maxHeartbeats 800000 in
set_option maxHeartbeats 800000 in
theorem has_any (D n c : Nat) (a : Option Addr) (i : Int) (h : HeadM) (w : World) (hd : Head w D h) (hs : h.sv = .slice a n c) :
    Calls Tryz.prog 54 #[.pointer (some ⟨D, 0, none⟩), .int .i64 i] w fun e w' => e = .returned (.bool (decide (0 ≤ i ∧ i < (n : Int)))) ∧ w' = w := by
  have HD := Lib.hid hd
  clear hd
  by_cases h0 : 0 ≤ i
  · have d0 : decide ((0 : Int) ≤ i) = true := by simp [h0]
    go_enter Tryz.func54, Tryz.ntmps54
    go_wp2_with fail
    refine (sectors_any D n c a h w HD.out hs).mono ?_
    rintro e w1 ⟨rfl, rfl⟩
    go_wp2_with fail
    go_ret
    refine ⟨?_, rfl⟩
    show Ending.returned (.bool (decide (i < (n : Int)))) = _
    simp [h0]
  · have d0 : decide ((0 : Int) ≤ i) = false := by simp; omega
    go_enter Tryz.func54, Tryz.ntmps54
    go_wp2_with fail
    go_ret
    refine ⟨?_, rfl⟩
    rfl
/-! A nil disk. -/
end Go.Proofs.YtboofamenpcnhaaGreatDoor
namespace Go.Proofs.YtboofamenpcnhaaGreatDoor
set_option maxRecDepth 100000
open Go.RowKit
set_option linter.unusedVariables false
set_option linter.unusedSimpArgs false
section
theorem results_cell_mid {P : Program} {fn : Func} {p : Tmp} {ty : TypeId} (h : fn.results = #[.cell p ty]) (tmps : Array Value) (w : World) (b : Nat) (cs : List Value) (d : TypeDesc)
    (hp : tmps.getD p undef = .pointer (some ⟨b, 0, none⟩)) (hc : w.rangeAt b 0 cs) (hu : P.underlying ty = some d) (hd : d.isRow = true) (hi : (P.info? ty).map (·.size) = some cs.length) :
    (results fn tmps).run P w = .ok (.agg cs.toArray) w := by
  have hp' : tmps[p]?.getD undef = .pointer (some ⟨b, 0, none⟩) := by simpa using hp
  simp [results, h, hp', asAddr, run_loadVar_mid w b 0 ty cs d hc hu hd hi]
theorem turn_setCells (B : Nat) : ∀ (vs : List Value) (o : Nat) (w : World), Turn (fun q => q = B) w (w.setCells B o vs)
  | [], o, w => by simp only [World.setCells]; exact Turn.refl _ _
  | v :: vs, o, w => by
    simp only [World.setCells]
    exact ((Turn.refl (fun q => q = B) w).setCell (p := ⟨B, o, none⟩) (fun _ => rfl) v).trans (turn_setCells B vs (o + 1) _) (fun _ _ h => h)
theorem rangeAt_turn {w w' : World} {S : Nat → Prop} {B o : Nat} {cs : List Value} (h : w.rangeAt B o cs) (ht : Turn S w w') (hB : ¬ S B) : w'.rangeAt B o cs := fun j v hv => by
  have h1 := h j v hv
  exact (ht.cell (p := ⟨B, o + j, none⟩) (World.block_lt_of_cell? w _ h1) hB).trans h1
theorem there_turn {w w' : World} {S : Nat → Prop} {B o n : Nat} (h : w.there B o n) (ht : Turn S w w') (hB : ¬ S B) : w'.there B o n := fun j hj => by
  obtain ⟨h1, h2⟩ := h j hj
  obtain ⟨v, hv⟩ := Option.isSome_iff_exists.1 h1
  have hb := World.block_lt_of_cell? w _ hv
  exact ⟨by rw [ht.cell (p := ⟨B, o + j, none⟩) hb hB]; exact h1, (ht.frozen (p := ⟨B, o + j, none⟩) hb hB).trans h2⟩
end
theorem size53 : (Tryz.prog.info? 108).map (·.size) = some 64 := by kernel_rfl
theorem size55 : (Tryz.prog.info? 111).map (·.size) = some 65 := by kernel_rfl
def BytesOk (xs : List Int) : Prop := ∀ x ∈ xs, 0 ≤ x ∧ x < 256
def secV (s : List Int) : List Value := s.map (Value.int .u8)
theorem secV_len (s : List Int) : (secV s).length = s.length := by simp [secV]
theorem secV_one (s : List Int) : ∀ v ∈ secV s, v.oneCell' = true := ints_oneCell _ _
theorem sec_there {W : World} {B o : Nat} {s : List Int} (h : W.there B o 64) (hs : s.length = 64) : W.there B o (secV s).toArray.size := by
  have e : (secV s).toArray.size = 64 := by simp [secV, hs]
  rw [e]; exact h
theorem sec_size {s : List Int} (hs : s.length = 64) : (Tryz.prog.info? 108).map (·.size) = some (secV s).toArray.size := by
  have e : (secV s).toArray.size = 64 := by simp [secV, hs]
  rw [e]; exact size53
theorem sec_size' {s : List Int} (hs : s.length = 64) : (Tryz.prog.info? 108).map (·.size) = some (secV s).length := by rw [secV_len, hs]; exact size53
def wrV (x : Nat × List Int) : List Value := .int .i64 (x.1 : Int) :: secV x.2
def flatW (l : List (Nat × List Int)) : List Value := l.flatMap wrV
def WetOk (l : List (Nat × List Int)) : Prop := ∀ x ∈ l, x.2.length = 64
theorem flatW_at (l : List (Nat × List Int)) (h : WetOk l) (i : Nat) (x : Nat × List Int) (hx : l[i]? = some x) (j : Nat) (hj : j < 65) : (flatW l)[i * 65 + j]? = (wrV x)[j]? := by
  induction l generalizing i with
  | nil => simp at hx
  | cons y l ih =>
    have h1 : (wrV y).length = 65 := by simp [wrV, secV_len, h y List.mem_cons_self]
    cases i with
    | zero =>
      obtain rfl : y = x := by simpa using hx
      simp only [flatW, List.flatMap_cons]
      rw [List.getElem?_append_left (by omega)]; simp
    | succ i =>
      simp only [flatW, List.flatMap_cons]
      rw [List.getElem?_append_right (by omega), h1, show (i + 1) * 65 + j - 65 = i * 65 + j by omega]
      exact ih (fun z hz => h z (List.mem_cons_of_mem _ hz)) i (by simpa using hx)
/-- The safe sectors, one behind the other. -/
def SafeAt (w : World) (S : Nat) (l : List (List Int)) : Prop := ∀ i s, l[i]? = some s → w.rangeAt S (i * 64) (secV s) ∧ w.there S (i * 64) 64
theorem SafeAt.turn {w w' : World} {S : Nat} {l : List (List Int)} {G : Nat → Prop} (h : SafeAt w S l) (ht : Turn G w w') (hn : ¬ G S) : SafeAt w' S l := fun i s hs =>
  ⟨rangeAt_turn (h i s hs).1 ht hn, there_turn (h i s hs).2 ht hn⟩
structure DiskM where
  safe : List (List Int)
  wet : List (Nat × List Int)
  acts : Nat
  armed : Bool
  left : Nat
  off : Bool
structure DiskM.Ok (d : DiskM) : Prop where
  safe : ∀ s ∈ d.safe, s.length = 64 ∧ BytesOk s
  wet : ∀ x ∈ d.wet, x.1 < d.safe.length ∧ x.2.length = 64 ∧ BytesOk x.2
theorem DiskM.Ok.wetOk {d : DiskM} (h : d.Ok) : WetOk d.wet := fun x hx => (h.wet x hx).2.1
def DiskM.head (d : DiskM) (S sc : Nat) (wv : Value) : HeadM := ⟨.slice (some ⟨S, 0, none⟩) d.safe.length sc, wv, d.acts, d.armed, d.left, d.off⟩
/-- A disk in memory: its head's block, its sectors' block, its writes. -/
structure DiskIn (w : World) (F : Nat → Prop) (D S sc : Nat) (wv : Value) (d : DiskM) : Prop where
  head : Head w D (d.head S sc wv)
  cap : d.safe.length ≤ sc
  safe : SafeAt w S d.safe
  slt : S < w.heap.size
  wet : w.ownsRow 0 111 65 wv d.wet.length (flatW d.wet)
  fD : F D
  fS : F S
  fw : ∀ k, wv.ownBlock = some k → F k
  nDS : D ≠ S
  nDw : wv.ownBlock ≠ some D
  nSw : wv.ownBlock ≠ some S
  ok : d.Ok
  few : d.safe.length ≤ 4096
theorem DiskIn.turn {w w' : World} {F G : Nat → Prop} {D S sc : Nat} {wv : Value} {d : DiskM} (h : DiskIn w F D S sc wv d) (ht : Turn G w w') (hn : ∀ k, F k → ¬ G k) : DiskIn w' F D S sc wv d :=
  { h with head := h.head.turn ht (hn D h.fD), safe := h.safe.turn ht (hn S h.fS), slt := Nat.lt_of_lt_of_le h.slt ht.size, wet := ht.owns h.wet (fun k hk => hn k (h.fw k hk)) }
/-- A write's cells. -/
theorem wet_range {w : World} {wv : Value} {l : List (Nat × List Int)} (h : w.ownsRow 0 111 65 wv l.length (flatW l)) (hw : WetOk l) (i : Nat) (x : Nat × List Int) (hx : l[i]? = some x) :
    ∃ g c, wv = .slice (some ⟨g, 0, none⟩) l.length c ∧ l.length ≤ c ∧ w.cell? ⟨g, i * 65, none⟩ = some (.int .i64 (x.1 : Int)) ∧ w.rangeAt g (i * 65 + 1) (secV x.2) ∧ w.rangeAt g (i * 65) (wrV x) := by
  have hi : i < l.length := (List.getElem?_eq_some_iff.1 hx).1
  rcases h.2 with ⟨_, h0⟩ | ⟨g, cap, cur, rfl, _, _, hc, _⟩
  · omega
  · have cells : ∀ j, j < 65 → w.cell? ⟨g, i * 65 + j, none⟩ = (wrV x)[j]? := fun j hj => by
      rw [h.cellAt (i * 65 + j) (by omega), flatW_at l hw i x hx j hj]
    refine ⟨g, cap, rfl, hc, ?_, fun j v hv => ?_, fun j v hv => ?_⟩
    · have := cells 0 (by omega)
      simpa [wrV] using this
    · have hj : j < (secV x.2).length := (List.getElem?_eq_some_iff.1 hv).1
      rw [secV_len, hw x (List.mem_of_getElem? hx)] at hj
      have := cells (j + 1) (by omega)
      rw [show i * 65 + (j + 1) = i * 65 + 1 + j by omega] at this
      rw [this]
      simpa [wrV] using hv
    · have hj : j < (wrV x).length := (List.getElem?_eq_some_iff.1 hv).1
      simp only [wrV, List.length_cons, secV_len, hw x (List.mem_of_getElem? hx)] at hj
      rw [cells j (by omega)]; exact hv
theorem wet_form {w : World} {wv : Value} {n : Nat} {xs : List Value} (h : w.ownsRow 0 111 65 wv n xs) : ∃ a c, wv = .slice a n c := by
  rcases h.2 with ⟨rfl, h0⟩ | ⟨g, cap, cur, rfl, _⟩
  · subst h0; exact ⟨_, _, rfl⟩
  · exact ⟨_, _, rfl⟩
/-- The last that was written to a sector. -/
def lastW : List (Nat × List Int) → Nat → Option (List Int)
  | [], _ => none
  | x :: l, k => (lastW l k).or (if x.1 = k then some x.2 else none)
theorem lastW_app (a b : List (Nat × List Int)) (k : Nat) : lastW (a ++ b) k = (lastW b k).or (lastW a k) := by
  induction a with
  | nil => simp [lastW]
  | cons x a ih => simp only [List.cons_append, lastW, ih, Option.or_assoc]
def DiskM.last (d : DiskM) (k : Nat) : List Int := (lastW d.wet k).getD (d.safe.getD k [])
theorem DiskM.Ok.last {d : DiskM} (h : d.Ok) (k : Nat) (hk : k < d.safe.length) : (d.last k).length = 64 ∧ BytesOk (d.last k) := by
  have key : ∀ l : List (Nat × List Int), (∀ x ∈ l, x.2.length = 64 ∧ BytesOk x.2) → ∀ s, lastW l k = some s → s.length = 64 ∧ BytesOk s := by
    intro l
    induction l with
    | nil => intro _ s hs; simp [lastW] at hs
    | cons x l ih =>
      intro hl s hs
      simp only [lastW] at hs
      cases hr : lastW l k with
      | some t =>
        rw [hr] at hs
        obtain rfl : t = s := by simpa using hs
        exact ih (fun y hy => hl y (List.mem_cons_of_mem _ hy)) t hr
      | none =>
        rw [hr] at hs
        simp only [Option.none_or] at hs
        split at hs
        · obtain rfl : x.2 = s := by simpa using hs
          exact hl x List.mem_cons_self
        · simp at hs
  unfold DiskM.last
  cases hr : lastW d.wet k with
  | some s => exact key d.wet (fun x hx => (h.wet x hx).2) s hr
  | none =>
    simp only [Option.getD_none]
    have hm : d.safe.getD k [] ∈ d.safe := by simp [List.getD, hk]
    exact h.safe _ hm
theorem zero64 (w W : World) (cs : Array Value) (h : w.alloc (.cells cs 108) = W) (hcs : cs = Array.replicate 64 (.int .u8 0)) : W.there w.heap.size 0 64 ∧ Turn (fun _ => False) w W := by
  subst hcs
  subst h
  refine ⟨fun j hj => ?_, (Turn.refl _ w).alloc _⟩
  have hb := heap_alloc_new w (.cells (Array.replicate 64 (.int .u8 0)) 108)
  rw [Nat.zero_add]
  exact ⟨by rw [cell_of_row _ _ _ _ 108 (0, 0) hb]; simp [hj], frozen_of_row _ _ _ _ 108 hb⟩
def LastPost (w : World) (s : List Int) (e : Ending) (w' : World) : Prop := e = .returned (.agg (secV s).toArray) ∧ Turn (fun _ => False) w w'
set_option maxHeartbeats 1600000 in
set_option maxRecDepth 100000 in
theorem last_any (w : World) (F : Nat → Prop) (D S sc : Nat) (wv : Value) (d : DiskM) (k : Nat) (h : DiskIn w F D S sc wv d) (hk : k < d.safe.length) (hwl : d.wet.length ≤ 1000000000000) :
    Calls Tryz.prog 55 #[.pointer (some ⟨D, 0, none⟩), .int .i64 (k : Int)] w (LastPost w (d.last k)) := by
  obtain ⟨wa, wc, rfl⟩ := wet_form h.wet
  obtain ⟨c0, c1, _⟩ := h.head.all
  dsimp only [DiskM.head] at c0 c1
  have HD := Lib.hid h
  clear h
  go_enter Tryz.func55, Tryz.ntmps55
  go_wp2_with (with_reducible (show wpList _ _ _ (Oper.mk (some 9) (.load 99 (.tmp 8)) _ _ _ _ :: _) _ _); generalize hW : World.alloc w _ = W; obtain ⟨hth, T1⟩ := zero64 w W _ hW (by kernel_rfl); have c0' := (T1.cell (p := ⟨D, 0, none⟩) HD.out.head.lt id).trans c0; have c1' := (T1.cell (p := ⟨D, 1, none⟩) HD.out.head.lt id).trans c1; clear hW c0 c1)
  have HB := Lib.hid (Nat.le_refl w.heap.size)
  generalize hBB : w.heap.size = B at hth HB ⊢
  have HI := Lib.hid (HD.out.turn T1 (fun _ _ => id))
  have hkv := HD.out.ok.last k hk
  have hi53 : ∀ s : List Int, s.length = 64 → (Tryz.prog.info? 108).map (·.size) = some (secV s).length := fun s hs => by rw [size53, secV_len, hs]
  have hi53' : ∀ s : List Int, s.length = 64 → (Tryz.prog.info? 108).map (·.size) = some (secV s).toArray.size := fun s hs => by rw [size53, List.size_toArray, secV_len, hs]
  have H53 := Lib.hid hi53
  have H53' := Lib.hid hi53'
  clear hi53 hi53'
  obtain ⟨n, hn⟩ : ∃ n, d.wet.length = n := ⟨_, rfl⟩
  rw [hn] at hwl c1'
  simp only [hn]
  have HN := Lib.hid hn
  clear hn
  go_loop [5] (fun iv => ∃ (j : Nat), j ≤ n ∧ iv = .int .i64 ((j : Int) - 1) ∧ lastW (d.wet.drop j) k = none) (fun iv => (intOf iv + 1).toNat)
  case atStart => exact ⟨n, Nat.le_refl _, rfl, by rw [List.drop_of_length_le (by rw [HN.out]; omega)]; rfl⟩
  case round =>
    obtain ⟨j, hj, rfl, hno⟩ := hrel
    have HNO := Lib.hid hno
    clear hno
    by_cases h0 : j = 0
    · subst h0
      have hdk : decide ((0 : Int) ≤ ((0 : Nat) : Int) - 1) = false := by decide
      have hlast : d.last k = d.safe.getD k [] := by
        have := HNO.out
        rw [List.drop_zero] at this
        unfold DiskM.last; rw [this]; rfl
      have hsk : d.safe[k]? = some (d.safe.getD k []) := by simp [List.getD, hk]
      obtain ⟨r1, _⟩ := HI.out.safe k _ hsk
      rw [hlast] at hkv
      have HLA := Lib.hid hlast
      clear hlast hsk
      generalize d.safe.getD k [] = s at r1 hkv HLA
      go_wp2_with (first | (with_reducible (show wpList _ _ _ (Oper.mk (some 40) (.load 108 (.tmp 39)) _ _ _ _ :: _) _ _); refine wpList_load_mid (op := ⟨some 40, .load 108 (.tmp 39), _, _, _, _⟩) rfl 108 (.tmp 39) rfl S (k * 64) rfl (secV s) _ r1 Tryz.underlying108 rfl (H53.out s hkv.1) ?_) | (with_reducible (show wpList _ _ _ (Oper.mk none (.store 108 (.tmp 4) (.tmp 40)) _ _ _ _ :: _) _ _); refine wpList_store_mid (op := ⟨none, .store 108 (.tmp 4) (.tmp 40), _, _, _, _⟩) rfl 108 (.tmp 4) (.tmp 40) rfl B 0 (secV s).toArray rfl rfl (by rw [List.size_toArray, secV_len, hkv.1]; exact hth) (H53'.out s hkv.1) (all_oneCell_toArray (secV_one s)) ?_))
      have hrg := World.rangeAt_setCells_same W B 0 (secV s) (by rw [secV_len, hkv.1]; exact hth)
      refine bodyPost_ret (v := .agg (secV s).toArray) (results_cell_mid Tryz.results55 _ _ B (secV s) _ rfl hrg Tryz.underlying108 rfl (H53.out s hkv.1)) rfl ⟨by rw [HLA.out], ?_⟩
      exact T1.trans (turn_setCells B (secV s) 0 W) (fun q hq h => by have := HB.out; omega)
    · obtain ⟨i, rfl⟩ : ∃ i, j = i + 1 := ⟨j - 1, by omega⟩
      have hiv : ((i + 1 : Nat) : Int) - 1 = (i : Int) := by omega
      rw [hiv]
      have hin : i < n := by omega
      have hdk : decide ((0 : Int) ≤ (i : Int)) = true := by simp
      obtain ⟨x, hx⟩ : ∃ x, d.wet[i]? = some x := ⟨_, List.getElem?_eq_getElem (by rw [HN.out]; exact hin)⟩
      obtain ⟨g, c, hsl, hcap, hc1, hr1, _⟩ := wet_range HI.out.wet HI.out.ok.wetOk i x hx
      rw [HN.out] at hsl hcap
      injection hsl with e1 e2 e3
      subst e1
      subst e3
      have hdrop : d.wet.drop i = x :: d.wet.drop (i + 1) := by
        rw [List.drop_eq_getElem_cons (by rw [HN.out]; exact hin)]
        congr 1
        rw [List.getElem?_eq_getElem (by rw [HN.out]; exact hin)] at hx
        exact Option.some.inj hx
      have hlw : lastW (d.wet.drop i) k = if x.1 = k then some x.2 else none := by
        rw [hdrop, lastW, HNO.out]; rfl
      have HLW := Lib.hid hlw
      have hx64 := HI.out.ok.wetOk x (List.mem_of_getElem? hx)
      clear hlw hdrop hx e2 hiv
      obtain ⟨xa, xs⟩ := x
      dsimp only at hc1 hr1 hx64 HLW
      by_cases hxk : xa = k
      · subst hxk
        have hb : ((xa : Int) == (xa : Int)) = true := by simp
        have hla : d.last xa = xs := by
          have h1 := HLW.out
          rw [if_pos rfl] at h1
          unfold DiskM.last
          rw [← List.take_append_drop i d.wet, lastW_app, h1]; rfl
        have HLA := Lib.hid hla
        clear hla
        go_wp2_with (first | (with_reducible (show wpList _ _ _ (Oper.mk (some 33) (.load 108 (.tmp 32)) _ _ _ _ :: _) _ _); refine wpList_load_mid (op := ⟨some 33, .load 108 (.tmp 32), _, _, _, _⟩) rfl 108 (.tmp 32) rfl g (i * 65 + 1) rfl (secV xs) _ hr1 Tryz.underlying108 rfl (H53.out xs hx64) ?_) | (with_reducible (show wpList _ _ _ (Oper.mk none (.store 108 (.tmp 4) (.tmp 33)) _ _ _ _ :: _) _ _); refine wpList_store_mid (op := ⟨none, .store 108 (.tmp 4) (.tmp 33), _, _, _, _⟩) rfl 108 (.tmp 4) (.tmp 33) rfl B 0 (secV xs).toArray rfl rfl (by rw [List.size_toArray, secV_len, hx64]; exact hth) (H53'.out xs hx64) (all_oneCell_toArray (secV_one xs)) ?_))
        have hrg := World.rangeAt_setCells_same W B 0 (secV xs) (by rw [secV_len, hx64]; exact hth)
        refine bodyPost_ret (v := .agg (secV xs).toArray) (results_cell_mid Tryz.results55 _ _ B (secV xs) _ rfl hrg Tryz.underlying108 rfl (H53.out xs hx64)) rfl ⟨by rw [HLA.out], ?_⟩
        exact T1.trans (turn_setCells B (secV xs) 0 W) (fun q hq h => by have := HB.out; omega)
      · have hb : ((xa : Int) == (k : Int)) = false := by rw [beq_eq_false_iff_ne]; omega
        have h1 := HLW.out
        rw [if_neg hxk] at h1
        have H1 := Lib.hid h1
        clear h1
        go_wp2_with fail
        go_round
        case rel => exact ⟨i, by omega, rfl, H1.out⟩
        case measure => simp [intOf] <;> omega
end Go.Proofs.YtboofamenpcnhaaGreatDoor
namespace Go.Proofs.YtboofamenpcnhaaGreatDoor
set_option maxRecDepth 100000
open Go.RowKit
set_option linter.unusedVariables false
theorem Tryz.info5 : (Tryz.prog.info? 5).map (fun i => (i.zero, i.size, i.bytes)) = some (some (.int .u8 0), 1, 1) := by kernel_rfl
theorem one_cell (w : World) (x : Int) : ∀ (j : Nat) u, [Value.int .u8 x][j]? = some u → (w.alloc (.cells #[.int .u8 x] 5)).cell? ((⟨w.heap.size, 0, none⟩ : Addr).add j) = some u := by
  intro j u hj
  match j, hj with
  | 0, hj => simp at hj; subst hj; simp [Addr.add]
def NewBytes (w : World) (ys : List Int) (e : Ending) (w' : World) : Prop :=
  ∃ v', e = .returned v' ∧ w'.ownsRow w.heap.size 5 1 v' ys.length (ys.map (Value.int .u8)) ∧ Turn (fun _ => False) w w'
/-- A slice value that reads as the bytes xs. -/
def Reads (w : World) (v : Value) (xs : List Int) : Prop :=
  (v = .slice none 0 0 ∧ xs = []) ∨ ∃ g o cap, v = .slice (some ⟨g, o, none⟩) xs.length cap ∧ xs.length ≤ cap ∧ ∀ i, i < xs.length → w.cell? ⟨g, o + i, none⟩ = some (.int .u8 (xs.getD i 0))
theorem Reads.of_owns {w : World} {base : Nat} {v : Value} {xs : List Int} (h : w.ownsRow base 5 1 v xs.length (xs.map (Value.int .u8))) : Reads w v xs := by
  rcases h.2 with ⟨rfl, h0⟩ | ⟨g, cap, cur, rfl, _, _, hn, _⟩
  · exact .inl ⟨rfl, List.eq_nil_of_length_eq_zero h0⟩
  · refine .inr ⟨g, 0, cap, rfl, hn, fun i hi => ?_⟩
    rw [Nat.zero_add, h.cellAt i (by omega)]
    simp [List.getD, hi]
theorem Reads.conv {w : World} {v : Value} {xs : List Int} (h : Reads w v xs) : (convert 29 9 v).run Tryz.prog w = .ok (.string (strOfNums xs)) w := by
  rcases h with ⟨rfl, rfl⟩ | ⟨g, o, cap, rfl, hc, hcell⟩
  · rw [run_convert_bytes_nil (P := Tryz.prog) w 29 5 Tryz.underlying29 Tryz.underlying5 0 0 9 Tryz.underlying9]; rfl
  · exact run_convert_bytes_arg (P := Tryz.prog) w 29 5 Tryz.underlying29 Tryz.underlying5 g o xs.length cap xs rfl hcell 9 Tryz.underlying9
/-- .. or an empty one, wherever it lies. -/
def Src (w : World) (v : Value) (xs : List Int) : Prop := Reads w v xs ∨ ∃ x c, v = .slice (some x) 0 c ∧ xs = []
theorem conv_empty (w : World) (x : Addr) (c : Nat) : (convert 29 9 (.slice (some x) 0 c)).run Tryz.prog w = .ok (.string (strOfNums [])) w :=
  run_convert_bytes_back (P := Tryz.prog) w 29 9 5 x c [] Tryz.underlying29 Tryz.underlying5 Tryz.underlying9 (fun j hj => by simp at hj)
theorem Src.conv {w : World} {v : Value} {xs : List Int} (h : Src w v xs) : (convert 29 9 v).run Tryz.prog w = .ok (.string (strOfNums xs)) w := by
  rcases h with h | ⟨x, c, rfl, rfl⟩
  · exact h.conv
  · exact conv_empty w x c
theorem Reads.turn {S : Nat → Prop} {w w' : World} {v : Value} {xs : List Int} (h : Reads w v xs) (ht : Turn S w w') (hn : ∀ k, v.ownBlock = some k → ¬ S k) : Reads w' v xs := by
  rcases h with h | ⟨g, o, cap, rfl, hc, hcell⟩
  · exact .inl h
  · refine .inr ⟨g, o, cap, rfl, hc, fun i hi => ?_⟩
    have hb := World.block_lt_of_cell? w _ (hcell i hi)
    exact (ht.cell (p := ⟨g, o + i, none⟩) hb (hn g rfl)).trans (hcell i hi)
theorem Src.turn {S : Nat → Prop} {w w' : World} {v : Value} {xs : List Int} (h : Src w v xs) (ht : Turn S w w') (hn : ∀ k, v.ownBlock = some k → ¬ S k) : Src w' v xs := by
  rcases h with h | h
  · exact .inl (h.turn ht hn)
  · exact .inr h
/-- The cells of a source, seen behind a new block. -/
theorem src_cells {w : World} {x : Addr} {xs : List Int} {cap : Nat} (h : Src w (.slice (some x) xs.length cap) xs) (o : Obj) :
    ∀ (j : Nat) u, (xs.map (Value.int .u8))[j]? = some u → (w.alloc o).cell? (x.add j) = some u := by
  intro j u hj
  have hjl : j < xs.length := by have := (List.getElem?_eq_some_iff.1 hj).1; simpa using this
  rcases h with (⟨h, _⟩ | ⟨g, o', cap', h, hc, hcell⟩) | ⟨_, _, _, rfl⟩
  · cases h
  · cases h
    have hb := World.block_lt_of_cell? w _ (hcell j hjl)
    have hadd : (⟨g, o', none⟩ : Addr).add j = ⟨g, o' + j, none⟩ := by unfold Addr.add; split <;> simp_all
    rw [hadd, World.cell?_alloc_past _ _ _ hb, hcell j hjl]
    simp [hjl] at hj; subst hj; simp [List.getD, hjl]
  · simp at hjl
theorem src_form {w : World} {v : Value} {xs : List Int} (h : Src w v xs) : (v = .slice none 0 0 ∧ xs = []) ∨ ∃ x cap, v = .slice (some x) xs.length cap := by
  rcases h with (h | ⟨g, o', cap', h, hc, hcell⟩) | ⟨x, c, rfl, rfl⟩
  · exact .inl h
  · exact .inr ⟨_, _, h⟩
  · exact .inr ⟨x, c, rfl⟩
/-- What a source is: a slice, whose cells are there. -/
theorem src_any {w : World} {v : Value} {xs : List Int} (h : Src w v xs) : ∃ a c, v = .slice a xs.length c ∧ (0 < xs.length → xs.length ≤ c ∧ ∃ g o, a = some ⟨g, o, none⟩ ∧ ∀ i, i < xs.length → w.cell? ⟨g, o + i, none⟩ = some (.int .u8 (xs.getD i 0))) := by
  rcases h with (⟨rfl, rfl⟩ | ⟨g, o, cap, rfl, hc, hcell⟩) | ⟨x, c, rfl, rfl⟩
  · exact ⟨_, _, rfl, fun h => by simp at h⟩
  · exact ⟨_, _, rfl, fun _ => ⟨hc, g, o, rfl, hcell⟩⟩
  · exact ⟨_, _, rfl, fun h => by simp at h⟩
end Go.Proofs.YtboofamenpcnhaaGreatDoor
