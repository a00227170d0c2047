/- Own contracts: a field of an element. No statement is proved here. -/
import Derived.Test.YtifhnidcodhoeaaPm
namespace Go.Proofs.Ytifhnidcodhoeaa
set_option maxRecDepth 100000
open Go.RowKit
set_option linter.unusedVariables false
set_option linter.unusedSimpArgs false


def vl (n : Int) (s : ByteArray) : List Value := [.int .i64 n, .string s]
def e0 : ByteArray := ByteArray.empty
theorem run_cell (fn : Func) (t T : Nat) (hr : fn.results = #[.cell t T]) (b : Nat) (cs : List Value) (w : World) (h2 : w.rangeAt b 0 cs) {d : TypeDesc} (hu : Try.prog.underlying T = some d) (hd : d.isRow = true) (hi : (Try.prog.info? T).map (·.size) = some cs.length)
    (tmps : Array Value) (e4 : tmps.getD t undef = .pointer (some ⟨b, 0, none⟩)) : (results fn tmps).run Try.prog w = .ok (.agg cs.toArray) w := by
  have hl : (loadVar T ⟨b, 0, none⟩).run Try.prog w = .ok (.agg cs.toArray) w := run_loadVar_mid (P := Try.prog) w b 0 T cs _ h2 hu hd hi
  have e4' : tmps[t]?.getD undef = .pointer (some ⟨b, 0, none⟩) := by simpa using e4
  simp [results, hr, e4', asAddr, hl]
end Go.Proofs.Ytifhnidcodhoeaa
