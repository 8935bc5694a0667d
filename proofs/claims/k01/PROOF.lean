import PyProof.Rows.All
import Wide.All
import OpenK.AllK
import Wide.FinOn
import PySem.Challenge.RW_rowbreadth_k01_kept
open PySem PySem.W PyProof.Rows
set_option Elab.async false
example : List Int → List Int → Prop := fun pre some => some.length = 8 + 3 * pre.length
set_option maxRecDepth 100000 in
set_option maxHeartbeats 8000000 in
theorem PySem.Challenge.cw_rowbreadth_k01_kept_holds : PySem.Challenge.rw_rowbreadth_k01_kept.Holds := by
  k_with "pyIter ref" => (k_of "_law_cell" => k_state (fun pre some => some.length = 8 + 3 * pre.length) "_law_some")
  k_with "pyIter ref" => (k_of "_law_number" => k_search (fun _ => True))
  open_k
