/-
  The program's fields and the document's letters.
  Conditions: none.
-/
import Derived.Test.YtccjclalngabhaaGreatWiN
namespace Go.Proofs.YtccjclalngabhaaGreat
set_option linter.unusedVariables false
set_option linter.unusedSimpArgs false
inductive fO:List Int→List UInt8→Prop
  | nil:fO [] []
  | q {fs cs}:fO fs cs→fO (0::fs) (113::cs)
  | b {fs cs}:fO fs cs→fO (1::fs) (98::cs)
  | t {fs cs}:fO fs cs→fO (4::fs) (116::cs)
  | l {fs cs}:fO fs cs→fO (5::fs) (108::cs)
  | e {fs cs}:fO fs cs→fO (6::fs) (101::cs)
  | v {fs cs}:fO fs cs→fO (9::fs) (118::cs)
  | m {fs cs}:fO fs cs→fO (10::fs) (109::cs)
  | a {fs cs}:fO fs cs→fO (14::fs) (97::cs)
  | n {fs cs}:fO fs cs→fO (15::fs) (110::cs)
  | c {fs cs}:fO fs cs→fO (2::fs) (99::cs)
  | p {fs cs}:fO fs cs→fO (12::fs) (112::cs)
  | f {fs cs}:fO fs cs→fO (8::fs) (102::cs)
  | r {fs cs}:fO fs cs→fO (13::fs) (114::cs)
  | o {fs cs}:fO fs cs→fO (7::fs) (111::cs)
  | s {fs cs}:fO fs cs→fO (3::fs) (115::cs)
  | w {fs cs}:fO fs cs→fO (11::fs) (119::cs)
theorem vN {k:Int} (d: ¬ k≤0) (g: ¬ k ≥ 15):(bY k).2=true∧fO (bY k).1.aJ.ls (dw k):=by
  rcases kinds d g with rfl | rfl | rfl | rfl | rfl | rfl | rfl | rfl | rfl | rfl | rfl | rfl | rfl | rfl
  · exact⟨by decide+kernel,(show fO [0,1,7] [113,98,111] from (.q (.b (.o .nil))))⟩
  · exact⟨by decide+kernel,(show fO [0,1,2,3] [113,98,99,115] from (.q (.b (.c (.s .nil)))))⟩
  · exact⟨by decide+kernel,(show fO [4,5,6,7] [116,108,101,111] from (.t (.l (.e (.o .nil)))))⟩
  · exact⟨by decide+kernel,(show fO [4,2,3] [116,99,115] from (.t (.c (.s .nil))))⟩
  · exact⟨by decide+kernel,(show fO [4,8] [116,102] from (.t (.f .nil)))⟩
  · exact⟨by decide+kernel,(show fO [4] [116] from (.t .nil))⟩
  · exact⟨by decide+kernel,(show fO [4] [116] from (.t .nil))⟩
  · exact⟨by decide+kernel,(show fO [9,6,10,11] [118,101,109,119] from (.v (.e (.m (.w .nil)))))⟩
  · exact⟨by decide+kernel,(show fO [9] [118] from (.v .nil))⟩
  · exact⟨by decide+kernel,(show fO [9,10,12,8,13] [118,109,112,102,114] from (.v (.m (.p (.f (.r .nil))))))⟩
  · exact⟨by decide+kernel,(show fO [10,14,15,13,7] [109,97,110,114,111] from (.m (.a (.n (.r (.o .nil))))))⟩
  · exact⟨by decide+kernel,(show fO [10,14,15] [109,97,110] from (.m (.a (.n .nil))))⟩
  · exact⟨by decide+kernel,(show fO [10] [109] from (.m .nil))⟩
  · exact⟨by decide+kernel,(show fO [10] [109] from (.m .nil))⟩
end Go.Proofs.YtccjclalngabhaaGreat
