/-
  The program's fields and the document's letters.
  Conditions: none.
-/
import Derived.Test.YtccjclalngabhaaGreatWiN
namespace Go.Proofs.YtccjclalngabhaaGreat
set_option linter.unusedVariables false
set_option linter.unusedSimpArgs false
inductive fP:List Int→List UInt8→Prop
  | nil:fP [] []
  | q {fs cs}:fP fs cs→fP (0::fs) (113::cs)
  | b {fs cs}:fP fs cs→fP (1::fs) (98::cs)
  | t {fs cs}:fP fs cs→fP (4::fs) (116::cs)
  | l {fs cs}:fP fs cs→fP (5::fs) (108::cs)
  | e {fs cs}:fP fs cs→fP (6::fs) (101::cs)
  | v {fs cs}:fP fs cs→fP (9::fs) (118::cs)
  | m {fs cs}:fP fs cs→fP (10::fs) (109::cs)
  | a {fs cs}:fP fs cs→fP (14::fs) (97::cs)
  | n {fs cs}:fP fs cs→fP (15::fs) (110::cs)
  | c {fs cs}:fP fs cs→fP (2::fs) (99::cs)
  | p {fs cs}:fP fs cs→fP (12::fs) (112::cs)
  | f {fs cs}:fP fs cs→fP (8::fs) (102::cs)
  | r {fs cs}:fP fs cs→fP (13::fs) (114::cs)
  | o {fs cs}:fP fs cs→fP (7::fs) (111::cs)
  | s {fs cs}:fP fs cs→fP (3::fs) (115::cs)
  | w {fs cs}:fP fs cs→fP (11::fs) (119::cs)
theorem ww {k:Int} (d: ¬ k≤0) (g: ¬ k ≥ 15):(bY k).2=true∧fP (bY k).1.aJ.ls (dB k):=by
  rcases kinds d g with rfl | rfl | rfl | rfl | rfl | rfl | rfl | rfl | rfl | rfl | rfl | rfl | rfl | rfl
  · exact⟨by decide+kernel,(show fP [0,1,7] [113,98,111] from (.q (.b (.o .nil))))⟩
  · exact⟨by decide+kernel,(show fP [0,1,2,3] [113,98,99,115] from (.q (.b (.c (.s .nil)))))⟩
  · exact⟨by decide+kernel,(show fP [4,5,6,7] [116,108,101,111] from (.t (.l (.e (.o .nil)))))⟩
  · exact⟨by decide+kernel,(show fP [4,2,3] [116,99,115] from (.t (.c (.s .nil))))⟩
  · exact⟨by decide+kernel,(show fP [4,8] [116,102] from (.t (.f .nil)))⟩
  · exact⟨by decide+kernel,(show fP [4] [116] from (.t .nil))⟩
  · exact⟨by decide+kernel,(show fP [4] [116] from (.t .nil))⟩
  · exact⟨by decide+kernel,(show fP [9,6,10,11] [118,101,109,119] from (.v (.e (.m (.w .nil)))))⟩
  · exact⟨by decide+kernel,(show fP [9] [118] from (.v .nil))⟩
  · exact⟨by decide+kernel,(show fP [9,10,12,8,13] [118,109,112,102,114] from (.v (.m (.p (.f (.r .nil))))))⟩
  · exact⟨by decide+kernel,(show fP [10,14,15,13,7] [109,97,110,114,111] from (.m (.a (.n (.r (.o .nil))))))⟩
  · exact⟨by decide+kernel,(show fP [10,14,15] [109,97,110] from (.m (.a (.n .nil))))⟩
  · exact⟨by decide+kernel,(show fP [10] [109] from (.m .nil))⟩
  · exact⟨by decide+kernel,(show fP [10] [109] from (.m .nil))⟩
end Go.Proofs.YtccjclalngabhaaGreat
