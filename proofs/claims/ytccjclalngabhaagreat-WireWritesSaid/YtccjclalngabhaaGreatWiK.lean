/-
  The program's fields and the document's letters.
  Conditions: none.
-/
import Derived.Test.YtccjclalngabhaaGreatWiN
namespace Go.Proofs.YtccjclalngabhaaGreat
set_option linter.unusedVariables false
set_option linter.unusedSimpArgs false
inductive Corr : List Int → List UInt8 → Prop
  | nil : Corr [] []
  | q {fs cs} : Corr fs cs → Corr (0 :: fs) (113 :: cs)
  | b {fs cs} : Corr fs cs → Corr (1 :: fs) (98 :: cs)
  | t {fs cs} : Corr fs cs → Corr (4 :: fs) (116 :: cs)
  | l {fs cs} : Corr fs cs → Corr (5 :: fs) (108 :: cs)
  | e {fs cs} : Corr fs cs → Corr (6 :: fs) (101 :: cs)
  | v {fs cs} : Corr fs cs → Corr (9 :: fs) (118 :: cs)
  | m {fs cs} : Corr fs cs → Corr (10 :: fs) (109 :: cs)
  | a {fs cs} : Corr fs cs → Corr (14 :: fs) (97 :: cs)
  | n {fs cs} : Corr fs cs → Corr (15 :: fs) (110 :: cs)
  | c {fs cs} : Corr fs cs → Corr (2 :: fs) (99 :: cs)
  | p {fs cs} : Corr fs cs → Corr (12 :: fs) (112 :: cs)
  | f {fs cs} : Corr fs cs → Corr (8 :: fs) (102 :: cs)
  | r {fs cs} : Corr fs cs → Corr (13 :: fs) (114 :: cs)
  | o {fs cs} : Corr fs cs → Corr (7 :: fs) (111 :: cs)
  | s {fs cs} : Corr fs cs → Corr (3 :: fs) (115 :: cs)
  | w {fs cs} : Corr fs cs → Corr (11 :: fs) (119 :: cs)
theorem corr_of {k : Int} (h1 : ¬ k ≤ 0) (h2 : ¬ k ≥ 15) : (wire_layoutOf k).2 = true ∧ Corr (wire_layoutOf k).1.xfields.ls (r18_fields k) := by
  rcases kinds h1 h2 with rfl | rfl | rfl | rfl | rfl | rfl | rfl | rfl | rfl | rfl | rfl | rfl | rfl | rfl
  · exact ⟨by decide +kernel, (show Corr [0, 1, 7] [113, 98, 111] from (.q (.b (.o .nil))))⟩
  · exact ⟨by decide +kernel, (show Corr [0, 1, 2, 3] [113, 98, 99, 115] from (.q (.b (.c (.s .nil)))))⟩
  · exact ⟨by decide +kernel, (show Corr [4, 5, 6, 7] [116, 108, 101, 111] from (.t (.l (.e (.o .nil)))))⟩
  · exact ⟨by decide +kernel, (show Corr [4, 2, 3] [116, 99, 115] from (.t (.c (.s .nil))))⟩
  · exact ⟨by decide +kernel, (show Corr [4, 8] [116, 102] from (.t (.f .nil)))⟩
  · exact ⟨by decide +kernel, (show Corr [4] [116] from (.t .nil))⟩
  · exact ⟨by decide +kernel, (show Corr [4] [116] from (.t .nil))⟩
  · exact ⟨by decide +kernel, (show Corr [9, 6, 10, 11] [118, 101, 109, 119] from (.v (.e (.m (.w .nil)))))⟩
  · exact ⟨by decide +kernel, (show Corr [9] [118] from (.v .nil))⟩
  · exact ⟨by decide +kernel, (show Corr [9, 10, 12, 8, 13] [118, 109, 112, 102, 114] from (.v (.m (.p (.f (.r .nil))))))⟩
  · exact ⟨by decide +kernel, (show Corr [10, 14, 15, 13, 7] [109, 97, 110, 114, 111] from (.m (.a (.n (.r (.o .nil))))))⟩
  · exact ⟨by decide +kernel, (show Corr [10, 14, 15] [109, 97, 110] from (.m (.a (.n .nil))))⟩
  · exact ⟨by decide +kernel, (show Corr [10] [109] from (.m .nil))⟩
  · exact ⟨by decide +kernel, (show Corr [10] [109] from (.m .nil))⟩
end Go.Proofs.YtccjclalngabhaaGreat
