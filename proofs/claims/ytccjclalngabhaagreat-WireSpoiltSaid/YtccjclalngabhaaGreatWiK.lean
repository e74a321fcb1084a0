/-
  The program's fields and the document's letters.
  Conditions: none.
-/
import Derived.Test.YtccjclalngabhaaGreatWiN
namespace Go.Proofs.YtccjclalngabhaaGreat
set_option linter.unusedVariables false
set_option linter.unusedSimpArgs false
inductive Corr : List Int → List UInt8 → Prop
  | nil : Corr [] []
  | q {fs cs} : Corr fs cs → Corr (0 :: fs) (113 :: cs)
  | b {fs cs} : Corr fs cs → Corr (1 :: fs) (98 :: cs)
  | t {fs cs} : Corr fs cs → Corr (4 :: fs) (116 :: cs)
  | l {fs cs} : Corr fs cs → Corr (5 :: fs) (108 :: cs)
  | e {fs cs} : Corr fs cs → Corr (6 :: fs) (101 :: cs)
  | v {fs cs} : Corr fs cs → Corr (9 :: fs) (118 :: cs)
  | m {fs cs} : Corr fs cs → Corr (10 :: fs) (109 :: cs)
  | a {fs cs} : Corr fs cs → Corr (14 :: fs) (97 :: cs)
  | n {fs cs} : Corr fs cs → Corr (15 :: fs) (110 :: cs)
  | c {fs cs} : Corr fs cs → Corr (2 :: fs) (99 :: cs)
  | p {fs cs} : Corr fs cs → Corr (12 :: fs) (112 :: cs)
  | f {fs cs} : Corr fs cs → Corr (8 :: fs) (102 :: cs)
  | r {fs cs} : Corr fs cs → Corr (13 :: fs) (114 :: cs)
  | o {fs cs} : Corr fs cs → Corr (7 :: fs) (111 :: cs)
  | s {fs cs} : Corr fs cs → Corr (3 :: fs) (115 :: cs)
  | w {fs cs} : Corr fs cs → Corr (11 :: fs) (119 :: cs)
end Go.Proofs.YtccjclalngabhaaGreat
