/-
  A message's fields, one behind the other: what was written is read as it was, what is read was written so.
  Conditions: none beyond each one's own.
-/
import Derived.Test.YtccjclalngabhaaGreatWiF
import Derived.Test.YtccjclalngabhaaGreatWx
import Derived.Test.YtccjclalngabhaaGreatWiC
namespace Go.Proofs.YtccjclalngabhaaGreat
set_option linter.unusedVariables false
set_option linter.unusedSimpArgs false
inductive Fl : Int → Prop
  | f0 : Fl 0
  | f1 : Fl 1
  | f4 : Fl 4
  | f5 : Fl 5
  | f6 : Fl 6
  | f9 : Fl 9
  | f10 : Fl 10
  | f14 : Fl 14
  | f15 : Fl 15
  | f2 : Fl 2
  | f12 : Fl 12
  | f8 : Fl 8
  | f13 : Fl 13
  | f7 : Fl 7
  | f3 : Fl 3
  | f11 : Fl 11
def fB (m : MsgT) (f : Int) : List UInt8 :=
  if f = 0 then octet_Num m.xReq else if f = 1 then octet_Num m.xBoot else if f = 4 then octet_Num m.xTxn else if f = 5 then octet_Num m.xLow else if f = 6 then octet_Num m.xEpoch else if f = 9 then octet_Num m.xVer else if f = 10 then octet_Num m.xMove else if f = 14 then octet_Num m.xAttempt else if f = 15 then octet_Num m.xN else if f = 2 then [u8I m.xCode] else if f = 12 then [u8I m.xPeer] else if f = 8 then [wire_truth m.xFlag] else if f = 13 then octet_Text m.xRange.xLo ++ octet_Text m.xRange.xHi else if f = 7 then octet_Num (List.length m.xOps.ls) ++ List.flatMap opB m.xOps.ls else if f = 3 then octet_Num (List.length m.xResults.ls) ++ List.flatMap reB m.xResults.ls else if f = 11 then octet_Num (List.length m.xOwners.ls) ++ List.flatMap owB m.xOwners.ls else []
def fP (m : MsgT) (f : Int) : Prop :=
  if f = 0 then m.xReq ≤ 18446744073709551615 else if f = 1 then m.xBoot ≤ 18446744073709551615 else if f = 4 then m.xTxn ≤ 18446744073709551615 else if f = 5 then m.xLow ≤ 18446744073709551615 else if f = 6 then m.xEpoch ≤ 18446744073709551615 else if f = 9 then m.xVer ≤ 18446744073709551615 else if f = 10 then m.xMove ≤ 18446744073709551615 else if f = 14 then m.xAttempt ≤ 18446744073709551615 else if f = 15 then m.xN ≤ 18446744073709551615 else if f = 2 then 0 ≤ m.xCode ∧ m.xCode ≤ 255 else if f = 12 then 0 ≤ m.xPeer ∧ m.xPeer ≤ 255 else if f = 8 then True else if f = 13 then List.length m.xRange.xLo ≤ 255 ∧ List.length m.xRange.xHi ≤ 255 else if f = 7 then List.length m.xOps.ls ≤ 255 ∧ ∀ x ∈ m.xOps.ls, opP x else if f = 3 then List.length m.xResults.ls ≤ 255 ∧ ∀ x ∈ m.xResults.ls, reP x else if f = 11 then List.length m.xOwners.ls ≤ 255 ∧ ∀ x ∈ m.xOwners.ls, owP x else True
def cp (m s : MsgT) (f : Int) : MsgT :=
  if f = 0 then MsgT.mk s.xKind s.xFrom s.xTo s.xClient s.xCode s.xPeer (m.xReq) s.xBoot s.xTxn s.xLow s.xVer s.xEpoch s.xMove s.xAttempt s.xN s.xFlag s.xRange s.xOps s.xResults s.xOwners else if f = 1 then MsgT.mk s.xKind s.xFrom s.xTo s.xClient s.xCode s.xPeer s.xReq (m.xBoot) s.xTxn s.xLow s.xVer s.xEpoch s.xMove s.xAttempt s.xN s.xFlag s.xRange s.xOps s.xResults s.xOwners else if f = 4 then MsgT.mk s.xKind s.xFrom s.xTo s.xClient s.xCode s.xPeer s.xReq s.xBoot (m.xTxn) s.xLow s.xVer s.xEpoch s.xMove s.xAttempt s.xN s.xFlag s.xRange s.xOps s.xResults s.xOwners else if f = 5 then MsgT.mk s.xKind s.xFrom s.xTo s.xClient s.xCode s.xPeer s.xReq s.xBoot s.xTxn (m.xLow) s.xVer s.xEpoch s.xMove s.xAttempt s.xN s.xFlag s.xRange s.xOps s.xResults s.xOwners else if f = 6 then MsgT.mk s.xKind s.xFrom s.xTo s.xClient s.xCode s.xPeer s.xReq s.xBoot s.xTxn s.xLow s.xVer (m.xEpoch) s.xMove s.xAttempt s.xN s.xFlag s.xRange s.xOps s.xResults s.xOwners else if f = 9 then MsgT.mk s.xKind s.xFrom s.xTo s.xClient s.xCode s.xPeer s.xReq s.xBoot s.xTxn s.xLow (m.xVer) s.xEpoch s.xMove s.xAttempt s.xN s.xFlag s.xRange s.xOps s.xResults s.xOwners else if f = 10 then MsgT.mk s.xKind s.xFrom s.xTo s.xClient s.xCode s.xPeer s.xReq s.xBoot s.xTxn s.xLow s.xVer s.xEpoch (m.xMove) s.xAttempt s.xN s.xFlag s.xRange s.xOps s.xResults s.xOwners else if f = 14 then MsgT.mk s.xKind s.xFrom s.xTo s.xClient s.xCode s.xPeer s.xReq s.xBoot s.xTxn s.xLow s.xVer s.xEpoch s.xMove (m.xAttempt) s.xN s.xFlag s.xRange s.xOps s.xResults s.xOwners else if f = 15 then MsgT.mk s.xKind s.xFrom s.xTo s.xClient s.xCode s.xPeer s.xReq s.xBoot s.xTxn s.xLow s.xVer s.xEpoch s.xMove s.xAttempt (m.xN) s.xFlag s.xRange s.xOps s.xResults s.xOwners else if f = 2 then MsgT.mk s.xKind s.xFrom s.xTo s.xClient (m.xCode) s.xPeer s.xReq s.xBoot s.xTxn s.xLow s.xVer s.xEpoch s.xMove s.xAttempt s.xN s.xFlag s.xRange s.xOps s.xResults s.xOwners else if f = 12 then MsgT.mk s.xKind s.xFrom s.xTo s.xClient s.xCode (m.xPeer) s.xReq s.xBoot s.xTxn s.xLow s.xVer s.xEpoch s.xMove s.xAttempt s.xN s.xFlag s.xRange s.xOps s.xResults s.xOwners else if f = 8 then MsgT.mk s.xKind s.xFrom s.xTo s.xClient s.xCode s.xPeer s.xReq s.xBoot s.xTxn s.xLow s.xVer s.xEpoch s.xMove s.xAttempt s.xN (m.xFlag) s.xRange s.xOps s.xResults s.xOwners else if f = 13 then MsgT.mk s.xKind s.xFrom s.xTo s.xClient s.xCode s.xPeer s.xReq s.xBoot s.xTxn s.xLow s.xVer s.xEpoch s.xMove s.xAttempt s.xN s.xFlag (m.xRange) s.xOps s.xResults s.xOwners else if f = 7 then MsgT.mk s.xKind s.xFrom s.xTo s.xClient s.xCode s.xPeer s.xReq s.xBoot s.xTxn s.xLow s.xVer s.xEpoch s.xMove s.xAttempt s.xN s.xFlag s.xRange (m.xOps) s.xResults s.xOwners else if f = 3 then MsgT.mk s.xKind s.xFrom s.xTo s.xClient s.xCode s.xPeer s.xReq s.xBoot s.xTxn s.xLow s.xVer s.xEpoch s.xMove s.xAttempt s.xN s.xFlag s.xRange s.xOps (m.xResults) s.xOwners else if f = 11 then MsgT.mk s.xKind s.xFrom s.xTo s.xClient s.xCode s.xPeer s.xReq s.xBoot s.xTxn s.xLow s.xVer s.xEpoch s.xMove s.xAttempt s.xN s.xFlag s.xRange s.xOps s.xResults (m.xOwners) else s
def rS (f : Int) (r : ReaderT) (s : MsgT) : ReaderT × MsgT :=
  if f = 0 then ((reader_Reader_Num r 18446744073709551615).2, MsgT.mk s.xKind s.xFrom s.xTo s.xClient s.xCode s.xPeer ((reader_Reader_Num r 18446744073709551615).1) s.xBoot s.xTxn s.xLow s.xVer s.xEpoch s.xMove s.xAttempt s.xN s.xFlag s.xRange s.xOps s.xResults s.xOwners) else if f = 1 then ((reader_Reader_Num r 18446744073709551615).2, MsgT.mk s.xKind s.xFrom s.xTo s.xClient s.xCode s.xPeer s.xReq ((reader_Reader_Num r 18446744073709551615).1) s.xTxn s.xLow s.xVer s.xEpoch s.xMove s.xAttempt s.xN s.xFlag s.xRange s.xOps s.xResults s.xOwners) else if f = 4 then ((reader_Reader_Num r 18446744073709551615).2, MsgT.mk s.xKind s.xFrom s.xTo s.xClient s.xCode s.xPeer s.xReq s.xBoot ((reader_Reader_Num r 18446744073709551615).1) s.xLow s.xVer s.xEpoch s.xMove s.xAttempt s.xN s.xFlag s.xRange s.xOps s.xResults s.xOwners) else if f = 5 then ((reader_Reader_Num r 18446744073709551615).2, MsgT.mk s.xKind s.xFrom s.xTo s.xClient s.xCode s.xPeer s.xReq s.xBoot s.xTxn ((reader_Reader_Num r 18446744073709551615).1) s.xVer s.xEpoch s.xMove s.xAttempt s.xN s.xFlag s.xRange s.xOps s.xResults s.xOwners) else if f = 6 then ((reader_Reader_Num r 18446744073709551615).2, MsgT.mk s.xKind s.xFrom s.xTo s.xClient s.xCode s.xPeer s.xReq s.xBoot s.xTxn s.xLow s.xVer ((reader_Reader_Num r 18446744073709551615).1) s.xMove s.xAttempt s.xN s.xFlag s.xRange s.xOps s.xResults s.xOwners) else if f = 9 then ((reader_Reader_Num r 18446744073709551615).2, MsgT.mk s.xKind s.xFrom s.xTo s.xClient s.xCode s.xPeer s.xReq s.xBoot s.xTxn s.xLow ((reader_Reader_Num r 18446744073709551615).1) s.xEpoch s.xMove s.xAttempt s.xN s.xFlag s.xRange s.xOps s.xResults s.xOwners) else if f = 10 then ((reader_Reader_Num r 18446744073709551615).2, MsgT.mk s.xKind s.xFrom s.xTo s.xClient s.xCode s.xPeer s.xReq s.xBoot s.xTxn s.xLow s.xVer s.xEpoch ((reader_Reader_Num r 18446744073709551615).1) s.xAttempt s.xN s.xFlag s.xRange s.xOps s.xResults s.xOwners) else if f = 14 then ((reader_Reader_Num r 18446744073709551615).2, MsgT.mk s.xKind s.xFrom s.xTo s.xClient s.xCode s.xPeer s.xReq s.xBoot s.xTxn s.xLow s.xVer s.xEpoch s.xMove ((reader_Reader_Num r 18446744073709551615).1) s.xN s.xFlag s.xRange s.xOps s.xResults s.xOwners) else if f = 15 then ((reader_Reader_Num r 18446744073709551615).2, MsgT.mk s.xKind s.xFrom s.xTo s.xClient s.xCode s.xPeer s.xReq s.xBoot s.xTxn s.xLow s.xVer s.xEpoch s.xMove s.xAttempt ((reader_Reader_Num r 18446744073709551615).1) s.xFlag s.xRange s.xOps s.xResults s.xOwners) else if f = 2 then ((reader_Reader_Octet r).2, MsgT.mk s.xKind s.xFrom s.xTo s.xClient ((((reader_Reader_Octet r).1.toNat : Nat) : Int)) s.xPeer s.xReq s.xBoot s.xTxn s.xLow s.xVer s.xEpoch s.xMove s.xAttempt s.xN s.xFlag s.xRange s.xOps s.xResults s.xOwners) else if f = 12 then ((reader_Reader_Octet r).2, MsgT.mk s.xKind s.xFrom s.xTo s.xClient s.xCode ((((reader_Reader_Octet r).1.toNat : Nat) : Int)) s.xReq s.xBoot s.xTxn s.xLow s.xVer s.xEpoch s.xMove s.xAttempt s.xN s.xFlag s.xRange s.xOps s.xResults s.xOwners) else if f = 8 then ((wire_readTruth r).2, MsgT.mk s.xKind s.xFrom s.xTo s.xClient s.xCode s.xPeer s.xReq s.xBoot s.xTxn s.xLow s.xVer s.xEpoch s.xMove s.xAttempt s.xN ((wire_readTruth r).1) s.xRange s.xOps s.xResults s.xOwners) else if f = 13 then (Rr (reader_Reader_Text (reader_Reader_Text r 255).2 255).2.xrest.ls (reader_Reader_Text (reader_Reader_Text r 255).2 255).2.xerrno, MsgT.mk s.xKind s.xFrom s.xTo s.xClient s.xCode s.xPeer s.xReq s.xBoot s.xTxn s.xLow s.xVer s.xEpoch s.xMove s.xAttempt s.xN s.xFlag (RangeD.mk (reader_Reader_Text r 255).1 (reader_Reader_Text (reader_Reader_Text r 255).2 255).1) s.xOps s.xResults s.xOwners) else if f = 7 then ((reader_List_api_Op r 255).2, MsgT.mk s.xKind s.xFrom s.xTo s.xClient s.xCode s.xPeer s.xReq s.xBoot s.xTxn s.xLow s.xVer s.xEpoch s.xMove s.xAttempt s.xN s.xFlag s.xRange (Ll.mk (reader_List_api_Op r 255).1) s.xResults s.xOwners) else if f = 3 then ((reader_List_api_Result r 255).2, MsgT.mk s.xKind s.xFrom s.xTo s.xClient s.xCode s.xPeer s.xReq s.xBoot s.xTxn s.xLow s.xVer s.xEpoch s.xMove s.xAttempt s.xN s.xFlag s.xRange s.xOps (Ll.mk (reader_List_api_Result r 255).1) s.xOwners) else if f = 11 then ((reader_List_api_Owner r 255).2, MsgT.mk s.xKind s.xFrom s.xTo s.xClient s.xCode s.xPeer s.xReq s.xBoot s.xTxn s.xLow s.xVer s.xEpoch s.xMove s.xAttempt s.xN s.xFlag s.xRange s.xOps s.xResults (Ll.mk (reader_List_api_Owner r 255).1)) else (r, s)
theorem re0 (r : ReaderT) (s : MsgT) : rS 0 r s = ((reader_Reader_Num r 18446744073709551615).2, MsgT.mk s.xKind s.xFrom s.xTo s.xClient s.xCode s.xPeer ((reader_Reader_Num r 18446744073709551615).1) s.xBoot s.xTxn s.xLow s.xVer s.xEpoch s.xMove s.xAttempt s.xN s.xFlag s.xRange s.xOps s.xResults s.xOwners) := rfl
theorem re1 (r : ReaderT) (s : MsgT) : rS 1 r s = ((reader_Reader_Num r 18446744073709551615).2, MsgT.mk s.xKind s.xFrom s.xTo s.xClient s.xCode s.xPeer s.xReq ((reader_Reader_Num r 18446744073709551615).1) s.xTxn s.xLow s.xVer s.xEpoch s.xMove s.xAttempt s.xN s.xFlag s.xRange s.xOps s.xResults s.xOwners) := rfl
theorem re4 (r : ReaderT) (s : MsgT) : rS 4 r s = ((reader_Reader_Num r 18446744073709551615).2, MsgT.mk s.xKind s.xFrom s.xTo s.xClient s.xCode s.xPeer s.xReq s.xBoot ((reader_Reader_Num r 18446744073709551615).1) s.xLow s.xVer s.xEpoch s.xMove s.xAttempt s.xN s.xFlag s.xRange s.xOps s.xResults s.xOwners) := rfl
theorem re5 (r : ReaderT) (s : MsgT) : rS 5 r s = ((reader_Reader_Num r 18446744073709551615).2, MsgT.mk s.xKind s.xFrom s.xTo s.xClient s.xCode s.xPeer s.xReq s.xBoot s.xTxn ((reader_Reader_Num r 18446744073709551615).1) s.xVer s.xEpoch s.xMove s.xAttempt s.xN s.xFlag s.xRange s.xOps s.xResults s.xOwners) := rfl
theorem re6 (r : ReaderT) (s : MsgT) : rS 6 r s = ((reader_Reader_Num r 18446744073709551615).2, MsgT.mk s.xKind s.xFrom s.xTo s.xClient s.xCode s.xPeer s.xReq s.xBoot s.xTxn s.xLow s.xVer ((reader_Reader_Num r 18446744073709551615).1) s.xMove s.xAttempt s.xN s.xFlag s.xRange s.xOps s.xResults s.xOwners) := rfl
theorem re9 (r : ReaderT) (s : MsgT) : rS 9 r s = ((reader_Reader_Num r 18446744073709551615).2, MsgT.mk s.xKind s.xFrom s.xTo s.xClient s.xCode s.xPeer s.xReq s.xBoot s.xTxn s.xLow ((reader_Reader_Num r 18446744073709551615).1) s.xEpoch s.xMove s.xAttempt s.xN s.xFlag s.xRange s.xOps s.xResults s.xOwners) := rfl
theorem re10 (r : ReaderT) (s : MsgT) : rS 10 r s = ((reader_Reader_Num r 18446744073709551615).2, MsgT.mk s.xKind s.xFrom s.xTo s.xClient s.xCode s.xPeer s.xReq s.xBoot s.xTxn s.xLow s.xVer s.xEpoch ((reader_Reader_Num r 18446744073709551615).1) s.xAttempt s.xN s.xFlag s.xRange s.xOps s.xResults s.xOwners) := rfl
theorem re14 (r : ReaderT) (s : MsgT) : rS 14 r s = ((reader_Reader_Num r 18446744073709551615).2, MsgT.mk s.xKind s.xFrom s.xTo s.xClient s.xCode s.xPeer s.xReq s.xBoot s.xTxn s.xLow s.xVer s.xEpoch s.xMove ((reader_Reader_Num r 18446744073709551615).1) s.xN s.xFlag s.xRange s.xOps s.xResults s.xOwners) := rfl
theorem re15 (r : ReaderT) (s : MsgT) : rS 15 r s = ((reader_Reader_Num r 18446744073709551615).2, MsgT.mk s.xKind s.xFrom s.xTo s.xClient s.xCode s.xPeer s.xReq s.xBoot s.xTxn s.xLow s.xVer s.xEpoch s.xMove s.xAttempt ((reader_Reader_Num r 18446744073709551615).1) s.xFlag s.xRange s.xOps s.xResults s.xOwners) := rfl
theorem re2 (r : ReaderT) (s : MsgT) : rS 2 r s = ((reader_Reader_Octet r).2, MsgT.mk s.xKind s.xFrom s.xTo s.xClient ((((reader_Reader_Octet r).1.toNat : Nat) : Int)) s.xPeer s.xReq s.xBoot s.xTxn s.xLow s.xVer s.xEpoch s.xMove s.xAttempt s.xN s.xFlag s.xRange s.xOps s.xResults s.xOwners) := rfl
theorem re12 (r : ReaderT) (s : MsgT) : rS 12 r s = ((reader_Reader_Octet r).2, MsgT.mk s.xKind s.xFrom s.xTo s.xClient s.xCode ((((reader_Reader_Octet r).1.toNat : Nat) : Int)) s.xReq s.xBoot s.xTxn s.xLow s.xVer s.xEpoch s.xMove s.xAttempt s.xN s.xFlag s.xRange s.xOps s.xResults s.xOwners) := rfl
theorem re8 (r : ReaderT) (s : MsgT) : rS 8 r s = ((wire_readTruth r).2, MsgT.mk s.xKind s.xFrom s.xTo s.xClient s.xCode s.xPeer s.xReq s.xBoot s.xTxn s.xLow s.xVer s.xEpoch s.xMove s.xAttempt s.xN ((wire_readTruth r).1) s.xRange s.xOps s.xResults s.xOwners) := rfl
theorem re13 (r : ReaderT) (s : MsgT) : rS 13 r s = (Rr (reader_Reader_Text (reader_Reader_Text r 255).2 255).2.xrest.ls (reader_Reader_Text (reader_Reader_Text r 255).2 255).2.xerrno, MsgT.mk s.xKind s.xFrom s.xTo s.xClient s.xCode s.xPeer s.xReq s.xBoot s.xTxn s.xLow s.xVer s.xEpoch s.xMove s.xAttempt s.xN s.xFlag (RangeD.mk (reader_Reader_Text r 255).1 (reader_Reader_Text (reader_Reader_Text r 255).2 255).1) s.xOps s.xResults s.xOwners) := rfl
theorem re7 (r : ReaderT) (s : MsgT) : rS 7 r s = ((reader_List_api_Op r 255).2, MsgT.mk s.xKind s.xFrom s.xTo s.xClient s.xCode s.xPeer s.xReq s.xBoot s.xTxn s.xLow s.xVer s.xEpoch s.xMove s.xAttempt s.xN s.xFlag s.xRange (Ll.mk (reader_List_api_Op r 255).1) s.xResults s.xOwners) := rfl
theorem re3 (r : ReaderT) (s : MsgT) : rS 3 r s = ((reader_List_api_Result r 255).2, MsgT.mk s.xKind s.xFrom s.xTo s.xClient s.xCode s.xPeer s.xReq s.xBoot s.xTxn s.xLow s.xVer s.xEpoch s.xMove s.xAttempt s.xN s.xFlag s.xRange s.xOps (Ll.mk (reader_List_api_Result r 255).1) s.xOwners) := rfl
theorem re11 (r : ReaderT) (s : MsgT) : rS 11 r s = ((reader_List_api_Owner r 255).2, MsgT.mk s.xKind s.xFrom s.xTo s.xClient s.xCode s.xPeer s.xReq s.xBoot s.xTxn s.xLow s.xVer s.xEpoch s.xMove s.xAttempt s.xN s.xFlag s.xRange s.xOps s.xResults (Ll.mk (reader_List_api_Owner r 255).1)) := rfl
theorem w_L (m : MsgT) : ∀ (fs : List Int) (l : List UInt8), (∀ f ∈ fs, Fl f) → wire_write_L0 m fs l = l ++ List.flatMap (fB m) fs
  | [], l, _ => (List.append_nil l).symm
  | f :: fs, l, h => by
    have ih := fun l => w_L m fs l (fun x hx => h x (.tail _ hx))
    rw [List.flatMap_cons]
    cases h f (.head _) with
    | f0 => rw [show wire_write_L0 m (0 :: fs) l = wire_write_L0 m fs (l ++ octet_Num m.xReq) from rfl, ih, show fB m 0 = octet_Num m.xReq from rfl]; simp only [List.append_assoc]
    | f1 => rw [show wire_write_L0 m (1 :: fs) l = wire_write_L0 m fs (l ++ octet_Num m.xBoot) from rfl, ih, show fB m 1 = octet_Num m.xBoot from rfl]; simp only [List.append_assoc]
    | f4 => rw [show wire_write_L0 m (4 :: fs) l = wire_write_L0 m fs (l ++ octet_Num m.xTxn) from rfl, ih, show fB m 4 = octet_Num m.xTxn from rfl]; simp only [List.append_assoc]
    | f5 => rw [show wire_write_L0 m (5 :: fs) l = wire_write_L0 m fs (l ++ octet_Num m.xLow) from rfl, ih, show fB m 5 = octet_Num m.xLow from rfl]; simp only [List.append_assoc]
    | f6 => rw [show wire_write_L0 m (6 :: fs) l = wire_write_L0 m fs (l ++ octet_Num m.xEpoch) from rfl, ih, show fB m 6 = octet_Num m.xEpoch from rfl]; simp only [List.append_assoc]
    | f9 => rw [show wire_write_L0 m (9 :: fs) l = wire_write_L0 m fs (l ++ octet_Num m.xVer) from rfl, ih, show fB m 9 = octet_Num m.xVer from rfl]; simp only [List.append_assoc]
    | f10 => rw [show wire_write_L0 m (10 :: fs) l = wire_write_L0 m fs (l ++ octet_Num m.xMove) from rfl, ih, show fB m 10 = octet_Num m.xMove from rfl]; simp only [List.append_assoc]
    | f14 => rw [show wire_write_L0 m (14 :: fs) l = wire_write_L0 m fs (l ++ octet_Num m.xAttempt) from rfl, ih, show fB m 14 = octet_Num m.xAttempt from rfl]; simp only [List.append_assoc]
    | f15 => rw [show wire_write_L0 m (15 :: fs) l = wire_write_L0 m fs (l ++ octet_Num m.xN) from rfl, ih, show fB m 15 = octet_Num m.xN from rfl]; simp only [List.append_assoc]
    | f2 => rw [show wire_write_L0 m (2 :: fs) l = wire_write_L0 m fs (l ++ [u8I m.xCode]) from rfl, ih, show fB m 2 = [u8I m.xCode] from rfl]; simp only [List.append_assoc]
    | f12 => rw [show wire_write_L0 m (12 :: fs) l = wire_write_L0 m fs (l ++ [u8I m.xPeer]) from rfl, ih, show fB m 12 = [u8I m.xPeer] from rfl]; simp only [List.append_assoc]
    | f8 => rw [show wire_write_L0 m (8 :: fs) l = wire_write_L0 m fs (l ++ [wire_truth m.xFlag]) from rfl, ih, show fB m 8 = [wire_truth m.xFlag] from rfl]; simp only [List.append_assoc]
    | f13 => rw [show wire_write_L0 m (13 :: fs) l = wire_write_L0 m fs ((l ++ octet_Text m.xRange.xLo) ++ octet_Text m.xRange.xHi) from rfl, ih, show fB m 13 = octet_Text m.xRange.xLo ++ octet_Text m.xRange.xHi from rfl]; simp only [List.append_assoc]
    | f7 => rw [show wire_write_L0 m (7 :: fs) l = wire_write_L0 m fs (wire_list_api_Op l m.xOps.ls) from rfl, ih, show fB m 7 = octet_Num (List.length m.xOps.ls) ++ List.flatMap opB m.xOps.ls from rfl]; simp only [w_ops, List.append_assoc]
    | f3 => rw [show wire_write_L0 m (3 :: fs) l = wire_write_L0 m fs (wire_list_api_Result l m.xResults.ls) from rfl, ih, show fB m 3 = octet_Num (List.length m.xResults.ls) ++ List.flatMap reB m.xResults.ls from rfl]; simp only [w_res, List.append_assoc]
    | f11 => rw [show wire_write_L0 m (11 :: fs) l = wire_write_L0 m fs (wire_list_api_Owner l m.xOwners.ls) from rfl, ih, show fB m 11 = octet_Num (List.length m.xOwners.ls) ++ List.flatMap owB m.xOwners.ls from rfl]; simp only [w_ows, List.append_assoc]
def rM (p : MsgT) (r : ReaderT) (s : MsgT) (fs : List Int) : ReaderT × MsgT :=
  bnd (wire_read_L0 p fs r.xrest.ls r.xerrno s.xCode s.xPeer s.xReq s.xBoot s.xTxn s.xLow s.xVer s.xEpoch s.xMove s.xAttempt s.xN s.xFlag s.xRange.xLo s.xRange.xHi s.xOps.ls s.xResults.ls s.xOwners.ls) fun sLrL => (ReaderT.mk (Ll.mk sLrL.1) sLrL.2.1, MsgT.mk s.xKind s.xFrom s.xTo s.xClient sLrL.2.2.1 sLrL.2.2.2.1 sLrL.2.2.2.2.1 sLrL.2.2.2.2.2.1 sLrL.2.2.2.2.2.2.1 sLrL.2.2.2.2.2.2.2.1 sLrL.2.2.2.2.2.2.2.2.1 sLrL.2.2.2.2.2.2.2.2.2.1 sLrL.2.2.2.2.2.2.2.2.2.2.1 sLrL.2.2.2.2.2.2.2.2.2.2.2.1 sLrL.2.2.2.2.2.2.2.2.2.2.2.2.1 sLrL.2.2.2.2.2.2.2.2.2.2.2.2.2.1 (RangeD.mk sLrL.2.2.2.2.2.2.2.2.2.2.2.2.2.2.1 sLrL.2.2.2.2.2.2.2.2.2.2.2.2.2.2.2.1) (Ll.mk sLrL.2.2.2.2.2.2.2.2.2.2.2.2.2.2.2.2.1) (Ll.mk sLrL.2.2.2.2.2.2.2.2.2.2.2.2.2.2.2.2.2.1) (Ll.mk sLrL.2.2.2.2.2.2.2.2.2.2.2.2.2.2.2.2.2.2))
theorem read_M (r : ReaderT) (s : MsgT) (fs : List Int) : wire_read r s fs = rM s r s fs := rfl
theorem rM_nil (p : MsgT) (r : ReaderT) (s : MsgT) : rM p r s [] = (r, s) := rfl
set_option maxHeartbeats 4000000 in
theorem rM_cons (p : MsgT) (r : ReaderT) (s : MsgT) {f : Int} (fs : List Int) (h : Fl f) : rM p r s (f :: fs) = rM p (rS f r s).1 (rS f r s).2 fs := by
  obtain ⟨⟨l⟩, e⟩ := r
  cases h with
  | f0 => rw [re0]; simp only [rM, wire_read_L0, bnd_eq, Int.reduceEq, ↓reduceIte]
  | f1 => rw [re1]; simp only [rM, wire_read_L0, bnd_eq, Int.reduceEq, ↓reduceIte]
  | f4 => rw [re4]; simp only [rM, wire_read_L0, bnd_eq, Int.reduceEq, ↓reduceIte]
  | f5 => rw [re5]; simp only [rM, wire_read_L0, bnd_eq, Int.reduceEq, ↓reduceIte]
  | f6 => rw [re6]; simp only [rM, wire_read_L0, bnd_eq, Int.reduceEq, ↓reduceIte]
  | f9 => rw [re9]; simp only [rM, wire_read_L0, bnd_eq, Int.reduceEq, ↓reduceIte]
  | f10 => rw [re10]; simp only [rM, wire_read_L0, bnd_eq, Int.reduceEq, ↓reduceIte]
  | f14 => rw [re14]; simp only [rM, wire_read_L0, bnd_eq, Int.reduceEq, ↓reduceIte]
  | f15 => rw [re15]; simp only [rM, wire_read_L0, bnd_eq, Int.reduceEq, ↓reduceIte]
  | f2 => rw [re2]; simp only [rM, wire_read_L0, bnd_eq, Int.reduceEq, ↓reduceIte]
  | f12 => rw [re12]; simp only [rM, wire_read_L0, bnd_eq, Int.reduceEq, ↓reduceIte]
  | f8 => rw [re8]; simp only [rM, wire_read_L0, bnd_eq, Int.reduceEq, ↓reduceIte]
  | f13 => rw [re13]; simp only [rM, wire_read_L0, bnd_eq, Int.reduceEq, ↓reduceIte]
  | f7 => rw [re7]; simp only [rM, wire_read_L0, bnd_eq, Int.reduceEq, ↓reduceIte]
  | f3 => rw [re3]; simp only [rM, wire_read_L0, bnd_eq, Int.reduceEq, ↓reduceIte]
  | f11 => rw [re11]; simp only [rM, wire_read_L0, bnd_eq, Int.reduceEq, ↓reduceIte]
set_option maxHeartbeats 4000000 in
theorem rS_f (m s : MsgT) {f : Int} (t : List UInt8) (h : Fl f) (hp : fP m f) : rS f (Rr (fB m f ++ t) 0) s = (Rr t 0, cp m s f) := by
  cases h with
  | f0 => exact (show ((reader_Reader_Num (Rr (octet_Num m.xReq ++ t) 0) 18446744073709551615).2, MsgT.mk s.xKind s.xFrom s.xTo s.xClient s.xCode s.xPeer ((reader_Reader_Num (Rr (octet_Num m.xReq ++ t) 0) 18446744073709551615).1) s.xBoot s.xTxn s.xLow s.xVer s.xEpoch s.xMove s.xAttempt s.xN s.xFlag s.xRange s.xOps s.xResults s.xOwners) = (Rr t 0, MsgT.mk s.xKind s.xFrom s.xTo s.xClient s.xCode s.xPeer (m.xReq) s.xBoot s.xTxn s.xLow s.xVer s.xEpoch s.xMove s.xAttempt s.xN s.xFlag s.xRange s.xOps s.xResults s.xOwners) from by rw [fN (Nat.le_refl _) _ _ hp])
  | f1 => exact (show ((reader_Reader_Num (Rr (octet_Num m.xBoot ++ t) 0) 18446744073709551615).2, MsgT.mk s.xKind s.xFrom s.xTo s.xClient s.xCode s.xPeer s.xReq ((reader_Reader_Num (Rr (octet_Num m.xBoot ++ t) 0) 18446744073709551615).1) s.xTxn s.xLow s.xVer s.xEpoch s.xMove s.xAttempt s.xN s.xFlag s.xRange s.xOps s.xResults s.xOwners) = (Rr t 0, MsgT.mk s.xKind s.xFrom s.xTo s.xClient s.xCode s.xPeer s.xReq (m.xBoot) s.xTxn s.xLow s.xVer s.xEpoch s.xMove s.xAttempt s.xN s.xFlag s.xRange s.xOps s.xResults s.xOwners) from by rw [fN (Nat.le_refl _) _ _ hp])
  | f4 => exact (show ((reader_Reader_Num (Rr (octet_Num m.xTxn ++ t) 0) 18446744073709551615).2, MsgT.mk s.xKind s.xFrom s.xTo s.xClient s.xCode s.xPeer s.xReq s.xBoot ((reader_Reader_Num (Rr (octet_Num m.xTxn ++ t) 0) 18446744073709551615).1) s.xLow s.xVer s.xEpoch s.xMove s.xAttempt s.xN s.xFlag s.xRange s.xOps s.xResults s.xOwners) = (Rr t 0, MsgT.mk s.xKind s.xFrom s.xTo s.xClient s.xCode s.xPeer s.xReq s.xBoot (m.xTxn) s.xLow s.xVer s.xEpoch s.xMove s.xAttempt s.xN s.xFlag s.xRange s.xOps s.xResults s.xOwners) from by rw [fN (Nat.le_refl _) _ _ hp])
  | f5 => exact (show ((reader_Reader_Num (Rr (octet_Num m.xLow ++ t) 0) 18446744073709551615).2, MsgT.mk s.xKind s.xFrom s.xTo s.xClient s.xCode s.xPeer s.xReq s.xBoot s.xTxn ((reader_Reader_Num (Rr (octet_Num m.xLow ++ t) 0) 18446744073709551615).1) s.xVer s.xEpoch s.xMove s.xAttempt s.xN s.xFlag s.xRange s.xOps s.xResults s.xOwners) = (Rr t 0, MsgT.mk s.xKind s.xFrom s.xTo s.xClient s.xCode s.xPeer s.xReq s.xBoot s.xTxn (m.xLow) s.xVer s.xEpoch s.xMove s.xAttempt s.xN s.xFlag s.xRange s.xOps s.xResults s.xOwners) from by rw [fN (Nat.le_refl _) _ _ hp])
  | f6 => exact (show ((reader_Reader_Num (Rr (octet_Num m.xEpoch ++ t) 0) 18446744073709551615).2, MsgT.mk s.xKind s.xFrom s.xTo s.xClient s.xCode s.xPeer s.xReq s.xBoot s.xTxn s.xLow s.xVer ((reader_Reader_Num (Rr (octet_Num m.xEpoch ++ t) 0) 18446744073709551615).1) s.xMove s.xAttempt s.xN s.xFlag s.xRange s.xOps s.xResults s.xOwners) = (Rr t 0, MsgT.mk s.xKind s.xFrom s.xTo s.xClient s.xCode s.xPeer s.xReq s.xBoot s.xTxn s.xLow s.xVer (m.xEpoch) s.xMove s.xAttempt s.xN s.xFlag s.xRange s.xOps s.xResults s.xOwners) from by rw [fN (Nat.le_refl _) _ _ hp])
  | f9 => exact (show ((reader_Reader_Num (Rr (octet_Num m.xVer ++ t) 0) 18446744073709551615).2, MsgT.mk s.xKind s.xFrom s.xTo s.xClient s.xCode s.xPeer s.xReq s.xBoot s.xTxn s.xLow ((reader_Reader_Num (Rr (octet_Num m.xVer ++ t) 0) 18446744073709551615).1) s.xEpoch s.xMove s.xAttempt s.xN s.xFlag s.xRange s.xOps s.xResults s.xOwners) = (Rr t 0, MsgT.mk s.xKind s.xFrom s.xTo s.xClient s.xCode s.xPeer s.xReq s.xBoot s.xTxn s.xLow (m.xVer) s.xEpoch s.xMove s.xAttempt s.xN s.xFlag s.xRange s.xOps s.xResults s.xOwners) from by rw [fN (Nat.le_refl _) _ _ hp])
  | f10 => exact (show ((reader_Reader_Num (Rr (octet_Num m.xMove ++ t) 0) 18446744073709551615).2, MsgT.mk s.xKind s.xFrom s.xTo s.xClient s.xCode s.xPeer s.xReq s.xBoot s.xTxn s.xLow s.xVer s.xEpoch ((reader_Reader_Num (Rr (octet_Num m.xMove ++ t) 0) 18446744073709551615).1) s.xAttempt s.xN s.xFlag s.xRange s.xOps s.xResults s.xOwners) = (Rr t 0, MsgT.mk s.xKind s.xFrom s.xTo s.xClient s.xCode s.xPeer s.xReq s.xBoot s.xTxn s.xLow s.xVer s.xEpoch (m.xMove) s.xAttempt s.xN s.xFlag s.xRange s.xOps s.xResults s.xOwners) from by rw [fN (Nat.le_refl _) _ _ hp])
  | f14 => exact (show ((reader_Reader_Num (Rr (octet_Num m.xAttempt ++ t) 0) 18446744073709551615).2, MsgT.mk s.xKind s.xFrom s.xTo s.xClient s.xCode s.xPeer s.xReq s.xBoot s.xTxn s.xLow s.xVer s.xEpoch s.xMove ((reader_Reader_Num (Rr (octet_Num m.xAttempt ++ t) 0) 18446744073709551615).1) s.xN s.xFlag s.xRange s.xOps s.xResults s.xOwners) = (Rr t 0, MsgT.mk s.xKind s.xFrom s.xTo s.xClient s.xCode s.xPeer s.xReq s.xBoot s.xTxn s.xLow s.xVer s.xEpoch s.xMove (m.xAttempt) s.xN s.xFlag s.xRange s.xOps s.xResults s.xOwners) from by rw [fN (Nat.le_refl _) _ _ hp])
  | f15 => exact (show ((reader_Reader_Num (Rr (octet_Num m.xN ++ t) 0) 18446744073709551615).2, MsgT.mk s.xKind s.xFrom s.xTo s.xClient s.xCode s.xPeer s.xReq s.xBoot s.xTxn s.xLow s.xVer s.xEpoch s.xMove s.xAttempt ((reader_Reader_Num (Rr (octet_Num m.xN ++ t) 0) 18446744073709551615).1) s.xFlag s.xRange s.xOps s.xResults s.xOwners) = (Rr t 0, MsgT.mk s.xKind s.xFrom s.xTo s.xClient s.xCode s.xPeer s.xReq s.xBoot s.xTxn s.xLow s.xVer s.xEpoch s.xMove s.xAttempt (m.xN) s.xFlag s.xRange s.xOps s.xResults s.xOwners) from by rw [fN (Nat.le_refl _) _ _ hp])
  | f2 => exact (show ((reader_Reader_Octet (Rr (([u8I m.xCode]) ++ t) 0)).2, MsgT.mk s.xKind s.xFrom s.xTo s.xClient ((((reader_Reader_Octet (Rr (([u8I m.xCode]) ++ t) 0)).1.toNat : Nat) : Int)) s.xPeer s.xReq s.xBoot s.xTxn s.xLow s.xVer s.xEpoch s.xMove s.xAttempt s.xN s.xFlag s.xRange s.xOps s.xResults s.xOwners) = (Rr t 0, MsgT.mk s.xKind s.xFrom s.xTo s.xClient (m.xCode) s.xPeer s.xReq s.xBoot s.xTxn s.xLow s.xVer s.xEpoch s.xMove s.xAttempt s.xN s.xFlag s.xRange s.xOps s.xResults s.xOwners) from by rw [fO]; dsimp only; rw [u8a hp.1 hp.2])
  | f12 => exact (show ((reader_Reader_Octet (Rr (([u8I m.xPeer]) ++ t) 0)).2, MsgT.mk s.xKind s.xFrom s.xTo s.xClient s.xCode ((((reader_Reader_Octet (Rr (([u8I m.xPeer]) ++ t) 0)).1.toNat : Nat) : Int)) s.xReq s.xBoot s.xTxn s.xLow s.xVer s.xEpoch s.xMove s.xAttempt s.xN s.xFlag s.xRange s.xOps s.xResults s.xOwners) = (Rr t 0, MsgT.mk s.xKind s.xFrom s.xTo s.xClient s.xCode (m.xPeer) s.xReq s.xBoot s.xTxn s.xLow s.xVer s.xEpoch s.xMove s.xAttempt s.xN s.xFlag s.xRange s.xOps s.xResults s.xOwners) from by rw [fO]; dsimp only; rw [u8a hp.1 hp.2])
  | f8 => exact (show ((wire_readTruth (Rr (([wire_truth m.xFlag]) ++ t) 0)).2, MsgT.mk s.xKind s.xFrom s.xTo s.xClient s.xCode s.xPeer s.xReq s.xBoot s.xTxn s.xLow s.xVer s.xEpoch s.xMove s.xAttempt s.xN ((wire_readTruth (Rr (([wire_truth m.xFlag]) ++ t) 0)).1) s.xRange s.xOps s.xResults s.xOwners) = (Rr t 0, MsgT.mk s.xKind s.xFrom s.xTo s.xClient s.xCode s.xPeer s.xReq s.xBoot s.xTxn s.xLow s.xVer s.xEpoch s.xMove s.xAttempt s.xN (m.xFlag) s.xRange s.xOps s.xResults s.xOwners) from by rw [ftr])
  | f13 => exact (show (Rr (reader_Reader_Text (reader_Reader_Text (Rr ((octet_Text m.xRange.xLo ++ octet_Text m.xRange.xHi) ++ t) 0) 255).2 255).2.xrest.ls (reader_Reader_Text (reader_Reader_Text (Rr ((octet_Text m.xRange.xLo ++ octet_Text m.xRange.xHi) ++ t) 0) 255).2 255).2.xerrno, MsgT.mk s.xKind s.xFrom s.xTo s.xClient s.xCode s.xPeer s.xReq s.xBoot s.xTxn s.xLow s.xVer s.xEpoch s.xMove s.xAttempt s.xN s.xFlag (RangeD.mk (reader_Reader_Text (Rr ((octet_Text m.xRange.xLo ++ octet_Text m.xRange.xHi) ++ t) 0) 255).1 (reader_Reader_Text (reader_Reader_Text (Rr ((octet_Text m.xRange.xLo ++ octet_Text m.xRange.xHi) ++ t) 0) 255).2 255).1) s.xOps s.xResults s.xOwners) = (Rr t 0, MsgT.mk s.xKind s.xFrom s.xTo s.xClient s.xCode s.xPeer s.xReq s.xBoot s.xTxn s.xLow s.xVer s.xEpoch s.xMove s.xAttempt s.xN s.xFlag (m.xRange) s.xOps s.xResults s.xOwners) from by rw [List.append_assoc, fT _ _ hp.1]; dsimp only; rw [fT _ _ hp.2])
  | f7 => exact (show ((reader_List_api_Op (Rr ((octet_Num (List.length m.xOps.ls) ++ List.flatMap opB m.xOps.ls) ++ t) 0) 255).2, MsgT.mk s.xKind s.xFrom s.xTo s.xClient s.xCode s.xPeer s.xReq s.xBoot s.xTxn s.xLow s.xVer s.xEpoch s.xMove s.xAttempt s.xN s.xFlag s.xRange (Ll.mk (reader_List_api_Op (Rr ((octet_Num (List.length m.xOps.ls) ++ List.flatMap opB m.xOps.ls) ++ t) 0) 255).1) s.xResults s.xOwners) = (Rr t 0, MsgT.mk s.xKind s.xFrom s.xTo s.xClient s.xCode s.xPeer s.xReq s.xBoot s.xTxn s.xLow s.xVer s.xEpoch s.xMove s.xAttempt s.xN s.xFlag s.xRange (m.xOps) s.xResults s.xOwners) from by have q := cOps.f m.xOps.ls t hp; rw [q])
  | f3 => exact (show ((reader_List_api_Result (Rr ((octet_Num (List.length m.xResults.ls) ++ List.flatMap reB m.xResults.ls) ++ t) 0) 255).2, MsgT.mk s.xKind s.xFrom s.xTo s.xClient s.xCode s.xPeer s.xReq s.xBoot s.xTxn s.xLow s.xVer s.xEpoch s.xMove s.xAttempt s.xN s.xFlag s.xRange s.xOps (Ll.mk (reader_List_api_Result (Rr ((octet_Num (List.length m.xResults.ls) ++ List.flatMap reB m.xResults.ls) ++ t) 0) 255).1) s.xOwners) = (Rr t 0, MsgT.mk s.xKind s.xFrom s.xTo s.xClient s.xCode s.xPeer s.xReq s.xBoot s.xTxn s.xLow s.xVer s.xEpoch s.xMove s.xAttempt s.xN s.xFlag s.xRange s.xOps (m.xResults) s.xOwners) from by have q := cRes.f m.xResults.ls t hp; rw [q])
  | f11 => exact (show ((reader_List_api_Owner (Rr ((octet_Num (List.length m.xOwners.ls) ++ List.flatMap owB m.xOwners.ls) ++ t) 0) 255).2, MsgT.mk s.xKind s.xFrom s.xTo s.xClient s.xCode s.xPeer s.xReq s.xBoot s.xTxn s.xLow s.xVer s.xEpoch s.xMove s.xAttempt s.xN s.xFlag s.xRange s.xOps s.xResults (Ll.mk (reader_List_api_Owner (Rr ((octet_Num (List.length m.xOwners.ls) ++ List.flatMap owB m.xOwners.ls) ++ t) 0) 255).1)) = (Rr t 0, MsgT.mk s.xKind s.xFrom s.xTo s.xClient s.xCode s.xPeer s.xReq s.xBoot s.xTxn s.xLow s.xVer s.xEpoch s.xMove s.xAttempt s.xN s.xFlag s.xRange s.xOps s.xResults (m.xOwners)) from by have q := cOws.f m.xOwners.ls t hp; rw [q])
set_option maxHeartbeats 4000000 in
theorem rS_g {r : ReaderT} {s : MsgT} {f : Int} (h : Fl f) (he : (rS f r s).1.xerrno = 0) : r.xerrno = 0 ∧ r.xrest.ls = fB (rS f r s).2 f ++ (rS f r s).1.xrest.ls := by
  cases h with
  | f0 => rw [re0] at he ⊢; exact ⟨(gN (m := 18446744073709551615) (r := r) he).1, (gN (m := 18446744073709551615) (r := r) he).2.1⟩
  | f1 => rw [re1] at he ⊢; exact ⟨(gN (m := 18446744073709551615) (r := r) he).1, (gN (m := 18446744073709551615) (r := r) he).2.1⟩
  | f4 => rw [re4] at he ⊢; exact ⟨(gN (m := 18446744073709551615) (r := r) he).1, (gN (m := 18446744073709551615) (r := r) he).2.1⟩
  | f5 => rw [re5] at he ⊢; exact ⟨(gN (m := 18446744073709551615) (r := r) he).1, (gN (m := 18446744073709551615) (r := r) he).2.1⟩
  | f6 => rw [re6] at he ⊢; exact ⟨(gN (m := 18446744073709551615) (r := r) he).1, (gN (m := 18446744073709551615) (r := r) he).2.1⟩
  | f9 => rw [re9] at he ⊢; exact ⟨(gN (m := 18446744073709551615) (r := r) he).1, (gN (m := 18446744073709551615) (r := r) he).2.1⟩
  | f10 => rw [re10] at he ⊢; exact ⟨(gN (m := 18446744073709551615) (r := r) he).1, (gN (m := 18446744073709551615) (r := r) he).2.1⟩
  | f14 => rw [re14] at he ⊢; exact ⟨(gN (m := 18446744073709551615) (r := r) he).1, (gN (m := 18446744073709551615) (r := r) he).2.1⟩
  | f15 => rw [re15] at he ⊢; exact ⟨(gN (m := 18446744073709551615) (r := r) he).1, (gN (m := 18446744073709551615) (r := r) he).2.1⟩
  | f2 =>
    rw [re2] at he ⊢
    obtain ⟨a, b⟩ := gO (r := r) he
    refine ⟨a, ?_⟩
    show r.xrest.ls = [u8I (((reader_Reader_Octet r).1.toNat : Nat) : Int)] ++ (reader_Reader_Octet r).2.xrest.ls
    rw [u8b]; exact b
  | f12 =>
    rw [re12] at he ⊢
    obtain ⟨a, b⟩ := gO (r := r) he
    refine ⟨a, ?_⟩
    show r.xrest.ls = [u8I (((reader_Reader_Octet r).1.toNat : Nat) : Int)] ++ (reader_Reader_Octet r).2.xrest.ls
    rw [u8b]; exact b
  | f8 => rw [re8] at he ⊢; exact gtr (r := r) he
  | f13 =>
    rw [re13] at he ⊢
    obtain ⟨a2, b2⟩ := gT (r := (reader_Reader_Text r 255).2) he
    obtain ⟨a1, b1⟩ := gT a2
    refine ⟨a1, ?_⟩
    show r.xrest.ls = (octet_Text (reader_Reader_Text r 255).1 ++ octet_Text (reader_Reader_Text (reader_Reader_Text r 255).2 255).1) ++ (reader_Reader_Text (reader_Reader_Text r 255).2 255).2.xrest.ls
    rw [List.append_assoc, ← b2]; exact b1
  | f7 => rw [re7] at he ⊢; exact cOps.g r he
  | f3 => rw [re3] at he ⊢; exact cRes.g r he
  | f11 => rw [re11] at he ⊢; exact cOws.g r he
set_option maxHeartbeats 4000000 in
theorem rS_k {r : ReaderT} {s : MsgT} {f g : Int} (h : Fl f) (h' : Fl g) (hn : f ≠ g) : fB (rS f r s).2 g = fB s g := by
  cases h with
  | f0 => rw [re0]; cases h' <;> first | rfl | exact absurd rfl hn
  | f1 => rw [re1]; cases h' <;> first | rfl | exact absurd rfl hn
  | f4 => rw [re4]; cases h' <;> first | rfl | exact absurd rfl hn
  | f5 => rw [re5]; cases h' <;> first | rfl | exact absurd rfl hn
  | f6 => rw [re6]; cases h' <;> first | rfl | exact absurd rfl hn
  | f9 => rw [re9]; cases h' <;> first | rfl | exact absurd rfl hn
  | f10 => rw [re10]; cases h' <;> first | rfl | exact absurd rfl hn
  | f14 => rw [re14]; cases h' <;> first | rfl | exact absurd rfl hn
  | f15 => rw [re15]; cases h' <;> first | rfl | exact absurd rfl hn
  | f2 => rw [re2]; cases h' <;> first | rfl | exact absurd rfl hn
  | f12 => rw [re12]; cases h' <;> first | rfl | exact absurd rfl hn
  | f8 => rw [re8]; cases h' <;> first | rfl | exact absurd rfl hn
  | f13 => rw [re13]; cases h' <;> first | rfl | exact absurd rfl hn
  | f7 => rw [re7]; cases h' <;> first | rfl | exact absurd rfl hn
  | f3 => rw [re3]; cases h' <;> first | rfl | exact absurd rfl hn
  | f11 => rw [re11]; cases h' <;> first | rfl | exact absurd rfl hn
theorem rM_k (p : MsgT) {g : Int} (h' : Fl g) : ∀ (fs : List Int) (r : ReaderT) (s : MsgT), (∀ f ∈ fs, Fl f) → g ∉ fs → fB (rM p r s fs).2 g = fB s g
  | [], _, _, _, _ => rfl
  | f :: fs, r, s, h, hg => by
    rw [rM_cons p r s fs (h f (.head _)), rM_k p h' fs _ _ (fun x hx => h x (.tail _ hx)) (fun hx => hg (.tail _ hx))]
    exact rS_k (h f (.head _)) h' (fun e => hg (e ▸ .head _))
theorem rM_g (p : MsgT) : ∀ (fs : List Int) (r : ReaderT) (s : MsgT), (∀ f ∈ fs, Fl f) → fs.Nodup → (rM p r s fs).1.xerrno = 0 → r.xerrno = 0 ∧ r.xrest.ls = List.flatMap (fB (rM p r s fs).2) fs ++ (rM p r s fs).1.xrest.ls
  | [], _, _, _, _, he => ⟨he, rfl⟩
  | f :: fs, r, s, h, hn, he => by
    obtain ⟨hn1, hn2⟩ := List.nodup_cons.1 hn
    rw [rM_cons p r s fs (h f (.head _))] at he ⊢
    obtain ⟨h1, h2⟩ := rM_g p fs _ _ (fun x hx => h x (.tail _ hx)) hn2 he
    obtain ⟨g1, g2⟩ := rS_g (h f (.head _)) h1
    refine ⟨g1, ?_⟩
    rw [List.flatMap_cons, List.append_assoc, ← h2, rM_k p (h f (.head _)) fs _ _ (fun x hx => h x (.tail _ hx)) hn1]
    exact g2
theorem rM_f (p m : MsgT) (t : List UInt8) : ∀ (fs : List Int) (s : MsgT), (∀ f ∈ fs, Fl f ∧ fP m f) → rM p (Rr (List.flatMap (fB m) fs ++ t) 0) s fs = (Rr t 0, List.foldl (cp m) s fs)
  | [], _, _ => rfl
  | f :: fs, s, h => by
    rw [rM_cons p _ s fs (h f (.head _)).1, List.flatMap_cons, List.append_assoc, rS_f m s _ (h f (.head _)).1 (h f (.head _)).2]
    exact rM_f p m t fs _ (fun x hx => h x (.tail _ hx))
end Go.Proofs.YtccjclalngabhaaGreat
