/-
  A message's fields read: the program's and the document's.
  Conditions: none.
-/
import Derived.Test.YtccjclalngabhaaGreatWiR
import Derived.Test.YtccjclalngabhaaGreatWiK
namespace Go.Proofs.YtccjclalngabhaaGreat
set_option linter.unusedVariables false
set_option linter.unusedSimpArgs false
def nums (m:bG):Prop:=m.bF≤18446744073709551615∧m.aY≤18446744073709551615∧m.bE≤18446744073709551615∧m.bH≤18446744073709551615∧m.bL≤18446744073709551615∧m.aS≤18446744073709551615∧m.bB≤18446744073709551615∧m.aK≤18446744073709551615∧m.xN≤18446744073709551615
theorem kR (q:RT):(cZ q).1≤18446744073709551615:=by
  unfold cZ
  simp only [aQ]
  repeat' split
  all_goals first | exact Nat.zero_le _ | exact vv _
def wF (x:List UInt8 × Int × Int × Int × Nat × Nat × Nat × Nat × Nat × Nat × Nat × Nat × Nat × Bool × (List UInt8) × (List UInt8) × (List aB) × (List aX) × (List aA)):bG × ReaderT:=(bG.mk 0 0 0 0 x.2.2.1 x.2.2.2.1 x.2.2.2.2.1 x.2.2.2.2.2.1 x.2.2.2.2.2.2.1 x.2.2.2.2.2.2.2.1 x.2.2.2.2.2.2.2.2.1 x.2.2.2.2.2.2.2.2.2.1 x.2.2.2.2.2.2.2.2.2.2.1 x.2.2.2.2.2.2.2.2.2.2.2.1 x.2.2.2.2.2.2.2.2.2.2.2.2.1 x.2.2.2.2.2.2.2.2.2.2.2.2.2.1 (bC.mk x.2.2.2.2.2.2.2.2.2.2.2.2.2.2.1 x.2.2.2.2.2.2.2.2.2.2.2.2.2.2.2.1) (Ll.mk x.2.2.2.2.2.2.2.2.2.2.2.2.2.2.2.2.1) (Ll.mk x.2.2.2.2.2.2.2.2.2.2.2.2.2.2.2.2.2.1) (Ll.mk x.2.2.2.2.2.2.2.2.2.2.2.2.2.2.2.2.2.2),ReaderT.mk (Ll.mk x.1) x.2.1)
def tN (x:Nat × Nat × Nat × Nat × Nat × (List aX) × Int × Int × Nat × Nat × Nat × Nat × Bool × (List UInt8) × (List UInt8) × (List aB) × (List aA) × (List UInt8) × Int):bG × RT:=(bG.mk 0 0 0 0 x.2.2.2.2.2.2.1 x.2.2.2.2.2.2.2.1 x.1 x.2.1 x.2.2.1 x.2.2.2.1 x.2.2.2.2.1 x.2.2.2.2.2.2.2.2.1 x.2.2.2.2.2.2.2.2.2.1 x.2.2.2.2.2.2.2.2.2.2.1 x.2.2.2.2.2.2.2.2.2.2.2.1 x.2.2.2.2.2.2.2.2.2.2.2.2.1 (bC.mk x.2.2.2.2.2.2.2.2.2.2.2.2.2.1 x.2.2.2.2.2.2.2.2.2.2.2.2.2.2.1) (Ll.mk x.2.2.2.2.2.2.2.2.2.2.2.2.2.2.2.1) (Ll.mk x.2.2.2.2.2.1) (Ll.mk x.2.2.2.2.2.2.2.2.2.2.2.2.2.2.2.2.1),RT.mk (Ll.mk x.2.2.2.2.2.2.2.2.2.2.2.2.2.2.2.2.2.1) x.2.2.2.2.2.2.2.2.2.2.2.2.2.2.2.2.2.2)
set_option maxHeartbeats 4000000 in
theorem wG (m:bG) (F G H:Int) {fs:List Int} {cs:List UInt8} (h:fO fs cs):∀ (A B:Int) (d g i j k u x y z:Nat) (b:Bool) (s1 s2:List UInt8) (C:List aB) (D:List aX) (E:List aA) (p:ReaderT) (q:RT),rel p q→(d≤18446744073709551615∧g≤18446744073709551615∧i≤18446744073709551615∧j≤18446744073709551615∧k≤18446744073709551615∧u≤18446744073709551615∧x≤18446744073709551615∧y≤18446744073709551615∧z≤18446744073709551615)→
    (wF (aN m fs p.af.ls p.ax A B d g i j k u x y z b s1 s2 C D E)).1=(tN (aM F G H cs A B d g i j k u x y z b s1 s2 C D E q.xB.ls q.xE)).1∧rel (wF (aN m fs p.af.ls p.ax A B d g i j k u x y z b s1 s2 C D E)).2 (tN (aM F G H cs A B d g i j k u x y z b s1 s2 C D E q.xB.ls q.xE)).2∧nums (tN (aM F G H cs A B d g i j k u x y z b s1 s2 C D E q.xB.ls q.xE)).1:=by
  induction h with
  | nil=>intro A B d g i j k u x y z b s1 s2 C D E p q h hn; exact⟨rfl,h,hn⟩
  | q _ ih=>
    rename_i fs cs _
    intro A B d g i j k u x y z b s1 s2 C D E p q h hn
    have a:=kQ (p:=(ReaderT.mk (Ll.mk p.af.ls) p.ax)) (q:=(RT.mk (Ll.mk q.xB.ls) q.xE)) h
    rw [show aN m (0::fs) p.af.ls p.ax A B d g i j k u x y z b s1 s2 C D E=aN m fs (aH (ReaderT.mk (Ll.mk p.af.ls) p.ax) 18446744073709551615).2.af.ls (aH (ReaderT.mk (Ll.mk p.af.ls) p.ax) 18446744073709551615).2.ax A B ((aH (ReaderT.mk (Ll.mk p.af.ls) p.ax) 18446744073709551615).1) g i j k u x y z b s1 s2 C D E from rfl,show aM F G H (113::cs) A B d g i j k u x y z b s1 s2 C D E q.xB.ls q.xE=aM F G H cs A B ((cZ (RT.mk (Ll.mk q.xB.ls) q.xE)).1) g i j k u x y z b s1 s2 C D E (cZ (RT.mk (Ll.mk q.xB.ls) q.xE)).2.xB.ls (cZ (RT.mk (Ll.mk q.xB.ls) q.xE)).2.xE from rfl,a.1]
    exact ih _ _ _ _ _ _ _ _ _ _ _ _ _ _ _ _ _ _ _ a.2 (by have hz:=kR (RT.mk (Ll.mk q.xB.ls) q.xE); obtain⟨n0,I,J,K,L,M,N,O,P⟩:=hn; refine⟨?_, ?_, ?_, ?_, ?_, ?_, ?_, ?_, ?_⟩ <;> assumption)
  | b _ ih=>
    rename_i fs cs _
    intro A B d g i j k u x y z b s1 s2 C D E p q h hn
    have a:=kQ (p:=(ReaderT.mk (Ll.mk p.af.ls) p.ax)) (q:=(RT.mk (Ll.mk q.xB.ls) q.xE)) h
    rw [show aN m (1::fs) p.af.ls p.ax A B d g i j k u x y z b s1 s2 C D E=aN m fs (aH (ReaderT.mk (Ll.mk p.af.ls) p.ax) 18446744073709551615).2.af.ls (aH (ReaderT.mk (Ll.mk p.af.ls) p.ax) 18446744073709551615).2.ax A B d ((aH (ReaderT.mk (Ll.mk p.af.ls) p.ax) 18446744073709551615).1) i j k u x y z b s1 s2 C D E from rfl,show aM F G H (98::cs) A B d g i j k u x y z b s1 s2 C D E q.xB.ls q.xE=aM F G H cs A B d ((cZ (RT.mk (Ll.mk q.xB.ls) q.xE)).1) i j k u x y z b s1 s2 C D E (cZ (RT.mk (Ll.mk q.xB.ls) q.xE)).2.xB.ls (cZ (RT.mk (Ll.mk q.xB.ls) q.xE)).2.xE from rfl,a.1]
    exact ih _ _ _ _ _ _ _ _ _ _ _ _ _ _ _ _ _ _ _ a.2 (by have hz:=kR (RT.mk (Ll.mk q.xB.ls) q.xE); obtain⟨n0,I,J,K,L,M,N,O,P⟩:=hn; refine⟨?_, ?_, ?_, ?_, ?_, ?_, ?_, ?_, ?_⟩ <;> assumption)
  | t _ ih=>
    rename_i fs cs _
    intro A B d g i j k u x y z b s1 s2 C D E p q h hn
    have a:=kQ (p:=(ReaderT.mk (Ll.mk p.af.ls) p.ax)) (q:=(RT.mk (Ll.mk q.xB.ls) q.xE)) h
    rw [show aN m (4::fs) p.af.ls p.ax A B d g i j k u x y z b s1 s2 C D E=aN m fs (aH (ReaderT.mk (Ll.mk p.af.ls) p.ax) 18446744073709551615).2.af.ls (aH (ReaderT.mk (Ll.mk p.af.ls) p.ax) 18446744073709551615).2.ax A B d g ((aH (ReaderT.mk (Ll.mk p.af.ls) p.ax) 18446744073709551615).1) j k u x y z b s1 s2 C D E from rfl,show aM F G H (116::cs) A B d g i j k u x y z b s1 s2 C D E q.xB.ls q.xE=aM F G H cs A B d g ((cZ (RT.mk (Ll.mk q.xB.ls) q.xE)).1) j k u x y z b s1 s2 C D E (cZ (RT.mk (Ll.mk q.xB.ls) q.xE)).2.xB.ls (cZ (RT.mk (Ll.mk q.xB.ls) q.xE)).2.xE from rfl,a.1]
    exact ih _ _ _ _ _ _ _ _ _ _ _ _ _ _ _ _ _ _ _ a.2 (by have hz:=kR (RT.mk (Ll.mk q.xB.ls) q.xE); obtain⟨n0,I,J,K,L,M,N,O,P⟩:=hn; refine⟨?_, ?_, ?_, ?_, ?_, ?_, ?_, ?_, ?_⟩ <;> assumption)
  | l _ ih=>
    rename_i fs cs _
    intro A B d g i j k u x y z b s1 s2 C D E p q h hn
    have a:=kQ (p:=(ReaderT.mk (Ll.mk p.af.ls) p.ax)) (q:=(RT.mk (Ll.mk q.xB.ls) q.xE)) h
    rw [show aN m (5::fs) p.af.ls p.ax A B d g i j k u x y z b s1 s2 C D E=aN m fs (aH (ReaderT.mk (Ll.mk p.af.ls) p.ax) 18446744073709551615).2.af.ls (aH (ReaderT.mk (Ll.mk p.af.ls) p.ax) 18446744073709551615).2.ax A B d g i ((aH (ReaderT.mk (Ll.mk p.af.ls) p.ax) 18446744073709551615).1) k u x y z b s1 s2 C D E from rfl,show aM F G H (108::cs) A B d g i j k u x y z b s1 s2 C D E q.xB.ls q.xE=aM F G H cs A B d g i ((cZ (RT.mk (Ll.mk q.xB.ls) q.xE)).1) k u x y z b s1 s2 C D E (cZ (RT.mk (Ll.mk q.xB.ls) q.xE)).2.xB.ls (cZ (RT.mk (Ll.mk q.xB.ls) q.xE)).2.xE from rfl,a.1]
    exact ih _ _ _ _ _ _ _ _ _ _ _ _ _ _ _ _ _ _ _ a.2 (by have hz:=kR (RT.mk (Ll.mk q.xB.ls) q.xE); obtain⟨n0,I,J,K,L,M,N,O,P⟩:=hn; refine⟨?_, ?_, ?_, ?_, ?_, ?_, ?_, ?_, ?_⟩ <;> assumption)
  | e _ ih=>
    rename_i fs cs _
    intro A B d g i j k u x y z b s1 s2 C D E p q h hn
    have a:=kQ (p:=(ReaderT.mk (Ll.mk p.af.ls) p.ax)) (q:=(RT.mk (Ll.mk q.xB.ls) q.xE)) h
    rw [show aN m (6::fs) p.af.ls p.ax A B d g i j k u x y z b s1 s2 C D E=aN m fs (aH (ReaderT.mk (Ll.mk p.af.ls) p.ax) 18446744073709551615).2.af.ls (aH (ReaderT.mk (Ll.mk p.af.ls) p.ax) 18446744073709551615).2.ax A B d g i j k ((aH (ReaderT.mk (Ll.mk p.af.ls) p.ax) 18446744073709551615).1) x y z b s1 s2 C D E from rfl,show aM F G H (101::cs) A B d g i j k u x y z b s1 s2 C D E q.xB.ls q.xE=aM F G H cs A B d g i j k ((cZ (RT.mk (Ll.mk q.xB.ls) q.xE)).1) x y z b s1 s2 C D E (cZ (RT.mk (Ll.mk q.xB.ls) q.xE)).2.xB.ls (cZ (RT.mk (Ll.mk q.xB.ls) q.xE)).2.xE from rfl,a.1]
    exact ih _ _ _ _ _ _ _ _ _ _ _ _ _ _ _ _ _ _ _ a.2 (by have hz:=kR (RT.mk (Ll.mk q.xB.ls) q.xE); obtain⟨n0,I,J,K,L,M,N,O,P⟩:=hn; refine⟨?_, ?_, ?_, ?_, ?_, ?_, ?_, ?_, ?_⟩ <;> assumption)
  | v _ ih=>
    rename_i fs cs _
    intro A B d g i j k u x y z b s1 s2 C D E p q h hn
    have a:=kQ (p:=(ReaderT.mk (Ll.mk p.af.ls) p.ax)) (q:=(RT.mk (Ll.mk q.xB.ls) q.xE)) h
    rw [show aN m (9::fs) p.af.ls p.ax A B d g i j k u x y z b s1 s2 C D E=aN m fs (aH (ReaderT.mk (Ll.mk p.af.ls) p.ax) 18446744073709551615).2.af.ls (aH (ReaderT.mk (Ll.mk p.af.ls) p.ax) 18446744073709551615).2.ax A B d g i j ((aH (ReaderT.mk (Ll.mk p.af.ls) p.ax) 18446744073709551615).1) u x y z b s1 s2 C D E from rfl,show aM F G H (118::cs) A B d g i j k u x y z b s1 s2 C D E q.xB.ls q.xE=aM F G H cs A B d g i j ((cZ (RT.mk (Ll.mk q.xB.ls) q.xE)).1) u x y z b s1 s2 C D E (cZ (RT.mk (Ll.mk q.xB.ls) q.xE)).2.xB.ls (cZ (RT.mk (Ll.mk q.xB.ls) q.xE)).2.xE from rfl,a.1]
    exact ih _ _ _ _ _ _ _ _ _ _ _ _ _ _ _ _ _ _ _ a.2 (by have hz:=kR (RT.mk (Ll.mk q.xB.ls) q.xE); obtain⟨n0,I,J,K,L,M,N,O,P⟩:=hn; refine⟨?_, ?_, ?_, ?_, ?_, ?_, ?_, ?_, ?_⟩ <;> assumption)
  | m _ ih=>
    rename_i fs cs _
    intro A B d g i j k u x y z b s1 s2 C D E p q h hn
    have a:=kQ (p:=(ReaderT.mk (Ll.mk p.af.ls) p.ax)) (q:=(RT.mk (Ll.mk q.xB.ls) q.xE)) h
    rw [show aN m (10::fs) p.af.ls p.ax A B d g i j k u x y z b s1 s2 C D E=aN m fs (aH (ReaderT.mk (Ll.mk p.af.ls) p.ax) 18446744073709551615).2.af.ls (aH (ReaderT.mk (Ll.mk p.af.ls) p.ax) 18446744073709551615).2.ax A B d g i j k u ((aH (ReaderT.mk (Ll.mk p.af.ls) p.ax) 18446744073709551615).1) y z b s1 s2 C D E from rfl,show aM F G H (109::cs) A B d g i j k u x y z b s1 s2 C D E q.xB.ls q.xE=aM F G H cs A B d g i j k u ((cZ (RT.mk (Ll.mk q.xB.ls) q.xE)).1) y z b s1 s2 C D E (cZ (RT.mk (Ll.mk q.xB.ls) q.xE)).2.xB.ls (cZ (RT.mk (Ll.mk q.xB.ls) q.xE)).2.xE from rfl,a.1]
    exact ih _ _ _ _ _ _ _ _ _ _ _ _ _ _ _ _ _ _ _ a.2 (by have hz:=kR (RT.mk (Ll.mk q.xB.ls) q.xE); obtain⟨n0,I,J,K,L,M,N,O,P⟩:=hn; refine⟨?_, ?_, ?_, ?_, ?_, ?_, ?_, ?_, ?_⟩ <;> assumption)
  | a _ ih=>
    rename_i fs cs _
    intro A B d g i j k u x y z b s1 s2 C D E p q h hn
    have a:=kQ (p:=(ReaderT.mk (Ll.mk p.af.ls) p.ax)) (q:=(RT.mk (Ll.mk q.xB.ls) q.xE)) h
    rw [show aN m (14::fs) p.af.ls p.ax A B d g i j k u x y z b s1 s2 C D E=aN m fs (aH (ReaderT.mk (Ll.mk p.af.ls) p.ax) 18446744073709551615).2.af.ls (aH (ReaderT.mk (Ll.mk p.af.ls) p.ax) 18446744073709551615).2.ax A B d g i j k u x ((aH (ReaderT.mk (Ll.mk p.af.ls) p.ax) 18446744073709551615).1) z b s1 s2 C D E from rfl,show aM F G H (97::cs) A B d g i j k u x y z b s1 s2 C D E q.xB.ls q.xE=aM F G H cs A B d g i j k u x ((cZ (RT.mk (Ll.mk q.xB.ls) q.xE)).1) z b s1 s2 C D E (cZ (RT.mk (Ll.mk q.xB.ls) q.xE)).2.xB.ls (cZ (RT.mk (Ll.mk q.xB.ls) q.xE)).2.xE from rfl,a.1]
    exact ih _ _ _ _ _ _ _ _ _ _ _ _ _ _ _ _ _ _ _ a.2 (by have hz:=kR (RT.mk (Ll.mk q.xB.ls) q.xE); obtain⟨n0,I,J,K,L,M,N,O,P⟩:=hn; refine⟨?_, ?_, ?_, ?_, ?_, ?_, ?_, ?_, ?_⟩ <;> assumption)
  | n _ ih=>
    rename_i fs cs _
    intro A B d g i j k u x y z b s1 s2 C D E p q h hn
    have a:=kQ (p:=(ReaderT.mk (Ll.mk p.af.ls) p.ax)) (q:=(RT.mk (Ll.mk q.xB.ls) q.xE)) h
    rw [show aN m (15::fs) p.af.ls p.ax A B d g i j k u x y z b s1 s2 C D E=aN m fs (aH (ReaderT.mk (Ll.mk p.af.ls) p.ax) 18446744073709551615).2.af.ls (aH (ReaderT.mk (Ll.mk p.af.ls) p.ax) 18446744073709551615).2.ax A B d g i j k u x y ((aH (ReaderT.mk (Ll.mk p.af.ls) p.ax) 18446744073709551615).1) b s1 s2 C D E from rfl,show aM F G H (110::cs) A B d g i j k u x y z b s1 s2 C D E q.xB.ls q.xE=aM F G H cs A B d g i j k u x y ((cZ (RT.mk (Ll.mk q.xB.ls) q.xE)).1) b s1 s2 C D E (cZ (RT.mk (Ll.mk q.xB.ls) q.xE)).2.xB.ls (cZ (RT.mk (Ll.mk q.xB.ls) q.xE)).2.xE from rfl,a.1]
    exact ih _ _ _ _ _ _ _ _ _ _ _ _ _ _ _ _ _ _ _ a.2 (by have hz:=kR (RT.mk (Ll.mk q.xB.ls) q.xE); obtain⟨n0,I,J,K,L,M,N,O,P⟩:=hn; refine⟨?_, ?_, ?_, ?_, ?_, ?_, ?_, ?_, ?_⟩ <;> assumption)
  | c _ ih=>
    rename_i fs cs _
    intro A B d g i j k u x y z b s1 s2 C D E p q h hn
    have a:=jB (p:=(ReaderT.mk (Ll.mk p.af.ls) p.ax)) (q:=(RT.mk (Ll.mk q.xB.ls) q.xE)) h
    rw [show aN m (2::fs) p.af.ls p.ax A B d g i j k u x y z b s1 s2 C D E=aN m fs (aT (ReaderT.mk (Ll.mk p.af.ls) p.ax)).2.af.ls (aT (ReaderT.mk (Ll.mk p.af.ls) p.ax)).2.ax ((((aT (ReaderT.mk (Ll.mk p.af.ls) p.ax)).1.toNat:Nat):Int)) B d g i j k u x y z b s1 s2 C D E from rfl,show aM F G H (99::cs) A B d g i j k u x y z b s1 s2 C D E q.xB.ls q.xE=aM F G H cs ((aU (RT.mk (Ll.mk q.xB.ls) q.xE)).1) B d g i j k u x y z b s1 s2 C D E (aU (RT.mk (Ll.mk q.xB.ls) q.xE)).2.xB.ls (aU (RT.mk (Ll.mk q.xB.ls) q.xE)).2.xE from rfl,a.1]
    exact ih _ _ _ _ _ _ _ _ _ _ _ _ _ _ _ _ _ _ _ a.2 (by skip; obtain⟨n0,I,J,K,L,M,N,O,P⟩:=hn; refine⟨?_, ?_, ?_, ?_, ?_, ?_, ?_, ?_, ?_⟩ <;> assumption)
  | p _ ih=>
    rename_i fs cs _
    intro A B d g i j k u x y z b s1 s2 C D E p q h hn
    have a:=jB (p:=(ReaderT.mk (Ll.mk p.af.ls) p.ax)) (q:=(RT.mk (Ll.mk q.xB.ls) q.xE)) h
    rw [show aN m (12::fs) p.af.ls p.ax A B d g i j k u x y z b s1 s2 C D E=aN m fs (aT (ReaderT.mk (Ll.mk p.af.ls) p.ax)).2.af.ls (aT (ReaderT.mk (Ll.mk p.af.ls) p.ax)).2.ax A ((((aT (ReaderT.mk (Ll.mk p.af.ls) p.ax)).1.toNat:Nat):Int)) d g i j k u x y z b s1 s2 C D E from rfl,show aM F G H (112::cs) A B d g i j k u x y z b s1 s2 C D E q.xB.ls q.xE=aM F G H cs A ((aU (RT.mk (Ll.mk q.xB.ls) q.xE)).1) d g i j k u x y z b s1 s2 C D E (aU (RT.mk (Ll.mk q.xB.ls) q.xE)).2.xB.ls (aU (RT.mk (Ll.mk q.xB.ls) q.xE)).2.xE from rfl,a.1]
    exact ih _ _ _ _ _ _ _ _ _ _ _ _ _ _ _ _ _ _ _ a.2 (by skip; obtain⟨n0,I,J,K,L,M,N,O,P⟩:=hn; refine⟨?_, ?_, ?_, ?_, ?_, ?_, ?_, ?_, ?_⟩ <;> assumption)
  | f _ ih=>
    rename_i fs cs _
    intro A B d g i j k u x y z b s1 s2 C D E p q h hn
    have a:=rX (p:=(ReaderT.mk (Ll.mk p.af.ls) p.ax)) (q:=(RT.mk (Ll.mk q.xB.ls) q.xE)) h
    rw [show aN m (8::fs) p.af.ls p.ax A B d g i j k u x y z b s1 s2 C D E=aN m fs (fT (ReaderT.mk (Ll.mk p.af.ls) p.ax)).2.af.ls (fT (ReaderT.mk (Ll.mk p.af.ls) p.ax)).2.ax A B d g i j k u x y z ((fT (ReaderT.mk (Ll.mk p.af.ls) p.ax)).1) s1 s2 C D E from rfl,show aM F G H (102::cs) A B d g i j k u x y z b s1 s2 C D E q.xB.ls q.xE=aM F G H cs A B d g i j k u x y z ((fM (RT.mk (Ll.mk q.xB.ls) q.xE)).1) s1 s2 C D E (fM (RT.mk (Ll.mk q.xB.ls) q.xE)).2.xB.ls (fM (RT.mk (Ll.mk q.xB.ls) q.xE)).2.xE from rfl,a.1]
    exact ih _ _ _ _ _ _ _ _ _ _ _ _ _ _ _ _ _ _ _ a.2 (by skip; obtain⟨n0,I,J,K,L,M,N,O,P⟩:=hn; refine⟨?_, ?_, ?_, ?_, ?_, ?_, ?_, ?_, ?_⟩ <;> assumption)
  | r _ ih=>
    rename_i fs cs _
    intro A B d g i j k u x y z b s1 s2 C D E p q h hn
    have a:=jS (p:=(ReaderT.mk (Ll.mk p.af.ls) p.ax)) (q:=(RT.mk (Ll.mk q.xB.ls) q.xE)) h
    have a':=jS a.2
    rw [show aN m (13::fs) p.af.ls p.ax A B d g i j k u x y z b s1 s2 C D E=aN m fs (bA (bA (ReaderT.mk (Ll.mk p.af.ls) p.ax) 255).2 255).2.af.ls (bA (bA (ReaderT.mk (Ll.mk p.af.ls) p.ax) 255).2 255).2.ax A B d g i j k u x y z b (bA (ReaderT.mk (Ll.mk p.af.ls) p.ax) 255).1 (bA (bA (ReaderT.mk (Ll.mk p.af.ls) p.ax) 255).2 255).1 C D E from rfl,show aM F G H (114::cs) A B d g i j k u x y z b s1 s2 C D E q.xB.ls q.xE=aM F G H cs A B d g i j k u x y z b (bg (RT.mk (Ll.mk q.xB.ls) q.xE)).1 (bg (bg (RT.mk (Ll.mk q.xB.ls) q.xE)).2).1 C D E (bg (bg (RT.mk (Ll.mk q.xB.ls) q.xE)).2).2.xB.ls (bg (bg (RT.mk (Ll.mk q.xB.ls) q.xE)).2).2.xE from rfl,a'.1,a.1]
    exact ih _ _ _ _ _ _ _ _ _ _ _ _ _ _ _ _ _ _ _ a'.2 hn
  | o _ ih=>
    rename_i fs cs _
    intro A B d g i j k u x y z b s1 s2 C D E p q h hn
    have a:=uR (p:=(ReaderT.mk (Ll.mk p.af.ls) p.ax)) (q:=(RT.mk (Ll.mk q.xB.ls) q.xE)) h
    rw [show aN m (7::fs) p.af.ls p.ax A B d g i j k u x y z b s1 s2 C D E=aN m fs (fP (ReaderT.mk (Ll.mk p.af.ls) p.ax) 255).2.af.ls (fP (ReaderT.mk (Ll.mk p.af.ls) p.ax) 255).2.ax A B d g i j k u x y z b s1 s2 ((fP (ReaderT.mk (Ll.mk p.af.ls) p.ax) 255).1) D E from rfl,show aM F G H (111::cs) A B d g i j k u x y z b s1 s2 C D E q.xB.ls q.xE=aM F G H cs A B d g i j k u x y z b s1 s2 ((iY (RT.mk (Ll.mk q.xB.ls) q.xE)).1) D E (iY (RT.mk (Ll.mk q.xB.ls) q.xE)).2.xB.ls (iY (RT.mk (Ll.mk q.xB.ls) q.xE)).2.xE from rfl,a.1]
    exact ih _ _ _ _ _ _ _ _ _ _ _ _ _ _ _ _ _ _ _ a.2 (by skip; obtain⟨n0,I,J,K,L,M,N,O,P⟩:=hn; refine⟨?_, ?_, ?_, ?_, ?_, ?_, ?_, ?_, ?_⟩ <;> assumption)
  | s _ ih=>
    rename_i fs cs _
    intro A B d g i j k u x y z b s1 s2 C D E p q h hn
    have a:=uU (p:=(ReaderT.mk (Ll.mk p.af.ls) p.ax)) (q:=(RT.mk (Ll.mk q.xB.ls) q.xE)) h
    rw [show aN m (3::fs) p.af.ls p.ax A B d g i j k u x y z b s1 s2 C D E=aN m fs (eF (ReaderT.mk (Ll.mk p.af.ls) p.ax) 255).2.af.ls (eF (ReaderT.mk (Ll.mk p.af.ls) p.ax) 255).2.ax A B d g i j k u x y z b s1 s2 C ((eF (ReaderT.mk (Ll.mk p.af.ls) p.ax) 255).1) E from rfl,show aM F G H (115::cs) A B d g i j k u x y z b s1 s2 C D E q.xB.ls q.xE=aM F G H cs A B d g i j k u x y z b s1 s2 C ((iZ (RT.mk (Ll.mk q.xB.ls) q.xE)).1) E (iZ (RT.mk (Ll.mk q.xB.ls) q.xE)).2.xB.ls (iZ (RT.mk (Ll.mk q.xB.ls) q.xE)).2.xE from rfl,a.1]
    exact ih _ _ _ _ _ _ _ _ _ _ _ _ _ _ _ _ _ _ _ a.2 (by skip; obtain⟨n0,I,J,K,L,M,N,O,P⟩:=hn; refine⟨?_, ?_, ?_, ?_, ?_, ?_, ?_, ?_, ?_⟩ <;> assumption)
  | w _ ih=>
    rename_i fs cs _
    intro A B d g i j k u x y z b s1 s2 C D E p q h hn
    have a:=uS (p:=(ReaderT.mk (Ll.mk p.af.ls) p.ax)) (q:=(RT.mk (Ll.mk q.xB.ls) q.xE)) h
    rw [show aN m (11::fs) p.af.ls p.ax A B d g i j k u x y z b s1 s2 C D E=aN m fs (eZ (ReaderT.mk (Ll.mk p.af.ls) p.ax) 255).2.af.ls (eZ (ReaderT.mk (Ll.mk p.af.ls) p.ax) 255).2.ax A B d g i j k u x y z b s1 s2 C D ((eZ (ReaderT.mk (Ll.mk p.af.ls) p.ax) 255).1) from rfl,show aM F G H (119::cs) A B d g i j k u x y z b s1 s2 C D E q.xB.ls q.xE=aM F G H cs A B d g i j k u x y z b s1 s2 C D ((gY (RT.mk (Ll.mk q.xB.ls) q.xE)).1) (gY (RT.mk (Ll.mk q.xB.ls) q.xE)).2.xB.ls (gY (RT.mk (Ll.mk q.xB.ls) q.xE)).2.xE from rfl,a.1]
    exact ih _ _ _ _ _ _ _ _ _ _ _ _ _ _ _ _ _ _ _ a.2 (by skip; obtain⟨n0,I,J,K,L,M,N,O,P⟩:=hn; refine⟨?_, ?_, ?_, ?_, ?_, ?_, ?_, ?_, ?_⟩ <;> assumption)
end Go.Proofs.YtccjclalngabhaaGreat
