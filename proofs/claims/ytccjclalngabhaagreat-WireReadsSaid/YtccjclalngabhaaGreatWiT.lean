/-
  A message's fields read: the program's and the document's.
  Conditions: none.
-/
import Derived.Test.YtccjclalngabhaaGreatWiR
import Derived.Test.YtccjclalngabhaaGreatWiK
namespace Go.Proofs.YtccjclalngabhaaGreat
set_option linter.unusedVariables false
set_option linter.unusedSimpArgs false
def nums (m:bE):Prop:=m.bG≤18446744073709551615∧m.aY≤18446744073709551615∧m.bF≤18446744073709551615∧m.bH≤18446744073709551615∧m.bL≤18446744073709551615∧m.aV≤18446744073709551615∧m.bB≤18446744073709551615∧m.aK≤18446744073709551615∧m.xN≤18446744073709551615
theorem kW (q:RT):(df q).1≤18446744073709551615:=by
  unfold df
  simp only [aT]
  repeat' split
  all_goals first | exact BJ _ | exact vQ _
def wV (x:List UInt8 × Int × Int × Int × Nat × Nat × Nat × Nat × Nat × Nat × Nat × Nat × Nat × Bool × (List UInt8) × (List UInt8) × (List aB) × (List aP) × (List aA)):bE × ReaderT:=(bE.mk 0 0 0 0 x.2.2.1 x.2.2.2.1 x.2.2.2.2.1 x.2.2.2.2.2.1 x.2.2.2.2.2.2.1 x.2.2.2.2.2.2.2.1 x.2.2.2.2.2.2.2.2.1 x.2.2.2.2.2.2.2.2.2.1 x.2.2.2.2.2.2.2.2.2.2.1 x.2.2.2.2.2.2.2.2.2.2.2.1 x.2.2.2.2.2.2.2.2.2.2.2.2.1 x.2.2.2.2.2.2.2.2.2.2.2.2.2.1 (bC.mk x.2.2.2.2.2.2.2.2.2.2.2.2.2.2.1 x.2.2.2.2.2.2.2.2.2.2.2.2.2.2.2.1) (Ll.mk x.2.2.2.2.2.2.2.2.2.2.2.2.2.2.2.2.1) (Ll.mk x.2.2.2.2.2.2.2.2.2.2.2.2.2.2.2.2.2.1) (Ll.mk x.2.2.2.2.2.2.2.2.2.2.2.2.2.2.2.2.2.2),ReaderT.mk (Ll.mk x.1) x.2.1)
def um (x:Nat × Nat × Nat × Nat × Nat × (List aP) × Int × Int × Nat × Nat × Nat × Nat × Bool × (List UInt8) × (List UInt8) × (List aB) × (List aA) × (List UInt8) × Int):bE × RT:=(bE.mk 0 0 0 0 x.2.2.2.2.2.2.1 x.2.2.2.2.2.2.2.1 x.1 x.2.1 x.2.2.1 x.2.2.2.1 x.2.2.2.2.1 x.2.2.2.2.2.2.2.2.1 x.2.2.2.2.2.2.2.2.2.1 x.2.2.2.2.2.2.2.2.2.2.1 x.2.2.2.2.2.2.2.2.2.2.2.1 x.2.2.2.2.2.2.2.2.2.2.2.2.1 (bC.mk x.2.2.2.2.2.2.2.2.2.2.2.2.2.1 x.2.2.2.2.2.2.2.2.2.2.2.2.2.2.1) (Ll.mk x.2.2.2.2.2.2.2.2.2.2.2.2.2.2.2.1) (Ll.mk x.2.2.2.2.2.1) (Ll.mk x.2.2.2.2.2.2.2.2.2.2.2.2.2.2.2.2.1),RT.mk (Ll.mk x.2.2.2.2.2.2.2.2.2.2.2.2.2.2.2.2.2.1) x.2.2.2.2.2.2.2.2.2.2.2.2.2.2.2.2.2.2)
set_option maxHeartbeats 4000000 in
theorem wW (m:bE) (F G H:Int) {fs:List Int} {cs:List UInt8} (h:fP fs cs):∀ (A B:Int) (d g i j k u x y z:Nat) (b:Bool) (s1 s2:List UInt8) (C:List aB) (D:List aP) (E:List aA) (p:ReaderT) (q:RT),rel p q→(d≤18446744073709551615∧g≤18446744073709551615∧i≤18446744073709551615∧j≤18446744073709551615∧k≤18446744073709551615∧u≤18446744073709551615∧x≤18446744073709551615∧y≤18446744073709551615∧z≤18446744073709551615)→
    (wV (aO m fs p.ag.ls p.az A B d g i j k u x y z b s1 s2 C D E)).1=(um (aN F G H cs A B d g i j k u x y z b s1 s2 C D E q.xB.ls q.xE)).1∧rel (wV (aO m fs p.ag.ls p.az A B d g i j k u x y z b s1 s2 C D E)).2 (um (aN F G H cs A B d g i j k u x y z b s1 s2 C D E q.xB.ls q.xE)).2∧nums (um (aN F G H cs A B d g i j k u x y z b s1 s2 C D E q.xB.ls q.xE)).1:=by
  induction h with
  | nil=>intro A B d g i j k u x y z b s1 s2 C D E p q h hn; exact⟨rfl,h,hn⟩
  | q _ ih=>
    rename_i fs cs _
    intro A B d g i j k u x y z b s1 s2 C D E p q h hn
    have a:=kV (p:=(ReaderT.mk (Ll.mk p.ag.ls) p.az)) (q:=(RT.mk (Ll.mk q.xB.ls) q.xE)) h
    rw [show aO m (0::fs) p.ag.ls p.az A B d g i j k u x y z b s1 s2 C D E=aO m fs (aI (ReaderT.mk (Ll.mk p.ag.ls) p.az) 18446744073709551615).2.ag.ls (aI (ReaderT.mk (Ll.mk p.ag.ls) p.az) 18446744073709551615).2.az A B ((aI (ReaderT.mk (Ll.mk p.ag.ls) p.az) 18446744073709551615).1) g i j k u x y z b s1 s2 C D E from rfl,show aN F G H (113::cs) A B d g i j k u x y z b s1 s2 C D E q.xB.ls q.xE=aN F G H cs A B ((df (RT.mk (Ll.mk q.xB.ls) q.xE)).1) g i j k u x y z b s1 s2 C D E (df (RT.mk (Ll.mk q.xB.ls) q.xE)).2.xB.ls (df (RT.mk (Ll.mk q.xB.ls) q.xE)).2.xE from rfl,a.1]
    exact ih _ _ _ _ _ _ _ _ _ _ _ _ _ _ _ _ _ _ _ a.2 (by have hz:=kW (RT.mk (Ll.mk q.xB.ls) q.xE); obtain⟨n0,I,J,K,L,M,N,O,P⟩:=hn; refine⟨?_, ?_, ?_, ?_, ?_, ?_, ?_, ?_, ?_⟩ <;> assumption)
  | b _ ih=>
    rename_i fs cs _
    intro A B d g i j k u x y z b s1 s2 C D E p q h hn
    have a:=kV (p:=(ReaderT.mk (Ll.mk p.ag.ls) p.az)) (q:=(RT.mk (Ll.mk q.xB.ls) q.xE)) h
    rw [show aO m (1::fs) p.ag.ls p.az A B d g i j k u x y z b s1 s2 C D E=aO m fs (aI (ReaderT.mk (Ll.mk p.ag.ls) p.az) 18446744073709551615).2.ag.ls (aI (ReaderT.mk (Ll.mk p.ag.ls) p.az) 18446744073709551615).2.az A B d ((aI (ReaderT.mk (Ll.mk p.ag.ls) p.az) 18446744073709551615).1) i j k u x y z b s1 s2 C D E from rfl,show aN F G H (98::cs) A B d g i j k u x y z b s1 s2 C D E q.xB.ls q.xE=aN F G H cs A B d ((df (RT.mk (Ll.mk q.xB.ls) q.xE)).1) i j k u x y z b s1 s2 C D E (df (RT.mk (Ll.mk q.xB.ls) q.xE)).2.xB.ls (df (RT.mk (Ll.mk q.xB.ls) q.xE)).2.xE from rfl,a.1]
    exact ih _ _ _ _ _ _ _ _ _ _ _ _ _ _ _ _ _ _ _ a.2 (by have hz:=kW (RT.mk (Ll.mk q.xB.ls) q.xE); obtain⟨n0,I,J,K,L,M,N,O,P⟩:=hn; refine⟨?_, ?_, ?_, ?_, ?_, ?_, ?_, ?_, ?_⟩ <;> assumption)
  | t _ ih=>
    rename_i fs cs _
    intro A B d g i j k u x y z b s1 s2 C D E p q h hn
    have a:=kV (p:=(ReaderT.mk (Ll.mk p.ag.ls) p.az)) (q:=(RT.mk (Ll.mk q.xB.ls) q.xE)) h
    rw [show aO m (4::fs) p.ag.ls p.az A B d g i j k u x y z b s1 s2 C D E=aO m fs (aI (ReaderT.mk (Ll.mk p.ag.ls) p.az) 18446744073709551615).2.ag.ls (aI (ReaderT.mk (Ll.mk p.ag.ls) p.az) 18446744073709551615).2.az A B d g ((aI (ReaderT.mk (Ll.mk p.ag.ls) p.az) 18446744073709551615).1) j k u x y z b s1 s2 C D E from rfl,show aN F G H (116::cs) A B d g i j k u x y z b s1 s2 C D E q.xB.ls q.xE=aN F G H cs A B d g ((df (RT.mk (Ll.mk q.xB.ls) q.xE)).1) j k u x y z b s1 s2 C D E (df (RT.mk (Ll.mk q.xB.ls) q.xE)).2.xB.ls (df (RT.mk (Ll.mk q.xB.ls) q.xE)).2.xE from rfl,a.1]
    exact ih _ _ _ _ _ _ _ _ _ _ _ _ _ _ _ _ _ _ _ a.2 (by have hz:=kW (RT.mk (Ll.mk q.xB.ls) q.xE); obtain⟨n0,I,J,K,L,M,N,O,P⟩:=hn; refine⟨?_, ?_, ?_, ?_, ?_, ?_, ?_, ?_, ?_⟩ <;> assumption)
  | l _ ih=>
    rename_i fs cs _
    intro A B d g i j k u x y z b s1 s2 C D E p q h hn
    have a:=kV (p:=(ReaderT.mk (Ll.mk p.ag.ls) p.az)) (q:=(RT.mk (Ll.mk q.xB.ls) q.xE)) h
    rw [show aO m (5::fs) p.ag.ls p.az A B d g i j k u x y z b s1 s2 C D E=aO m fs (aI (ReaderT.mk (Ll.mk p.ag.ls) p.az) 18446744073709551615).2.ag.ls (aI (ReaderT.mk (Ll.mk p.ag.ls) p.az) 18446744073709551615).2.az A B d g i ((aI (ReaderT.mk (Ll.mk p.ag.ls) p.az) 18446744073709551615).1) k u x y z b s1 s2 C D E from rfl,show aN F G H (108::cs) A B d g i j k u x y z b s1 s2 C D E q.xB.ls q.xE=aN F G H cs A B d g i ((df (RT.mk (Ll.mk q.xB.ls) q.xE)).1) k u x y z b s1 s2 C D E (df (RT.mk (Ll.mk q.xB.ls) q.xE)).2.xB.ls (df (RT.mk (Ll.mk q.xB.ls) q.xE)).2.xE from rfl,a.1]
    exact ih _ _ _ _ _ _ _ _ _ _ _ _ _ _ _ _ _ _ _ a.2 (by have hz:=kW (RT.mk (Ll.mk q.xB.ls) q.xE); obtain⟨n0,I,J,K,L,M,N,O,P⟩:=hn; refine⟨?_, ?_, ?_, ?_, ?_, ?_, ?_, ?_, ?_⟩ <;> assumption)
  | e _ ih=>
    rename_i fs cs _
    intro A B d g i j k u x y z b s1 s2 C D E p q h hn
    have a:=kV (p:=(ReaderT.mk (Ll.mk p.ag.ls) p.az)) (q:=(RT.mk (Ll.mk q.xB.ls) q.xE)) h
    rw [show aO m (6::fs) p.ag.ls p.az A B d g i j k u x y z b s1 s2 C D E=aO m fs (aI (ReaderT.mk (Ll.mk p.ag.ls) p.az) 18446744073709551615).2.ag.ls (aI (ReaderT.mk (Ll.mk p.ag.ls) p.az) 18446744073709551615).2.az A B d g i j k ((aI (ReaderT.mk (Ll.mk p.ag.ls) p.az) 18446744073709551615).1) x y z b s1 s2 C D E from rfl,show aN F G H (101::cs) A B d g i j k u x y z b s1 s2 C D E q.xB.ls q.xE=aN F G H cs A B d g i j k ((df (RT.mk (Ll.mk q.xB.ls) q.xE)).1) x y z b s1 s2 C D E (df (RT.mk (Ll.mk q.xB.ls) q.xE)).2.xB.ls (df (RT.mk (Ll.mk q.xB.ls) q.xE)).2.xE from rfl,a.1]
    exact ih _ _ _ _ _ _ _ _ _ _ _ _ _ _ _ _ _ _ _ a.2 (by have hz:=kW (RT.mk (Ll.mk q.xB.ls) q.xE); obtain⟨n0,I,J,K,L,M,N,O,P⟩:=hn; refine⟨?_, ?_, ?_, ?_, ?_, ?_, ?_, ?_, ?_⟩ <;> assumption)
  | v _ ih=>
    rename_i fs cs _
    intro A B d g i j k u x y z b s1 s2 C D E p q h hn
    have a:=kV (p:=(ReaderT.mk (Ll.mk p.ag.ls) p.az)) (q:=(RT.mk (Ll.mk q.xB.ls) q.xE)) h
    rw [show aO m (9::fs) p.ag.ls p.az A B d g i j k u x y z b s1 s2 C D E=aO m fs (aI (ReaderT.mk (Ll.mk p.ag.ls) p.az) 18446744073709551615).2.ag.ls (aI (ReaderT.mk (Ll.mk p.ag.ls) p.az) 18446744073709551615).2.az A B d g i j ((aI (ReaderT.mk (Ll.mk p.ag.ls) p.az) 18446744073709551615).1) u x y z b s1 s2 C D E from rfl,show aN F G H (118::cs) A B d g i j k u x y z b s1 s2 C D E q.xB.ls q.xE=aN F G H cs A B d g i j ((df (RT.mk (Ll.mk q.xB.ls) q.xE)).1) u x y z b s1 s2 C D E (df (RT.mk (Ll.mk q.xB.ls) q.xE)).2.xB.ls (df (RT.mk (Ll.mk q.xB.ls) q.xE)).2.xE from rfl,a.1]
    exact ih _ _ _ _ _ _ _ _ _ _ _ _ _ _ _ _ _ _ _ a.2 (by have hz:=kW (RT.mk (Ll.mk q.xB.ls) q.xE); obtain⟨n0,I,J,K,L,M,N,O,P⟩:=hn; refine⟨?_, ?_, ?_, ?_, ?_, ?_, ?_, ?_, ?_⟩ <;> assumption)
  | m _ ih=>
    rename_i fs cs _
    intro A B d g i j k u x y z b s1 s2 C D E p q h hn
    have a:=kV (p:=(ReaderT.mk (Ll.mk p.ag.ls) p.az)) (q:=(RT.mk (Ll.mk q.xB.ls) q.xE)) h
    rw [show aO m (10::fs) p.ag.ls p.az A B d g i j k u x y z b s1 s2 C D E=aO m fs (aI (ReaderT.mk (Ll.mk p.ag.ls) p.az) 18446744073709551615).2.ag.ls (aI (ReaderT.mk (Ll.mk p.ag.ls) p.az) 18446744073709551615).2.az A B d g i j k u ((aI (ReaderT.mk (Ll.mk p.ag.ls) p.az) 18446744073709551615).1) y z b s1 s2 C D E from rfl,show aN F G H (109::cs) A B d g i j k u x y z b s1 s2 C D E q.xB.ls q.xE=aN F G H cs A B d g i j k u ((df (RT.mk (Ll.mk q.xB.ls) q.xE)).1) y z b s1 s2 C D E (df (RT.mk (Ll.mk q.xB.ls) q.xE)).2.xB.ls (df (RT.mk (Ll.mk q.xB.ls) q.xE)).2.xE from rfl,a.1]
    exact ih _ _ _ _ _ _ _ _ _ _ _ _ _ _ _ _ _ _ _ a.2 (by have hz:=kW (RT.mk (Ll.mk q.xB.ls) q.xE); obtain⟨n0,I,J,K,L,M,N,O,P⟩:=hn; refine⟨?_, ?_, ?_, ?_, ?_, ?_, ?_, ?_, ?_⟩ <;> assumption)
  | a _ ih=>
    rename_i fs cs _
    intro A B d g i j k u x y z b s1 s2 C D E p q h hn
    have a:=kV (p:=(ReaderT.mk (Ll.mk p.ag.ls) p.az)) (q:=(RT.mk (Ll.mk q.xB.ls) q.xE)) h
    rw [show aO m (14::fs) p.ag.ls p.az A B d g i j k u x y z b s1 s2 C D E=aO m fs (aI (ReaderT.mk (Ll.mk p.ag.ls) p.az) 18446744073709551615).2.ag.ls (aI (ReaderT.mk (Ll.mk p.ag.ls) p.az) 18446744073709551615).2.az A B d g i j k u x ((aI (ReaderT.mk (Ll.mk p.ag.ls) p.az) 18446744073709551615).1) z b s1 s2 C D E from rfl,show aN F G H (97::cs) A B d g i j k u x y z b s1 s2 C D E q.xB.ls q.xE=aN F G H cs A B d g i j k u x ((df (RT.mk (Ll.mk q.xB.ls) q.xE)).1) z b s1 s2 C D E (df (RT.mk (Ll.mk q.xB.ls) q.xE)).2.xB.ls (df (RT.mk (Ll.mk q.xB.ls) q.xE)).2.xE from rfl,a.1]
    exact ih _ _ _ _ _ _ _ _ _ _ _ _ _ _ _ _ _ _ _ a.2 (by have hz:=kW (RT.mk (Ll.mk q.xB.ls) q.xE); obtain⟨n0,I,J,K,L,M,N,O,P⟩:=hn; refine⟨?_, ?_, ?_, ?_, ?_, ?_, ?_, ?_, ?_⟩ <;> assumption)
  | n _ ih=>
    rename_i fs cs _
    intro A B d g i j k u x y z b s1 s2 C D E p q h hn
    have a:=kV (p:=(ReaderT.mk (Ll.mk p.ag.ls) p.az)) (q:=(RT.mk (Ll.mk q.xB.ls) q.xE)) h
    rw [show aO m (15::fs) p.ag.ls p.az A B d g i j k u x y z b s1 s2 C D E=aO m fs (aI (ReaderT.mk (Ll.mk p.ag.ls) p.az) 18446744073709551615).2.ag.ls (aI (ReaderT.mk (Ll.mk p.ag.ls) p.az) 18446744073709551615).2.az A B d g i j k u x y ((aI (ReaderT.mk (Ll.mk p.ag.ls) p.az) 18446744073709551615).1) b s1 s2 C D E from rfl,show aN F G H (110::cs) A B d g i j k u x y z b s1 s2 C D E q.xB.ls q.xE=aN F G H cs A B d g i j k u x y ((df (RT.mk (Ll.mk q.xB.ls) q.xE)).1) b s1 s2 C D E (df (RT.mk (Ll.mk q.xB.ls) q.xE)).2.xB.ls (df (RT.mk (Ll.mk q.xB.ls) q.xE)).2.xE from rfl,a.1]
    exact ih _ _ _ _ _ _ _ _ _ _ _ _ _ _ _ _ _ _ _ a.2 (by have hz:=kW (RT.mk (Ll.mk q.xB.ls) q.xE); obtain⟨n0,I,J,K,L,M,N,O,P⟩:=hn; refine⟨?_, ?_, ?_, ?_, ?_, ?_, ?_, ?_, ?_⟩ <;> assumption)
  | c _ ih=>
    rename_i fs cs _
    intro A B d g i j k u x y z b s1 s2 C D E p q h hn
    have a:=jG (p:=(ReaderT.mk (Ll.mk p.ag.ls) p.az)) (q:=(RT.mk (Ll.mk q.xB.ls) q.xE)) h
    rw [show aO m (2::fs) p.ag.ls p.az A B d g i j k u x y z b s1 s2 C D E=aO m fs (aW (ReaderT.mk (Ll.mk p.ag.ls) p.az)).2.ag.ls (aW (ReaderT.mk (Ll.mk p.ag.ls) p.az)).2.az ((((aW (ReaderT.mk (Ll.mk p.ag.ls) p.az)).1.toNat:Nat):Int)) B d g i j k u x y z b s1 s2 C D E from rfl,show aN F G H (99::cs) A B d g i j k u x y z b s1 s2 C D E q.xB.ls q.xE=aN F G H cs ((aX (RT.mk (Ll.mk q.xB.ls) q.xE)).1) B d g i j k u x y z b s1 s2 C D E (aX (RT.mk (Ll.mk q.xB.ls) q.xE)).2.xB.ls (aX (RT.mk (Ll.mk q.xB.ls) q.xE)).2.xE from rfl,a.1]
    exact ih _ _ _ _ _ _ _ _ _ _ _ _ _ _ _ _ _ _ _ a.2 (by skip; obtain⟨n0,I,J,K,L,M,N,O,P⟩:=hn; refine⟨?_, ?_, ?_, ?_, ?_, ?_, ?_, ?_, ?_⟩ <;> assumption)
  | p _ ih=>
    rename_i fs cs _
    intro A B d g i j k u x y z b s1 s2 C D E p q h hn
    have a:=jG (p:=(ReaderT.mk (Ll.mk p.ag.ls) p.az)) (q:=(RT.mk (Ll.mk q.xB.ls) q.xE)) h
    rw [show aO m (12::fs) p.ag.ls p.az A B d g i j k u x y z b s1 s2 C D E=aO m fs (aW (ReaderT.mk (Ll.mk p.ag.ls) p.az)).2.ag.ls (aW (ReaderT.mk (Ll.mk p.ag.ls) p.az)).2.az A ((((aW (ReaderT.mk (Ll.mk p.ag.ls) p.az)).1.toNat:Nat):Int)) d g i j k u x y z b s1 s2 C D E from rfl,show aN F G H (112::cs) A B d g i j k u x y z b s1 s2 C D E q.xB.ls q.xE=aN F G H cs A ((aX (RT.mk (Ll.mk q.xB.ls) q.xE)).1) d g i j k u x y z b s1 s2 C D E (aX (RT.mk (Ll.mk q.xB.ls) q.xE)).2.xB.ls (aX (RT.mk (Ll.mk q.xB.ls) q.xE)).2.xE from rfl,a.1]
    exact ih _ _ _ _ _ _ _ _ _ _ _ _ _ _ _ _ _ _ _ a.2 (by skip; obtain⟨n0,I,J,K,L,M,N,O,P⟩:=hn; refine⟨?_, ?_, ?_, ?_, ?_, ?_, ?_, ?_, ?_⟩ <;> assumption)
  | f _ ih=>
    rename_i fs cs _
    intro A B d g i j k u x y z b s1 s2 C D E p q h hn
    have a:=sH (p:=(ReaderT.mk (Ll.mk p.ag.ls) p.az)) (q:=(RT.mk (Ll.mk q.xB.ls) q.xE)) h
    rw [show aO m (8::fs) p.ag.ls p.az A B d g i j k u x y z b s1 s2 C D E=aO m fs (fU (ReaderT.mk (Ll.mk p.ag.ls) p.az)).2.ag.ls (fU (ReaderT.mk (Ll.mk p.ag.ls) p.az)).2.az A B d g i j k u x y z ((fU (ReaderT.mk (Ll.mk p.ag.ls) p.az)).1) s1 s2 C D E from rfl,show aN F G H (102::cs) A B d g i j k u x y z b s1 s2 C D E q.xB.ls q.xE=aN F G H cs A B d g i j k u x y z ((fO (RT.mk (Ll.mk q.xB.ls) q.xE)).1) s1 s2 C D E (fO (RT.mk (Ll.mk q.xB.ls) q.xE)).2.xB.ls (fO (RT.mk (Ll.mk q.xB.ls) q.xE)).2.xE from rfl,a.1]
    exact ih _ _ _ _ _ _ _ _ _ _ _ _ _ _ _ _ _ _ _ a.2 (by skip; obtain⟨n0,I,J,K,L,M,N,O,P⟩:=hn; refine⟨?_, ?_, ?_, ?_, ?_, ?_, ?_, ?_, ?_⟩ <;> assumption)
  | r _ ih=>
    rename_i fs cs _
    intro A B d g i j k u x y z b s1 s2 C D E p q h hn
    have a:=jX (p:=(ReaderT.mk (Ll.mk p.ag.ls) p.az)) (q:=(RT.mk (Ll.mk q.xB.ls) q.xE)) h
    have a':=jX a.2
    rw [show aO m (13::fs) p.ag.ls p.az A B d g i j k u x y z b s1 s2 C D E=aO m fs (bA (bA (ReaderT.mk (Ll.mk p.ag.ls) p.az) 255).2 255).2.ag.ls (bA (bA (ReaderT.mk (Ll.mk p.ag.ls) p.az) 255).2 255).2.az A B d g i j k u x y z b (bA (ReaderT.mk (Ll.mk p.ag.ls) p.az) 255).1 (bA (bA (ReaderT.mk (Ll.mk p.ag.ls) p.az) 255).2 255).1 C D E from rfl,show aN F G H (114::cs) A B d g i j k u x y z b s1 s2 C D E q.xB.ls q.xE=aN F G H cs A B d g i j k u x y z b (bg (RT.mk (Ll.mk q.xB.ls) q.xE)).1 (bg (bg (RT.mk (Ll.mk q.xB.ls) q.xE)).2).1 C D E (bg (bg (RT.mk (Ll.mk q.xB.ls) q.xE)).2).2.xB.ls (bg (bg (RT.mk (Ll.mk q.xB.ls) q.xE)).2).2.xE from rfl,a'.1,a.1]
    exact ih _ _ _ _ _ _ _ _ _ _ _ _ _ _ _ _ _ _ _ a'.2 hn
  | o _ ih=>
    rename_i fs cs _
    intro A B d g i j k u x y z b s1 s2 C D E p q h hn
    have a:=vD (p:=(ReaderT.mk (Ll.mk p.ag.ls) p.az)) (q:=(RT.mk (Ll.mk q.xB.ls) q.xE)) h
    rw [show aO m (7::fs) p.ag.ls p.az A B d g i j k u x y z b s1 s2 C D E=aO m fs (fQ (ReaderT.mk (Ll.mk p.ag.ls) p.az) 255).2.ag.ls (fQ (ReaderT.mk (Ll.mk p.ag.ls) p.az) 255).2.az A B d g i j k u x y z b s1 s2 ((fQ (ReaderT.mk (Ll.mk p.ag.ls) p.az) 255).1) D E from rfl,show aN F G H (111::cs) A B d g i j k u x y z b s1 s2 C D E q.xB.ls q.xE=aN F G H cs A B d g i j k u x y z b s1 s2 ((jg (RT.mk (Ll.mk q.xB.ls) q.xE)).1) D E (jg (RT.mk (Ll.mk q.xB.ls) q.xE)).2.xB.ls (jg (RT.mk (Ll.mk q.xB.ls) q.xE)).2.xE from rfl,a.1]
    exact ih _ _ _ _ _ _ _ _ _ _ _ _ _ _ _ _ _ _ _ a.2 (by skip; obtain⟨n0,I,J,K,L,M,N,O,P⟩:=hn; refine⟨?_, ?_, ?_, ?_, ?_, ?_, ?_, ?_, ?_⟩ <;> assumption)
  | s _ ih=>
    rename_i fs cs _
    intro A B d g i j k u x y z b s1 s2 C D E p q h hn
    have a:=vG (p:=(ReaderT.mk (Ll.mk p.ag.ls) p.az)) (q:=(RT.mk (Ll.mk q.xB.ls) q.xE)) h
    rw [show aO m (3::fs) p.ag.ls p.az A B d g i j k u x y z b s1 s2 C D E=aO m fs (eG (ReaderT.mk (Ll.mk p.ag.ls) p.az) 255).2.ag.ls (eG (ReaderT.mk (Ll.mk p.ag.ls) p.az) 255).2.az A B d g i j k u x y z b s1 s2 C ((eG (ReaderT.mk (Ll.mk p.ag.ls) p.az) 255).1) E from rfl,show aN F G H (115::cs) A B d g i j k u x y z b s1 s2 C D E q.xB.ls q.xE=aN F G H cs A B d g i j k u x y z b s1 s2 C ((jh (RT.mk (Ll.mk q.xB.ls) q.xE)).1) E (jh (RT.mk (Ll.mk q.xB.ls) q.xE)).2.xB.ls (jh (RT.mk (Ll.mk q.xB.ls) q.xE)).2.xE from rfl,a.1]
    exact ih _ _ _ _ _ _ _ _ _ _ _ _ _ _ _ _ _ _ _ a.2 (by skip; obtain⟨n0,I,J,K,L,M,N,O,P⟩:=hn; refine⟨?_, ?_, ?_, ?_, ?_, ?_, ?_, ?_, ?_⟩ <;> assumption)
  | w _ ih=>
    rename_i fs cs _
    intro A B d g i j k u x y z b s1 s2 C D E p q h hn
    have a:=vE (p:=(ReaderT.mk (Ll.mk p.ag.ls) p.az)) (q:=(RT.mk (Ll.mk q.xB.ls) q.xE)) h
    rw [show aO m (11::fs) p.ag.ls p.az A B d g i j k u x y z b s1 s2 C D E=aO m fs (eZ (ReaderT.mk (Ll.mk p.ag.ls) p.az) 255).2.ag.ls (eZ (ReaderT.mk (Ll.mk p.ag.ls) p.az) 255).2.az A B d g i j k u x y z b s1 s2 C D ((eZ (ReaderT.mk (Ll.mk p.ag.ls) p.az) 255).1) from rfl,show aN F G H (119::cs) A B d g i j k u x y z b s1 s2 C D E q.xB.ls q.xE=aN F G H cs A B d g i j k u x y z b s1 s2 C D ((ik (RT.mk (Ll.mk q.xB.ls) q.xE)).1) (ik (RT.mk (Ll.mk q.xB.ls) q.xE)).2.xB.ls (ik (RT.mk (Ll.mk q.xB.ls) q.xE)).2.xE from rfl,a.1]
    exact ih _ _ _ _ _ _ _ _ _ _ _ _ _ _ _ _ _ _ _ a.2 (by skip; obtain⟨n0,I,J,K,L,M,N,O,P⟩:=hn; refine⟨?_, ?_, ?_, ?_, ?_, ?_, ?_, ?_, ?_⟩ <;> assumption)
end Go.Proofs.YtccjclalngabhaaGreat
