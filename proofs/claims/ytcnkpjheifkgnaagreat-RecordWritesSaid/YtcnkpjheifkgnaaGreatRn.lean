/-
 record: the document's numbers and texts.
-/
import Derived.Test.YtcnkpjheifkgnaaGreatRcA
namespace Go.Proofs.YtcnkpjheifkgnaaGreat
set_option maxRecDepth 100000
open Go.RowKit
set_option linter.unusedVariables false
set_option linter.unusedSectionVars false
set_option linter.unusedSimpArgs false
def dJ (a:Nat):(List UInt8):=
 if a < 128 then [(UInt8.ofNat a)] else bnd (dJ (a / 128)) fun b=>([((UInt8.ofNat (a % 128))+(128:UInt8))]++b)
 termination_by a
 decreasing_by all_goals omega
theorem lL (a:Nat):dJ a=if((a:Nat):Int) < 128 then [(UInt8.ofNat a)] else bnd (dJ (a / 128)) fun b=>([((UInt8.ofNat (a % 128))+(128:UInt8))]++b):=by
 rw [dJ.eq_1 a]
 by_cases c:a < 128
 · rw [ip c,ip (by omega)]
 · rw [iN c,iN (by omega)]
theorem nk (w:World) (D:Nat→Prop) (a:Nat) (c:List UInt8) (H:Own w D w []) (d:a≤18446744073709551615) (hr:dJ a=c):
    Calls Tryz.prog 74 #[.int .u64 ((a:Nat):Int)] w (dE fun v w'=> ∃ (o:Option Addr) (p:Nat),v= .slice o c.length p∧Own w D w' [row o c.length p (List.flatMap eB c) 5 1]∧(kU a c.length)∧(1≤c.length∧c.length≤10)):=by
 obtain⟨pm,hpm⟩:∃ q,q=a:=⟨_,rfl⟩
 have self_:∀ (w:World) (D:Nat→Prop) (a:Nat) (c:List UInt8) (H:Own w D w []) (d:a≤18446744073709551615) (hh_:a < pm) (hr:dJ a=c),Calls Tryz.prog 74 #[.int .u64 ((a:Nat):Int)] w (dE fun v w'=> ∃ (o:Option Addr) (p:Nat),v= .slice o c.length p∧Own w D w' [row o c.length p (List.flatMap eB c) 5 1]∧(kU a c.length)∧(1≤c.length∧c.length≤10)):=fun w D a c H d hh_ hr=>nk w D a c H d hr
 refine Ce (args:= [.int .u64 ((a:Nat):Int)]) Tryz.func74 rfl rfl rfl ?_
 show Wp _ _ _ [(0, .int .u64 ((a:Nat):Int))] _ _
 refine sr (An rfl (BS (sr (Mz rfl (Kz (.bool (decide (((a:Nat):Int) < 128))) (nt ?_))))))
 by_cases f:((a:Nat):Int) < 128
 refine jT (dT f) (sr (Mz rfl (fw (.int .u8 (((UInt8.ofNat a).toNat:Nat):Int)) (Ci (e:=IntKind.u8.wrap ((a:Nat):Int)) yk (ol _)) ?_)))
 refine ji [.int .u8 (((UInt8.ofNat a).toNat:Nat):Int)] 5 1 1 H ?_
 intro r A l
 replace l:Own w D A [row r 1 1 (List.flatMap eB ([(UInt8.ofNat a)])) 5 1]:=l
 refine An rfl (rt (tR (rs ?_)))
 have B:=l.pk [0]
 obtain rfl:_= [(UInt8.ofNat a)]:=hr.symm.trans (et (lL _) (ip f))
 exact⟨r,1,rfl,B,(by first | exact kU.one rfl | exact kU.step (by omega) (by assumption) (by simp only [List.length_append,List.length_cons,List.length_nil]; omega)),(by first | (exact Dn (kU.one rfl) d) | (exact Dn (kU.step (by omega) (by assumption) (by simp only [List.length_append,List.length_cons,List.length_nil]; omega)) d))⟩
 refine jF (dF f) (sk (sr (Mz rfl (fw (.int .u64 ((a % 128:Nat):Int)) (Ci (e:=Int.tmod ((a:Nat):Int) 128) yk (zy _ _)) (fw (.int .u8 (((UInt8.ofNat (a % 128)).toNat:Nat):Int)) (Ci (e:=IntKind.u8.wrap ((a % 128:Nat):Int)) yk (ol _)) (fw (.int .u8 ((((UInt8.ofNat (a % 128))+(128:UInt8)).toNat:Nat):Int)) (Ci (e:=IntKind.u8.wrap ((((UInt8.ofNat (a % 128)).toNat:Nat):Int)+128)) yk (uf (UInt8.ofNat (a % 128)) (128:UInt8))) ?_))))))
 refine ji [.int .u8 ((((UInt8.ofNat (a % 128))+(128:UInt8)).toNat:Nat):Int)] 5 1 1 H ?_
 intro C E n
 replace n:Own w D E [row C 1 1 (List.flatMap eB ([((UInt8.ofNat (a % 128))+(128:UInt8))])) 5 1]:=n
 refine Mz rfl (fw (.int .u64 ((a / 128:Nat):Int)) (Ci (e:=IntKind.u64.wrap (Int.tdiv ((a:Nat):Int) 128)) yk (by rw [show (128:Int)=((128:Nat):Int) from rfl,zz,IntWalk.u64_in _ (by omega)])) ?_)
 obtain⟨b,g⟩:∃ q,dJ (a / 128)=q:=⟨_,rfl⟩
 obtain⟨O,t,K,u,L⟩:=Ck n
 refine cl Tryz.call74 (self_ _ _ (a / 128) b t (by omega) (by omega) g) ?_
 rintro _ P ⟨Q,R,rfl,x,h,j⟩
 have y:=u _ _ x
 have M:=y.rowC (i:=0) rfl
 replace h:kU (a / 128) b.length:=h
 replace j:1≤b.length∧b.length≤10:=j
 have z:=y.pk [1,0]
 refine WL.do rfl (CU (k:=1) (m:=b.length) (kV) z rfl rfl (j5 Tryz.underlying37 (z.rds (i:=1) rfl) (ja mi b)) rfl (by omega) (s:=List.length ([((UInt8.ofNat (a % 128))+(128:UInt8))]++b)) (by first | omega | (simp only [List.length_append,List.length_cons,List.length_nil] <;> omega)) (List.flatMap_append).symm ?_)
 intro F G S I
 have N:List.length ([((UInt8.ofNat (a % 128))+(128:UInt8))]++b)=1+b.length:=by simp only [List.length_append,List.length_cons,List.length_nil]
 refine An rfl (rt (rs ?_))
 have J:=I.pk [0]
 obtain rfl:_=([((UInt8.ofNat (a % 128))+(128:UInt8))]++b):=hr.symm.trans (et (lL _) (et (iN f) (ag g)))
 exact⟨F,G,rfl,J,(by first | exact kU.one rfl | exact kU.step (by omega) (by assumption) (by simp only [List.length_append,List.length_cons,List.length_nil]; omega)),(by first | (exact Dn (kU.one rfl) d) | (exact Dn (kU.step (by omega) (by assumption) (by simp only [List.length_append,List.length_cons,List.length_nil]; omega)) d))⟩
 termination_by a
 decreasing_by all_goals omega
def ow (b:List UInt8):(List UInt8):=
 bnd (dJ b.length) fun a=>(a++b)
theorem uI (w:World) (D:Nat→Prop) (b:List UInt8) (g:List UInt8) (H:Own w D w []) (C:b.length≤140737488351232) (hr:ow b=g):
    Calls Tryz.prog 75 #[.string ⟨List.toArray b⟩] w (dE fun v w'=> ∃ (u:Option Addr) (x:Nat),v= .slice u g.length x∧Own w D w' [row u g.length x (List.flatMap eB g) 5 1]∧(g.length≤b.length+10)):=by
 refine Ce (args:= [.string ⟨List.toArray b⟩]) Tryz.func75 rfl rfl rfl ?_
 show Wp _ _ _ [(0, .string ⟨List.toArray b⟩)] _ _
 refine sr (Ar rfl (Mz rfl (Kz (.int .i64 ((b.length:Nat):Int)) (fw (.int .u64 ((b.length:Nat):Int)) (Ci (e:=IntKind.u64.wrap ((b.length:Nat):Int)) yk (IntWalk.u64_in _ (by omega))) ?_))))
 obtain⟨a,c⟩:∃ q,dJ b.length=q:=⟨_,rfl⟩
 obtain⟨E,h,y,j,z⟩:=Ck H
 refine cl Tryz.call74 (nk _ _ b.length a h (by omega) c) ?_
 rintro _ F ⟨G,I,rfl,l,d,f⟩
 have n:=j _ _ l
 have A:=n.rowC (i:=0) rfl
 replace d:kU b.length a.length:=d
 replace f:1≤a.length∧a.length≤10:=f
 refine Mz rfl ?_
 refine WL.do rfl (CU (k:=a.length) (m:=b.length) (kV) n rfl rfl (uN Tryz.underlying9 rfl) rfl (by omega) (s:=List.length (a++b)) (by first | omega | (simp only [List.length_append,List.length_cons,List.length_nil] <;> omega)) (List.flatMap_append).symm ?_)
 intro o p J r
 have B:List.length (a++b)=a.length+b.length:=by simp only [List.length_append,List.length_cons,List.length_nil]
 refine An rfl (rt (rs ?_))
 have t:=r.pk [0]
 obtain rfl:_=(a++b):=hr.symm.trans (ag c)
 exact⟨o,p,rfl,t,(by first | omega | (simp only [List.length_cons,List.length_nil,List.length_append]; omega))⟩
end Go.Proofs.YtcnkpjheifkgnaaGreat
