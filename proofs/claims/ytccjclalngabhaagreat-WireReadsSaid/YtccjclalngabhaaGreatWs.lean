/-
 wire: the document's answer, bytes.
-/
import Derived.Test.YtccjclalngabhaaGreatWr
namespace Go.Proofs.YtccjclalngabhaaGreat
set_option maxRecDepth 100000
open Go.RowKit
set_option linter.unusedVariables false
set_option linter.unusedSectionVars false
set_option linter.unusedSimpArgs false
def iV (a:Nat):(List UInt8):=
 if a < 128 then [(UInt8.ofNat a)] else bnd (iV (a / 128)) fun b=>([((UInt8.ofNat (a % 128))+(128:UInt8))]++b)
 termination_by a
 decreasing_by all_goals omega
theorem lZ (a:Nat):iV a=if((a:Nat):Int) < 128 then [(UInt8.ofNat a)] else bnd (iV (a / 128)) fun b=>([((UInt8.ofNat (a % 128))+(128:UInt8))]++b):=by
 rw [iV.eq_1 a]
 by_cases c:a < 128
 · rw [ip c,ip (by omega)]
 · rw [iN c,iN (by omega)]
theorem qG (w:World) (D:Nat→Prop) (a:Nat) (c:List UInt8) (H:Own w D w []) (d:a≤18446744073709551615) (hr:iV a=c):
    Calls Tryz.prog 63 #[.int .u64 ((a:Nat):Int)] w (cO fun v w'=> ∃ (o:Option Addr) (p:Nat),v= .slice o c.length p∧Own w D w' [row o c.length p (List.flatMap eB c) 5 1]∧(jI a c.length)∧(1≤c.length∧c.length≤10)):=by
 obtain⟨pm,hpm⟩:∃ q,q=a:=⟨_,rfl⟩
 have self_:∀ (w:World) (D:Nat→Prop) (a:Nat) (c:List UInt8) (H:Own w D w []) (d:a≤18446744073709551615) (hh_:a < pm) (hr:iV a=c),Calls Tryz.prog 63 #[.int .u64 ((a:Nat):Int)] w (cO fun v w'=> ∃ (o:Option Addr) (p:Nat),v= .slice o c.length p∧Own w D w' [row o c.length p (List.flatMap eB c) 5 1]∧(jI a c.length)∧(1≤c.length∧c.length≤10)):=fun w D a c H d hh_ hr=>qG w D a c H d hr
 refine yR (args:= [.int .u64 ((a:Nat):Int)]) Tryz.func63 rfl rfl rfl ?_
 show Wp _ _ _ [(0, .int .u64 ((a:Nat):Int))] _ _
 refine sr (An rfl (yJ (sr (Mz rfl (Kz (.bool (decide (((a:Nat):Int) < 128))) (nt ?_))))))
 by_cases f:((a:Nat):Int) < 128
 refine jT (dT f) (sr (Mz rfl (fw (.int .u8 (((UInt8.ofNat a).toNat:Nat):Int)) (yS (e:=IntKind.u8.wrap ((a:Nat):Int)) yk (kE _)) ?_)))
 refine iX [.int .u8 (((UInt8.ofNat a).toNat:Nat):Int)] 5 1 1 H ?_
 intro r A l
 replace l:Own w D A [row r 1 1 (List.flatMap eB ([(UInt8.ofNat a)])) 5 1]:=l
 refine An rfl (rt (tR (rs ?_)))
 have B:=l.pk [0]
 obtain rfl:_= [(UInt8.ofNat a)]:=hr.symm.trans (et (lZ _) (ip f))
 exact⟨r,1,rfl,B,(by first | exact jI.one rfl | exact jI.step (by omega) (by assumption) (by simp only [List.length_append,List.length_cons,List.length_nil]; omega)),(by first | (exact zV (jI.one rfl) d) | (exact zV (jI.step (by omega) (by assumption) (by simp only [List.length_append,List.length_cons,List.length_nil]; omega)) d))⟩
 refine jF (dF f) (sk (sr (Mz rfl (fw (.int .u64 ((a % 128:Nat):Int)) (yS (e:=Int.tmod ((a:Nat):Int) 128) yk (vM _ _)) (fw (.int .u8 (((UInt8.ofNat (a % 128)).toNat:Nat):Int)) (yS (e:=IntKind.u8.wrap ((a % 128:Nat):Int)) yk (kE _)) (fw (.int .u8 ((((UInt8.ofNat (a % 128))+(128:UInt8)).toNat:Nat):Int)) (yS (e:=IntKind.u8.wrap ((((UInt8.ofNat (a % 128)).toNat:Nat):Int)+128)) yk (wC (UInt8.ofNat (a % 128)) (128:UInt8))) ?_))))))
 refine iX [.int .u8 ((((UInt8.ofNat (a % 128))+(128:UInt8)).toNat:Nat):Int)] 5 1 1 H ?_
 intro C E n
 replace n:Own w D E [row C 1 1 (List.flatMap eB ([((UInt8.ofNat (a % 128))+(128:UInt8))])) 5 1]:=n
 refine Mz rfl (fw (.int .u64 ((a / 128:Nat):Int)) (yS (e:=IntKind.u64.wrap (Int.tdiv ((a:Nat):Int) 128)) yk (by rw [show (128:Int)=((128:Nat):Int) from rfl,xk,IntWalk.u64_in _ (by omega)])) ?_)
 obtain⟨b,g⟩:∃ q,iV (a / 128)=q:=⟨_,rfl⟩
 obtain⟨O,t,K,u,L⟩:=yP n
 refine cl Tryz.call63 (self_ _ _ (a / 128) b t (by omega) (by omega) g) ?_
 rintro _ P ⟨Q,R,rfl,x,h,j⟩
 have y:=u _ _ x
 have M:=y.rowC (i:=0) rfl
 replace h:jI (a / 128) b.length:=h
 replace j:1≤b.length∧b.length≤10:=j
 have z:=y.pk [1,0]
 refine WL.do rfl (ze (k:=1) (m:=b.length) (bW) z rfl rfl (cz Tryz.underlying31 (z.rds (i:=1) rfl) (bK dA b)) rfl (by omega) (s:=List.length ([((UInt8.ofNat (a % 128))+(128:UInt8))]++b)) (by first | omega | (simp only [List.length_append,List.length_cons,List.length_nil] <;> omega)) (List.flatMap_append).symm ?_)
 intro F G S I
 have N:List.length ([((UInt8.ofNat (a % 128))+(128:UInt8))]++b)=1+b.length:=by simp only [List.length_append,List.length_cons,List.length_nil]
 refine An rfl (rt (rs ?_))
 have J:=I.pk [0]
 obtain rfl:_=([((UInt8.ofNat (a % 128))+(128:UInt8))]++b):=hr.symm.trans (et (lZ _) (et (iN f) (aa g)))
 exact⟨F,G,rfl,J,(by first | exact jI.one rfl | exact jI.step (by omega) (by assumption) (by simp only [List.length_append,List.length_cons,List.length_nil]; omega)),(by first | (exact zV (jI.one rfl) d) | (exact zV (jI.step (by omega) (by assumption) (by simp only [List.length_append,List.length_cons,List.length_nil]; omega)) d))⟩
 termination_by a
 decreasing_by all_goals omega
end Go.Proofs.YtccjclalngabhaaGreat
