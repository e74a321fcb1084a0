/-
 frame: bodies as datagrams, and back.
-/
import Derived.Test.YtccjclalngabhaaGreatWiS
import Derived.Test.YtccjclalngabhaaGreatKy
namespace Go.Proofs.YtccjclalngabhaaGreat
set_option maxRecDepth 100000
open Go.RowKit
set_option linter.unusedVariables false
set_option linter.unusedSectionVars false
set_option linter.unusedSimpArgs false
theorem bW:Elem Tryz.prog 31 5 1 1:=kT (z:= .int .u8 0) Tryz.underlying31 (by kernel_rfl) rfl (by decide)
theorem oW (w:World) (D:Nat→Prop) (b:Option Addr) (n0 g:Nat) (a:List UInt8) (c:Nat) (H:Own w D w []) (d:Ro w D fun w'=>bD w' 1 b n0 (List.flatMap eB a)) (f:n0=a.length) (i:a.length≤9223372036854775807) (j:a.length≤140737488355328) (hr:lL a=c):
    Calls Tryz.prog 53 #[.slice b n0 g] w (cO fun v w'=>v= .int .u32 ((c:Nat):Int)∧Own w D w' []∧(c≤4294967295)):=by
 subst f
 refine(Z.Sum_any g _ b a w (by unfold maxLen; omega) (uz (H.ro d))).mono fun e w' h=> ?_
 obtain⟨he,hb⟩:=h
 subst hr
 exact⟨_,he,rfl,H.grown hb,Nat.le_of_lt_succ (Z.sum_lt a)⟩
theorem ug (w:World) (D:Nat→Prop) (b:Option Addr) (n0 g:Nat) (a:List UInt8) (c:Nat) (H:Own w D w []) (d:Ro w D fun w'=>bD w' 1 b n0 (List.flatMap eB a)) (f:n0=a.length) (i:a.length≤9223372036854775807) (j:a.length≤140737488355328) (hr:nT a=c):
    Calls Tryz.prog 65 #[.slice b n0 g] w (cO fun v w'=>v= .int .u32 ((c:Nat):Int)∧Own w D w' []∧(c≤4294967295)):=by
 subst f
 refine(Z.rSum_any g _ b a w (by unfold maxLen; omega) (uz (H.ro d))).mono fun e w' h=> ?_
 obtain⟨he,hb⟩:=h
 subst hb
 subst hr
 exact⟨_,he,rfl,H,Nat.le_of_lt_succ (Z.sum_lt a)⟩
def iZ:Nat→Nat→List UInt8→Nat × (List UInt8)
  | 0,a,b=>default
  | c+1,a,b=>if((a:Nat):Int) ≥ 128 then iZ c (a / 128) (b++ [((UInt8.ofNat a) ||| (128:UInt8))]) else(a,b)
def dP (a:Nat):(List UInt8):=
 bnd (iZ (a+1) a ([])) fun sLrL=>(sLrL.2++ [(UInt8.ofNat sLrL.1)])
theorem gm (w:World) (D:Nat→Prop) (c:Nat) (n:List UInt8) (H:Own w D w []) (t:c≤18446744073709551615) (hr:dP c=n):
    Calls Tryz.prog 51 #[.int .u64 ((c:Nat):Int)] w (cO fun v w'=> ∃ (V:Option Addr) (W:Nat),v= .slice V n.length W∧Own w D w' [row V n.length W (List.flatMap eB n) 5 1]∧(1≤n.length∧n.length≤10)∧(c ≥ 128∨n.length=1)):=by
 refine yR (args:= [.int .u64 ((c:Nat):Int)]) Tryz.func51 rfl rfl rfl ?_
 show Wp _ _ _ [(0, .int .u64 ((c:Nat):Int))] _ _
 refine sr (Ar rfl ?_)
 refine WL.do rfl (AY (m:=10) (size:=1) (bytes:=1) (z:= .int .u8 0) Tryz.underlying31 (by kernel_rfl) H rfl rfl (by omega) (by unfold maxLen; omega) ?_)
 intro I ah J
 refine An rfl (yJ (bo ?_))
 have K:=J.pk [0]
 obtain⟨u,x⟩:∃ q:(Nat × (Option Addr) × Nat × (List UInt8) × Nat)→World→Prop,q=fun(i:Nat × (Option Addr) × Nat × (List UInt8) × Nat) w'=>Own w D w' [row i.2.1 i.2.2.2.1.length i.2.2.1 (List.flatMap eB i.2.2.2.1) 5 1]∧(iY i.2.2.2.1.length i.1∧i.2.2.2.1.length≤9∧(c ≥ 128∨(i.2.2.2.1.length=0∧i.1=c))∧i.1 < i.2.2.2.2∧iZ (c+1) c ([])=iZ i.2.2.2.2 i.1 i.2.2.2.1):=⟨_,rfl⟩
 have f:∀ {a:Nat} {g:Option Addr} {h:Nat} {b:List UInt8} {d:Nat} {w':World},u (a,g,h,b,d) w'↔Own w D w' [row g b.length h (List.flatMap eB b) 5 1]∧iY b.length a∧b.length≤9∧(c ≥ 128∨(b.length=0∧a=c))∧a < d∧iZ (c+1) c ([])=iZ d a b:=by intros; subst x; exact Iff.rfl
 refine Wp.loop (fun i:Nat × (Option Addr) × Nat × (List UInt8) × Nat=> [(0, .int .u64 ((i.1:Nat):Int)),(3, .slice i.2.1 i.2.2.2.1.length i.2.2.1),(2, .slice none 0 0)]) u (fun i=>i.2.2.2.2) (c,I,10, [],c+1) ⟨rfl,rfl,rfl,trivial⟩ (f.2 ⟨K,(show iY (0) c∧0≤9∧(c ≥ 128∨(0=0∧c=c))∧c < (c+1)∧iZ (c+1) c ([])=iZ (c+1) c ([]) from ⟨by first | exact iY.zero t | exact iY.step (by assumption) (by simp only [List.length_append,List.length_cons,List.length_nil]),by first | exact BJ _ | (have q9:=iY.le (by assumption) (by omega); simp only [List.length_append,List.length_cons,List.length_nil]; omega),by omega,by omega,rfl⟩)⟩) ?_
 rintro ⟨a,g,h,b,d⟩ aj A
 show Wp _ _ _ [(0, .int .u64 ((a:Nat):Int)),(3, .slice g b.length h),(2, .slice none 0 0)] _ _
 obtain⟨B,X,Y,Z,ae,l⟩:=f.1 A
 obtain⟨o,C⟩:∃ q,d=q+1:=⟨d - 1,by omega⟩
 subst C
 refine yJ (sr (Mz rfl (Kz (.bool (decide (((a:Nat):Int) ≥ 128))) (nt ?_))))
 by_cases j:((a:Nat):Int) ≥ 128
 refine jT (dT j) (sk (bo (sr (Mz rfl (Mz rfl (fw (.int .u8 (((UInt8.ofNat a).toNat:Nat):Int)) (yS (e:=IntKind.u8.wrap ((a:Nat):Int)) yk (kE _)) (fw (.int .u8 ((((UInt8.ofNat a) ||| (128:UInt8)).toNat:Nat):Int)) (yS (e:=IntKind.u8.wrap (((BitVec.ofInt 8 (((UInt8.ofNat a).toNat:Nat):Int) ||| BitVec.ofInt 8 128).toNat:Nat):Int)) yk (u8_or (UInt8.ofNat a) (128:UInt8))) ?_)))))))
 refine iX [.int .u8 ((((UInt8.ofNat a) ||| (128:UInt8)).toNat:Nat):Int)] 5 1 1 B ?_
 intro L ak p
 replace p:=zi (y:=row L 1 1 (List.flatMap eB ([((UInt8.ofNat a) ||| (128:UInt8))])) 5 1) rfl p
 have E:=p.pk [1,0]
 refine WL.do rfl (ze (k:=b.length) (m:=1) (bW) E rfl rfl (cz Tryz.underlying31 (E.rds (i:=1) rfl) (bK dA ([((UInt8.ofNat a) ||| (128:UInt8))]))) rfl (by omega) (s:=List.length (b++ [((UInt8.ofNat a) ||| (128:UInt8))])) (by first | omega | (simp only [List.length_append,List.length_cons,List.length_nil] <;> omega)) (List.flatMap_append).symm ?_)
 intro M N au O
 have af:List.length (b++ [((UInt8.ofNat a) ||| (128:UInt8))])=b.length+1:=by simp only [List.length_append,List.length_cons,List.length_nil]
 refine An rfl (yK (Mz rfl (fw (.int .u64 ((a / 128:Nat):Int)) (yS (e:=Int.fdiv ((a:Nat):Int) 128) yk (pU _ 7 _ (by decide))) (Az rfl (WL.nil (bN ?_))))))
 have P:=O.pk [0]
 exact yY (a / 128,M,N,(b++ [((UInt8.ofNat a) ||| (128:UInt8))]),o) ⟨rfl,rfl,rfl,trivial⟩ (f.2 ⟨P,by first | exact iY.zero t | exact iY.step (by assumption) (by simp only [List.length_append,List.length_cons,List.length_nil]),by first | exact BJ _ | (have q9:=iY.le (by assumption) (by omega); simp only [List.length_append,List.length_cons,List.length_nil]; omega),by omega,by omega,Eq.trans (l) (if_pos j)⟩) (by show o < o+1; omega)
 refine jF (dF j) (Wp.exit (yV ?_))
 have F:iZ (c+1) c ([])=(a,b):=et (l) (iN j)
 refine yV (y8 (yL (sr (Mz rfl (Mz rfl (fw (.int .u8 (((UInt8.ofNat a).toNat:Nat):Int)) (yS (e:=IntKind.u8.wrap ((a:Nat):Int)) yk (kE _)) ?_))))))
 refine iX [.int .u8 (((UInt8.ofNat a).toNat:Nat):Int)] 5 1 1 B ?_
 intro Q av r
 replace r:=zi (y:=row Q 1 1 (List.flatMap eB ([(UInt8.ofNat a)])) 5 1) rfl r
 have G:=r.pk [1,0]
 refine WL.do rfl (ze (k:=b.length) (m:=1) (bW) G rfl rfl (cz Tryz.underlying31 (G.rds (i:=1) rfl) (bK dA ([(UInt8.ofNat a)]))) rfl (by omega) (s:=List.length (b++ [(UInt8.ofNat a)])) (by first | omega | (simp only [List.length_append,List.length_cons,List.length_nil] <;> omega)) (List.flatMap_append).symm ?_)
 intro R S ax T
 have ag:List.length (b++ [(UInt8.ofNat a)])=b.length+1:=by simp only [List.length_append,List.length_cons,List.length_nil]
 refine An rfl (rt (rs ?_))
 have U:=T.pk [0]
 obtain rfl:_=(b++ [(UInt8.ofNat a)]):=hr.symm.trans (aa F)
 exact⟨R,S,rfl,U,(by first | omega | (simp only [List.length_cons,List.length_nil,List.length_append]; omega)),(by first | omega | (simp only [List.length_cons,List.length_nil,List.length_append]; omega))⟩
def kw (c:List UInt8):(List UInt8) × Int:=
 if((c.length:Nat):Int) > 4096 then([],2) else bnd (dP c.length) fun b=>bnd (lL (([83]++b)++c)) fun a=>(((([83]++b)++c)++ [(UInt8.ofNat a),(UInt8.ofNat (a / 256)),(UInt8.ofNat (a / 65536)),(UInt8.ofNat (a / 16777216))]),0)
theorem oK (w:World) (D:Nat→Prop) (G:Option Addr) (n0 I:Nat) (c:List UInt8) (o:List UInt8) (r1:Int) (H:Own w D w []) (J:Ro w D fun w'=>bD w' 1 G n0 (List.flatMap eB c)) (K:n0=c.length) (aB:c.length *1≤211106232532992) (hr:kw c=(o,r1)):
    Calls Tryz.prog 17 #[.slice G n0 I] w (cO fun v w'=> ∃ (B0:Option Addr) (b0:Nat),v= .tuple #[.slice B0 o.length b0, .int .i64 r1]∧Own w D w' [row B0 o.length b0 (List.flatMap eB o) 5 1]∧(o.length≤c.length+15)):=by
 subst K
 refine yR (args:= [.slice G c.length I]) Tryz.func17 rfl rfl rfl ?_
 show Wp _ _ _ [(0, .slice G c.length I)] _ _
 refine sr (Az rfl (An rfl (yJ (sr (Mz rfl (Kz (.int .i64 ((c.length:Nat):Int)) (Kz (.bool (decide (((c.length:Nat):Int) > 4096))) (nt ?_))))))))
 by_cases d:((c.length:Nat):Int) > 4096
 refine jT (dT d) (sr (Az rfl (An rfl (rt (tR (y9 (gD rfl rfl rfl) ?_))))))
 have L:Own w D w [row none 0 0 (List.flatMap eB ([])) 5 1]:=H.free (bP 5 1)
 have M:=L.pk [0]
 have e:kw c=([],2):=ip d
 obtain⟨rfl,rfl⟩:=dN (e.symm.trans hr)
 exact⟨none,0,rfl,M,(by first | omega | (simp only [List.length_cons,List.length_nil,List.length_append]; omega) | exact BJ _)⟩
 refine jF (dF d) (sk (sr ?_))
 refine iX [.int .u8 83] 5 1 1 H ?_
 intro N O n
 replace n:Own w D O [row N 1 1 (List.flatMap eB ([83])) 5 1]:=n
 refine Mz rfl (Kz (.int .i64 ((c.length:Nat):Int)) (fw (.int .u64 ((c.length:Nat):Int)) (yS (e:=IntKind.u64.wrap ((c.length:Nat):Int)) yk (IntWalk.u64_in _ (by omega))) ?_))
 obtain⟨b,f⟩:∃ q,dP c.length=q:=⟨_,rfl⟩
 obtain⟨aC,p,ak,r,au⟩:=yP n
 refine cl Tryz.call51 (gm _ _ c.length b p (by omega) f) ?_
 rintro _ aD ⟨aF,aG,rfl,t,g,h⟩
 have u:=r _ _ t
 have av:=u.rowC (i:=0) rfl
 replace g:1≤b.length∧b.length≤10:=g
 replace h:c.length ≥ 128∨b.length=1:=h
 have x:=u.pk [1,0]
 refine WL.do rfl (ze (k:=1) (m:=b.length) (bW) x rfl rfl (cz Tryz.underlying31 (x.rds (i:=1) rfl) (bK dA b)) rfl (by omega) (s:=List.length ([83]++b)) (by first | omega | (simp only [List.length_append,List.length_cons,List.length_nil] <;> omega)) (List.flatMap_append).symm ?_)
 intro aH aI aJ P
 have ax:List.length ([83]++b)=1+b.length:=by simp only [List.length_append,List.length_cons,List.length_nil]
 refine An rfl (yJ ?_)
 have y:=P.pk [0]
 refine yK (Mz rfl (Mz rfl ?_))
 refine WL.do rfl (ze (k:=List.length ([83]++b)) (m:=c.length) (bW) y rfl rfl (cz Tryz.underlying31 (y.ro J) (bK dA c)) rfl (by omega) (s:=List.length (([83]++b)++c)) (by first | omega | (simp only [List.length_append,List.length_cons,List.length_nil] <;> omega)) (List.flatMap_append).symm ?_)
 intro Q R aK S
 have ay:List.length (([83]++b)++c)=(List.length ([83]++b))+c.length:=by simp only [List.length_append,List.length_cons,List.length_nil]
 refine Ar rfl (Mz rfl ?_)
 obtain⟨a,j⟩:∃ q,lL (([83]++b)++c)=q:=⟨_,rfl⟩
 obtain⟨aL,z,az,A,B⟩:=yP S
 refine cl Tryz.call53 (oW _ _ Q (List.length (([83]++b)++c)) R (([83]++b)++c) a z (B _ 0 _ rfl bI) rfl (by first | omega | (simp only [List.length_append,List.length_cons,List.length_nil,List.length_take,List.length_drop,List.length_set]; omega)) (by first | omega | (simp only [List.length_cons,List.length_nil,List.length_append]; omega)) j) ?_
 rintro _ aM ⟨rfl,C,l⟩
 have T:=A _ _ C
 replace l:a≤4294967295:=l
 refine WL.do rfl (zf Tryz.call52 rfl ?_ (fun _ _ k=>k))
 refine yR (args:= [.int .u32 ((a:Nat):Int)]) Tryz.func52 rfl rfl rfl ?_
 show Wp _ _ _ [(0, .int .u32 ((a:Nat):Int))] _ _
 refine sr ?_
 refine dE [.int .u8 0, .int .u8 0, .int .u8 0, .int .u8 0] 90 T ?_
 intro aN aO U
 refine ns (Mz rfl (fw (.int .u8 (((UInt8.ofNat a).toNat:Nat):Int)) (yS (e:=IntKind.u8.wrap ((a:Nat):Int)) yk (kE _)) (Mz rfl (fw (.int .u32 ((a / 256:Nat):Int)) (yS (e:=Int.fdiv ((a:Nat):Int) 256) yk (pU _ 8 _ (by decide))) (fw (.int .u8 (((UInt8.ofNat (a / 256)).toNat:Nat):Int)) (yS (e:=IntKind.u8.wrap ((a / 256:Nat):Int)) yk (kE _)) (Mz rfl (fw (.int .u32 ((a / 65536:Nat):Int)) (yS (e:=Int.fdiv ((a:Nat):Int) 65536) yk (pU _ 16 _ (by decide))) (fw (.int .u8 (((UInt8.ofNat (a / 65536)).toNat:Nat):Int)) (yS (e:=IntKind.u8.wrap ((a / 65536:Nat):Int)) yk (kE _)) (Mz rfl (fw (.int .u32 ((a / 16777216:Nat):Int)) (yS (e:=Int.fdiv ((a:Nat):Int) 16777216) yk (pU _ 24 _ (by decide))) (fw (.int .u8 (((UInt8.ofNat (a / 16777216)).toNat:Nat):Int)) (yS (e:=IntKind.u8.wrap ((a / 16777216:Nat):Int)) yk (kE _)) (Kz (.agg #[.int .u8 (((UInt8.ofNat a).toNat:Nat):Int), .int .u8 (((UInt8.ofNat (a / 256)).toNat:Nat):Int), .int .u8 (((UInt8.ofNat (a / 65536)).toNat:Nat):Int), .int .u8 (((UInt8.ofNat (a / 16777216)).toNat:Nat):Int)]) ?_))))))))))))
 refine bz [.int .u8 (((UInt8.ofNat a).toNat:Nat):Int), .int .u8 (((UInt8.ofNat (a / 256)).toNat:Nat):Int), .int .u8 (((UInt8.ofNat (a / 65536)).toNat:Nat):Int), .int .u8 (((UInt8.ofNat (a / 16777216)).toNat:Nat):Int)] 0 U Tryz.sizeOf90 ?_
 intro aP E
 refine nt (rt (y9 (l6 rfl rfl (zg (cs:= [.int .u8 (((UInt8.ofNat a).toNat:Nat):Int), .int .u8 (((UInt8.ofNat (a / 256)).toNat:Nat):Int), .int .u8 (((UInt8.ofNat (a / 65536)).toNat:Nat):Int), .int .u8 (((UInt8.ofNat (a / 16777216)).toNat:Nat):Int)]) Tryz.isAgg90 Tryz.sizeOf90 ((E.cls (i:=0) rfl).lit (k:=0) (m:=4) rfl))) ?_))
 refine dE [.int .u8 0, .int .u8 0, .int .u8 0, .int .u8 0] 90 E ?_
 intro V aQ W
 refine bz [.int .u8 (((UInt8.ofNat a).toNat:Nat):Int), .int .u8 (((UInt8.ofNat (a / 256)).toNat:Nat):Int), .int .u8 (((UInt8.ofNat (a / 65536)).toNat:Nat):Int), .int .u8 (((UInt8.ofNat (a / 16777216)).toNat:Nat):Int)] 0 W Tryz.sizeOf90 ?_
 intro aR X
 refine nt (yJ ?_)
 have Y:=X.pk [0,2]
 refine yK (Mz rfl (Kz (.slice (some ⟨V,0,none⟩) 4 4) ?_))
 have F:=Y.pk [1,0]
 refine WL.do rfl (ze (k:=List.length (([83]++b)++c)) (m:=4) (bW) F rfl rfl (cz Tryz.underlying31 (wh (xs:=List.flatMap eB [(UInt8.ofNat a),(UInt8.ofNat (a / 256)),(UInt8.ofNat (a / 65536)),(UInt8.ofNat (a / 16777216))]) (F.cls (i:=1) rfl) rfl rfl) (bK dA ([(UInt8.ofNat a),(UInt8.ofNat (a / 256)),(UInt8.ofNat (a / 65536)),(UInt8.ofNat (a / 16777216))]))) rfl (by omega) (s:=List.length ((([83]++b)++c)++ [(UInt8.ofNat a),(UInt8.ofNat (a / 256)),(UInt8.ofNat (a / 65536)),(UInt8.ofNat (a / 16777216))])) (by first | omega | (simp only [List.length_append,List.length_cons,List.length_nil] <;> omega)) (List.flatMap_append).symm ?_)
 intro Z ae aS af
 have aA:List.length ((([83]++b)++c)++ [(UInt8.ofNat a),(UInt8.ofNat (a / 256)),(UInt8.ofNat (a / 65536)),(UInt8.ofNat (a / 16777216))])=(List.length (([83]++b)++c))+4:=by simp only [List.length_append,List.length_cons,List.length_nil]
 refine Az rfl (An rfl (rt (y9 (gD rfl rfl rfl) ?_)))
 have ag:=af.pk [0]
 have e:kw c=(((([83]++b)++c)++ [(UInt8.ofNat a),(UInt8.ofNat (a / 256)),(UInt8.ofNat (a / 65536)),(UInt8.ofNat (a / 16777216))]),0):=et (iN d) (et (aa f) (aa j))
 obtain⟨rfl,rfl⟩:=dN (e.symm.trans hr)
 exact⟨Z,ae,rfl,ag,(by first | omega | (simp only [List.length_cons,List.length_nil,List.length_append]; omega) | exact BJ _)⟩
def dI:List UInt8→Nat→Unit ⊕ Int
  | [],a=>Sum.inl ()
  | b::c,a=>if((a:Nat):Int)=10 then Sum.inr (0) else if((b.toNat:Nat):Int) < 128 then Sum.inr ((a+1:Nat):Int) else dI c (a+1)
def iK (a:List UInt8):Int:=
 lp (dI a 0) fun _=>0
theorem qx (w:World) (D:Nat→Prop) (l:Option Addr) (n0 p:Nat) (b:List UInt8) (r:Int) (H:Own w D w []) (n:Ro w D fun w'=>bD w' 1 l n0 (List.flatMap eB b)) (z:n0=b.length) (J:b.length≤9223372036854775807) (hr:iK b=r):
    Calls Tryz.prog 108 #[.slice l n0 p] w (cO fun v w'=>v= .int .i64 r∧Own w D w' []∧(0≤r∧r≤10∧r≤((b.length:Nat):Int))):=by
 subst z
 refine yR (args:= [.slice l b.length p]) Tryz.func108 rfl rfl rfl ?_
 show Wp _ _ _ [(0, .slice l b.length p)] _ _
 refine sr (An rfl (yJ (sr (Mz rfl (Kz (.int .i64 ((b.length:Nat):Int)) (Mn rfl (bo ?_)))))))
 have A:Own w D w []:=H.pk []
 obtain⟨s,t⟩:∃ q:Nat→World→Prop,q=fun(i:Nat) w'=>Own w D w' []∧(i≤b.length∧i≤10∧dI b 0=dI (List.drop i b) i):=⟨_,rfl⟩
 have f:∀ {a:Nat} {w':World},s a w'↔Own w D w' []∧a≤b.length∧a≤10∧dI b 0=dI (List.drop a b) a:=by intros; subst t; exact Iff.rfl
 refine Wp.loop (fun i:Nat=> [(2, .int .i64 0),(7, .int .i64 ((i:Nat):Int)),(6, .int .i64 ((b.length:Nat):Int)),(5, .slice l b.length p)]) s (fun i=>b.length - i) 0 ⟨rfl,rfl,rfl,rfl,trivial⟩ (f.2 ⟨A,by omega,by omega,rfl⟩) ?_
 rintro a K u
 show Wp _ _ _ [(2, .int .i64 0),(7, .int .i64 ((a:Nat):Int)),(6, .int .i64 ((b.length:Nat):Int)),(5, .slice l b.length p)] _ _
 obtain⟨c,G,I,d⟩:=f.1 u
 refine sr (Kz (.bool (decide (((a:Nat):Int) < ((b.length:Nat):Int)))) (nt (yJ ?_)))
 by_cases x:((a:Nat):Int) < ((b.length:Nat):Int)
 obtain⟨o,m⟩:=dV (ls:=b) (i:=a) ay (by decide) (c.ro n) (by first | omega | (simp; done) | (simp; omega))
 have g:=drop_at m
 refine jT (dT x) (sk (yJ (bo (sr (Mz rfl (fw (.pointer (some ⟨ab l,ao l+a *1,none⟩)) (yZ (bW) rfl rfl ((c.ro n).addr (i:=a) (by omega)) (by omega)) (fw (.int .u8 ((o.toNat:Nat):Int)) (y5 rfl (bn.one Tryz.isAgg5 (((c.ro n).elem ay m (by decide)).at_ (k:=0) rfl))) (Az rfl (An rfl (yJ (sr (Mz rfl (Kz (.bool (decide (((a:Nat):Int)=10))) (nt ?_))))))))))))))
 by_cases h:((a:Nat):Int)=10
 refine jT (dT h) (sr (An rfl (rt (tR (bR (tR (tR (bR (tR (rs ?_))))))))))
 have B:=c.pk []
 obtain rfl:_=0:=hr.symm.trans (iG (et (d) (et (congrArg (fun q=>dI q a) g) (ip h))))
 exact⟨rfl,B,(by omega)⟩
 refine jF (dF h) (sk (sr (Mz rfl (Kz (.bool (decide (((o.toNat:Nat):Int) < 128))) (nt ?_)))))
 by_cases j:((o.toNat:Nat):Int) < 128
 refine jT (dT j) (sr (Mz rfl (fw (.int .i64 ((a+1:Nat):Int)) (yS (e:=IntKind.i64.wrap (((a:Nat):Int)+1)) yk (by rw [BI _ (by omega)]; omega)) (An rfl (rt (bR (tR (tR (bR (tR (rs ?_)))))))))))
 have C:=c.pk []
 obtain rfl:_=((a+1:Nat):Int):=hr.symm.trans (iG (et (d) (et (congrArg (fun q=>dI q a) g) (et (iN h) (ip j)))))
 exact⟨rfl,C,(by omega)⟩
 refine jF (dF j) (zm (bN (yL (yK (fw (.int .i64 ((a+1:Nat):Int)) (yS (e:=IntKind.i64.wrap (((a:Nat):Int)+1)) yk (by rw [BI _ (by omega)]; omega)) (Mz rfl (WL.nil ?_)))))))
 have E:=c.pk []
 exact yY (a+1) ⟨rfl,rfl,rfl,rfl,trivial⟩ (f.2 ⟨E,by omega,by omega,et (d) (et (congrArg (fun q=>dI q a) g) (et (iN h) (iN j)))⟩) (by show b.length - (a+1) < b.length - a; omega)
 refine jF (dF x) (Wp.exit (yV ?_))
 have y:dI b 0=Sum.inl ():=et (d) (et (congrArg (fun q=>dI q a) (dZ (ls:=b) (i:=a) (by omega))) rfl)
 refine yV (y8 (yL (sr (An rfl (rt (rs ?_))))))
 have F:=c.pk []
 obtain rfl:_=0:=hr.symm.trans (kG y)
 exact⟨rfl,F,(by omega)⟩
def eH (f:List UInt8) (c:Int):Nat→Nat→Nat→Nat
  | 0,b,a=>b
  | e+1,b,a=>bnd (List.getD (List.take (Int.toNat c) f) a default) fun d=>eH f c e (aZ b (kM ((d &&& (127:UInt8)).toNat) (7 *a))) (a+1)
def dU (c:List UInt8):Nat × Int × Int:=
 bnd (iK c) fun a=>if a=0 then if((c.length:Nat):Int) ≥ 10 then(0,0,11) else(0,0,10) else bnd (List.getD c (Int.toNat (a - 1)) default) fun b=>bnd (if a > 1 then if((b.toNat:Nat):Int)=0 then true else if a=10 then decide (((b.toNat:Nat):Int) > 1) else false else false) fun sJrbfbJ=>if sJrbfbJ=true then(0,0,11) else bnd (eH c a (Int.toNat a) 0 0) fun sLrbfbJafL=>(sLrbfbJafL,a,0)
theorem lw (w:World) (D:Nat→Prop) (t:Option Addr) (n0 E:Nat) (d:List UInt8) (Z:Nat) (L:Int) (r2:Int) (H:Own w D w []) (s:Ro w D fun w'=>bD w' 1 t n0 (List.flatMap eB d)) (af:n0=d.length) (aI:d.length≤9223372036854775807) (aJ:d.length≤E) (hr:dU d=(Z,L,r2)):
    Calls Tryz.prog 77 #[.slice t n0 E] w (cO fun v w'=>v= .tuple #[.int .u64 ((Z:Nat):Int), .int .i64 L, .int .i64 r2]∧Own w D w' []∧(¬ (r2=0)∨(1≤L∧L≤10∧L≤((d.length:Nat):Int)))∧(Z≤18446744073709551615)):=by
 subst af
 refine yR (args:= [.slice t d.length E]) Tryz.func77 rfl rfl rfl ?_
 show Wp _ _ _ [(0, .slice t d.length E)] _ _
 refine sr (Az rfl (Az rfl (Ar rfl (Mz rfl ?_))))
 obtain⟨a,o⟩:∃ q,iK d=q:=⟨_,rfl⟩
 obtain⟨aK,M,N,O,aB⟩:=yP H
 refine cl Tryz.call108 (qx _ _ t d.length E d a M (N _ s) rfl (by omega) o) ?_
 rintro _ aL ⟨rfl,P,G⟩
 have l:=O _ _ P
 replace G:0≤a∧a≤10∧a≤((d.length:Nat):Int):=G
 refine An rfl (yJ (sr (Mz rfl (Kz (.bool (decide (a=0))) (nt ?_)))))
 by_cases u:a=0
 refine jT (dT u) (yJ (sr (Mz rfl (Kz (.int .i64 ((d.length:Nat):Int)) (Kz (.bool (decide (((d.length:Nat):Int) ≥ 10))) (nt ?_))))))
 by_cases F:((d.length:Nat):Int) ≥ 10
 refine jT (dT F) (sr (Az rfl (Az rfl (An rfl (rt (tR (tR (y9 (kF rfl rfl rfl rfl) ?_))))))))
 have ag:=l.pk []
 have e:dU d=(0,0,11):=et (aa o) (et (ip u) (ip F))
 obtain⟨rfl,rfl,rfl⟩:=l5 (e.symm.trans hr)
 exact⟨rfl,ag,(by omega),(by omega)⟩
 refine jF (dF F) (sk (sr (Az rfl (Az rfl (An rfl (rt (tR (y9 (kF rfl rfl rfl rfl) ?_))))))))
 have ah:=l.pk []
 have e:dU d=(0,0,10):=et (aa o) (et (ip u) (iN F))
 obtain⟨rfl,rfl,rfl⟩:=l5 (e.symm.trans hr)
 exact⟨rfl,ah,(by omega),(by omega)⟩
 refine jF (dF u) (sk (sr (Mz rfl (Mz rfl (fw (.int .i64 ((Int.toNat (a - 1):Nat):Int)) (yS (e:=IntKind.i64.wrap (a - 1)) yk (by rw [BI _ (by omega)]; omega)) ?_)))))
 obtain⟨f,x⟩:=dV (ls:=d) (i:=Int.toNat (a - 1)) ay (by decide) (l.ro s) (by first | omega | (simp; done) | (simp; omega))
 refine fw (.pointer (some ⟨ab t,ao t+(Int.toNat (a - 1)) *1,none⟩)) (yZ (bW) rfl rfl ((l.ro s).addr (i:=Int.toNat (a - 1)) (by omega)) (by omega)) (fw (.int .u8 ((f.toNat:Nat):Int)) (y5 rfl (bn.one Tryz.isAgg5 (((l.ro s).elem ay x (by decide)).at_ (k:=0) rfl))) (An rfl (yJ (yJ ?_))))
 obtain⟨Q,R⟩:∃ q:Bool→World→Prop,q=fun(i:Bool) w'=>Own w D w' []∧((if a > 1 then if((f.toNat:Nat):Int)=0 then true else if a=10 then decide (((f.toNat:Nat):Int) > 1) else false else false)=i):=⟨_,rfl⟩
 have p:∀ {y:Bool} {w':World},Q y w'↔Own w D w' []∧(if a > 1 then if((f.toNat:Nat):Int)=0 then true else if a=10 then decide (((f.toNat:Nat):Int) > 1) else false else false)=y:=by intros; subst R; exact Iff.rfl
 refine zD (fun i:Bool=> [(35, .bool i),(5, .int .i64 a),(4, .int .i64 0),(3, .int .i64 0),(2, .int .u64 0),(0, .slice t d.length E)]) Q ?_ ?_
 refine yK (Mz rfl (Kz (.bool (decide (a > 1))) (Mz rfl ?_)))
 by_cases j:a > 1
 refine gw (.int .u8 ((f.toNat:Nat):Int)) (dT j) (yO rfl) (Gz (.bool (decide (((f.toNat:Nat):Int)=0))) (dT j) (fw (.bool (decide (((f.toNat:Nat):Int)=0))) (yN rfl (dT j) rfl) (Mz rfl ?_)))
 by_cases c:((f.toNat:Nat):Int)=0
 refine Sz (dT c) (Sz (dT c) (Sz (dT c) (yX rfl rfl rfl (yX rfl rfl rfl (Sz (dT c) (fw (.bool true) (yN rfl (dT c) rfl) (WL.nil ?_)))))))
 have ai:=l.pk []
 exact zu true ⟨rfl,rfl,rfl,rfl,rfl,rfl,trivial⟩ (p.2 ⟨ai,et (ip j) (ip c)⟩)
 refine gw (.int .i64 a) (dF c) (yO rfl) (Gz (.bool (decide (a=10))) (dF c) (gw (.bool (decide (a=10))) (dF c) (yO rfl) ?_))
 by_cases r:a=10
 refine gw (.int .u8 ((f.toNat:Nat):Int)) (dT r) (yO rfl) (Gz (.bool (decide (((f.toNat:Nat):Int) > 1))) (dT r) (gw (.bool (decide (((f.toNat:Nat):Int) > 1))) (dF c) (yN rfl (dT r) rfl) (fw (.bool (decide (((f.toNat:Nat):Int) > 1))) (yM rfl (dF c) rfl) (WL.nil ?_))))
 have aj:=l.pk []
 exact zu (decide (((f.toNat:Nat):Int) > 1)) ⟨rfl,rfl,rfl,rfl,rfl,rfl,trivial⟩ (p.2 ⟨aj,et (ip j) (et (iN c) (ip r))⟩)
 refine Sz (dF r) (Sz (dF r) (gw (.bool false) (dF c) (yM rfl (dF r) rfl) (fw (.bool false) (yM rfl (dF c) rfl) (WL.nil ?_))))
 have ak:=l.pk []
 exact zu false ⟨rfl,rfl,rfl,rfl,rfl,rfl,trivial⟩ (p.2 ⟨ak,et (ip j) (et (iN c) (iN r))⟩)
 refine Sz (dF j) (Sz (dF j) (fw (.bool false) (yM rfl (dF j) rfl) (Mz rfl (gw (.int .i64 a) rfl (yO rfl) (Gz (.bool (decide (a=10))) rfl (gw (.bool (decide (a=10))) rfl (yO rfl) ?_))))))
 have z:(decide (a=10))=false:=(dF (by omega))
 refine Sz z (Sz z (gw (.bool false) rfl (yM rfl z rfl) (fw (.bool false) (yM rfl rfl rfl) (WL.nil ?_))))
 have au:=l.pk []
 exact zu false ⟨rfl,rfl,rfl,rfl,rfl,rfl,trivial⟩ (p.2 ⟨au,iN j⟩)
 rintro y aM S
 show Wp _ _ _ [(35, .bool y),(5, .int .i64 a),(4, .int .i64 0),(3, .int .i64 0),(2, .int .u64 0),(0, .slice t d.length E)] _ _
 obtain⟨T,I⟩:=p.1 S
 rcases BL (y) with A | A
 refine jT A (sr (Az rfl (Az rfl (An rfl (rt (tR (y9 (kF rfl rfl rfl rfl) ?_)))))))
 have av:=T.pk []
 have e:dU d=(0,0,11):=et (aa o) (et (iN u) (et (aa (dh x)) (et (aa I) (ip A))))
 obtain⟨rfl,rfl,rfl⟩:=l5 (e.symm.trans hr)
 exact⟨rfl,av,(by omega),(by omega)⟩
 refine jF A (sk (sr (An rfl (yJ (sr (Mz rfl (fw (.int .i64 ((Int.toNat a:Nat):Int)) (yS (e:=a) (yO rfl) (by omega)) (fw (.slice t (Int.toNat a) E) (zZ (bW) rfl rfl (by omega)) (Kz (.int .i64 ((Int.toNat a:Nat):Int)) (Mn rfl (bo ?_)))))))))))
 have ax:=T.pk []
 obtain⟨U,V⟩:∃ q:(Nat × Nat)→World→Prop,q=fun(i:Nat × Nat) w'=>Own w D w' []∧(i.2≤Int.toNat a∧(i.1≤18446744073709551615∧i.2≤18446744073709551615)∧eH d a (Int.toNat a) 0 0=eH d a ((Int.toNat a) - i.2) i.1 i.2):=⟨_,rfl⟩
 have B:∀ {g:Nat} {b:Nat} {w':World},U (g,b) w'↔Own w D w' []∧b≤Int.toNat a∧(g≤18446744073709551615∧b≤18446744073709551615)∧eH d a (Int.toNat a) 0 0=eH d a ((Int.toNat a) - b) g b:=by intros; subst V; exact Iff.rfl
 refine Wp.loop (fun i:Nat × Nat=> [(7, .int .u64 ((i.1:Nat):Int)),(40, .int .i64 ((i.2:Nat):Int)),(39, .int .i64 ((Int.toNat a:Nat):Int)),(38, .slice t (Int.toNat a) E),(5, .int .i64 a),(4, .int .i64 0),(3, .int .i64 0),(2, .int .u64 0)]) U (fun i=>(Int.toNat a) - i.2) (0,0) ⟨rfl,rfl,rfl,rfl,rfl,rfl,rfl,rfl,trivial⟩ (B.2 ⟨ax,by omega,by omega,rfl⟩) ?_
 rintro ⟨g,b⟩ aN W
 show Wp _ _ _ [(7, .int .u64 ((g:Nat):Int)),(40, .int .i64 ((b:Nat):Int)),(39, .int .i64 ((Int.toNat a:Nat):Int)),(38, .slice t (Int.toNat a) E),(5, .int .i64 a),(4, .int .i64 0),(3, .int .i64 0),(2, .int .u64 0)] _ _
 obtain⟨C,aC,aD,J⟩:=B.1 W
 refine sr (Kz (.bool (decide (((b:Nat):Int) < ((Int.toNat a:Nat):Int)))) (nt (yJ ?_)))
 by_cases X:((b:Nat):Int) < ((Int.toNat a:Nat):Int)
 refine jT (dT X) (sk (yJ (bo (sr (Mz rfl ?_)))))
 obtain⟨h,K⟩:=dV (ls:=(List.take (Int.toNat a) d)) (i:=b) ay (by decide) (zJ (hi:=Int.toNat a) ay (C.ro s) (by omega)) (by first | omega | (simp; done) | (simp; omega))
 refine fw (.pointer (some ⟨ab t,ao t+b *1,none⟩)) (yZ (bW) rfl rfl ((zJ (hi:=Int.toNat a) ay (C.ro s) (by omega)).addr (i:=b) (by omega)) (by omega)) (fw (.int .u8 ((h.toNat:Nat):Int)) (y5 rfl (bn.one Tryz.isAgg5 (((zJ (hi:=Int.toNat a) ay (C.ro s) (by omega)).elem ay K (by decide)).at_ (k:=0) rfl))) (Az rfl (An rfl (yK (Mz rfl (Mz rfl (fw (.int .u8 (((h &&& (127:UInt8)).toNat:Nat):Int)) (yS (e:=IntKind.u8.wrap (((BitVec.ofInt 8 ((h.toNat:Nat):Int) &&& BitVec.ofInt 8 127).toNat:Nat):Int)) yk (u8_and h (127:UInt8))) ?_)))))))
 have aF:(h &&& (127:UInt8)).toNat≤255:=Nat.le_of_lt_succ (UInt8.toNat_lt _)
 refine fw (.int .u64 (((h &&& (127:UInt8)).toNat:Nat):Int)) (yS (e:=IntKind.u64.wrap (((h &&& (127:UInt8)).toNat:Nat):Int)) yk (IntWalk.u64_in _ (by omega))) (Mz rfl (fw (.int .u64 ((b:Nat):Int)) (yS (e:=IntKind.u64.wrap ((b:Nat):Int)) yk (IntWalk.u64_in _ (by omega))) (fw (.int .u64 ((7 *b:Nat):Int)) (yS (e:=IntKind.u64.wrap (7 *((b:Nat):Int))) yk (by rw [IntWalk.u64_in _ (by omega)]; omega)) ?_)))
 have aG:kM ((h &&& (127:UInt8)).toNat) (7 *b)≤18446744073709551615:=uy _ _
 refine fw (.int .u64 ((kM ((h &&& (127:UInt8)).toNat) (7 *b):Nat):Int)) (yS (zQ (m:=7 *b) rfl rfl) (gJ _)) ?_
 have aH:aZ g (kM ((h &&& (127:UInt8)).toNat) (7 *b))≤18446744073709551615:=iC _ _
 refine fw (.int .u64 ((aZ g (kM ((h &&& (127:UInt8)).toNat) (7 *b)):Nat):Int)) (yS (e:=IntKind.u64.wrap (((BitVec.ofInt 64 ((g:Nat):Int) ||| BitVec.ofInt 64 ((kM ((h &&& (127:UInt8)).toNat) (7 *b):Nat):Int)).toNat:Nat):Int)) yk (gJ _)) (Az rfl (WL.nil (bN (yL (yK (fw (.int .i64 ((b+1:Nat):Int)) (yS (e:=IntKind.i64.wrap (((b:Nat):Int)+1)) yk (by rw [BI _ (by omega)]; omega)) (Mz rfl (WL.nil ?_))))))))
 have az:=C.pk []
 exact yY (aZ g (kM ((h &&& (127:UInt8)).toNat) (7 *b)),b+1) ⟨rfl,rfl,rfl,rfl,rfl,rfl,rfl,rfl,trivial⟩ (B.2 ⟨az,by omega,by omega,et (J) (et (congrArg (fun q=>eH d a q g b) (mo (n:=Int.toNat a) (i:=b) (by omega))) (aa (dh K)))⟩) (by show (Int.toNat a) - (b+1) < (Int.toNat a) - b; omega)
 refine jF (dF X) (Wp.exit (yV ?_))
 have Y:eH d a (Int.toNat a) 0 0=g:=et (J) (et (congrArg (fun q=>eH d a q g b) (mU (n:=Int.toNat a) (i:=b) (by omega))) rfl)
 refine yV (y8 (yL (sr (Mz rfl (Mz rfl (Az rfl (Az rfl (An rfl (rt (y9 (kF rfl rfl rfl rfl) ?_))))))))))
 have aA:=C.pk []
 have e:dU d=(g,a,0):=et (aa o) (et (iN u) (et (aa (dh x)) (et (aa I) (et (dz A) (aa Y)))))
 obtain⟨rfl,rfl,rfl⟩:=l5 (e.symm.trans hr)
 exact⟨rfl,aA,(by omega),(by omega)⟩
def iI (a:List UInt8):Nat × Int:=
 if((a.length:Nat):Int) < 4 then(0,10) else bnd (List.getD a 0 default) fun b=>bnd (List.getD a 1 default) fun c=>bnd (List.getD a 2 default) fun d=>bnd (List.getD a 3 default) fun e=>(d9 (d9 (d9 b.toNat (cu c.toNat 8)) (cu d.toNat 16)) (cu e.toNat 24),0)
theorem oZ (w:World) (D:Nat→Prop) (h:Option Addr) (n0 s:Nat) (f:List UInt8) (y:Nat) (z:Int) (H:Own w D w []) (g:Ro w D fun w'=>bD w' 1 h n0 (List.flatMap eB f)) (t:n0=f.length) (M:f.length *1≤211106232532992) (hr:iI f=(y,z)):
    Calls Tryz.prog 76 #[.slice h n0 s] w (cO fun v w'=>v= .tuple #[.int .u32 ((y:Nat):Int), .int .i64 z]∧Own w D w' []):=by
 subst t
 refine yR (args:= [.slice h f.length s]) Tryz.func76 rfl rfl rfl ?_
 show Wp _ _ _ [(0, .slice h f.length s)] _ _
 refine sr (Az rfl (An rfl (yJ (sr (Mz rfl (Kz (.int .i64 ((f.length:Nat):Int)) (Kz (.bool (decide (((f.length:Nat):Int) < 4))) (nt ?_))))))))
 by_cases l:((f.length:Nat):Int) < 4
 refine jT (dT l) (sr (Az rfl (An rfl (rt (tR (y9 (gD rfl rfl rfl) ?_))))))
 have u:Own w D w []:=H.pk []
 have e:iI f=(0,10):=ip l
 obtain⟨rfl,rfl⟩:=dN (e.symm.trans hr)
 exact⟨rfl,u⟩
 refine jF (dF l) (sk (yJ ?_))
 have n:=H.drew
 refine zt [] (fun W=> ∃ L',Own w D W ([]++L')) (by kernel_rfl) (by kernel_rfl) (zb zw) ⟨_,n⟩ ?_
 revert n
 generalize World.drew w=N
 intro n
 refine GX.take (v:= .slice h f.length s) (rs:= []) 0 rfl (by kernel_rfl) (fun _ _=>yO rfl) ?_
 obtain⟨b,o⟩:=jZ (ls:=f) (i:=0) (by first | omega | (simp; done) | (simp; omega))
 refine GX.take (v:= .pointer (some ⟨ab h,ao h+0 *1,none⟩)) (rs:= []) 1 rfl (by kernel_rfl) (fun _ ⟨_,j⟩=>yZ (bW) rfl rfl ((j.ro g).addr (i:=0) (by omega)) (by omega)) (GX.take (v:= .int .u8 ((b.toNat:Nat):Int)) (rs:= []) 2 rfl (by kernel_rfl) (fun _ ⟨_,j⟩=>y5 rfl (bn.one Tryz.isAgg5 (((j.ro g).elem ay o (by decide)).at_ (k:=0) rfl))) ?_)
 have A:b.toNat≤255:=Nat.le_of_lt_succ (UInt8.toNat_lt _)
 refine GX.take (v:= .int .u32 ((b.toNat:Nat):Int)) (rs:= []) 3 rfl (by kernel_rfl) (fun _ _=>yS (e:=IntKind.u32.wrap ((b.toNat:Nat):Int)) yk (IntWalk.u32_in _ (by omega))) (GX.take (v:= .slice h f.length s) (rs:= []) 4 rfl (by kernel_rfl) (fun _ _=>yO rfl) ?_)
 obtain⟨a,p⟩:=jZ (ls:=f) (i:=1) (by first | omega | (simp; done) | (simp; omega))
 refine GX.take (v:= .pointer (some ⟨ab h,ao h+1 *1,none⟩)) (rs:= []) 5 rfl (by kernel_rfl) (fun _ ⟨_,j⟩=>yZ (bW) rfl rfl ((j.ro g).addr (i:=1) (by omega)) (by omega)) (GX.take (v:= .int .u8 ((a.toNat:Nat):Int)) (rs:= []) 6 rfl (by kernel_rfl) (fun _ ⟨_,j⟩=>y5 rfl (bn.one Tryz.isAgg5 (((j.ro g).elem ay p (by decide)).at_ (k:=0) rfl))) ?_)
 have B:a.toNat≤255:=Nat.le_of_lt_succ (UInt8.toNat_lt _)
 refine GX.take (v:= .int .u32 ((a.toNat:Nat):Int)) (rs:= []) 7 rfl (by kernel_rfl) (fun _ _=>yS (e:=IntKind.u32.wrap ((a.toNat:Nat):Int)) yk (IntWalk.u32_in _ (by omega))) ?_
 have C:cu a.toNat 8≤4294967295:=lJ _ _
 refine GX.take (v:= .int .u32 ((cu a.toNat 8:Nat):Int)) (rs:= []) 8 rfl (by kernel_rfl) (fun _ _=>yS (zQ (m:=8) rfl rfl) (ib _)) ?_
 have E:d9 b.toNat (cu a.toNat 8)≤4294967295:=l7 _ _
 refine GX.take (v:= .int .u32 ((d9 b.toNat (cu a.toNat 8):Nat):Int)) (rs:= []) 9 rfl (by kernel_rfl) (fun _ _=>yS (e:=IntKind.u32.wrap (((BitVec.ofInt 32 ((b.toNat:Nat):Int) ||| BitVec.ofInt 32 ((cu a.toNat 8:Nat):Int)).toNat:Nat):Int)) yk (ib _)) (GX.take (v:= .slice h f.length s) (rs:= []) 10 rfl (by kernel_rfl) (fun _ _=>yO rfl) ?_)
 obtain⟨c,q⟩:=jZ (ls:=f) (i:=2) (by first | omega | (simp; done) | (simp; omega))
 refine GX.take (v:= .pointer (some ⟨ab h,ao h+2 *1,none⟩)) (rs:= []) 11 rfl (by kernel_rfl) (fun _ ⟨_,j⟩=>yZ (bW) rfl rfl ((j.ro g).addr (i:=2) (by omega)) (by omega)) (GX.take (v:= .int .u8 ((c.toNat:Nat):Int)) (rs:= []) 12 rfl (by kernel_rfl) (fun _ ⟨_,j⟩=>y5 rfl (bn.one Tryz.isAgg5 (((j.ro g).elem ay q (by decide)).at_ (k:=0) rfl))) ?_)
 have F:c.toNat≤255:=Nat.le_of_lt_succ (UInt8.toNat_lt _)
 refine GX.take (v:= .int .u32 ((c.toNat:Nat):Int)) (rs:= []) 13 rfl (by kernel_rfl) (fun _ _=>yS (e:=IntKind.u32.wrap ((c.toNat:Nat):Int)) yk (IntWalk.u32_in _ (by omega))) ?_
 have G:cu c.toNat 16≤4294967295:=lJ _ _
 refine GX.take (v:= .int .u32 ((cu c.toNat 16:Nat):Int)) (rs:= []) 14 rfl (by kernel_rfl) (fun _ _=>yS (zQ (m:=16) rfl rfl) (ib _)) ?_
 have I:d9 (d9 b.toNat (cu a.toNat 8)) (cu c.toNat 16)≤4294967295:=l7 _ _
 refine GX.take (v:= .int .u32 ((d9 (d9 b.toNat (cu a.toNat 8)) (cu c.toNat 16):Nat):Int)) (rs:= []) 15 rfl (by kernel_rfl) (fun _ _=>yS (e:=IntKind.u32.wrap (((BitVec.ofInt 32 ((d9 b.toNat (cu a.toNat 8):Nat):Int) ||| BitVec.ofInt 32 ((cu c.toNat 16:Nat):Int)).toNat:Nat):Int)) yk (ib _)) (GX.take (v:= .slice h f.length s) (rs:= []) 16 rfl (by kernel_rfl) (fun _ _=>yO rfl) ?_)
 obtain⟨d,r⟩:=jZ (ls:=f) (i:=3) (by first | omega | (simp; done) | (simp; omega))
 refine GX.take (v:= .pointer (some ⟨ab h,ao h+3 *1,none⟩)) (rs:= []) 17 rfl (by kernel_rfl) (fun _ ⟨_,j⟩=>yZ (bW) rfl rfl ((j.ro g).addr (i:=3) (by omega)) (by omega)) (GX.take (v:= .int .u8 ((d.toNat:Nat):Int)) (rs:= []) 18 rfl (by kernel_rfl) (fun _ ⟨_,j⟩=>y5 rfl (bn.one Tryz.isAgg5 (((j.ro g).elem ay r (by decide)).at_ (k:=0) rfl))) ?_)
 have J:d.toNat≤255:=Nat.le_of_lt_succ (UInt8.toNat_lt _)
 refine GX.take (v:= .int .u32 ((d.toNat:Nat):Int)) (rs:= []) 19 rfl (by kernel_rfl) (fun _ _=>yS (e:=IntKind.u32.wrap ((d.toNat:Nat):Int)) yk (IntWalk.u32_in _ (by omega))) ?_
 have K:cu d.toNat 24≤4294967295:=lJ _ _
 refine GX.take (v:= .int .u32 ((cu d.toNat 24:Nat):Int)) (rs:= []) 20 rfl (by kernel_rfl) (fun _ _=>yS (zQ (m:=24) rfl rfl) (ib _)) ?_
 have L:d9 (d9 (d9 b.toNat (cu a.toNat 8)) (cu c.toNat 16)) (cu d.toNat 24)≤4294967295:=l7 _ _
 refine GX.take (v:= .int .u32 ((d9 (d9 (d9 b.toNat (cu a.toNat 8)) (cu c.toNat 16)) (cu d.toNat 24):Nat):Int)) (rs:= []) 21 rfl (by kernel_rfl) (fun _ _=>yS (e:=IntKind.u32.wrap (((BitVec.ofInt 32 ((d9 (d9 b.toNat (cu a.toNat 8)) (cu c.toNat 16):Nat):Int) ||| BitVec.ofInt 32 ((cu d.toNat 24:Nat):Int)).toNat:Nat):Int)) yk (ib _)) (GX.take (v:= .int .u32 ((d9 (d9 (d9 b.toNat (cu a.toNat 8)) (cu c.toNat 16)) (cu d.toNat 24):Nat):Int)) (rs:= []) 22 rfl (by kernel_rfl) (fun _ _=>zo rfl) (GX.take (v:= .int .i64 0) (rs:= []) 23 rfl (by kernel_rfl) (fun _ _=>zo rfl) (zk (by kernel_rfl) (yL (rt (y9 (gD rfl rfl rfl) ?_))))))
 have x:=n.pk []
 have e:iI f=(d9 (d9 (d9 b.toNat (cu a.toNat 8)) (cu c.toNat 16)) (cu d.toNat 24),0):=et (iN l) (et (aa (dh o)) (et (aa (dh p)) (et (aa (dh q)) (aa (dh r)))))
 obtain⟨rfl,rfl⟩:=dN (e.symm.trans hr)
 exact⟨rfl,x⟩
def sM (a:List UInt8):(List UInt8):=
 a
theorem qM (w:World) (D:Nat→Prop) (d:Option Addr) (n0 g:Nat) (a:List UInt8) (f:List UInt8) (H:Own w D w []) (e:Ro w D fun w'=>bD w' 1 d n0 (List.flatMap eB a)) (h:n0=a.length) (x:a.length *1≤211106232532992) (hr:sM a=f):
    Calls Tryz.prog 78 #[.slice d n0 g] w (cO fun v w'=> ∃ (t:Option Addr) (u:Nat),v= .slice t f.length u∧Own w D w' [row t f.length u (List.flatMap eB f) 5 1]):=by
 subst h
 refine yR (args:= [.slice d a.length g]) Tryz.func78 rfl rfl rfl ?_
 show Wp _ _ _ [(0, .slice d a.length g)] _ _
 refine sr (An rfl (yJ (sr (Mz rfl (fw (.bool (Option.isNone d)) (Aq Tryz.underlying31 rfl rfl) (nt ?_))))))
 rcases BL (Option.isNone d) with b | b
 obtain rfl:a= []:=vg (enc:=eB) (H.ro e) b
 refine jT b (sr (An rfl (rt (tR (rs ?_)))))
 have i:Own w D w [row none 0 0 (List.flatMap eB ([])) 5 1]:=H.free (bP 5 1)
 have j:=i.pk [0]
 obtain rfl:_=([]):=hr.symm.trans rfl
 exact⟨none,0,rfl,j⟩
 refine jF b (sk (sr ?_))
 refine iX [] 5 1 0 H ?_
 intro l n c
 replace c:Own w D n [row l 0 0 (List.flatMap eB ([])) 5 1]:=c
 refine Mz rfl ?_
 refine WL.do rfl (ze (k:=0) (m:=a.length) (bW) c rfl rfl (cz Tryz.underlying31 (c.ro e) (bK dA a)) rfl (by omega) (s:=a.length) (by omega) rfl ?_)
 intro o p y q
 refine An rfl (rt (rs ?_))
 have r:=q.pk [0]
 obtain rfl:_=a:=hr.symm.trans rfl
 exact⟨o,p,rfl,r⟩
def gU (b:List UInt8):(List UInt8) × Int:=
 if((b.length:Nat):Int) > 4103 then([],2) else if((b.length:Nat):Int) < 6 then([],10) else bnd (iI (List.drop (b.length - 4) b)) fun c=>if c.2=0 then bnd (lL (List.take (b.length - 4) b)) fun d=>if((c.1:Nat):Int)=((d:Nat):Int) then bnd (List.getD (List.take (b.length - 4) b) 0 default) fun e=>if((e.toNat:Nat):Int)=83 then bnd (dU (List.drop 1 (List.take (b.length - 4) b))) fun a=>if a.2.2=0 then if((a.1:Nat):Int)=(((b.length - 4) - (Int.toNat (1+a.2.1)):Nat):Int) then if((a.1:Nat):Int) > 4096 then([],11) else((List.take ((b.length - 4) - (Int.toNat (1+a.2.1))) (List.drop (Int.toNat (1+a.2.1)) (List.take (b.length - 4) b))),0) else([],11) else([],11) else([],11) else([],50) else([],50)
theorem ry (w:World) (D:Nat→Prop) (p:Option Addr) (n0 I:Nat) (a:List UInt8) (N:List UInt8) (r1:Int) (H:Own w D w []) (r:Ro w D fun w'=>bD w' 1 p n0 (List.flatMap eB a)) (au:n0=a.length) (bu:a.length *1≤211106232532992) (bv:a.length≤I) (hr:gU a=(N,r1)):
    Calls Tryz.prog 37 #[.slice p n0 I] w (cO fun v w'=> ∃ (B0:Option Addr) (b0:Nat),v= .tuple #[.slice B0 N.length b0, .int .i64 r1]∧Own w D w' [row B0 N.length b0 (List.flatMap eB N) 5 1]∧(N.length≤a.length)):=by
 subst au
 refine yR (args:= [.slice p a.length I]) Tryz.func37 rfl rfl rfl ?_
 show Wp _ _ _ [(0, .slice p a.length I)] _ _
 refine sr (Az rfl (An rfl (yJ (sr (Mz rfl (Kz (.int .i64 ((a.length:Nat):Int)) (Kz (.bool (decide (((a.length:Nat):Int) > 4103))) (nt ?_))))))))
 by_cases f:((a.length:Nat):Int) > 4103
 refine jT (dT f) (sr (Az rfl (An rfl (rt (tR (y9 (gD rfl rfl rfl) ?_))))))
 have av:Own w D w [row none 0 0 (List.flatMap eB ([])) 5 1]:=H.free (bP 5 1)
 have ax:=av.pk [0]
 have e:gU a=([],2):=ip f
 obtain⟨rfl,rfl⟩:=dN (e.symm.trans hr)
 exact⟨none,0,rfl,ax,(by first | omega | exact BJ _ | (simp only [List.length_take,List.length_drop]; omega))⟩
 refine jF (dF f) (sk (yJ (sr (Mz rfl (Kz (.int .i64 ((a.length:Nat):Int)) (Kz (.bool (decide (((a.length:Nat):Int) < 6))) (nt ?_)))))))
 by_cases h:((a.length:Nat):Int) < 6
 refine jT (dT h) (sr (Az rfl (An rfl (rt (tR (y9 (gD rfl rfl rfl) ?_))))))
 have az:Own w D w [row none 0 0 (List.flatMap eB ([])) 5 1]:=H.free (bP 5 1)
 have aA:=az.pk [0]
 have e:gU a=([],10):=et (iN f) (ip h)
 obtain⟨rfl,rfl⟩:=dN (e.symm.trans hr)
 exact⟨none,0,rfl,aA,(by first | omega | exact BJ _ | (simp only [List.length_take,List.length_drop]; omega))⟩
 refine jF (dF h) (sk (sr (Mz rfl (Kz (.int .i64 ((a.length:Nat):Int)) (fw (.int .i64 ((a.length - 4:Nat):Int)) (yS (e:=IntKind.i64.wrap (((a.length:Nat):Int) - 4)) yk (by rw [BI _ (by omega)]; omega)) (Ar rfl (Mz rfl (Mz rfl (Mz rfl (fw (.slice p (a.length - 4) (a.length - 4)) (Bb (bW) rfl rfl rfl (by omega) (by omega)) (Ar rfl (Mz rfl (Mz rfl (fw (.slice (fI p (a.length - 4) 1 I) (a.length - (a.length - 4)) (I - (a.length - 4))) (zI (bW) rfl rfl (by omega)) ?_))))))))))))))
 have aV:a.length - (a.length - 4)=List.length (List.drop (a.length - 4) a):=(by first | rfl | omega | (simp only [List.length_append,List.length_cons,List.length_nil,List.length_take,List.length_drop,List.length_set,List.length_replicate,List.length_map] <;> omega))
 obtain⟨⟨s,A⟩,d⟩:∃ q:Nat × Int,iI (List.drop (a.length - 4) a)=q:=⟨_,rfl⟩
 obtain⟨bz,O,P,Q,aW⟩:=yP H
 refine cl Tryz.call76 (oZ _ _ (fI p (a.length - 4) 1 I) (a.length - (a.length - 4)) (I - (a.length - 4)) (List.drop (a.length - 4) a) s A O (fun B C=>zR (lo:=a.length - 4) ay ((P _ r) B C) (by omega) (by omega) (by decide)) (by first | rfl | omega | (simp only [List.length_append,List.length_cons,List.length_nil,List.length_take,List.length_drop,List.length_set,List.length_replicate,List.length_map] <;> omega)) (by first | omega | (simp only [List.length_append,List.length_cons,List.length_nil,List.length_take,List.length_drop,List.length_set]; omega)) d) ?_
 rintro _ aB ⟨rfl,R⟩
 have S:=Q _ _ R
 refine Mz rfl (Kz (.int .u32 ((s:Nat):Int)) (Kz (.int .i64 A) (Az rfl (An rfl (yJ (sr (Mz rfl (fw (.bool (decide (¬ (A=0)))) (za (e:= !(decide (A=0))) yk decide_not.symm) (Mz rfl ?_)))))))))
 by_cases c:A=0
 refine gw (.int .u32 ((s:Nat):Int)) (dF (BK c)) (yO rfl) (gw (.slice p (a.length - 4) (a.length - 4)) (dF (BK c)) (yO rfl) ?_)
 have aX:a.length - 4=List.length (List.take (a.length - 4) a):=(by first | rfl | omega | (simp only [List.length_append,List.length_cons,List.length_nil,List.length_take,List.length_drop,List.length_set,List.length_replicate,List.length_map] <;> omega))
 obtain⟨u,g⟩:∃ q,lL (List.take (a.length - 4) a)=q:=⟨_,rfl⟩
 obtain⟨bA,T,U,V,aY⟩:=yP S
 refine jM (decide_eq_false (BK c)) Tryz.call53 (oW _ _ p (a.length - 4) (a.length - 4) (List.take (a.length - 4) a) u T (fun B C=>zJ (hi:=a.length - 4) ay ((U _ r) B C) (by omega)) (by first | rfl | omega | (simp only [List.length_append,List.length_cons,List.length_nil,List.length_take,List.length_drop,List.length_set,List.length_replicate,List.length_map] <;> omega)) (by first | omega | (simp only [List.length_append,List.length_cons,List.length_nil,List.length_take,List.length_drop,List.length_set]; omega)) (by first | omega | (simp only [List.length_cons,List.length_nil,List.length_append]; omega)) g) ?_
 rintro _ W ⟨rfl,X,J⟩
 have x:=V _ _ X
 replace J:u≤4294967295:=J
 refine gw (.bool (decide (¬ (((s:Nat):Int)=((u:Nat):Int))))) (dF (BK c)) (za (e:= !(decide (((s:Nat):Int)=((u:Nat):Int)))) yk decide_not.symm) (fw (.bool (decide (¬ (((s:Nat):Int)=((u:Nat):Int))))) (yM rfl (dF (BK c)) rfl) (nt ?_))
 by_cases n:((s:Nat):Int)=((u:Nat):Int)
 refine jF (dF (BK n)) (sk (yJ (sr (Mz rfl ?_))))
 obtain⟨E,l⟩:=dV (ls:=(List.take (a.length - 4) a)) (i:=0) ay (by decide) (zJ (hi:=a.length - 4) ay (x.ro r) (by omega)) (by first | omega | (simp; done) | (simp; omega))
 refine fw (.pointer (some ⟨ab p,ao p+0 *1,none⟩)) (yZ (bW) rfl rfl ((zJ (hi:=a.length - 4) ay (x.ro r) (by omega)).addr (i:=0) (by omega)) (by omega)) (fw (.int .u8 ((E.toNat:Nat):Int)) (y5 rfl (bn.one Tryz.isAgg5 (((zJ (hi:=a.length - 4) ay (x.ro r) (by omega)).elem ay l (by decide)).at_ (k:=0) rfl))) (fw (.bool (decide (¬ (((E.toNat:Nat):Int)=83)))) (za (e:= !(decide (((E.toNat:Nat):Int)=83))) yk decide_not.symm) (nt ?_)))
 by_cases t:((E.toNat:Nat):Int)=83
 refine jF (dF (BK t)) (sk (sr (Mz rfl (fw (.slice (fI p 1 1 (a.length - 4)) ((a.length - 4) - 1) ((a.length - 4) - 1)) (zI (bW) rfl rfl (by omega)) ?_))))
 have aZ:(a.length - 4) - 1=List.length (List.drop 1 (List.take (a.length - 4) a)):=(by first | rfl | omega | (simp only [List.length_append,List.length_cons,List.length_nil,List.length_take,List.length_drop,List.length_set,List.length_replicate,List.length_map] <;> omega))
 obtain⟨⟨j,b,y⟩,o⟩:∃ q:Nat × Int × Int,dU (List.drop 1 (List.take (a.length - 4) a))=q:=⟨_,rfl⟩
 obtain⟨bB,Y,Z,ae,bf⟩:=yP x
 refine cl Tryz.call77 (lw _ _ (fI p 1 1 (a.length - 4)) ((a.length - 4) - 1) ((a.length - 4) - 1) (List.drop 1 (List.take (a.length - 4) a)) j b y Y (fun B C=>zR (lo:=1) ay ((fun B C=>zJ (hi:=a.length - 4) ay ((Z _ r) B C) (by omega)) B C) (by omega) (by omega) (by decide)) (by first | rfl | omega | (simp only [List.length_append,List.length_cons,List.length_nil,List.length_take,List.length_drop,List.length_set,List.length_replicate,List.length_map] <;> omega)) (by first | omega | (simp only [List.length_append,List.length_cons,List.length_nil,List.length_take,List.length_drop,List.length_set]; omega)) (by first | omega | (simp only [List.length_take,List.length_drop]; omega) | exact Nat.le_refl _) o) ?_
 rintro _ M ⟨rfl,af,K,L⟩
 have F:=ae _ _ af
 replace K: ¬ (y=0)∨(1≤b∧b≤10∧b≤((List.length (List.drop 1 (List.take (a.length - 4) a)):Nat):Int)):=K
 replace L:j≤18446744073709551615:=L
 refine Mz rfl (Kz (.int .u64 ((j:Nat):Int)) (Kz (.int .i64 b) (Kz (.int .i64 y) (Az rfl (Az rfl (An rfl (yJ (sr (Mz rfl (fw (.bool (decide (¬ (y=0)))) (za (e:= !(decide (y=0))) yk decide_not.symm) (nt ?_)))))))))))
 by_cases z:y=0
 refine jF (dF (BK z)) (sk (sr (Mz rfl (Mz rfl (fw (.int .i64 ((Int.toNat (1+b):Nat):Int)) (yS (e:=IntKind.i64.wrap (1+b)) yk (by rw [BI _ (by omega)]; omega)) (Mz rfl (Mz rfl (fw (.slice (fI p (Int.toNat (1+b)) 1 (a.length - 4)) ((a.length - 4) - (Int.toNat (1+b))) ((a.length - 4) - (Int.toNat (1+b)))) (Bc (bW) rfl rfl rfl rfl (by omega) (by omega) (by omega)) (An rfl (yJ (sr (Mz rfl (Mz rfl (Kz (.int .i64 (((a.length - 4) - (Int.toNat (1+b)):Nat):Int)) (fw (.int .u64 (((a.length - 4) - (Int.toNat (1+b)):Nat):Int)) (yS (e:=IntKind.u64.wrap (((a.length - 4) - (Int.toNat (1+b)):Nat):Int)) yk (IntWalk.u64_in _ (by omega))) (fw (.bool (decide (¬ (((j:Nat):Int)=(((a.length - 4) - (Int.toNat (1+b)):Nat):Int))))) (za (e:= !(decide (((j:Nat):Int)=(((a.length - 4) - (Int.toNat (1+b)):Nat):Int)))) yk decide_not.symm) (Mz rfl ?_)))))))))))))))))
 by_cases m:((j:Nat):Int)=(((a.length - 4) - (Int.toNat (1+b)):Nat):Int)
 refine gw (.int .u64 ((j:Nat):Int)) (dF (BK m)) (yO rfl) (gw (.bool (decide (((j:Nat):Int) > 4096))) (dF (BK m)) yk (fw (.bool (decide (((j:Nat):Int) > 4096))) (yM rfl (dF (BK m)) rfl) (nt ?_)))
 by_cases G:((j:Nat):Int) > 4096
 refine jT (dT G) (sr (Az rfl (An rfl (rt (tR (y9 (gD rfl rfl rfl) ?_))))))
 have aC:Own w D M [row none 0 0 (List.flatMap eB ([])) 5 1]:=F.free (bP 5 1)
 have aD:=aC.pk [0]
 have e:gU a=([],11):=et (iN f) (et (iN h) (et (aa d) (et (ip c) (et (aa g) (et (ip n) (et (aa (dh l)) (et (ip t) (et (aa o) (et (ip z) (et (ip m) (ip G)))))))))))
 obtain⟨rfl,rfl⟩:=dN (e.symm.trans hr)
 exact⟨none,0,rfl,aD,(by first | omega | exact BJ _ | (simp only [List.length_take,List.length_drop]; omega))⟩
 refine jF (dF G) (sk (sr (Mz rfl ?_)))
 have bg:(a.length - 4) - (Int.toNat (1+b))=List.length (List.take ((a.length - 4) - (Int.toNat (1+b))) (List.drop (Int.toNat (1+b)) (List.take (a.length - 4) a))):=(by first | rfl | omega | (simp only [List.length_append,List.length_cons,List.length_nil,List.length_take,List.length_drop,List.length_set,List.length_replicate,List.length_map] <;> omega))
 obtain⟨bC,ag,ah,ai,bi⟩:=yP F
 refine cl Tryz.call78 (qM _ _ (fI p (Int.toNat (1+b)) 1 (a.length - 4)) ((a.length - 4) - (Int.toNat (1+b))) ((a.length - 4) - (Int.toNat (1+b))) (List.take ((a.length - 4) - (Int.toNat (1+b))) (List.drop (Int.toNat (1+b)) (List.take (a.length - 4) a))) (List.take ((a.length - 4) - (Int.toNat (1+b))) (List.drop (Int.toNat (1+b)) (List.take (a.length - 4) a))) ag (fun B C=>bD.cutE (lo:=Int.toNat (1+b)) (hi:=a.length - 4) ay ((fun B C=>zJ (hi:=a.length - 4) ay ((ah _ r) B C) (by omega)) B C) (by omega) (by omega) (by omega)) (by first | rfl | omega | (simp only [List.length_append,List.length_cons,List.length_nil,List.length_take,List.length_drop,List.length_set,List.length_replicate,List.length_map] <;> omega)) (by first | omega | (simp only [List.length_append,List.length_cons,List.length_nil,List.length_take,List.length_drop,List.length_set]; omega)) rfl) ?_
 rintro _ bE ⟨aF,aG,rfl,aj⟩
 have ak:=ai _ _ aj
 have bq:=ak.rowC (i:=0) rfl
 refine Az rfl (An rfl (rt (y9 (gD rfl rfl rfl) ?_)))
 have aH:=ak.pk [0]
 have e:gU a=((List.take ((a.length - 4) - (Int.toNat (1+b))) (List.drop (Int.toNat (1+b)) (List.take (a.length - 4) a))),0):=et (iN f) (et (iN h) (et (aa d) (et (ip c) (et (aa g) (et (ip n) (et (aa (dh l)) (et (ip t) (et (aa o) (et (ip z) (et (ip m) (iN G)))))))))))
 obtain⟨rfl,rfl⟩:=dN (e.symm.trans hr)
 exact⟨aF,aG,rfl,aH,(by first | omega | exact BJ _ | (simp only [List.length_take,List.length_drop]; omega))⟩
 refine Sz (dT m) (Sz (dT m) (fw (.bool true) (yN rfl (dT m) rfl) (nt (jt (sr (Az rfl (An rfl (rt (tR (y9 (gD rfl rfl rfl) ?_))))))))))
 have aI:Own w D M [row none 0 0 (List.flatMap eB ([])) 5 1]:=F.free (bP 5 1)
 have aJ:=aI.pk [0]
 have e:gU a=([],11):=et (iN f) (et (iN h) (et (aa d) (et (ip c) (et (aa g) (et (ip n) (et (aa (dh l)) (et (ip t) (et (aa o) (et (ip z) (iN m))))))))))
 obtain⟨rfl,rfl⟩:=dN (e.symm.trans hr)
 exact⟨none,0,rfl,aJ,(by first | omega | exact BJ _ | (simp only [List.length_take,List.length_drop]; omega))⟩
 refine jT (dT z) (sr (Az rfl (An rfl (rt (tR (y9 (gD rfl rfl rfl) ?_))))))
 have aK:Own w D M [row none 0 0 (List.flatMap eB ([])) 5 1]:=F.free (bP 5 1)
 have aL:=aK.pk [0]
 have e:gU a=([],11):=et (iN f) (et (iN h) (et (aa d) (et (ip c) (et (aa g) (et (ip n) (et (aa (dh l)) (et (ip t) (et (aa o) (iN z)))))))))
 obtain⟨rfl,rfl⟩:=dN (e.symm.trans hr)
 exact⟨none,0,rfl,aL,(by first | omega | exact BJ _ | (simp only [List.length_take,List.length_drop]; omega))⟩
 refine jT (dT t) (sr (Az rfl (An rfl (rt (tR (y9 (gD rfl rfl rfl) ?_))))))
 have aM:Own w D W [row none 0 0 (List.flatMap eB ([])) 5 1]:=x.free (bP 5 1)
 have aN:=aM.pk [0]
 have e:gU a=([],11):=et (iN f) (et (iN h) (et (aa d) (et (ip c) (et (aa g) (et (ip n) (et (aa (dh l)) (iN t)))))))
 obtain⟨rfl,rfl⟩:=dN (e.symm.trans hr)
 exact⟨none,0,rfl,aN,(by first | omega | exact BJ _ | (simp only [List.length_take,List.length_drop]; omega))⟩
 refine jT (dT n) (sr (Az rfl (An rfl (rt (tR (y9 (gD rfl rfl rfl) ?_))))))
 have aO:Own w D W [row none 0 0 (List.flatMap eB ([])) 5 1]:=x.free (bP 5 1)
 have aP:=aO.pk [0]
 have e:gU a=([],50):=et (iN f) (et (iN h) (et (aa d) (et (ip c) (et (aa g) (iN n)))))
 obtain⟨rfl,rfl⟩:=dN (e.symm.trans hr)
 exact⟨none,0,rfl,aP,(by first | omega | exact BJ _ | (simp only [List.length_take,List.length_drop]; omega))⟩
 refine Sz (dT c) (Sz (dT c) (Sz (dT c) (Sz (dT c) (fw (.bool true) (yN rfl (dT c) rfl) (nt (jt (sr (Az rfl (An rfl (rt (tR (y9 (gD rfl rfl rfl) ?_))))))))))))
 have aQ:Own w D aB [row none 0 0 (List.flatMap eB ([])) 5 1]:=S.free (bP 5 1)
 have aR:=aQ.pk [0]
 have e:gU a=([],50):=et (iN f) (et (iN h) (et (aa d) (iN c)))
 obtain⟨rfl,rfl⟩:=dN (e.symm.trans hr)
 exact⟨none,0,rfl,aR,(by first | omega | exact BJ _ | (simp only [List.length_take,List.length_drop]; omega))⟩
end Go.Proofs.YtccjclalngabhaaGreat
