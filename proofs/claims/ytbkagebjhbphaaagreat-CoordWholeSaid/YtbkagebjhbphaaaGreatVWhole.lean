/-
 coord: the law CoordWhole, of its arguments' values.
-/
import Derived.Test.YtbkagebjhbphaaaGreatCoZ
import Derived.Test.YtbkagebjhbphaaaGreatLWhole
namespace Go.Proofs.YtbkagebjhbphaaaGreat
set_option maxRecDepth 100000
set_option linter.unusedVariables false
set_option linter.unusedSimpArgs false
set_option linter.unusedSectionVars false
theorem GA {w:World} {a:jW} (h:JR w a):zb (jW.abs a):=by
  obtain⟨_,b,v,e,_,hd,hl⟩:=h
  refine⟨b,v,e,fun x hx=> ?_,fun x hx=> ?_⟩
  · obtain⟨y,hy,rfl⟩:=List.mem_map.1 hx
    have:=hd.2.2.2 y hy
    exact⟨this.1,this.2.2.1,this.2.2.2.1⟩
  · obtain⟨y,hy,rfl⟩:=List.mem_map.1 hx
    have:=hl.2.2.2 y hy
    exact⟨this.2.1,this.2.2.1⟩
theorem Bc {r:bZ} {j:Nat} {x:jA} {z:bW} (ho:∀ o ∈ x.aB.ls,lv r.ag.ls z.eO (kD o).1=true):∀ (q:List aN) (k:Nat),List.drop k x.aB.ls=q→gT r j x z q k= .inl ()
  | [],k,_=>rfl
  | y::q,k,hd=>by
    obtain⟨hy,a⟩:=rW hd
    rw [gT]
    simp only [dw]
    rw [aT hy,if_pos ⟨rfl,rfl,rfl,rfl,rfl,rfl⟩,if_pos (ho y (List.mem_of_getElem? hy))]
    exact Bc ho q (k+1) a
theorem zl (r:bZ) (j:Nat) (x:jA) (z:bW):∀ (q:List aN) (k:Nat),iP r j x z q k=gT r j x z q k
  | [],_=>rfl
  | y::q,k=>by simp only [gT,iP,dw,zl r j x z q]
theorem zm (b:Bool) (r:bZ) (qs:List jA):∀ (q:List bW) (k:Nat),fZ b r qs q k=eZ b r qs q k
  | [],_=>rfl
  | y::q,k=>by simp only [eZ,fZ,dw,zl,zm b r qs q]
theorem Be {b:Bool} {r:bZ} {n low:Nat} {ps:List fu} {qs:List jA} (hm:List.map DR ps=List.map DT qs) (ho:∀ y ∈ ps, ∀ z ∈ y.aB.ls,lv r.ag.ls y.bE (kD z).1=true):∀ (q:List fu) (k:Nat),List.drop k ps=q→eZ b r qs (List.map (qg n low r.aF) q) k= .inl ()
  | [],k,_=>rfl
  | y::q,k,hd=>by
    obtain⟨hy,a⟩:=rW hd
    have e:(List.map DT qs)[k]? =some (DR y):=by rw [← hm,List.getElem?_map,hy]; rfl
    rw [List.getElem?_map] at e
    obtain⟨x,hx,d⟩:=Option.map_eq_some_iff.1 e
    have f:x.bE=y.bE:=(Prod.mk.inj d).1
    have c:x.aB.ls=y.aB.ls:=(Prod.mk.inj d).2
    rw [List.map_cons,eZ]
    simp only [dw]
    rw [if_pos (show (qg n low r.aF y).av=3 from rfl),aT hx,if_pos (show (qg n low r.aF y).eO=x.bE from f.symm),if_pos (show (((qg n low r.aF y).aF:Nat):Int)=((r.aF:Nat):Int) from rfl),if_pos (show ((List.length (qg n low r.aF y).aB.ls:Nat):Int)=((List.length x.aB.ls:Nat):Int) by rw [c]; rfl)]
    refine(sH (Bc (r:=r) (j:=k) (x:=x) (z:=qg n low r.aF y) (fun o h=>ho y (List.mem_of_getElem? hy) o (c ▸ h)) _ 0 (show List.drop 0 x.aB.ls=y.aB.ls from c))).trans ?_
    exact Be hm ho q (k+1) a
def E8 (b:Bool) (r:bZ) (l:List aN) (d:kG) (e:Int):Bool:=
  if e=0 then bnd (sS r.ag.ls l) fun a=>if a.2=0 then if((d.cz.ls.length:Nat):Int)=1 then bnd (List.getD d.cz.ls 0 default) fun c=>if c.av=2 then if b=true then if c.dK=2 then decide (((r.ak.ls.length:Nat):Int) > 0) else false else false else if((d.cz.ls.length:Nat):Int)=((a.1.length:Nat):Int) then lp (eZ b r a.1 d.cz.ls 0) fun _=>b else false else if((d.cz.ls.length:Nat):Int)=((a.1.length:Nat):Int) then lp (fZ b r a.1 d.cz.ls 0) fun _=>b else false else false else if b=true then decide (e=180) else false
theorem CP {m:aD} {x:bW} (hk:x.av=1) (ht:x.eO=0) (hf:x.aI=12) (ha:m.aC.ls= []) (h:m.bA.dB=false) (hb:x.ax=m.aa.ax) (H:oZ m.aa.ag.ls):E8 true m.aa x.aB.ls (dY m x).1 (dY m x).2.1=true:=by
  unfold E8
  rcases EA (m:=m) hk ht hf with ⟨i,a,j⟩ | a
  · have ho:=Fz i hk
    obtain⟨ps,qs,d,k,f⟩:=Gw H ho
    have hl:List.length ps=List.length qs:=by
      have:=congrArg List.length f
      rwa [List.length_map,List.length_map] at this
    rw [if_pos a,k,dw,if_pos rfl,j,Br ha h hf hb]
    rcases DW (c:=2) (x:=x) ha d with ⟨n,low,e⟩ | ⟨z,e,l,o,p⟩
    · rw [e,List.length_map]
      have hw:=Be (b:=true) (r:=m.aa) (n:=n) (low:=low) f (DV H ho d) ps 0 rfl
      have g:lp (eZ true m.aa qs (List.map (qg n low m.aa.aF) ps) 0) (fun _=>true)=true:=mF hw
      by_cases c:((List.length ps:Nat):Int)=1
      · rw [if_pos c]
        cases ps with
        | nil=>exact absurd c f2
        | cons y ps=>
          rw [dw,show List.getD (List.map (qg n low m.aa.aF) (y::ps)) 0 default=qg n low m.aa.aF y from rfl,if_neg (show ¬ (qg n low m.aa.aF y).av=2 from by show ¬ (3:Int)=2; decide),if_pos (by rw [hl]),g]
      · rw [if_neg c,if_pos (by rw [hl]),zm,g]
    · rw [e,if_pos (show ((List.length [z]:Nat):Int)=1 from rfl),dw,show List.getD [z] 0 default=z from rfl,if_pos l,if_pos rfl,if_pos o]
      exact decide_eq_true e6
  · rw [if_neg (by rw [a]; decide),if_pos rfl,a]; rfl
theorem D5 {a:bZ} {l1:List aN}:rA a l1=true:=by
  unfold rA
  refine(ae DX).trans ?_
  rw [dw]
  by_cases h:gq a=0
  · rw [if_pos h]
    by_cases b:((a.ax:Nat):Int)=2147483647
    · rw [if_pos b,if_pos rfl]
    · rw [if_neg b]
      refine(ae (show iq a=a from rfl)).trans ?_
      refine(ae (rfl:_=rz a)).trans ?_
      refine(ae (show lL (rz a)=(rz a).aa from rfl)).trans ?_
      exact CP (m:=rz a) (x:=bW.mk 1 12 0 0 0 0 4611686018427387904 (rz a).aa.ax 0 0 0 0 0 0 0 false (aL.mk ([]) ([])) (Ll.mk l1) (Ll.mk ([])) (Ll.mk ([]))) rfl rfl rfl rfl rfl rfl (ww.1 (DY h).1)
  · rw [if_neg h,if_pos rfl]
end Go.Proofs.YtbkagebjhbphaaaGreat
namespace Go.Proofs.YtbkagebjhbphaaaGreat
open List renaming length→s0,length_map→s3,map→s5
set_option maxRecDepth 100000
open Go.RowKit
set_option linter.unusedVariables false
set_option linter.unusedSectionVars false
set_option linter.unusedSimpArgs false
theorem Bf (w) (b:jW) (a:JR w b) (i:Sv aN) (d:mo w 6 80 aN.cells (JF w) i):
    Calls Tryz.prog 6 #[.agg #[vI b.au,vU b.ax,vU b.bG,vU b.aF, .slice b.ag.A b.ag.ls.length b.ag.c, .slice b.ak.A b.ak.ls.length b.ak.c, .slice b.aK.A b.aK.ls.length b.aK.c], .slice i.A i.ls.length i.c] w fun e w'=>e= .returned (.bool true)∧Below w.heap.size w w':=
 (wQ w (fun _:Nat=>False) (jW.abs b) b.ag.A b.ag.ls.length b.ag.c b.ak.A b.ak.ls.length b.ak.c b.ak.ls b.aK.A b.aK.ls.length b.aK.c b.aK.ls i.A i.ls.length i.c i.ls true (KE w) rfl (aY.ro a.2.2.2.2.1.2.2.1 f2) (show b.ag.ls.length≤_∧b.ag.ls.length≤_ from by have k:=a.2.2.2.2.1.1; have h:=a.2.2.2.2.1.2.1; exact⟨k,e6⟩) rfl (s3 ..).symm (show Ro w _ fun w'=>aY w' _ _ (s0 (s5 _ _)) _ from by rw [s3]; exact aY.ro a.2.2.2.2.2.1.2.2.1 f2) (show s0 (s5 _ _)≤_∧s0 (s5 _ _)≤_ from by rw [s3]; have k:=a.2.2.2.2.2.1.1; have h:=a.2.2.2.2.2.1.2.1; exact⟨k,e6⟩) (fun f g=>⟨aY.ro (a.2.2.2.2.2.1.2.2.2 f g).2.2.2.2.2.2.1 f2,(by have h:=(a.2.2.2.2.2.1.2.2.2 f g).2.2.2.2.1; have j:=(a.2.2.2.2.2.1.2.2.2 f g).2.2.2.2.2.1; omega)⟩) rfl (s3 ..).symm (show Ro w _ fun w'=>aY w' _ _ (s0 (s5 _ _)) _ from by rw [s3]; exact aY.ro a.2.2.2.2.2.2.2.2.1 f2) (show s0 (s5 _ _)≤_∧s0 (s5 _ _)≤_ from by rw [s3]; have k:=a.2.2.2.2.2.2.1; have h:=a.2.2.2.2.2.2.2.1; exact⟨k,e6⟩) (fun f g=>⟨aY.ro (a.2.2.2.2.2.2.2.2.2 f g).2.2.2.2.2.1 f2,(by have h:=(a.2.2.2.2.2.2.2.2.2 f g).2.2.2.1; have j:=(a.2.2.2.2.2.2.2.2.2 f g).2.2.2.2.1; omega),(fun l m=>⟨aY.ro ((a.2.2.2.2.2.2.2.2.2 f g).2.2.2.2.2.2 l m).2.2.2.2.1 f2,(by have h:=((a.2.2.2.2.2.2.2.2.2 f g).2.2.2.2.2.2 l m).2.2.1; have j:=((a.2.2.2.2.2.2.2.2.2 f g).2.2.2.2.2.2 l m).2.2.2.1; omega)⟩)⟩) (aY.ro d.2.2.1 f2) rfl (by have:=d.1; have:=d.2.1; omega) d.1 a.1 a.2.1 a.2.2.1 a.2.2.2.1 (show b.ag.ls.length *_≤_ from by have h:=a.2.2.2.2.1.1; have j:=a.2.2.2.2.1.2.1; omega) (show s0 (s5 _ _) *_≤_ from by rw [s3]; have h:=a.2.2.2.2.2.1.1; have j:=a.2.2.2.2.2.1.2.1; omega) (show s0 (s5 _ _) *_≤_ from by rw [s3]; have h:=a.2.2.2.2.2.2.1; have j:=a.2.2.2.2.2.2.2.1; omega) (by have:=d.1; have:=d.2.1; omega) (GA a) (by have h:=d.1; have j:=d.2.1; omega) (D5)).mono fun e w' ⟨v,he,hv,H⟩=>⟨by rw [he,hv],H.below⟩
end Go.Proofs.YtbkagebjhbphaaaGreat
