/-
  The chapter's first coordinator. Conditions: none beyond each law's own.
-/
import Derived.Test.YtbkagebjhbphaaaGreatCd
namespace Go.Proofs.YtbkagebjhbphaaaGreat
open List renaming length→s0
open Ll renaming mk→E0
set_option linter.unusedVariables false
set_option linter.unusedSimpArgs false
def Er:bZ:=bZ.mk 2 0 0 1 (E0 [aM.mk [] 1,aM.mk [109] 2]) (E0 []) (E0 [])
theorem Fv {r:bZ} (h:iq Er=r):s0 r.ag.ls=2∧r.au=2∧s0 r.ak.ls=0∧s0 r.aK.ls=0:=by subst h; exact⟨rfl,rfl,rfl,rfl⟩
def rz (r:bZ):aD:=aD.mk (bZ.mk r.au (Int.toNat (IntKind.u64.wrap (((r.ax:Nat):Int)+1))) (fQ (Int.toNat (IntKind.u64.wrap (((r.ax:Nat):Int)+1))) 32) r.aF (E0 r.ag.ls) (E0 r.ak.ls) (E0 r.aK.ls)) 0 (E0 []) (dU.mk false 0 0 (E0 [])) (dU.mk false 0 0 (E0 [])) (dU.mk false 0 0 (E0 [])) (dU.mk false 0 0 (E0 [])) (dU.mk false 0 0 (E0 [])) 0 0 0 0 0
theorem Gm {r:bZ} {m:aD} (h:iq Er=r) (e:rz r=m):Mk m:=by
  subst h; subst e
  have z:mV []∧jR 0:=⟨l9,Lp _⟩
  exact⟨(by dsimp only [rz]; exact lV _),(by dsimp only [rz]; exact pq _ _),(by decide:(1:Nat)≤18446744073709551615),Lp _,fun x hx=>(by cases hx),fun x hx=>(by cases hx),fun x hx=>(by cases hx),z,z,z,z,z⟩
theorem Es {r:bZ} {m:aD} (h:iq Er=r) (e:rz r=m):s0 m.aa.ag.ls≤1000∧m.aa.au≤4∧s0 m.aC.ls+s0 m.aa.ak.ls≤8∧s0 m.aa.aK.ls≤0:=by
  subst h; subst e
  exact⟨(by decide:2≤1000),(by decide:(2:Int)≤4),(by decide:0+0≤8),(by decide:0≤0)⟩
end Go.Proofs.YtbkagebjhbphaaaGreat
