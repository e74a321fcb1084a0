/-
  The numbers of a law's states have 64 bits.
  Conditions: none.
-/
import Derived.Test.YtcnkpjheifkgnaaGreatRcA
namespace Go.Proofs.YtcnkpjheifkgnaaGreat
set_option linter.unusedVariables false
theorem zw {w:World} {a:jy} (h:Dt w a):rZ (Dy a):=by
  obtain⟨_,b,v,e,m,_,hh,hf,l,f,_,i⟩:=h
  refine⟨b,v,e,m,l,f,i.1,i.2.1,i.2.2.1,fun x hx=> ?_,fun x hx=>hf.2.2.2 x hx⟩
  obtain⟨y,hy,rfl⟩:=List.mem_map.1 hx
  exact(hh.2.2.2 y hy).1
theorem zx {w:World} {a:jA} (h:Dv w a):r9 (DC a):=by
  obtain⟨_,b,v,e,_,hd,hl⟩:=h
  refine⟨b,v,e,fun x hx=> ?_,fun x hx=> ?_⟩
  · obtain⟨y,hy,rfl⟩:=List.mem_map.1 hx
    have:=hd.2.2.2 y hy
    exact⟨this.1,this.2.2.1,this.2.2.2.1⟩
  · obtain⟨y,hy,rfl⟩:=List.mem_map.1 hx
    have:=hl.2.2.2 y hy
    exact⟨this.2.1,this.2.2.1⟩
end Go.Proofs.YtcnkpjheifkgnaaGreat
