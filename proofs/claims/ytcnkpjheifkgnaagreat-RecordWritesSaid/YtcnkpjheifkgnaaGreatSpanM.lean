/-
  The mathematics of ranges of keys: lists of bytes in their order.
  Conditions: none.
-/
import Derived.Lib.Hide
namespace Go.Proofs.YtcnkpjheifkgnaaGreat.M
set_option linter.unusedVariables false
set_option linter.unusedSimpArgs false
abbrev L:=List UInt8
def K (k:L):Prop:=1≤k.length∧k.length≤12
def R (l h:L):Prop:=(l= []∨K l)∧(h= []∨(K h∧l < h))
def B (k h:L):Prop:=h= []∨k < h
def H (l h k:L):Prop:=R l h∧K k∧l≤k∧B k h
def mx (a b:L):L:=if a < b then b else a
def ls (a b:L):L:=if a= [] then b else if b= [] then a else if b < a then b else a
def M (a b c d:L):Prop:=R a b∧R c d∧B (mx a c) (ls b d)
theorem nil_lt {a:L} (h:a≠ []): [] < a:=by
  cases a with
  | nil=>exact absurd rfl h
  | cons x xs=>exact List.nil_lt_cons x xs
theorem Ay {k:L} (h:K k):k≠ []:=by rintro rfl; simp [K] at h
theorem vK {d a f b:L} (h:M d a f b):R (mx d f) (ls a b):=by
  obtain⟨⟨g,i⟩,⟨j,k⟩,c⟩:=h
  refine⟨?_, ?_⟩
  · unfold mx; split <;> assumption
  · rcases c with c | c
    · exact .inl c
    · by_cases e:ls a b= []
      · exact .inl e
      · refine .inr ⟨?_,c⟩
        unfold ls at e ⊢
        grind
theorem wz (a b c:L):mx (mx a b) c=mx a (mx b c):=by unfold mx; grind
theorem wB (a b c:L):ls (ls a b) c=ls a (ls b c):=by unfold ls; grind
theorem parts {a b c d e f:L} (g:M a b c d) (i:M c d e f):(M (mx a c) (ls b d) e f↔M a b (mx c e) (ls d f)):=by
  have j:=vK g
  have k:=vK i
  unfold M
  rw [wz,wB]
  exact⟨fun⟨_,_,h⟩=>⟨g.1,k,h⟩,fun⟨_,_,h⟩=>⟨j,i.2.1,h⟩⟩
def C (c d a b:L):Prop:=M c d a b∧mx c a=a∧ls d b=b
theorem cut {l h at_ k:L} (r:R l h) (ka:K at_) (hl:l < at_) (hb:B at_ h):(H l h k↔(H l at_ k∨H at_ h k))∧¬ (H l at_ k∧H at_ h k):=by
  have c:R l at_:=⟨r.1, .inr ⟨ka,hl⟩⟩
  have d:R at_ h:=⟨.inr ka,by
    rcases r.2 with e | ⟨e,_⟩
    · exact .inl e
    · rcases hb with e' | e'
      · exact .inl e'
      · exact .inr ⟨e,e'⟩⟩
  have hne:=Ay ka
  unfold H B at *
  refine⟨⟨?_, ?_⟩, ?_⟩
  · rintro ⟨_,kk,a,b⟩
    by_cases hk:k < at_
    · exact .inl ⟨c,kk,a, .inr hk⟩
    · exact .inr ⟨d,kk,List.not_lt.1 hk,b⟩
  · rintro (⟨_,kk,a,b⟩ | ⟨_,kk,a,b⟩)
    · refine⟨r,kk,a, ?_⟩; grind
    · refine⟨r,kk, ?_,b⟩; grind
  · rintro ⟨⟨_,_,_,b⟩,⟨_,_,a,_⟩⟩; grind
end Go.Proofs.YtcnkpjheifkgnaaGreat.M
