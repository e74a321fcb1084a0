/-
  The mathematics of ranges of keys: lists of bytes in their order.
  Conditions: none.
-/
import Derived.Lib.Hide
namespace Go.Proofs.YtbkagebjhbphaaaGreat.M
open List renaming cons_le_cons_iff→V5,cons_lt_cons_iff→V3,le_antisymm→V4
set_option linter.unusedVariables false
set_option linter.unusedSimpArgs false
abbrev L:=List UInt8
def K (k:L):Prop:=1≤k.length∧k.length≤12
def R (l h:L):Prop:=(l= []∨K l)∧(h= []∨(K h∧l < h))
def B (k h:L):Prop:=h= []∨k < h
def H (l h k:L):Prop:=R l h∧K k∧l≤k∧B k h
def mx (a b:L):L:=if a < b then b else a
def ls (a b:L):L:=if a= [] then b else if b= [] then a else if b < a then b else a
def M (l1 a b c:L):Prop:=R l1 a∧R b c∧B (mx l1 b) (ls a c)
theorem nil_le (a:L): []≤a:=List.nil_le a
theorem not_lt_nil (a:L): ¬ a < []:=List.not_lt_nil a
theorem nil_lt {a:L} (h:a≠ []): [] < a:=by
  cases a with
  | nil=>exact absurd rfl h
  | cons x xs=>exact List.nil_lt_cons x xs
theorem H5 {k:L} (h:K k):k≠ []:=by rintro rfl; simp [K] at h
theorem mx_comm (a b:L):mx a b=mx b a:=by unfold mx; grind
theorem ls_comm (a b:L):ls a b=ls b a:=by unfold ls; grind
theorem M_comm (a b c d:L):M a b c d↔M c d a b:=by unfold M; rw [mx_comm,ls_comm]; constructor <;> (rintro ⟨e,f,g⟩; exact⟨f,e,g⟩)
theorem le_mx (k a b:L):mx a b≤k↔a≤k∧b≤k:=by unfold mx; grind
theorem R_meet {l1 a d b:L} (h:M l1 a d b):R (mx l1 d) (ls a b):=by
  obtain⟨⟨f,g⟩,⟨i,j⟩,c⟩:=h
  refine⟨?_, ?_⟩
  · unfold mx; split <;> assumption
  · rcases c with c | c
    · exact .inl c
    · by_cases e:ls a b= []
      · exact .inl e
      · refine .inr ⟨?_,c⟩
        unfold ls at e ⊢
        grind
theorem Et (a b c:L):mx (mx a b) c=mx a (mx b c):=by unfold mx; grind
theorem Eu (a b c:L):ls (ls a b) c=ls a (ls b c):=by unfold ls; grind
theorem parts {a b c d e f:L} (g:M a b c d) (i:M c d e f):(M (mx a c) (ls b d) e f↔M a b (mx c e) (ls d f)):=by
  have j:=R_meet g
  have k:=R_meet i
  unfold M
  rw [Et,Eu]
  exact⟨fun⟨_,_,h⟩=>⟨g.1,k,h⟩,fun⟨_,_,h⟩=>⟨j,i.2.1,h⟩⟩
def C (l1 c a b:L):Prop:=M l1 c a b∧mx l1 a=a∧ls c b=b
theorem EQ (a b:L):mx a b=b↔a≤b:=by unfold mx; grind
theorem yw (a b:L):ls a b=b↔(a= []∨(b≠ []∧b≤a)):=by
  have:=nil_le a
  have:=not_lt_nil a
  unfold ls; grind
theorem C_iff (l1 c e d:L):C l1 c e d↔R l1 c∧R e d∧l1≤e∧(c= []∨(d≠ []∧d≤c)):=by
  unfold C
  rw [EQ,yw]
  constructor
  · rintro ⟨⟨g,f,_⟩,a,b⟩; exact⟨g,f,a,b⟩
  · rintro ⟨g,f,a,b⟩
    refine⟨⟨g,f, ?_⟩,a,b⟩
    rw [(EQ l1 e).2 a,(yw c d).2 b]
    rcases f.2 with h | ⟨_,h⟩
    · exact .inl h
    · exact .inr h
theorem cut {l h at_ k:L} (r:R l h) (ka:K at_) (hl:l < at_) (hb:B at_ h):(H l h k↔(H l at_ k∨H at_ h k))∧¬ (H l at_ k∧H at_ h k):=by
  have c:R l at_:=⟨r.1, .inr ⟨ka,hl⟩⟩
  have d:R at_ h:=⟨.inr ka,by
    rcases r.2 with e | ⟨e,_⟩
    · exact .inl e
    · rcases hb with e' | e'
      · exact .inl e'
      · exact .inr ⟨e,e'⟩⟩
  have hne:=H5 ka
  unfold H B at *
  refine⟨⟨?_, ?_⟩, ?_⟩
  · rintro ⟨_,kk,a,b⟩
    by_cases hk:k < at_
    · exact .inl ⟨c,kk,a, .inr hk⟩
    · exact .inr ⟨d,kk,List.not_lt.1 hk,b⟩
  · rintro (⟨_,kk,a,b⟩ | ⟨_,kk,a,b⟩)
    · refine⟨r,kk,a, ?_⟩; grind
    · refine⟨r,kk, ?_,b⟩; grind
  · rintro ⟨⟨_,_,_,b⟩,⟨_,_,a,_⟩⟩; grind
theorem lt_snoc0:∀ (o k:L),o < k++ [0]↔o≤k
  | [], []=>by simp [nil_lt]
  | [],y::ys=>by simp [nil_le]
  | x::xs, []=>by
    simp only [List.nil_append]
    constructor
    · intro h
      rcases V3.1 h with h | ⟨_,h⟩
      · exact absurd h (by simp)
      · exact absurd h (not_lt_nil _)
    · intro h; exact absurd (V4 h (nil_le _)) (by simp)
  | x::xs,y::ys=>by
    rw [List.cons_append,V3,V5,lt_snoc0 xs ys]
def nx:L→L
  | []=> []
  | a::k=>if nx k= [] then(if a.toNat=255 then [] else [a+1]) else a::nx k
theorem Fw {a b:UInt8} (ha:a.toNat≠255) (h:b < a+1):b≤a:=by
  have:=a.toNat_lt
  have e:(a+1).toNat=a.toNat+1:=by rw [UInt8.toNat_add]; show (a.toNat+1) % 256=_; omega
  rw [UInt8.lt_iff_toNat_lt,e] at h
  rw [UInt8.le_iff_toNat_le]; omega
theorem nx_only:∀ (k o:L),o.length≤k.length→k≤o→(nx k= []∨o < nx k)→o=k
  | [],o,hl,_,_=>List.eq_nil_of_length_eq_zero (by simpa using hl)
  | a::k, [],_,h,_=>by exact absurd (V4 h (nil_le _)) (by simp)
  | a::k,b::o,hl,h,hn=>by
    have hl':o.length≤k.length:=by simpa using hl
    rw [V5] at h
    unfold nx at hn
    by_cases e:nx k= []
    · rw [if_pos e] at hn
      by_cases ea:a.toNat=255
      · rcases h with h | ⟨rfl,h⟩
        · exfalso
          have:=b.toNat_lt
          rw [UInt8.lt_iff_toNat_lt] at h; omega
        · rw [nx_only k o hl' h (.inl e)]
      · rw [if_neg ea] at hn
        rcases hn with hn | hn
        · simp at hn
        · rcases h with h | ⟨rfl,h⟩
          · exfalso
            rcases V3.1 hn with hn | ⟨_,hn⟩
            · have:=Fw ea hn
              rw [UInt8.lt_iff_toNat_lt] at h
              rw [UInt8.le_iff_toNat_le] at this; omega
            · exact not_lt_nil _ hn
          · rw [nx_only k o hl' h (.inl e)]
    · rw [if_neg e] at hn
      rcases hn with hn | hn
      · simp at hn
      · rcases V3.1 hn with c | ⟨rfl,c⟩
        · exfalso
          rcases h with h | ⟨rfl,h⟩
          · exact absurd c (UInt8.lt_asymm h)
          · exact UInt8.lt_irrefl _ c
        · rcases h with h | ⟨_,h⟩
          · exact absurd h (UInt8.lt_irrefl _)
          · rw [nx_only k o hl' h (.inr c)]
theorem nx_gt:∀ (k:L),nx k= []∨k < nx k
  | []=> .inl rfl
  | a::k=>by
    unfold nx
    by_cases e:nx k= []
    · rw [if_pos e]
      by_cases ea:a.toNat=255
      · rw [if_pos ea]; exact .inl rfl
      · rw [if_neg ea]
        right
        rw [V3]
        left
        have:=a.toNat_lt
        have e:(a+1).toNat=a.toNat+1:=by rw [UInt8.toNat_add]; show (a.toNat+1) % 256=_; omega
        rw [UInt8.lt_iff_toNat_lt,e]; omega
    · rw [if_neg e]
      right
      rw [V3]
      exact .inr ⟨rfl,(nx_gt k).resolve_left e⟩
theorem nx_len:∀ (k:L),(nx k).length≤k.length
  | []=>Nat.le_refl _
  | a::k=>by
    have:=nx_len k
    unfold nx
    split
    · split <;> simp
    · simp; omega
end Go.Proofs.YtbkagebjhbphaaaGreat.M
