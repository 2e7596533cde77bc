import PyProof.Rows.All
import Wide.All
import OpenK.AllK
import Wide.FinOn
import PyProof.EqAt
import PyProof.EqKinds
import PyProof.TupleCall
import KE.BitLaws
import Open.SpecLaws
import KE.OsHead
import KE.OsGo
import PyProof.WalkInts
import PyProof.Rows.CallKwBuiltin
import KE.KMinKey
import KE.RegKIsAll
import PySem.Challenge.RW_firstpress_s01_answers
set_option Elab.async false
set_option linter.all false
set_option maxRecDepth 100000
set_option maxHeartbeats 2000000
namespace FP
open Vbqzab
inductive Wk (bs:List Bound):Nat→Nat→Nat→Int→Prop
 | nil (x:Nat):Wk bs 0 x x 0
 | cons {b:Bound} {k y:Nat} {w:Int}:b∈bs→Wk bs k b.dst y w→Wk bs (k + 1) b.src y (b.w + w)
theorem Wk.append {bs:List Bound} {j k x y z:Nat} {u w:Int} (h:Wk bs j x y u) (g:Wk bs k y z w):Wk bs (j + k) x z (u + w):=by
 induction h with
 | nil x =>
  rw [Nat.zero_add,Int.zero_add]
  exact g
 | cons hb _ ih =>
  rw [Nat.succ_add,Int.add_assoc]
  exact .cons hb (ih g)
theorem Wk.one {bs:List Bound} {b:Bound} (h:b∈bs):Wk bs 1 b.src b.dst b.w:=by
 have q:=Wk.cons h (.nil b.dst)
 rw [Int.add_zero] at q
 exact q
theorem Wk.snoc {bs:List Bound} {k x:Nat} {w:Int} {b:Bound} (h:b∈bs) (g:Wk bs k x b.src w):Wk bs (k + 1) x b.dst (w + b.w):=g.append (.one h)
theorem Wk.split {bs:List Bound} {k x y:Nat} {w:Int} (h:Wk bs (k + 1) x y w):∃ b∈bs,b.src=x∧∃ u,Wk bs k b.dst y u∧w=b.w + u:=by
 cases h with
 | cons hb g=>exact ⟨_,hb,rfl,_,g,rfl⟩
theorem Wk.zero {bs:List Bound} {x y:Nat} {w:Int} (h:Wk bs 0 x y w):x=y∧w=0:=by
 cases h
 exact ⟨rfl,rfl⟩
def Inn (bs:List Bound) (n:Nat):Prop:=∀ b∈bs,b.src < n∧b.dst < n
def NoNeg (bs:List Bound):Prop:=∀ k x w,Wk bs k x x w→0≤w
def Least (P:Int→Prop):Option Int→Prop
 | none=>∀ w,¬ P w
 | some m=>P m∧∀ w,P w→m≤w
theorem Least.uniq {P:Int→Prop} {a b:Option Int} (h:Least P a) (g:Least P b):a=b:=by
 cases a with
 | none =>
  cases b with
  | none=>rfl
  | some m=>exact absurd g.1 (h m)
 | some m =>
  cases b with
  | none=>exact absurd h.1 (g m)
  | some k =>
   have h1:=h.2 k g.1
   have h2:=g.2 m h.1
   rw [show m=k by omega]
theorem Least.weak {P Q:Int→Prop} {a:Option Int} (h:Least P a) (h1:∀ w,P w→Q w) (h2:∀ w,Q w→∃ u,P u∧u≤w):Least Q a:=by
 cases a with
 | none =>
  intro w hw
  obtain ⟨u,hu,_⟩:=h2 w hw
  exact h u hu
 | some m =>
  refine ⟨h1 m h.1,fun w hw=>?_⟩
  obtain ⟨u,hu,hl⟩:=h2 w hw
  have:=h.2 u hu
  omega
theorem Least.congr {P Q:Int→Prop} {a:Option Int} (h:Least P a) (e:∀ w,P w ↔ Q w):Least Q a :=
 h.weak (fun w hw=>(e w).mp hw) fun w hw=>⟨w,(e w).mpr hw,Int.le_refl w⟩
theorem Least.lesser {P Q:Int→Prop} {a b:Option Int} (h:Least P a) (g:Least Q b):Least (fun w=>P w∨Q w) (lesser a b):=by
 cases a with
 | none =>
  cases b with
  | none=>exact fun w hw=>hw.elim (h w) (g w)
  | some k=>exact ⟨.inr g.1,fun w hw=>hw.elim (fun q=>absurd q (h w)) (g.2 w)⟩
 | some m =>
  cases b with
  | none=>exact ⟨.inl h.1,fun w hw=>hw.elim (h.2 w) (fun q=>absurd q (g w))⟩
  | some k =>
   show Least _ (some (min m k))
   refine ⟨?_,fun w hw=>?_⟩
   ·by_cases q:m≤k
    ·rw [Int.min_eq_left q];exact .inl h.1
    ·rw [Int.min_eq_right (by omega)];exact .inr g.1
   ·rcases hw with hw | hw
    ·have:=h.2 w hw;omega
    ·have:=g.2 w hw;omega
theorem Least.plus {P:Int→Prop} {a:Option Int} (h:Least P a) (c:Int):Least (fun w=>∃ u,P u∧w=u + c) (plus a c):=by
 cases a with
 | none =>
  rintro w ⟨u,hu,_⟩
  exact h u hu
 | some m =>
  refine ⟨⟨m,h.1,rfl⟩,?_⟩
  rintro w ⟨u,hu,rfl⟩
  have:=h.2 u hu
  show m + c≤u + c
  omega
theorem yy9 {α:Type} {f:α→Option Int} {Q:α→Int→Prop}:∀ (l:List α) {P:Int→Prop} {a:Option Int},(∀ b∈l,Least (Q b) (f b))→Least P a→Least (fun w=>P w∨∃ b∈l,Q b w) (l.foldl (fun a b=>lesser a (f b)) a)
 | [],P,a,_,h=>h.congr fun w=>⟨.inl,fun q=>q.elim id (by rintro ⟨b,hb,_⟩;cases hb)⟩
 | c :: l,P,a,hf,h=>by
  have ih:=yy9 l (fun b hb=>hf b (List.mem_cons_of_mem _ hb)) (h.lesser (hf c List.mem_cons_self))
  refine ih.congr fun w=>⟨?_,?_⟩
  ·rintro ((q | q) | ⟨b,hb,q⟩)
   ·exact .inl q
   ·exact .inr ⟨c,List.mem_cons_self,q⟩
   ·exact .inr ⟨b,List.mem_cons_of_mem _ hb,q⟩
  ·rintro (q | ⟨b,hb,q⟩)
   ·exact .inl (.inl q)
   ·rcases List.mem_cons.mp hb with rfl | hb
    ·exact .inl (.inr q)
    ·exact .inr ⟨b,hb,q⟩
theorem yz8 (n:Nat) (f:Nat→Option Int) {y:Nat} (h:y < n):at_ ((List.range n).map f) y=f y:=by
 unfold at_
 rw [List.getD_eq_getElem?_getD,List.getElem?_map,List.getElem?_range h]
 rfl
theorem yy8 {bs:List Bound} {n:Nat} (hb:∀ b∈bs,b.src < n) {t:Table} {P:Nat→Int→Prop} (ht:∀ y,y < n→Least (P y) (at_ t y)) {y:Nat} (hy:y < n) :
  Least (fun w=>∃ b∈bs,b.dst=y∧∃ u,P b.src u∧w=u + b.w) (at_ (stepOn bs n t) y):=by
 unfold stepOn
 rw [yz8 n _ hy]
 have q:=yy9 (f:=fun b:Bound=>plus (at_ t b.src) b.w) (Q:=fun b w=>∃ u,P b.src u∧w=u + b.w) (bs.filter fun b=>b.dst == y) (P:=fun _=>False) (a:=none)
  (fun b hbm=>(ht b.src (hb b (List.mem_filter.mp hbm).1)).plus b.w) (fun _ h=>h)
 refine q.congr fun w=>⟨?_,?_⟩
 ·rintro (h | ⟨b,hbm,h⟩)
  ·exact h.elim
  ·obtain ⟨h1,h2⟩:=List.mem_filter.mp hbm
   exact ⟨b,h1,eq_of_beq h2,h⟩
 ·rintro ⟨b,h1,h2,h⟩
  exact .inr ⟨b,List.mem_filter.mpr ⟨h1,beq_iff_eq.mpr h2⟩,h⟩
theorem yg3 {bs:List Bound} {n:Nat} (hb:∀ b∈bs,b.src < n) {t:Table} {P:Nat→Int→Prop} (ht:∀ y,y < n→Least (P y) (at_ t y)) {y:Nat} (hy:y < n) :
  Least (fun w=>P y w∨∃ b∈bs,b.dst=y∧∃ u,P b.src u∧w=u + b.w) (at_ (relax bs n t) y):=by
 unfold relax
 rw [yz8 n _ hy]
 exact (ht y hy).lesser (yy8 hb ht hy)
theorem zz6 {bs:List Bound} {n:Nat} (hb:Inn bs n):∀ (k:Nat) {t:Table} {P:Nat→Int→Prop},(∀ y,y < n→Least (P y) (at_ t y))→∀ {y:Nat},y < n →
  Least (fun w=>∃ j,j≤k∧∃ x,x < n∧∃ u v,P x u∧Wk bs j x y v∧w=u + v) (at_ (relaxed bs n k t) y)
 | 0,t,P,ht,y,hy=>(ht y hy).congr fun w=>⟨fun q=>⟨0,Nat.le_refl 0,y,hy,w,0,q,.nil y,by omega⟩,by
   rintro ⟨j,hj,x,_,u,v,h1,h2,rfl⟩
   have:j=0:=by omega
   subst this
   obtain ⟨rfl,rfl⟩:=h2.zero
   rw [Int.add_zero]
   exact h1⟩
 | k + 1,t,P,ht,y,hy=>by
  have ih:=zz6 hb k (t:=relax bs n t) (fun y hy=>yg3 (fun b h=>(hb b h).1) ht hy) hy
  refine Least.congr (a:=at_ (relaxed bs n (k + 1) t) y) ih fun w=>⟨?_,?_⟩
  ·rintro ⟨j,hj,x,hx,u,v,h1 | ⟨b,hbm,rfl,u',h1,rfl⟩,h2,rfl⟩
   ·exact ⟨j,by omega,x,hx,u,v,h1,h2,rfl⟩
   ·exact ⟨j + 1,by omega,b.src,(hb b hbm).1,u',b.w + v,h1,.cons hbm h2,by omega⟩
  ·rintro ⟨j,hj,x,hx,u,v,h1,h2,rfl⟩
   cases h2 with
   | nil=>exact ⟨0,by omega,y,hx,u,0,.inl h1,.nil y,rfl⟩
   | @cons b j' _ v' hbm g =>
    exact ⟨j',by omega,b.dst,(hb b hbm).2,u + b.w,v',.inr ⟨b,hbm,rfl,u,h1,rfl⟩,g,by omega⟩
theorem at_only {n x y:Nat} (hy:y < n):Least (fun w=>y=x∧w=0) (at_ (only n x) y):=by
 unfold only
 rw [yz8 n _ hy]
 by_cases e:y=x
 ·rw [if_pos e]
  exact ⟨⟨e,rfl⟩,fun w h=>by rw [h.2];exact Int.le_refl 0⟩
 ·rw [if_neg e]
  exact fun w h=>e h.1
theorem at_zeros {n y:Nat} (hy:y < n):at_ (zeros n) y=some 0:=by
 unfold at_ zeros
 rw [List.getD_eq_getElem?_getD,List.getElem?_replicate,if_pos hy]
 rfl
theorem least_from {bs:List Bound} {n:Nat} (hb:Inn bs n) {x y:Nat} (hx:x < n) (hy:y < n):Least (fun w=>∃ j,j≤n∧Wk bs j x y w) (most bs n x y):=by
 unfold most from_
 refine (zz6 hb n (t:=only n x) (P:=fun y w=>y=x∧w=0) (fun y hy=>at_only hy) hy).congr fun w=>⟨?_,?_⟩
 ·rintro ⟨j,hj,x',_,u,v,⟨rfl,rfl⟩,h,rfl⟩
  rw [Int.zero_add]
  exact ⟨j,hj,h⟩
 ·rintro ⟨j,hj,h⟩
  exact ⟨j,hj,x,hx,0,w,⟨rfl,rfl⟩,h,by omega⟩
theorem zz5 {bs:List Bound} {n:Nat} (hb:Inn bs n) (k:Nat) {y:Nat} (hy:y < n):Least (fun w=>∃ j,j≤k∧∃ x,x < n∧Wk bs j x y w) (at_ (relaxed bs n k (zeros n)) y):=by
 refine (zz6 hb k (t:=zeros n) (P:=fun _ w=>w=0) (fun y hy=>by rw [at_zeros hy];exact ⟨rfl,fun w h=>by rw [h];exact Int.le_refl 0⟩) hy).congr fun w=>⟨?_,?_⟩
 ·rintro ⟨j,hj,x,hx,u,v,rfl,h,rfl⟩
  rw [Int.zero_add]
  exact ⟨j,hj,x,hx,h⟩
 ·rintro ⟨j,hj,x,hx,h⟩
  exact ⟨j,hj,x,hx,0,w,rfl,h,by omega⟩
def ups (bs:List Bound) (n:Nat):Nat→Table→Table
 | 0,t=>t
 | k + 1,t=>ups bs n k (stepOn (bs.map back) n t)
theorem yc4 (bs:List Bound) (n:Nat):∀ (k:Nat) (t:Table),ups bs n (k + 1) t=stepOn (bs.map back) n (ups bs n k t)
 | 0,_=>rfl
 | k + 1,t=>yc4 bs n k (stepOn (bs.map back) n t)
theorem yz1 (bs:List Bound) (n:Nat):∀ (K k:Nat) (t:Table),k≤K→(justTo bs n K t)[k]?=some (ups bs n k t)
 | 0,0,_,_=>rfl
 | 0,k + 1,_,h=>by omega
 | K + 1,0,_,_=>rfl
 | K + 1,k + 1,t,h=>yz1 bs n K k (stepOn (bs.map back) n t) (by omega)
theorem zs5 (bs:List Bound) (n K k:Nat) (t:Table) (h:k≤K):(justTo bs n K t).getD k []=ups bs n k t:=by
 rw [List.getD_eq_getElem?_getD,yz1 bs n K k t h]
 rfl
theorem yb7 {bs:List Bound} {n:Nat} (hb:Inn bs n) {y:Nat}:∀ (k:Nat) {x:Nat},x < n→Least (fun w=>Wk bs k x y w) (at_ (ups bs n k (only n y)) x)
 | 0,x,hx=>(at_only hx).congr fun w=>⟨by rintro ⟨rfl,rfl⟩;exact .nil x,fun h=>h.zero⟩
 | k + 1,x,hx=>by
  rw [yc4]
  have hbb:∀ b∈bs.map back,b.src < n:=by
   intro b h
   obtain ⟨c,hc,rfl⟩:=List.mem_map.mp h
   exact (hb c hc).2
  refine (yy8 hbb (fun x hx=>yb7 hb k hx) hx).congr fun w=>⟨?_,?_⟩
  ·rintro ⟨b,h,rfl,u,hu,rfl⟩
   obtain ⟨c,hc,rfl⟩:=List.mem_map.mp h
   show Wk bs (k + 1) c.src y (u + c.w)
   rw [Int.add_comm]
   exact .cons hc hu
  ·intro h
   obtain ⟨b,hbm,rfl,u,hu,rfl⟩:=h.split
   exact ⟨back b,List.mem_map.mpr ⟨b,hbm,rfl⟩,rfl,u,hu,Int.add_comm _ _⟩
theorem pigeon:∀ (n:Nat) (v:Nat→Nat),(∀ i,i < n + 1→v i < n)→∃ i j,i < j∧j < n + 1∧v i=v j
 | 0,v,h=>absurd (h 0 (by omega)) (by omega)
 | n + 1,v,h=>by
  by_cases hc:∃ i,i < n + 1∧v i=v (n + 1)
  ·obtain ⟨i,hi,e⟩:=hc
   exact ⟨i,n + 1,hi,by omega,e⟩
  ·have hne:∀ i,i < n + 1→v i≠v (n + 1):=fun i hi e=>hc ⟨i,hi,e⟩
   obtain ⟨i,j,hij,hj,e⟩:=pigeon n (fun i=>if v i < v (n + 1) then v i else v i - 1) (fun i hi=>by
    have h1:=hne i hi
    have h2:=h i (by omega)
    have h3:=h (n + 1) (by omega)
    show (if v i < v (n + 1) then v i else v i - 1) < n
    split <;> omega)
   refine ⟨i,j,hij,by omega,?_⟩
   have h1:=hne i (by omega)
   have h2:=hne j hj
   have e':(if v i < v (n + 1) then v i else v i - 1)=(if v j < v (n + 1) then v j else v j - 1):=e
   split at e' <;> split at e' <;> omega
theorem Wk.stops {bs:List Bound} {k x y:Nat} {w:Int} (h:Wk bs k x y w):∃ (v:Nat→Nat) (s:Nat→Int),v 0=x∧v k=y∧s 0=0∧s k=w∧∀ i,i < k→∃ b∈bs,b.src=v i∧b.dst=v (i + 1)∧s (i + 1)=s i + b.w:=by
 induction h with
 | nil x=>exact ⟨fun _=>x,fun _=>0,rfl,rfl,rfl,rfl,fun i hi=>by omega⟩
 | @cons b k y w hb _ ih =>
  obtain ⟨v,s,h1,h2,h3,h4,h5⟩:=ih
  refine ⟨fun i=>match i with | 0=>b.src | i + 1=>v i,fun i=>match i with | 0=>0 | i + 1=>b.w + s i,rfl,h2,rfl,by show b.w + s k=_;rw [h4],fun i hi=>?_⟩
  match i,hi with
  | 0,_=>exact ⟨b,hb,rfl,h1.symm,by show b.w + s 0=0 + b.w;rw [h3];omega⟩
  | i + 1,hi =>
   obtain ⟨c,hc,e1,e2,e3⟩:=h5 i (by omega)
   exact ⟨c,hc,e1,e2,by show b.w + s (i + 1)=b.w + s i + c.w;rw [e3];omega⟩
theorem seg {bs:List Bound} {v:Nat→Nat} {s:Nat→Int} {k:Nat} (h:∀ i,i < k→∃ b∈bs,b.src=v i∧b.dst=v (i + 1)∧s (i + 1)=s i + b.w) (i:Nat):∀ d,i + d≤k→Wk bs d (v i) (v (i + d)) (s (i + d) - s i)
 | 0,_=>by
  rw [Nat.add_zero,Int.sub_self]
  exact .nil _
 | d + 1,hd=>by
  have ih:=seg h i d (by omega)
  obtain ⟨b,hb,e1,e2,e3⟩:=h (i + d) (by omega)
  rw [← e1] at ih
  have q:=Wk.snoc hb ih
  rw [e2] at q
  rw [show i + (d + 1)=i + d + 1 from rfl,e3,show s (i + d) + b.w - s i=s (i + d) - s i + b.w by omega]
  exact q
theorem Wk.cut {bs:List Bound} {n k x y:Nat} {w:Int} (hb:Inn bs n) (h:Wk bs k x y w) (hk:n < k) :
  ∃ a c d p u1 u2 u3,Wk bs a x p u1∧Wk bs c p p u2∧Wk bs d p y u3∧a + c + d=k∧0 < c∧c < k∧u1 + u2 + u3=w:=by
 obtain ⟨v,s,h1,h2,h3,h4,h5⟩:=h.stops
 obtain ⟨i,j,hij,hj,e⟩:=pigeon n v (fun i hi=>by
  obtain ⟨b,hbm,e1,_⟩:=h5 i (by omega)
  rw [← e1]
  exact (hb b hbm).1)
 have g1:=seg h5 0 i (by omega)
 have g2:=seg h5 i (j - i) (by omega)
 have g3:=seg h5 j (k - j) (by omega)
 rw [Nat.zero_add,h1,h3] at g1
 rw [show i + (j - i)=j by omega,← e] at g2
 rw [show j + (k - j)=k by omega,← e,h2,h4] at g3
 exact ⟨i,j - i,k - j,v i,_,_,_,g1,g2,g3,by omega,by omega,by omega,by omega⟩
theorem Wk.short {bs:List Bound} {n:Nat} (hb:Inn bs n) (hn:NoNeg bs):∀ (k:Nat) {x y:Nat} {w:Int},Wk bs k x y w→∃ j u,j≤n∧Wk bs j x y u∧u≤w:=by
 intro k
 induction k using Nat.strongRecOn with
 | ind k ih =>
  intro x y w h
  by_cases hk:k≤n
  ·exact ⟨k,w,hk,h,Int.le_refl w⟩
  ·obtain ⟨a,c,d,p,u1,u2,u3,g1,g2,g3,e1,e2,e3,e4⟩:=h.cut hb (by omega)
   obtain ⟨j,u,hj,hu,hl⟩:=ih (a + d) (by omega) (g1.append g3)
   have:=hn c p u2 g2
   exact ⟨j,u,hj,hu,by omega⟩
theorem Wk.shortRing {bs:List Bound} {n:Nat} (hb:Inn bs n):∀ (k:Nat) {x:Nat} {w:Int},Wk bs k x x w→w < 0→∃ j y u,0 < j∧j≤n∧Wk bs j y y u∧u < 0:=by
 intro k
 induction k using Nat.strongRecOn with
 | ind k ih =>
  intro x w h hw
  by_cases hk:k≤n
  ·refine ⟨k,x,w,?_,hk,h,hw⟩
   cases k with
   | zero =>
    have:=h.zero.2
    omega
   | succ k=>omega
  ·obtain ⟨a,c,d,p,u1,u2,u3,g1,g2,g3,e1,e2,e3,e4⟩:=h.cut hb (by omega)
   by_cases hu:u2 < 0
   ·exact ih c e3 g2 hu
   ·exact ih (a + d) (by omega) (g1.append g3) (by omega)
theorem zq7 {bs:List Bound} {n:Nat} (hb:Inn bs n) (hn:NoNeg bs) {x y:Nat} (hx:x < n) (hy:y < n):Least (fun w=>∃ j,Wk bs j x y w) (most bs n x y) :=
 (least_from hb hx hy).weak (fun _ ⟨j,_,h⟩=>⟨j,h⟩) fun _ ⟨j,h⟩=>by
  obtain ⟨i,u,hi,hu,hl⟩:=h.short hb hn
  exact ⟨u,⟨i,hi,hu⟩,hl⟩
theorem zj2 (bs:List Bound) (n:Nat):∀ (k:Nat) (t:Table),t.length=n→(relaxed bs n k t).length=n
 | 0,_,h=>h
 | k + 1,t,_=>zj2 bs n k (relax bs n t) (by unfold relax;rw [List.length_map,List.length_range])
theorem at_ext {t u:Table} {n:Nat} (ht:t.length=n) (hu:u.length=n) (h:∀ y,y < n→at_ t y=at_ u y):t=u:=by
 refine List.ext_getElem? fun i=>?_
 by_cases hi:i < n
 ·have q:=h i hi
  unfold at_ at q
  rw [List.getD_eq_getElem?_getD,List.getD_eq_getElem?_getD,List.getElem?_eq_getElem (by omega),List.getElem?_eq_getElem (by omega)] at q
  rw [List.getElem?_eq_getElem (by omega),List.getElem?_eq_getElem (by omega)]
  exact congrArg some q
 ·rw [List.getElem?_eq_none (by omega),List.getElem?_eq_none (by omega)]
theorem zv0 {bs:List Bound} {n:Nat} (hb:Inn bs n):fits bs n=true ↔ NoNeg bs:=by
 have hl:(relaxed bs n n (zeros n)).length=n:=zj2 bs n n _ (by unfold zeros;rw [List.length_replicate])
 constructor
 ·intro h
  have e:relax bs n (relaxed bs n n (zeros n))=relaxed bs n n (zeros n):=eq_of_beq h
  have hp:∀ y,y < n→∃ m,at_ (relaxed bs n n (zeros n)) y=some m:=by
   intro y hy
   have q:=zz5 hb n hy
   cases e1:at_ (relaxed bs n n (zeros n)) y with
   | none =>
    rw [e1] at q
    exact absurd ⟨0,Nat.zero_le _,y,hy,.nil y⟩ (q 0)
   | some m=>exact ⟨m,rfl⟩
  have hpot:∀ b∈bs,∀ m k,at_ (relaxed bs n n (zeros n)) b.src=some m→at_ (relaxed bs n n (zeros n)) b.dst=some k→k≤m + b.w:=by
   intro b hbm m k e1 e2
   have q:=yg3 (bs:=bs) (n:=n) (fun b h=>(hb b h).1) (t:=relaxed bs n n (zeros n)) (P:=fun y w=>at_ (relaxed bs n n (zeros n)) y=some w) (fun y hy=>by
    obtain ⟨m,em⟩:=hp y hy
    rw [em]
    exact ⟨rfl,fun w h=>by cases h;exact Int.le_refl _⟩) (hb b hbm).2
   rw [e,e2] at q
   exact q.2 _ (.inr ⟨b,hbm,rfl,m,e1,rfl⟩)
  have hw:∀ k x y w,Wk bs k x y w→x < n→∀ m l,at_ (relaxed bs n n (zeros n)) x=some m→at_ (relaxed bs n n (zeros n)) y=some l→l≤m + w:=by
   intro k x y w h
   induction h with
   | nil =>
    intro _ m l e1 e2
    rw [e1] at e2
    cases e2
    omega
   | @cons b _ _ _ hbm _ ih =>
    intro hx m l e1 e2
    obtain ⟨d,ed⟩:=hp b.dst (hb b hbm).2
    have h1:=hpot b hbm m d e1 ed
    have h2:=ih (hb b hbm).2 d l ed e2
    omega
  intro k x w h
  cases k with
  | zero=>rw [h.zero.2];exact Int.le_refl 0
  | succ k =>
   obtain ⟨b,hbm,e1,_⟩:=h.split
   have hx:x < n:=e1▸(hb b hbm).1
   obtain ⟨m,em⟩:=hp x hx
   have:=hw _ _ _ _ h hx m m em em
   omega
 ·intro hn
  refine beq_iff_eq.mpr ?_
  refine at_ext (n:=n) (by unfold relax;rw [List.length_map,List.length_range]) hl fun y hy=>?_
  have q1:=yg3 (fun b h=>(hb b h).1) (t:=relaxed bs n n (zeros n)) (P:=fun y w=>∃ j,j≤n∧∃ x,x < n∧Wk bs j x y w) (fun y hy=>zz5 hb n hy) hy
  have q2:=zz5 hb n hy
  refine q1.uniq (q2.weak (fun _ => .inl) fun w hw=>?_)
  rcases hw with hw | ⟨b,hbm,rfl,u,⟨j,_,x,hx,hu⟩,rfl⟩
  ·exact ⟨w,hw,Int.le_refl w⟩
  ·obtain ⟨i,u',hi,hu',hl'⟩:=(Wk.snoc hbm hu).short hb hn
   exact ⟨u',⟨i,hi,x,hx,hu'⟩,hl'⟩
end FP
namespace FP
open Vbqzab
def lesserP (known:Option Int) (found:Int):Option Int:=match known with
 | none=>some found
 | some k=>if found < k then some found else some k
def comb (known:Option Int) (ahead:Int) (rest:Option Int):Option Int:=match rest with
 | none=>known
 | some r=>lesserP known (ahead + r)
def led (direct:Table) (ahead:Int) (behind:Table):Table:=List.zipWith (fun known rest=>comb known ahead rest) direct behind
def fwRow (m:Nat) (S:List Table) (x:Nat):List Table:=match at_ (S.getD x []) m with
 | none=>S
 | some a=>S.set x (led (S.getD x []) a (S.getD m []))
def fwMid (n:Nat) (S:List Table) (m:Nat):List Table:=(List.range n).foldl (fwRow m) S
def putB (S:List Table) (b:Bound):List Table:=S.set b.src ((S.getD b.src []).set b.dst (lesserP (at_ (S.getD b.src []) b.dst) b.w))
def fw0 (bs:List Bound) (n:Nat):List Table:=bs.foldl putB ((List.range n).map (only n))
def fw (bs:List Bound) (n:Nat):List Table:=(List.range n).foldl (fwMid n) (fw0 bs n)
def g (S:List Table) (x y:Nat):Option Int:=at_ (S.getD x []) y
structure Sh (n:Nat) (S:List Table):Prop where
 len:S.length=n
 row:∀ x,x < n→(S.getD x []).length=n
theorem lesserP_eq (a:Option Int) (f:Int):lesserP a f=lesser a (some f):=by
 cases a with
 | none=>rfl
 | some k =>
  show (if f < k then some f else some k)=some (min k f)
  split
  ·rw [Int.min_eq_right (by omega)]
  ·rw [Int.min_eq_left (by omega)]
theorem zi1 (a:Option Int) (f:Int):∃ m,lesserP a f=some m∧m≤f∧(∀ k,a=some k→m≤k)∧(m=f∨a=some m):=by
 cases a with
 | none=>exact ⟨f,rfl,Int.le_refl f,fun k h=>(by cases h),.inl rfl⟩
 | some k =>
  show ∃ m,(if f < k then some f else some k)=some m∧_
  by_cases h:f < k
  ·rw [if_pos h]
   exact ⟨f,rfl,Int.le_refl f,fun j e=>by cases e;omega,.inl rfl⟩
  ·rw [if_neg h]
   exact ⟨k,rfl,by omega,fun j e=>by cases e;omega,.inr rfl⟩
theorem yg6 {α:Type} {l:List α} {i:Nat} {a d:α} (h:i < l.length):(l.set i a).getD i d=a:=by
 rw [List.getD_eq_getElem?_getD,List.getElem?_set_self h]
 rfl
theorem yg5 {α:Type} {l:List α} {i j:Nat} {a d:α} (h:j≠i):(l.set i a).getD j d=l.getD j d:=by
 rw [List.getD_eq_getElem?_getD,List.getD_eq_getElem?_getD,List.getElem?_set_ne (fun e=>h e.symm)]
theorem at_zipWith {f:Option Int→Option Int→Option Int} {a b:Table} {y:Nat} (ha:y < a.length) (hb:y < b.length):at_ (List.zipWith f a b) y=f (at_ a y) (at_ b y):=by
 unfold at_
 rw [List.getD_eq_getElem?_getD,List.getD_eq_getElem?_getD,List.getD_eq_getElem?_getD,List.getElem?_zipWith,List.getElem?_eq_getElem ha,List.getElem?_eq_getElem hb]
 rfl
theorem led_length {d e:Table} {n:Nat} {a:Int} (h1:d.length=n) (h2:e.length=n):(led d a e).length=n:=by
 unfold led
 rw [List.length_zipWith,h1,h2]
 exact Nat.min_self n
theorem Sh.set {n:Nat} {S:List Table} (h:Sh n S) {x:Nat} {r:Table} (hr:r.length=n):Sh n (S.set x r):=by
 refine ⟨by rw [List.length_set];exact h.len,fun y hy=>?_⟩
 by_cases e:y=x
 ·subst e
  rw [yg6 (by rw [h.len];exact hy)]
  exact hr
 ·rw [yg5 e]
  exact h.row y hy
theorem g_set {n:Nat} {S:List Table} (h:Sh n S) {x x' y:Nat} {r:Table} (hx:x < n):g (S.set x r) x' y=if x'=x then at_ r y else g S x' y:=by
 unfold g
 by_cases e:x'=x
 ·subst e
  rw [if_pos rfl,yg6 (by rw [h.len];exact hx)]
 ·rw [if_neg e,yg5 e]
theorem xe3 {n m x:Nat} {S:List Table} (h:Sh n S) (hx:x < n) (hm:m < n):Sh n (fwRow m S x):=by
 unfold fwRow
 split
 ·exact h
 ·exact h.set (led_length (h.row x hx) (h.row m hm))
theorem ym8 {n m x x' y:Nat} {S:List Table} (h:Sh n S) (hx:x < n) (hm:m < n) (hy:y < n):g (fwRow m S x) x' y=if x'=x then (match g S x m with | none=>g S x y | some a=>comb (g S x y) a (g S m y)) else g S x' y:=by
 by_cases e:x'=x
 ·subst e
  rw [if_pos rfl]
  unfold fwRow
  show g (match g S x' m with | none=>S | some a=>S.set x' (led (S.getD x' []) a (S.getD m []))) x' y=_
  cases q:g S x' m with
  | none=>rfl
  | some a =>
   show g (S.set x' (led (S.getD x' []) a (S.getD m []))) x' y=comb (g S x' y) a (g S m y)
   rw [g_set h hx,if_pos rfl]
   unfold led
   rw [at_zipWith (by rw [h.row x' hx];exact hy) (by rw [h.row m hm];exact hy)]
   rfl
 ·rw [if_neg e]
  unfold fwRow
  split
  ·rfl
  ·rw [g_set h hx,if_neg e]
structure Keep (bs:List Bound) (n:Nat) (S:List Table):Prop where
 sh:Sh n S
 sound:∀ x y w,x < n→y < n→g S x y=some w→∃ k,Wk bs k x y w
 diag:∀ x,x < n→∃ m,g S x x=some m∧m≤0
def Low (n:Nat) (S T:List Table):Prop:=∀ x y m,x < n→y < n→g S x y=some m→∃ k,g T x y=some k∧k≤m
theorem Low.refl {n:Nat} {S:List Table}:Low n S S:=fun _ _ m _ _ h=>⟨m,h,Int.le_refl m⟩
theorem Low.trans {n:Nat} {S T U:List Table} (a:Low n S T) (b:Low n T U):Low n S U:=fun x y m hx hy h=>by
 obtain ⟨k,h1,h2⟩:=a x y m hx hy h
 obtain ⟨j,h3,h4⟩:=b x y k hx hy h1
 exact ⟨j,h3,by omega⟩
theorem Keep.of_low {bs:List Bound} {n:Nat} {S T:List Table} (k:Keep bs n S) (l:Low n S T) (sh:Sh n T) (sound:∀ x y w,x < n→y < n→g T x y=some w→∃ k,Wk bs k x y w):Keep bs n T :=
 ⟨sh,sound,fun x hx=>by
  obtain ⟨m,h1,h2⟩:=k.diag x hx
  obtain ⟨j,h3,h4⟩:=l x x m hx hx h1
  exact ⟨j,h3,by omega⟩⟩
theorem fwRow_low {n m x:Nat} {S:List Table} (h:Sh n S) (hx:x < n) (hm:m < n):Low n S (fwRow m S x):=by
 intro x' y k hx' hy hk
 rw [ym8 h hx hm hy]
 by_cases e:x'=x
 ·subst e
  rw [if_pos rfl]
  split
  ·exact ⟨k,hk,Int.le_refl k⟩
  ·rename_i a _
   cases q:g S m y with
   | none=>exact ⟨k,hk,Int.le_refl k⟩
   | some r =>
    obtain ⟨j,h1,_,h3,_⟩:=zi1 (g S x' y) (a + r)
    exact ⟨j,h1,h3 k hk⟩
 ·rw [if_neg e]
  exact ⟨k,hk,Int.le_refl k⟩
theorem fwRow_sound {bs:List Bound} {n m x:Nat} {S:List Table} (h:Keep bs n S) (hx:x < n) (hm:m < n):∀ x' y w,x' < n→y < n→g (fwRow m S x) x' y=some w→∃ k,Wk bs k x' y w:=by
 intro x' y w hx' hy hw
 rw [ym8 h.sh hx hm hy] at hw
 by_cases e:x'=x
 ·subst e
  rw [if_pos rfl] at hw
  cases q:g S x' m with
  | none =>
   rw [q] at hw
   exact h.sound x' y w hx hy hw
  | some a =>
   rw [q] at hw
   replace hw:comb (g S x' y) a (g S m y)=some w:=hw
   cases q2:g S m y with
   | none =>
    rw [q2] at hw
    exact h.sound x' y w hx hy hw
   | some r =>
    rw [q2] at hw
    obtain ⟨j,h1,_,_,h4⟩:=zi1 (g S x' y) (a + r)
    have e:j=w:=Option.some.inj (h1.symm.trans hw)
    subst e
    rcases h4 with e | e
    ·obtain ⟨k1,w1⟩:=h.sound x' m a hx hm q
     obtain ⟨k2,w2⟩:=h.sound m y r hm hy q2
     rw [e]
     exact ⟨_,w1.append w2⟩
    ·exact h.sound x' y j hx hy e
 ·rw [if_neg e] at hw
  exact h.sound x' y w hx' hy hw
theorem fwRow_keep {bs:List Bound} {n m x:Nat} {S:List Table} (h:Keep bs n S) (hx:x < n) (hm:m < n):Keep bs n (fwRow m S x) :=
 h.of_low (fwRow_low h.sh hx hm) (xe3 h.sh hx hm) (fwRow_sound h hx hm)
theorem rows_keep {bs:List Bound} {n m:Nat} (hm:m < n):∀ (l:List Nat) {S:List Table},(∀ x∈l,x < n)→Keep bs n S→Keep bs n (l.foldl (fwRow m) S)∧Low n S (l.foldl (fwRow m) S)
 | [],S,_,h=>⟨h,Low.refl⟩
 | x :: l,S,hl,h=>by
  have hx:=hl x List.mem_cons_self
  obtain ⟨h1,h2⟩:=rows_keep hm l (fun y hy=>hl y (List.mem_cons_of_mem _ hy)) (fwRow_keep h hx hm)
  exact ⟨h1,(fwRow_low h.sh hx hm).trans h2⟩
theorem fwMid_keep {bs:List Bound} {n m:Nat} {S:List Table} (hm:m < n) (h:Keep bs n S):Keep bs n (fwMid n S m)∧Low n S (fwMid n S m):=rows_keep hm _ (fun _ hx=>List.mem_range.mp hx) h
theorem rows_g {n m:Nat} (hm:m < n) {d:Int} (hd:0≤d):∀ (l:List Nat) {S:List Table},(∀ x∈l,x < n)→l.Nodup→Sh n S→g S m m=some d→∀ x y,x < n→y < n →
  g (l.foldl (fwRow m) S) x y=if x∈l then (match g S x m with | none=>g S x y | some a=>comb (g S x y) a (g S m y)) else g S x y
 | [],S,_,_,_,_,x,y,_,_=>by simp
 | z :: l,S,hl,hN,h,hmm,x,y,hx,hy=>by
  have hz:=hl z List.mem_cons_self
  obtain ⟨hz1,hz2⟩:=List.nodup_cons.mp hN
  have hself:∀ y,y < n→g (fwRow m S z) m y=g S m y:=by
   intro y hy
   rw [ym8 h hz hm hy]
   by_cases e:m=z
   ·subst e
    rw [if_pos rfl,hmm]
    show comb (g S m y) d (g S m y)=g S m y
    cases q:g S m y with
    | none=>rfl
    | some r =>
     show (if d + r < r then some (d + r) else some r)=some r
     rw [if_neg (by omega)]
   ·rw [if_neg e]
  have ih:=rows_g hm hd l (S:=fwRow m S z) (fun y hy=>hl y (List.mem_cons_of_mem _ hy)) hz2 (xe3 h hz hm) ((hself m hm).trans hmm) x y hx hy
  rw [List.foldl_cons,ih,hself y hy]
  by_cases e:x=z
  ·subst e
   rw [if_neg hz1,if_pos List.mem_cons_self,ym8 h hz hm hy,if_pos rfl]
  ·rw [ym8 h hz hm hy,if_neg e,ym8 h hz hm hm,if_neg e]
   by_cases hxl:x∈l
   ·rw [if_pos hxl,if_pos (List.mem_cons_of_mem _ hxl)]
   ·rw [if_neg hxl,if_neg (fun q=>(List.mem_cons.mp q).elim e hxl)]
theorem fwMid_g {n m:Nat} (hm:m < n) {d:Int} (hd:0≤d) {S:List Table} (h:Sh n S) (hmm:g S m m=some d) {x y:Nat} (hx:x < n) (hy:y < n) :
  g (fwMid n S m) x y=(match g S x m with | none=>g S x y | some a=>comb (g S x y) a (g S m y)):=by
 unfold fwMid
 rw [rows_g hm hd _ (fun _ q=>List.mem_range.mp q) List.nodup_range h hmm x y hx hy,if_pos (List.mem_range.mpr hx)]
inductive Wi (bs:List Bound) (m:Nat):Nat→Nat→Int→Prop
 | nil (x:Nat):Wi bs m x x 0
 | one {b:Bound}:b∈bs→Wi bs m b.src b.dst b.w
 | cons {b:Bound} {y:Nat} {w:Int}:b∈bs→b.dst < m→Wi bs m b.dst y w→Wi bs m b.src y (b.w + w)
inductive Cyc (bs:List Bound) (m:Nat):Int→Prop
 | nil:Cyc bs m 0
 | cons {a c:Int}:Wi bs m m m a→Cyc bs m c→Cyc bs m (a + c)
theorem Wi.dec {bs:List Bound} {m x y:Nat} {w:Int} (h:Wi bs (m + 1) x y w):Wi bs m x y w∨∃ u c v,Wi bs m x m u∧Cyc bs m c∧Wi bs m m y v∧w=u + c + v:=by
 induction h with
 | nil x=>exact .inl (.nil x)
 | one hb=>exact .inl (.one hb)
 | @cons b y w hb hd _ ih =>
  by_cases e:b.dst=m
  ·rw [e] at ih
   have h1:Wi bs m b.src m b.w:=e▸Wi.one hb
   rcases ih with ih | ⟨u,c,v,h2,h3,h4,rfl⟩
   ·exact .inr ⟨b.w,0,w,h1,.nil,ih,by omega⟩
   ·exact .inr ⟨b.w,u + c,v,h1,.cons h2 h3,h4,by omega⟩
  ·have hd':b.dst < m:=by omega
   rcases ih with ih | ⟨u,c,v,h2,h3,h4,rfl⟩
   ·exact .inl (.cons hb hd' ih)
   ·exact .inr ⟨b.w + u,c,v,.cons hb hd' h2,h3,h4,by omega⟩
theorem Wk.toWi {bs:List Bound} {n k x y:Nat} {w:Int} (hb:Inn bs n) (h:Wk bs k x y w):Wi bs n x y w:=by
 induction h with
 | nil x=>exact .nil x
 | cons hbm _ ih=>exact .cons hbm (hb _ hbm).2 ih
def Cov (bs:List Bound) (n m:Nat) (S:List Table):Prop:=∀ x y w,x < n→y < n→Wi bs m x y w→∃ d,g S x y=some d∧d≤w
theorem Cov.next {bs:List Bound} {n m:Nat} {S:List Table} (hm:m < n) (h:Sh n S) (cov:Cov bs n m S) {d:Int} (hd:0≤d) (hmm:g S m m=some d):Cov bs n (m + 1) (fwMid n S m):=by
 intro x y w hx hy hw
 have hcyc:∀ c,Cyc bs m c→0≤c:=by
  intro c hc
  induction hc with
  | nil=>exact Int.le_refl 0
  | @cons a c ha _ ih =>
   obtain ⟨e,h1,h2⟩:=cov m m a hm hm ha
   rw [hmm] at h1
   cases h1
   omega
 rw [fwMid_g hm hd h hmm hx hy]
 rcases hw.dec with hw | ⟨u,cc,v,h1,h2,h3,rfl⟩
 ·obtain ⟨e,h1,h2⟩:=cov x y w hx hy hw
  split
  ·exact ⟨e,h1,h2⟩
  ·rename_i a _
   cases q:g S m y with
   | none=>exact ⟨e,h1,h2⟩
   | some r =>
    obtain ⟨j,h3,_,h5,_⟩:=zi1 (g S x y) (a + r)
    exact ⟨j,h3,by have:=h5 e h1;omega⟩
 ·obtain ⟨e1,h4,h5⟩:=cov x m u hx hm h1
  obtain ⟨e2,h6,h7⟩:=cov m y v hm hy h3
  have:=hcyc cc h2
  rw [h4,h6]
  obtain ⟨j,h8,h9,_,_⟩:=zi1 (g S x y) (e1 + e2)
  exact ⟨j,h8,by omega⟩
theorem at_set {t:Table} {i y:Nat} {o:Option Int} (hi:i < t.length):at_ (t.set i o) y=if y=i then o else at_ t y:=by
 unfold at_
 by_cases e:y=i
 ·subst e
  rw [if_pos rfl,yg6 hi]
 ·rw [if_neg e,yg5 e]
theorem putB_sh {n:Nat} {S:List Table} {b:Bound} (h:Sh n S) (hb:b.src < n):Sh n (putB S b):=h.set (by rw [List.length_set];exact h.row _ hb)
theorem putB_g {n x y:Nat} {S:List Table} {b:Bound} (h:Sh n S) (hb:b.src < n) (hd:b.dst < n):g (putB S b) x y=if x=b.src∧y=b.dst then lesserP (g S x y) b.w else g S x y:=by
 unfold putB
 rw [g_set h hb]
 by_cases e:x=b.src
 ·subst e
  rw [if_pos rfl,at_set (by rw [h.row _ hb];exact hd)]
  by_cases e2:y=b.dst
  ·subst e2
   rw [if_pos rfl,if_pos ⟨rfl,rfl⟩]
   rfl
  ·rw [if_neg e2,if_neg (fun q=>e2 q.2)]
   rfl
 ·rw [if_neg e,if_neg (fun q=>e q.1)]
theorem putB_keep {bs:List Bound} {n:Nat} {S:List Table} {b:Bound} (h:Keep bs n S) (hm:b∈bs) (hb:b.src < n) (hd:b.dst < n):Keep bs n (putB S b)∧Low n S (putB S b)∧∃ d,g (putB S b) b.src b.dst=some d∧d≤b.w:=by
 have l:Low n S (putB S b):=by
  intro x y m hx hy e
  rw [putB_g h.sh hb hd]
  split
  ·obtain ⟨j,h1,_,h3,_⟩:=zi1 (g S x y) b.w
   exact ⟨j,h1,h3 m e⟩
  ·exact ⟨m,e,Int.le_refl m⟩
 refine ⟨h.of_low l (putB_sh h.sh hb) fun x y w hx hy e=>?_,l,?_⟩
 ·rw [putB_g h.sh hb hd] at e
  by_cases q:x=b.src∧y=b.dst
  ·rw [if_pos q] at e
   obtain ⟨j,h1,_,_,h4⟩:=zi1 (g S x y) b.w
   have ej:j=w:=Option.some.inj (h1.symm.trans e)
   subst ej
   rcases h4 with h4 | h4
   ·rw [h4,q.1,q.2]
    exact ⟨1,.one hm⟩
   ·exact h.sound x y j hx hy h4
  ·rw [if_neg q] at e
   exact h.sound x y w hx hy e
 ·rw [putB_g h.sh hb hd,if_pos ⟨rfl,rfl⟩]
  obtain ⟨j,h1,h2,_,_⟩:=zi1 (g S b.src b.dst) b.w
  exact ⟨j,h1,h2⟩
theorem puts_keep {bs:List Bound} {n:Nat} (hb:Inn bs n):∀ (l:List Bound) {S:List Table},(∀ b∈l,b∈bs)→Keep bs n S→Keep bs n (l.foldl putB S)∧Low n S (l.foldl putB S)∧∀ b∈l,∃ d,g (l.foldl putB S) b.src b.dst=some d∧d≤b.w
 | [],S,_,h=>⟨h,Low.refl,fun b hb=>by cases hb⟩
 | c :: l,S,hl,h=>by
  have hc:=hl c List.mem_cons_self
  obtain ⟨k1,l1,d,hd1,hd2⟩:=putB_keep h hc (hb c hc).1 (hb c hc).2
  obtain ⟨k2,l2,a2⟩:=puts_keep hb l (fun b q=>hl b (List.mem_cons_of_mem _ q)) k1
  refine ⟨k2,l1.trans l2,fun b hbl=>?_⟩
  rcases List.mem_cons.mp hbl with rfl | hbl
  ·obtain ⟨e,h3,h4⟩:=l2 _ _ d (hb b hc).1 (hb b hc).2 hd1
   exact ⟨e,h3,by omega⟩
  ·exact a2 b hbl
theorem yf3 {α:Type} {n x:Nat} {f:Nat→α} {d:α} (hx:x < n):((List.range n).map f).getD x d=f x:=by
 rw [List.getD_eq_getElem?_getD,List.getElem?_map,List.getElem?_range hx]
 rfl
theorem init_keep (bs:List Bound) (n:Nat):Keep bs n ((List.range n).map (only n)):=by
 have e:∀ x y,x < n→y < n→g ((List.range n).map (only n)) x y=if y=x then some 0 else none:=by
  intro x y hx hy
  unfold g only
  rw [yf3 hx,yz8 n _ hy]
 refine ⟨⟨by rw [List.length_map,List.length_range],fun x hx=>by rw [yf3 hx];unfold only;rw [List.length_map,List.length_range]⟩,fun x y w hx hy h=>?_,fun x hx=>⟨0,by rw [e x x hx hx,if_pos rfl],Int.le_refl 0⟩⟩
 rw [e x y hx hy] at h
 split at h
 ·rename_i q
  cases h
  subst q
  exact ⟨0,.nil y⟩
 ·cases h
theorem fw0_keep {bs:List Bound} {n:Nat} (hb:Inn bs n):Keep bs n (fw0 bs n)∧Cov bs n 0 (fw0 bs n):=by
 obtain ⟨h1,_,h3⟩:=puts_keep hb bs (fun _ h=>h) (init_keep bs n)
 refine ⟨h1,fun x y w hx hy hw=>?_⟩
 cases hw with
 | nil=>exact h1.diag x hx
 | one hm=>exact h3 _ hm
 | cons _ hd _=>exact absurd hd (Nat.not_lt_zero _)
def fwUp (bs:List Bound) (n m:Nat):List Table:=(List.range m).foldl (fwMid n) (fw0 bs n)
theorem fwUp_succ (bs:List Bound) (n m:Nat):fwUp bs n (m + 1)=fwMid n (fwUp bs n m) m:=by
 unfold fwUp
 rw [List.range_succ,List.foldl_append]
 rfl
theorem yr0 {bs:List Bound} {n:Nat} (hb:Inn bs n):∀ m,m≤n→Keep bs n (fwUp bs n m)∧((∀ x d,x < n→g (fwUp bs n m) x x=some d→0≤d)→Cov bs n m (fwUp bs n m))
 | 0,_=>⟨(fw0_keep hb).1,fun _=>(fw0_keep hb).2⟩
 | m + 1,hm=>by
  obtain ⟨h1,h2⟩:=yr0 hb m (by omega)
  obtain ⟨k1,l1⟩:=fwMid_keep (show m < n by omega) h1
  rw [fwUp_succ]
  refine ⟨k1,fun hd=>?_⟩
  have hd':∀ x d,x < n→g (fwUp bs n m) x x=some d→0≤d:=by
   intro x d hx e
   obtain ⟨j,h3,h4⟩:=l1 x x d hx hx e
   have:=hd x j hx h3
   omega
  obtain ⟨d,e,_⟩:=h1.diag m (by omega)
  exact (h2 hd').next (by omega) h1.sh (hd' m d (by omega) e) e
theorem zs7 {bs:List Bound} {n:Nat} (hb:Inn bs n):Keep bs n (fw bs n):=(yr0 hb n (Nat.le_refl n)).1
theorem fw_diag {bs:List Bound} {n:Nat} (hb:Inn bs n):(∀ x d,x < n→g (fw bs n) x x=some d→0≤d) ↔ NoNeg bs:=by
 constructor
 ·intro h k x w hw
  cases k with
  | zero=>rw [hw.zero.2];exact Int.le_refl 0
  | succ k =>
   obtain ⟨b,hbm,e,_⟩:=hw.split
   have hx:x < n:=e▸(hb b hbm).1
   obtain ⟨d,h1,h2⟩:=(yr0 hb n (Nat.le_refl n)).2 h x x w hx hx (hw.toWi hb)
   have:=h x d hx h1
   omega
 ·intro h x d hx e
  obtain ⟨k,hk⟩:=(zs7 hb).sound x x d hx hx e
  exact h k x d hk
theorem xe2 {bs:List Bound} {n:Nat} (hb:Inn bs n) (hn:NoNeg bs) {x y:Nat} (hx:x < n) (hy:y < n):Least (fun w=>∃ k,Wk bs k x y w) (g (fw bs n) x y):=by
 have c:=(yr0 hb n (Nat.le_refl n)).2 ((fw_diag hb).mpr hn)
 cases e:g (fw bs n) x y with
 | none =>
  rintro w ⟨k,hk⟩
  obtain ⟨d,h1,_⟩:=c x y w hx hy (hk.toWi hb)
  exact nomatch (e.symm.trans h1)
 | some m =>
  refine ⟨(zs7 hb).sound x y m hx hy e,?_⟩
  rintro w ⟨k,hk⟩
  obtain ⟨d,h1,h2⟩:=c x y w hx hy (hk.toWi hb)
  have e':m=d:=Option.some.inj (e.symm.trans h1)
  omega
theorem ym7 {bs:List Bound} {n:Nat} (hb:Inn bs n) (hn:NoNeg bs) {x y:Nat} (hx:x < n) (hy:y < n):g (fw bs n) x y=most bs n x y:=(xe2 hb hn hx hy).uniq (zq7 hb hn hx hy)
theorem most_self {bs:List Bound} {n:Nat} (hb:Inn bs n) (hn:NoNeg bs) {x:Nat} (hx:x < n):most bs n x x=some 0 :=
 (zq7 hb hn hx hx).uniq (b:=some 0) ⟨⟨0,.nil x⟩,fun w ⟨k,h⟩=>hn k x w h⟩
end FP
namespace FP
open Vbqzab
def leads (b:Bound) (here:Nat) (wanted:Option Int) (rests:Table):Bool:=b.src == here && (match at_ rests b.dst with | none=>false | some r=>some (b.w + r) == wanted)
structure FirstAt {α:Type} (l:List α) (p:α→Bool) (i:Nat) (b:α):Prop where
 get:l[i]?=some b
 yes:p b=true
 no:∀ j c,j < i→l[j]?=some c→p c=false
theorem FirstAt.find {α:Type} {p:α→Bool} {b:α}:∀ {l:List α} {i:Nat} (a:Nat),FirstAt l p i b→((List.range' a l.length).zip l).find? (fun t=>p t.2)=some (a + i,b)
 | [],i,a,h=>by
  have:=h.get
  simp at this
 | c :: l,0,a,h=>by
  have e:c=b:=Option.some.inj h.get
  subst e
  show (((a,c) :: (List.range' (a + 1) l.length).zip l).find? (fun t=>p t.2))=_
  rw [List.find?_cons_of_pos (by exact h.yes)]
  rfl
 | c :: l,i + 1,a,h=>by
  have hc:p c=false:=h.no 0 c (by omega) rfl
  have ih:=FirstAt.find (l:=l) (i:=i) (a + 1) ⟨h.get,h.yes,fun j d hj e=>h.no (j + 1) d (by omega) e⟩
  show (((a,c) :: (List.range' (a + 1) l.length).zip l).find? (fun t=>p t.2))=_
  rw [List.find?_cons_of_neg (by show ¬ p c=true;rw [hc];exact Bool.false_ne_true),ih,show a + 1 + i=a + (i + 1) by omega]
theorem FirstAt.of_mem {α:Type} {p:α→Bool}:∀ {l:List α},(∃ b∈l,p b=true)→∃ i b,FirstAt l p i b
 | [],h=>by
  obtain ⟨b,hb,_⟩:=h
  cases hb
 | c :: l,h=>by
  cases hc:p c with
  | true=>exact ⟨0,c,rfl,hc,fun j d hj=>by omega⟩
  | false =>
   obtain ⟨b,hb,hp⟩:=h
   have hb':b∈l:=by
    rcases List.mem_cons.mp hb with rfl | q
    ·rw [hc] at hp;cases hp
    ·exact q
   obtain ⟨i,d,h1⟩:=FirstAt.of_mem ⟨b,hb',hp⟩
   refine ⟨i + 1,d,h1.get,h1.yes,fun j e hj he=>?_⟩
   match j,he with
   | 0,he =>
    have:c=e:=Option.some.inj he
    rw [← this]
    exact hc
   | j + 1,he=>exact h1.no j e (by omega) he
theorem leads_eq (b:Bound) (x:Nat) (r t:Table):(b.src == x && plus (at_ r b.dst) b.w == at_ t x && (at_ r b.dst).isSome)=leads b x (at_ t x) r:=by
 unfold leads
 cases b.src == x with
 | false=>rfl
 | true =>
  cases at_ r b.dst with
  | none =>
   show ((plus none b.w == at_ t x) && false)=false
   rw [Bool.and_false]
  | some m =>
   show ((some (m + b.w) == at_ t x) && true)=(some (b.w + m) == at_ t x)
   rw [Bool.and_true,Int.add_comm]
inductive Told (bs:List Bound) (n y:Nat):Nat→Nat→List Nat→Prop
 | nil (x:Nat):Told bs n y 0 x []
 | cons {k x i:Nat} {b:Bound} {l:List Nat}:FirstAt bs (fun b=>leads b x (at_ (ups bs n (k + 1) (only n y)) x) (ups bs n k (only n y))) i b→Told bs n y k b.dst l→Told bs n y (k + 1) x (i :: l)
theorem Told.same {bs:List Bound} {n y k x:Nat} {l:List Nat} (h:Told bs n y k x l):k≤n→walk bs (justTo bs n n (only n y)) k x=l:=by
 induction h with
 | nil=>exact fun _=>rfl
 | @cons k x i b l hf _ ih =>
  intro hk
  have e:(fun t:Nat×Bound=>t.2.src == x && plus (at_ ((justTo bs n n (only n y)).getD k []) t.2.dst) t.2.w == at_ ((justTo bs n n (only n y)).getD (k + 1) []) x && (at_ ((justTo bs n n (only n y)).getD k []) t.2.dst).isSome)
    = fun t:Nat×Bound=>leads t.2 x (at_ (ups bs n (k + 1) (only n y)) x) (ups bs n k (only n y)):=by
   funext t
   rw [zs5 bs n n k _ (by omega),zs5 bs n n (k + 1) _ hk,leads_eq]
  have q:=hf.find 0
  rw [← List.range_eq_range',Nat.zero_add] at q
  show (match ((List.range bs.length).zip bs).find? _ with | none=>[] | some t=>t.1 :: walk bs (justTo bs n n (only n y)) k t.2.dst)=_
  rw [e,q]
  show i :: walk bs (justTo bs n n (only n y)) k b.dst=i :: l
  rw [ih (by omega)]
theorem leads_some {bs:List Bound} {n:Nat} (hb:Inn bs n) {y k x:Nat} {w:Int} (hx:x < n) (h:at_ (ups bs n (k + 1) (only n y)) x=some w) :
  ∃ i b,FirstAt bs (fun b=>leads b x (at_ (ups bs n (k + 1) (only n y)) x) (ups bs n k (only n y))) i b∧∃ u,at_ (ups bs n k (only n y)) b.dst=some u:=by
 have q:=yb7 hb (y:=y) (k + 1) hx
 rw [h] at q
 obtain ⟨b,hbm,e1,u,hu,e2⟩:=q.1.split
 have q2:=yb7 hb (y:=y) k (hb b hbm).2
 have hyes:leads b x (at_ (ups bs n (k + 1) (only n y)) x) (ups bs n k (only n y))=true:=by
  unfold leads
  cases e3:at_ (ups bs n k (only n y)) b.dst with
  | none =>
   rw [e3] at q2
   exact absurd hu (q2 u)
  | some r =>
   rw [e3] at q2
   have h1:=q2.2 u hu
   have h2:=q.2 _ (e1▸Wk.cons hbm q2.1)
   rw [h,e1]
   show (x == x && some (b.w + r) == some w)=true
   rw [beq_self_eq_true,Bool.true_and,show b.w + r=w by omega]
   exact beq_self_eq_true _
 obtain ⟨i,c,hf⟩:=FirstAt.of_mem (p:=fun b=>leads b x (at_ (ups bs n (k + 1) (only n y)) x) (ups bs n k (only n y))) ⟨b,hbm,hyes⟩
 refine ⟨i,c,hf,?_⟩
 have hy:=hf.yes
 unfold leads at hy
 cases e3:at_ (ups bs n k (only n y)) c.dst with
 | none =>
  simp only [e3,Bool.and_false] at hy
  cases hy
 | some r=>exact ⟨r,rfl⟩
theorem way_of {bs:List Bound} {n x y k:Nat} {w:Int} {l:List Nat} (hm:most bs n x y=some w) (hk:k≤n) (h1:at_ (ups bs n k (only n y)) x=some w) (h2:∀ j,j < k→at_ (ups bs n j (only n y)) x≠some w) (ht:Told bs n y k x l):way bs n x y=some l:=by
 unfold way
 rw [hm]
 show ((List.range (n + 1)).find? fun k=>at_ ((justTo bs n n (only n y)).getD k []) x == some w).map (fun k=>walk bs (justTo bs n n (only n y)) k x)=some l
 have e:(List.range (n + 1)).find? (fun k=>at_ ((justTo bs n n (only n y)).getD k []) x == some w)=some k:=by
  refine List.find?_eq_some_iff_getElem.mpr ⟨?_,k,by rw [List.length_range];omega,by rw [List.getElem_range],fun j hj=>?_⟩
  ·rw [zs5 bs n n k _ hk,h1]
   exact beq_self_eq_true _
  ·rw [List.getElem_range,zs5 bs n n j _ (by omega)]
   rw [Bool.not_eq_true',beq_eq_false_iff_ne]
   exact h2 j hj
 rw [e]
 show some (walk bs (justTo bs n n (only n y)) k x)=some l
 rw [ht.same hk]
theorem way_none {bs:List Bound} {n x y:Nat} (h:most bs n x y=none):way bs n x y=none:=by
 unfold way
 rw [h]
theorem way_level {bs:List Bound} {n:Nat} (hb:Inn bs n) (hn:NoNeg bs) {x y:Nat} (hx:x < n) (hy:y < n) {w:Int} (h:most bs n x y=some w):∃ k,k≤n∧at_ (ups bs n k (only n y)) x=some w:=by
 have q:=zq7 hb hn hx hy
 rw [h] at q
 obtain ⟨j,hj⟩:=q.1
 obtain ⟨k,u,hk,hu,hl⟩:=hj.short hb hn
 have hul:=q.2 u ⟨k,hu⟩
 have e:u=w:=by omega
 subst e
 exact ⟨k,hk,((yb7 hb k hx).uniq (b:=some u) ⟨hu,fun v hv=>q.2 v ⟨k,hv⟩⟩)⟩
theorem ring_of {bs:List Bound} {n x k:Nat} {l:List Nat} (hx:x < n) (hk0:0 < k) (hk:k≤n) (h1:below (at_ (ups bs n k (only n x)) x)=true) (h2:∀ j z,0 < j→j < k→z < n→below (at_ (ups bs n j (only n z)) z)=false) (h3:∀ z,z < x→below (at_ (ups bs n k (only n z)) z)=false) (ht:Told bs n x k x l):ring bs n=l:=by
 unfold ring
 show ((List.range (n + 1)).findSome? fun k=>if k=0 then none else (((List.range n).map fun x=>(x,justTo bs n n (only n x))).find? fun t=>below (at_ (t.2.getD k []) t.1)).map fun t=>walk bs t.2 k t.1).getD []=l
 have hf:∀ j,j≤n→(((List.range n).map fun x=>(x,justTo bs n n (only n x))).find? fun t=>below (at_ (t.2.getD j []) t.1))=((List.range n).find? fun z=>below (at_ (ups bs n j (only n z)) z)).map fun x=>(x,justTo bs n n (only n x)):=by
  intro j hj
  rw [List.find?_map]
  congr 1
  congr 1
  funext z
  show below (at_ ((justTo bs n n (only n z)).getD j []) z)=_
  rw [zs5 bs n n j _ hj]
 have hnone:∀ j,0 < j→j < k→(List.range n).find? (fun z=>below (at_ (ups bs n j (only n z)) z))=none:=by
  intro j hj hjk
  refine List.find?_eq_none.mpr fun z hz=>?_
  rw [h2 j z hj hjk (List.mem_range.mp hz)]
  exact Bool.false_ne_true
 have hsome:(List.range n).find? (fun z=>below (at_ (ups bs n k (only n z)) z))=some x:=by
  refine List.find?_eq_some_iff_getElem.mpr ⟨h1,x,by rw [List.length_range];omega,by rw [List.getElem_range],fun j hj=>?_⟩
  rw [List.getElem_range,h3 j hj]
  rfl
 have e:∀ (a m:Nat),a + m=k→((List.range' a (n + 1 - a)).findSome? fun k=>if k=0 then none else (((List.range n).map fun x=>(x,justTo bs n n (only n x))).find? fun t=>below (at_ (t.2.getD k []) t.1)).map fun t=>walk bs t.2 k t.1)=some l:=by
  intro a m
  induction m generalizing a with
  | zero =>
   intro ea
   have ea:a=k:=by omega
   subst ea
   rw [show n + 1 - a=(n - a) + 1 by omega,List.range'_succ,List.findSome?_cons,if_neg (by omega),hf a hk,hsome]
   show some (walk bs (justTo bs n n (only n x)) a x)=some l
   rw [ht.same hk]
  | succ m ih =>
   intro ea
   have ih':=ih (a + 1) (by omega)
   rw [show n + 1 - a=(n - a) + 1 by omega,List.range'_succ,List.findSome?_cons]
   rw [show n + 1 - (a + 1)=n - a by omega] at ih'
   by_cases e0:a=0
   ·rw [if_pos e0]
    exact ih'
   ·rw [if_neg e0,hf a (by omega),hnone a (by omega) (by omega)]
    exact ih'
 have q:=e 0 k (by omega)
 rw [Nat.sub_zero,← List.range_eq_range'] at q
 rw [q]
 rfl
theorem ring_level {bs:List Bound} {n:Nat} (hb:Inn bs n) (hn:¬ NoNeg bs):∃ k x,0 < k∧k≤n∧x < n∧below (at_ (ups bs n k (only n x)) x)=true:=by
 have:∃ k x w,Wk bs k x x w∧w < 0:=by
  apply Classical.byContradiction
  intro hc
  apply hn
  intro k x w h
  apply Classical.byContradiction
  intro hw
  exact hc ⟨k,x,w,h,by omega⟩
 obtain ⟨k,x,w,h,hw⟩:=this
 obtain ⟨j,y,u,hj,hjn,hu,hu0⟩:=h.shortRing hb k hw
 have hy:y < n:=by
  cases j with
  | zero=>omega
  | succ j =>
   obtain ⟨b,hbm,e,_⟩:=hu.split
   exact e▸(hb b hbm).1
 refine ⟨j,y,hj,hjn,hy,?_⟩
 have q:=yb7 hb (y:=y) j hy
 cases e:at_ (ups bs n j (only n y)) y with
 | none =>
  rw [e] at q
  exact absurd hu (q u)
 | some m =>
  rw [e] at q
  have:=q.2 u hu
  show decide (m < 0)=true
  exact decide_eq_true (by omega)
theorem zeros_least {bs:List Bound} {n:Nat} (hb:Inn bs n) (hn:NoNeg bs) {y:Nat} (hy:y < n):Least (fun w=>∃ j x,x < n∧Wk bs j x y w) (at_ (relaxed bs n n (zeros n)) y) :=
 (zz5 hb n hy).weak (fun _ ⟨j,_,x,hx,h⟩=>⟨j,x,hx,h⟩) fun _ ⟨j,x,hx,h⟩=>by
  obtain ⟨i,u,hi,hu,hl⟩:=h.short hb hn
  exact ⟨u,⟨i,hi,x,hx,hu⟩,hl⟩
end FP
namespace FP
open Vbqzab
def EvOk (s:State):Evidence→Prop
 | .hearing m y=>m < s.sent.length∧y < s.events.length∧teamAt s (s.sent.getD m 0)≠teamAt s y∧∃ v,wireOf s (teamAt s (s.sent.getD m 0)) (teamAt s y)=some v
 | .limit x y _ _=>x < s.events.length∧y < s.events.length∧x≠y
structure Wf (s:State):Prop where
 nb:s.boxes.length≤8
 ne:s.events.length≤16
 nm:s.sent.length≤12
 nv:s.evidence.length≤24
 bx:∀ b∈s.boxes,b.slow≤100000∧b.fast≤100000∧b.grain≤1000
 tm:∀ (i:Nat) (b:Box),s.boxes[i]?=some b→b.team≤i∧∃ c,s.boxes[b.team]?=some c∧c.team=b.team
 ev:∀ e∈s.events,e.box < s.boxes.length∧e.stamp≤1000000000∧e.kind≤2
 st:∀ (i j:Nat) (d e:Event),i < j→s.events[i]?=some d→s.events[j]?=some e→d.box=e.box→d.stamp≤e.stamp
 ms:∀ x∈s.sent,x < s.events.length
 vd:∀ v∈s.evidence,EvOk s v
theorem wf_start:Wf start:=by
 refine ⟨by decide,by decide,by decide,by decide,?_,?_,?_,?_,?_,?_⟩
 ·intro b h;cases h
 ·intro i b h;simp [start] at h
 ·intro e h;cases h
 ·intro i j d e _ h;simp [start] at h
 ·intro x h;cases h
 ·intro v h;cases h
theorem yl1 {s:State} {x:Nat} {e:Event} (h:s.events[x]?=some e):boxOf s x=e.box:=by
 unfold boxOf
 rw [h]
 rfl
theorem ys0 {s:State} {x:Nat} {e:Event} (h:s.events[x]?=some e):stampOf s x=e.stamp:=by
 unfold stampOf
 rw [h]
 rfl
theorem zh0 {s:State} {i:Nat} {b:Box} (h:s.boxes[i]?=some b):teamOf s i=b.team:=by
 unfold teamOf
 rw [h]
 rfl
theorem zc2 {α:Type} {l:List α} {i:Nat} (h:i < l.length):∃ a,l[i]?=some a:=⟨_,List.getElem?_eq_getElem h⟩
theorem zg4 {α:Type} {l r:List α} {i:Nat} (h:i < l.length):(l++r)[i]?=l[i]?:=List.getElem?_append_left h
theorem boxOf_lt {s:State} (h:Wf s) {x:Nat} (hx:x < s.events.length):boxOf s x < s.boxes.length:=by
 obtain ⟨e,he⟩:=zc2 hx
 rw [yl1 he]
 exact (h.ev e (List.mem_of_getElem? he)).1
structure Grows (s t:State):Prop where
 bx:∀ i,i < s.boxes.length→t.boxes[i]?=s.boxes[i]?
 ev:∀ i,i < s.events.length→t.events[i]?=s.events[i]?
 ms:∀ i,i < s.sent.length→t.sent[i]?=s.sent[i]?
 wr:∀ i j v,wireOf s i j=some v→∃ u,wireOf t i j=some u
theorem yy7 {α:Type} {l r:List α} (h:∀ i,i < l.length→r[i]?=l[i]?):l.length≤r.length:=by
 by_cases q:l.length=0
 ·omega
 ·have e:=h (l.length - 1) (by omega)
  rw [List.getElem?_eq_getElem (show l.length - 1 < l.length by omega)] at e
  have q1:=(List.getElem?_eq_some_iff.mp e).1
  omega
theorem Grows.teamAt {s t:State} (g:Grows s t) (h:Wf s) {x:Nat} (hx:x < s.events.length):teamAt t x=teamAt s x:=by
 have hb:=boxOf_lt h hx
 unfold Vbqzab.teamAt boxOf teamOf at *
 rw [g.ev x hx]
 rw [g.bx _ hb]
theorem Grows.evOk {s t:State} (g:Grows s t) (h:Wf s) {v:Evidence} (e:EvOk s v):EvOk t v:=by
 have le:=yy7 g.ev
 have lm:=yy7 g.ms
 cases v with
 | hearing m y =>
  obtain ⟨h1,h2,h3,u,h4⟩:=e
  have em:t.sent.getD m 0=s.sent.getD m 0:=by rw [List.getD_eq_getElem?_getD,List.getD_eq_getElem?_getD,g.ms m h1]
  have hx:s.sent.getD m 0 < s.events.length:=by
   obtain ⟨x,hx⟩:=zc2 h1
   rw [List.getD_eq_getElem?_getD,hx]
   exact h.ms x (List.mem_of_getElem? hx)
  refine ⟨by omega,by omega,?_,?_⟩
  ·rw [em,g.teamAt h hx,g.teamAt h h2]
   exact h3
  ·rw [em,g.teamAt h hx,g.teamAt h h2]
   exact g.wr _ _ _ h4
 | limit x y lo hi =>
  obtain ⟨h1,h2,h3⟩:=e
  exact ⟨by omega,by omega,h3⟩
theorem yc0 (w:Wire) (i j:Nat):∀ l:List Wire,(putWire w l).find? (fun v=>v.src == i && v.dst == j)=if w.src=i∧w.dst=j then some w else l.find? (fun v=>v.src == i && v.dst == j)
 | []=>by
  show (([]++[w]:List Wire).find? _)=_
  by_cases h:w.src=i∧w.dst=j
  ·rw [if_pos h,List.nil_append,List.find?_cons_of_pos (by simp [h.1,h.2])]
  ·rw [if_neg h,List.nil_append,List.find?_cons_of_neg (by simp;exact fun a b=>h ⟨a,b⟩)]
 | v :: l=>by
  have ih:=yc0 w i j l
  unfold putWire at ih ⊢
  rw [List.filter_cons]
  by_cases hv:v.src=w.src∧v.dst=w.dst
  ·rw [if_neg (by simp [hv.1,hv.2]),ih]
   by_cases h:w.src=i∧w.dst=j
   ·rw [if_pos h,if_pos h]
   ·rw [if_neg h,if_neg h,List.find?_cons_of_neg (by simp;exact fun a b=>h ⟨hv.1▸a,hv.2▸b⟩)]
  ·rw [if_pos (by simp;exact Decidable.not_and_iff_or_not.mp hv),List.cons_append]
   by_cases hi:v.src=i∧v.dst=j
   ·have h:¬ (w.src=i∧w.dst=j):=fun q=>hv ⟨hi.1.trans q.1.symm,hi.2.trans q.2.symm⟩
    rw [if_neg h,List.find?_cons_of_pos (by simp [hi.1,hi.2]),List.find?_cons_of_pos (by simp [hi.1,hi.2])]
   ·rw [List.find?_cons_of_neg (by simp;exact fun a b=>hi ⟨a,b⟩),ih]
    by_cases h:w.src=i∧w.dst=j
    ·rw [if_pos h,if_pos h]
    ·rw [if_neg h,if_neg h,List.find?_cons_of_neg (by simp;exact fun a b=>hi ⟨a,b⟩)]
theorem yr7 {s:State} (h:Wf s) {i:Nat} (hi:i < s.boxes.length):teamOf s i < s.boxes.length:=by
 obtain ⟨b,hb⟩:=zc2 hi
 rw [zh0 hb]
 have:=(h.tm i b hb).1
 omega
theorem zk2 {α:Type} {l:List α} {a b:α} {i:Nat} (h:(l++[a])[i]?=some b):l[i]?=some b∨(i=l.length∧b=a):=by
 by_cases hi:i < l.length
 ·rw [zg4 hi] at h
  exact .inl h
 ·by_cases e:i=l.length
  ·subst e
   rw [List.getElem?_append_right (Nat.le_refl _),Nat.sub_self] at h
   exact .inr ⟨rfl,(Option.some.inj h).symm⟩
  ·rw [List.getElem?_append_right (by omega),List.getElem?_eq_none (by simp;omega)] at h
   cases h
theorem wf_box {s:State} (h:Wf s) {b:Box} (hn:s.boxes.length < 8) (h1:b.slow≤100000∧b.fast≤100000∧b.grain≤1000) (ht:b.team=s.boxes.length∨∃ i:Nat,s.boxes[i]?=some b):Wf { s with boxes:=s.boxes++[b] }:=by
 have g:Grows s { s with boxes:=s.boxes++[b] }:=⟨fun i hi=>zg4 hi,fun _ _=>rfl,fun _ _=>rfl,fun _ _ v e=>⟨v,e⟩⟩
 refine ⟨by simp;omega,h.ne,h.nm,h.nv,?_,?_,?_,h.st,h.ms,fun v hv=>g.evOk h (h.vd v hv)⟩
 ·intro c hc
  rcases List.mem_append.mp hc with hc | hc
  ·exact h.bx c hc
  ·rw [List.mem_singleton.mp hc];exact h1
 ·intro i c hc
  rcases zk2 hc with hc | ⟨rfl,rfl⟩
  ·obtain ⟨h2,d,h3,h4⟩:=h.tm i c hc
   exact ⟨h2,d,by show (s.boxes++[b])[c.team]?=some d;rw [zg4 (List.getElem?_eq_some_iff.mp h3).1];exact h3,h4⟩
  ·rcases ht with ht | ⟨i,hi⟩
   ·refine ⟨by omega,c,?_,rfl⟩
    show (s.boxes++[c])[c.team]?=some c
    rw [ht,List.getElem?_append_right (Nat.le_refl _),Nat.sub_self]
    rfl
   ·obtain ⟨h2,d,h3,h4⟩:=h.tm i c hi
    have hil:=(List.getElem?_eq_some_iff.mp hi).1
    exact ⟨by omega,d,by show (s.boxes++[c])[c.team]?=some d;rw [zg4 (List.getElem?_eq_some_iff.mp h3).1];exact h3,h4⟩
 ·intro e he
  obtain ⟨h2,h3⟩:=h.ev e he
  exact ⟨by simp;omega,h3⟩
theorem wf_wire {s:State} (h:Wf s) (w:Wire):Wf { s with wires:=putWire w s.wires }:=by
 have g:Grows s { s with wires:=putWire w s.wires }:=⟨fun _ _=>rfl,fun _ _=>rfl,fun _ _=>rfl,fun i j v e=>by
  show ∃ u,(putWire w s.wires).find? _=some u
  rw [yc0]
  split
  ·exact ⟨w,rfl⟩
  ·exact ⟨v,e⟩⟩
 exact ⟨h.nb,h.ne,h.nm,h.nv,h.bx,h.tm,h.ev,h.st,h.ms,fun v hv=>g.evOk h (h.vd v hv)⟩
theorem lastStamp_ge {s:State} (h:Wf s) {i:Nat} {d:Event} (hd:s.events[i]?=some d):d.stamp≤lastStamp s d.box:=by
 unfold lastStamp
 have hm:d∈s.events.filter (fun e=>e.box == d.box):=List.mem_filter.mpr ⟨List.mem_of_getElem? hd,beq_self_eq_true _⟩
 have hsort:(s.events.filter (fun e=>e.box == d.box)).Pairwise (fun a b=>a.box=b.box→a.stamp≤b.stamp):=by
  refine List.Pairwise.filter _ (List.pairwise_iff_getElem.mpr fun i j hi hj hij hb=>?_)
  exact h.st i j _ _ hij (List.getElem?_eq_getElem hi) (List.getElem?_eq_getElem hj) hb
 generalize hl:s.events.filter (fun e=>e.box == d.box)=l at *
 have hall:∀ e∈l,e.box=d.box:=by
  intro e he
  rw [← hl] at he
  exact eq_of_beq (List.mem_filter.mp he).2
 cases e:l.getLast? with
 | none =>
  rw [List.getLast?_eq_none_iff.mp e] at hm
  cases hm
 | some z =>
  show d.stamp≤z.stamp
  obtain ⟨ys,rfl⟩:=List.getLast?_eq_some_iff.mp e
  rcases List.mem_append.mp hm with q | q
  ·exact (List.pairwise_append.mp hsort).2.2 d q z (List.mem_singleton.mpr rfl) (hall z (List.mem_append_right _ (List.mem_singleton.mpr rfl))).symm
  ·rw [List.mem_singleton.mp q]
   exact Nat.le_refl _
theorem wf_event {s:State} (h:Wf s) {i t p:Nat} (hi:i < s.boxes.length) (ht:lastStamp s i≤t) (ht2:t≤1000000000) (hp:p≤2) (hn:s.events.length < 16):Wf { s with events:=s.events++[⟨i,t,p⟩] }:=by
 have g:Grows s { s with events:=s.events++[⟨i,t,p⟩] }:=⟨fun _ _=>rfl,fun i hi=>zg4 hi,fun _ _=>rfl,fun _ _ v e=>⟨v,e⟩⟩
 refine ⟨h.nb,by simp;omega,h.nm,h.nv,h.bx,h.tm,?_,?_,?_,fun v hv=>g.evOk h (h.vd v hv)⟩
 ·intro e he
  rcases List.mem_append.mp he with he | he
  ·exact h.ev e he
  ·rw [List.mem_singleton.mp he];exact ⟨hi,ht2,hp⟩
 ·intro a b d e hab hd he hbx
  rcases zk2 he with he' | ⟨rfl,rfl⟩
  ·have hb:=(List.getElem?_eq_some_iff.mp he').1
   have hd':s.events[a]?=some d:=by rw [← hd];exact (zg4 (by omega)).symm
   exact h.st a b d e hab hd' he' hbx
  ·have hd':s.events[a]?=some d:=by rw [← hd];exact (zg4 hab).symm
   have:=lastStamp_ge h hd'
   have hbx':d.box=i:=hbx
   rw [hbx'] at this
   show d.stamp≤t
   omega
 ·intro x hx
  have:=h.ms x hx
  simp
  omega
theorem wf_sent {s:State} (h:Wf s) {x:Nat} (hx:x < s.events.length) (hn:s.sent.length < 12):Wf { s with sent:=s.sent++[x] }:=by
 have g:Grows s { s with sent:=s.sent++[x] }:=⟨fun _ _=>rfl,fun _ _=>rfl,fun i hi=>zg4 hi,fun _ _ v e=>⟨v,e⟩⟩
 refine ⟨h.nb,h.ne,by simp;omega,h.nv,h.bx,h.tm,h.ev,h.st,?_,fun v hv=>g.evOk h (h.vd v hv)⟩
 intro y hy
 rcases List.mem_append.mp hy with hy | hy
 ·exact h.ms y hy
 ·rw [List.mem_singleton.mp hy];exact hx
theorem zx7 {s:State} (h:Wf s) {l:List Evidence} (hl:l.length≤24) (hv:∀ v∈l,EvOk s v):Wf { s with evidence:=l }:=⟨h.nb,h.ne,h.nm,hl,h.bx,h.tm,h.ev,h.st,h.ms,fun v q=>by
 have:=hv v q
 cases v <;> exact this⟩
theorem yx5 {s:State} (h:Wf s) (k:Nat):Wf (dropped s k):=zx7 h (Nat.le_trans (by rw [List.length_eraseIdx];split <;> omega) h.nv) fun v q=>h.vd v (List.mem_of_mem_eraseIdx q)
theorem za7 {n lo hi:Int}:inside n lo hi=true ↔ lo≤n∧n≤hi:=by
 unfold inside
 rw [Bool.and_eq_true,decide_eq_true_iff,decide_eq_true_iff]
theorem yf5 {s:State} (h:Wf s) (i t:Int) {p:Nat} (hp:p≤2):Wf (newEvent s i t p).1:=by
 unfold newEvent
 split
 ·exact h
 ·rename_i h1
  split
  ·exact h
  ·rename_i h2
   split
   ·exact h
   ·split
    ·exact h
    ·rename_i h4
     split
     ·exact h
     ·rename_i h5
      rw [Bool.not_eq_false,Bool.and_eq_true] at h1
      have a1:=za7.mp h1.1
      have a2:=za7.mp h1.2
      rw [Bool.not_eq_false] at h2
      have a3:=of_decide_eq_true h2
      unfold whole at a3 h4
      unfold TICKS at a2
      unfold EVENTS at h5
      exact wf_event h (by omega) (by omega) (by omega) hp (by omega)
end FP
namespace FP
open Vbqzab
theorem pairs_mem:∀ (l:List Nat) (t:Nat×Nat),t∈pairs l→t.1∈l∧t.2∈l
 | [],t,h=>by cases h
 | x :: l,t,h=>by
  rcases List.mem_append.mp h with h | h
  ·obtain ⟨y,hy,rfl⟩:=List.mem_map.mp h
   exact ⟨List.mem_cons_self,List.mem_cons_of_mem _ hy⟩
  ·obtain ⟨h1,h2⟩:=pairs_mem l t h
   exact ⟨List.mem_cons_of_mem _ h1,List.mem_cons_of_mem _ h2⟩
theorem zi7 {s:State} (h:Wf s):Inn (bounds s) s.events.length:=by
 intro b hb
 rcases List.mem_append.mp hb with hb | hb
 ·obtain ⟨t,ht,hb⟩:=List.mem_flatMap.mp hb
  obtain ⟨h1,h2⟩:=pairs_mem _ t ht
  have h1:=List.mem_range.mp h1
  have h2:=List.mem_range.mp h2
  revert hb
  split
  ·split
   ·intro hb
    simp at hb
    rcases hb with rfl | rfl
    ·exact ⟨h1,h2⟩
    ·exact ⟨h2,h1⟩
   ·split
    ·intro hb
     rw [List.mem_singleton.mp hb]
     exact ⟨h2,h1⟩
    ·intro hb;cases hb
  ·intro hb;cases hb
 ·obtain ⟨v,hv,hb⟩:=List.mem_flatMap.mp hb
  have hok:=h.vd v hv
  cases v with
  | hearing m y =>
   obtain ⟨h1,h2,_,u,h4⟩:=hok
   have hx:s.sent.getD m 0 < s.events.length:=by
    obtain ⟨x,hx⟩:=zc2 h1
    rw [List.getD_eq_getElem?_getD,hx]
    exact h.ms x (List.mem_of_getElem? hx)
   have hb:b∈(match wireOf s (teamAt s (s.sent.getD m 0)) (teamAt s y) with
    | none=>[]
    | some v=>(match v.most with
     | none=>[]
     | some h=>[Bound.mk (s.sent.getD m 0) y (whole h)])++[Bound.mk y (s.sent.getD m 0) (-(whole v.least))]):=hb
   rw [h4] at hb
   rcases List.mem_append.mp hb with hb | hb
   ·revert hb
    split
    ·intro hb;cases hb
    ·intro hb
     rw [List.mem_singleton.mp hb]
     exact ⟨hx,h2⟩
   ·rw [List.mem_singleton.mp hb]
    exact ⟨h2,hx⟩
  | limit x y lo hi =>
   obtain ⟨h1,h2,_⟩:=hok
   have hb:b∈[(⟨x,y,hi⟩:Bound),⟨y,x,-lo⟩]:=hb
   simp at hb
   rcases hb with rfl | rfl
   ·exact ⟨h1,h2⟩
   ·exact ⟨h2,h1⟩
theorem yb5 {s:State} {x y:Int} {f:List Bound→Nat→Nat→Nat→State×Answer} (h:∀ a b c d,(f a b c d).1=s):(onTwo s x y f).1=s:=by
 unfold onTwo
 split
 ·rfl
 ·split
  ·rfl
  ·show (if fits (bounds s) s.events.length=false then no s (-8) else f (bounds s) s.events.length x.toNat y.toNat).1=s
   split
   ·rfl
   ·exact h _ _ _ _
theorem wf_step {s:State} (h:Wf s) (c:Call):Wf (step s c).1:=by
 cases c with
 | box a b e =>
  show Wf (if (inside a 1 100000 && (inside b a 100000 && inside e 0 1000))=false then no s (-1) else if BOXES≤s.boxes.length then no s (-7) else ({ s with boxes:=s.boxes++[⟨a.toNat,b.toNat,e.toNat,s.boxes.length⟩] },[whole s.boxes.length])).1
  split
  ·exact h
  ·rename_i h1
   split
   ·exact h
   ·rename_i h2
    rw [Bool.not_eq_false,Bool.and_eq_true,Bool.and_eq_true] at h1
    obtain ⟨h1,h3,h4⟩:=h1
    have h1:=za7.mp h1
    have h3:=za7.mp h3
    have h4:=za7.mp h4
    unfold BOXES at h2
    exact wf_box h (by omega) ⟨by show a.toNat≤_;omega,by show b.toNat≤_;omega,by show e.toNat≤_;omega⟩ (.inl rfl)
 | wire i j lo hi =>
  show Wf (if (boxIn i && (boxIn j && (inside lo 0 DELAY && inside hi (-1) DELAY)))=false then no s (-1) else if (isBox s i && isBox s j)=false then no s (-4) else if teamOf s i.toNat=teamOf s j.toNat then no s (-5) else if hi ≠ -1∧hi < lo then no s (-6)
   else ({ s with wires:=putWire ⟨teamOf s i.toNat,teamOf s j.toNat,lo.toNat,if hi = -1 then none else some hi.toNat⟩ s.wires },[0])).1
  split
  ·exact h
  ·split
   ·exact h
   ·split
    ·exact h
    ·split
     ·exact h
     ·exact wf_wire h _
 | event i t=>exact yf5 h i t (by omega)
 | press i t=>exact yf5 h i t (by omega)
 | report i t=>exact yf5 h i t (by omega)
 | sent x =>
  show Wf (if eventIn x=false then no s (-1) else if isEvent s x=false then no s (-4) else if MESSAGES≤s.sent.length then no s (-7) else ({ s with sent:=s.sent++[x.toNat] },[whole s.sent.length])).1
  split
  ·exact h
  ·rename_i h1
   split
   ·exact h
   ·rename_i h2
    split
    ·exact h
    ·rename_i h3
     rw [Bool.not_eq_false] at h1 h2
     have h1:=za7.mp h1
     have h2:=of_decide_eq_true h2
     unfold whole at h2
     unfold MESSAGES at h3
     exact wf_sent h (by omega) (by omega)
 | heard m y =>
  show Wf (if (inside m 0 11 && eventIn y)=false then no s (-1) else if (isMessage s m && isEvent s y)=false then no s (-4)
   else if teamAt s (s.sent.getD m.toNat 0)=teamAt s y.toNat then no s (-5) else if (wireOf s (teamAt s (s.sent.getD m.toNat 0)) (teamAt s y.toNat)).isNone=true then no s (-6) else if EVIDENCE≤s.evidence.length then no s (-7)
    else ({ s with evidence:=s.evidence++[.hearing m.toNat y.toNat] },[whole s.evidence.length])).1
  split
  ·exact h
  ·rename_i h1
   split
   ·exact h
   ·rename_i h2
    split
    ·exact h
    ·rename_i h3
     split
     ·exact h
     ·rename_i h4
      split
      ·exact h
      ·rename_i h5
       rw [Bool.not_eq_false,Bool.and_eq_true] at h1 h2
       obtain ⟨a1,a2⟩:=h1
       obtain ⟨b1,b2⟩:=h2
       have a1:=za7.mp a1
       have a2:=za7.mp a2
       have b1:=of_decide_eq_true b1
       have b2:=of_decide_eq_true b2
       unfold whole at b1 b2
       unfold EVIDENCE at h5
       refine zx7 h (by simp;omega) fun v hv=>?_
       rcases List.mem_append.mp hv with hv | hv
       ·exact h.vd v hv
       ·rw [List.mem_singleton.mp hv]
        refine ⟨by omega,by omega,h3,?_⟩
        cases q:wireOf s (teamAt s (s.sent.getD m.toNat 0)) (teamAt s y.toNat) with
        | none =>
         rw [q] at h4
         exact absurd rfl h4
        | some u=>exact ⟨u,rfl⟩
 | limit x y lo hi =>
  show Wf (if (eventIn x && (eventIn y && (inside lo (-FAR) FAR && inside hi (-FAR) FAR)))=false then no s (-1) else if (isEvent s x && isEvent s y)=false then no s (-4) else if x=y then no s (-5) else if hi < lo then no s (-6) else if EVIDENCE≤s.evidence.length then no s (-7)
   else ({ s with evidence:=s.evidence++[.limit x.toNat y.toNat lo hi] },[whole s.evidence.length])).1
  split
  ·exact h
  ·rename_i h1
   split
   ·exact h
   ·rename_i h2
    split
    ·exact h
    ·rename_i h3
     split
     ·exact h
     ·split
      ·exact h
      ·rename_i h5
       rw [Bool.not_eq_false,Bool.and_eq_true] at h1 h2
       obtain ⟨a1,a2⟩:=h1
       rw [Bool.and_eq_true] at a2
       obtain ⟨b1,b2⟩:=h2
       have a1:=za7.mp a1
       have a2:=za7.mp a2.1
       have b1:=of_decide_eq_true b1
       have b2:=of_decide_eq_true b2
       unfold whole at b1 b2
       unfold EVIDENCE at h5
       refine zx7 h (by simp;omega) fun v hv=>?_
       rcases List.mem_append.mp hv with hv | hv
       ·exact h.vd v hv
       ·rw [List.mem_singleton.mp hv]
        exact ⟨by omega,by omega,by omega⟩
 | drop k =>
  show Wf (if inside k 0 23=false then no s (-1) else if s.evidence.length≤k.toNat then no s (-4) else (dropped s k.toNat,[whole (s.evidence.length - 1)])).1
  split
  ·exact h
  ·split
   ·exact h
   ·exact yx5 h _
 | wakes i =>
  show Wf (if boxIn i=false then no s (-1) else match s.boxes[i.toNat]? with
   | none=>no s (-4)
   | some b=>if isOld s i.toNat=true then no s (-11) else if BOXES≤s.boxes.length then no s (-7) else ({ s with boxes:=s.boxes++[b] },[whole s.boxes.length])).1
  split
  ·exact h
  ·split
   ·exact h
   ·rename_i b hb
    split
    ·exact h
    ·split
     ·exact h
     ·rename_i h5
      unfold BOXES at h5
      exact wf_box h (by omega) (h.bx b (List.mem_of_getElem? hb)) (.inr ⟨_,hb⟩)
 | fits=>exact h
 | most x y=>rw [show (step s (.most x y)).1=s from yb5 fun _ _ _ _=>rfl];exact h
 | sure x y=>rw [show (step s (.sure x y)).1=s from yb5 fun _ _ _ _=>rfl];exact h
 | way x y=>rw [show (step s (.way x y)).1=s from yb5 fun _ _ _ _=>rfl];exact h
 | first l =>
  have e:(step s (.first l)).1=s:=by
   unfold step
   dsimp only
   split
   ·rfl
   ·split
    ·rfl
    ·generalize (if l.isEmpty=true then pressesOf s else nats l)=k
     show (if k.isEmpty=true then no s (-9) else (s,firstAnswer s k)).1=s
     split <;> rfl
  rw [e];exact h
 | bounds=>exact h
 | history =>
  have e:(step s .history).1=s:=by
   unfold step
   dsimp only
   split <;> rfl
  rw [e];exact h
 | late x=>rw [show (step s (.late x)).1=s from yb5 fun _ _ _ _=>rfl];exact h
 | check l =>
  have e:(step s (.check l)).1=s:=by
   unfold step
   dsimp only
   split <;> rfl
  rw [e];exact h
 | needed x y =>
  rw [show (step s (.needed x y)).1=s from yb5 fun _ _ _ _=>by split <;> rfl];exact h
 | would m i t =>
  have e:(step s (.would m i t)).1=s:=by
   unfold step
   dsimp only
   repeat' split
   all_goals rfl
  rw [e];exact h
 | adds l =>
  have e:(step s (.adds l)).1=s:=by
   unfold step
   dsimp only
   repeat' split
   all_goals rfl
  rw [e];exact h
 | ruled =>
  have e:(step s .ruled).1=s:=by
   unfold step
   dsimp only
   repeat' split
   all_goals rfl
  rw [e];exact h
 | told=>exact h
end FP
namespace FP
open Vbqzab
theorem calls_cons {shape:Int→Option (Nat×Nat)} {f:Nat} {p:Int} {r:List Int} {cs:List (List (List Int))} (h:PyFlat.calls shape (f + 1) (p :: r)=some cs) :
  ∃ n k xs t rest,shape p=some (n,k)∧n≤r.length∧PyFlat.rows k (r.drop n)=some (xs,t)∧PyFlat.calls shape f t=some rest∧cs=((p :: r.take n) :: xs) :: rest:=by
 have h1:(match PyFlat.call shape (p :: r) with | none=>none | some (c,t)=>match PyFlat.calls shape f t with | none=>none | some cs=>some (c :: cs))=some cs:=h
 cases e:PyFlat.call shape (p :: r) with
 | none =>
  rw [e] at h1
  cases h1
 | some ct =>
  obtain ⟨c,t⟩:=ct
  rw [e] at h1
  have e1:(match shape p with | none=>none | some (n,k)=>if r.length < n then none else match PyFlat.rows k (r.drop n) with | none=>none | some (xs,t)=>some ((p :: r.take n) :: xs,t))=some (c,t):=e
  cases e2:shape p with
  | none =>
   rw [e2] at e1
   cases e1
  | some nk =>
   obtain ⟨n,k⟩:=nk
   rw [e2] at e1
   have e1:(if r.length < n then none else match PyFlat.rows k (r.drop n) with | none=>none | some (xs,t)=>some ((p :: r.take n) :: xs,t))=some (c,t):=e1
   by_cases hn:r.length < n
   ·rw [if_pos hn] at e1
    cases e1
   ·rw [if_neg hn] at e1
    cases e3:PyFlat.rows k (r.drop n) with
    | none =>
     rw [e3] at e1
     cases e1
    | some xt =>
     obtain ⟨xs,t'⟩:=xt
     rw [e3] at e1
     have e1:some ((p :: r.take n) :: xs,t')=some (c,t):=e1
     obtain ⟨rfl,rfl⟩:=Prod.mk.inj (Option.some.inj e1)
     have h1:(match PyFlat.calls shape f t' with | none=>none | some cs=>some (((p :: r.take n) :: xs) :: cs))=some cs:=h1
     cases e4:PyFlat.calls shape f t' with
     | none =>
      rw [e4] at h1
      cases h1
     | some rest =>
      rw [e4] at h1
      exact ⟨n,k,xs,t',rest,rfl,by omega,e3,e4,(Option.some.inj h1).symm⟩
theorem rows_one {r:List Int} {xs:List (List Int)} {t:List Int} (h:PyFlat.rows 1 r=some (xs,t)):∃ n r',r=n :: r'∧0≤n∧n.toNat≤r'.length∧xs=[r'.take n.toNat]∧t=r'.drop n.toNat:=by
 have h1:(match PyFlat.row r with | none=>none | some (x,s)=>match PyFlat.rows 0 s with | none=>none | some (xs,t)=>some (x :: xs,t))=some (xs,t):=h
 cases r with
 | nil=>cases h1
 | cons n r' =>
  by_cases c:0≤n∧n.toNat≤r'.length
  ·have e:PyFlat.row (n :: r')=some (r'.take n.toNat,r'.drop n.toNat):=if_pos c
   rw [e] at h1
   have h1:some ([r'.take n.toNat],r'.drop n.toNat)=some (xs,t):=h1
   obtain ⟨rfl,rfl⟩:=Prod.mk.inj (Option.some.inj h1)
   exact ⟨n,r',rfl,c.1,c.2,rfl,rfl⟩
  ·have e:PyFlat.row (n :: r')=none:=if_neg c
   rw [e] at h1
   cases h1
def arity:List Nat:=[3,4,2,2,1,2,4,1,0,2,2,2,0,0,0,1,0,2,3,0,2,1,0,0]
def hasRow (c:Nat):Bool:=c == 12 || c == 16 || c == 19
theorem shape_some {p:Int} {n k:Nat} (h:PyVbqzab.shape p=some (n,k)):∃ c:Nat,p=(c:Int)∧c < 24∧arity[c]?=some n∧k=if hasRow c then 1 else 0:=by
 by_cases h0:p=0
 ·subst h0;have h:some (3,0)=some (n,k):=h;cases h;exact ⟨0,rfl,by decide,rfl,rfl⟩
 by_cases h1:p=1
 ·subst h1;have h:some (4,0)=some (n,k):=h;cases h;exact ⟨1,rfl,by decide,rfl,rfl⟩
 by_cases h2:p=2
 ·subst h2;have h:some (2,0)=some (n,k):=h;cases h;exact ⟨2,rfl,by decide,rfl,rfl⟩
 by_cases h3:p=3
 ·subst h3;have h:some (2,0)=some (n,k):=h;cases h;exact ⟨3,rfl,by decide,rfl,rfl⟩
 by_cases h4:p=4
 ·subst h4;have h:some (1,0)=some (n,k):=h;cases h;exact ⟨4,rfl,by decide,rfl,rfl⟩
 by_cases h5:p=5
 ·subst h5;have h:some (2,0)=some (n,k):=h;cases h;exact ⟨5,rfl,by decide,rfl,rfl⟩
 by_cases h6:p=6
 ·subst h6;have h:some (4,0)=some (n,k):=h;cases h;exact ⟨6,rfl,by decide,rfl,rfl⟩
 by_cases h7:p=7
 ·subst h7;have h:some (1,0)=some (n,k):=h;cases h;exact ⟨7,rfl,by decide,rfl,rfl⟩
 by_cases h8:p=8
 ·subst h8;have h:some (0,0)=some (n,k):=h;cases h;exact ⟨8,rfl,by decide,rfl,rfl⟩
 by_cases h9:p=9
 ·subst h9;have h:some (2,0)=some (n,k):=h;cases h;exact ⟨9,rfl,by decide,rfl,rfl⟩
 by_cases h10:p=10
 ·subst h10;have h:some (2,0)=some (n,k):=h;cases h;exact ⟨10,rfl,by decide,rfl,rfl⟩
 by_cases h11:p=11
 ·subst h11;have h:some (2,0)=some (n,k):=h;cases h;exact ⟨11,rfl,by decide,rfl,rfl⟩
 by_cases h12:p=12
 ·subst h12;have h:some (0,1)=some (n,k):=h;cases h;exact ⟨12,rfl,by decide,rfl,rfl⟩
 by_cases h13:p=13
 ·subst h13;have h:some (0,0)=some (n,k):=h;cases h;exact ⟨13,rfl,by decide,rfl,rfl⟩
 by_cases h14:p=14
 ·subst h14;have h:some (0,0)=some (n,k):=h;cases h;exact ⟨14,rfl,by decide,rfl,rfl⟩
 by_cases h15:p=15
 ·subst h15;have h:some (1,0)=some (n,k):=h;cases h;exact ⟨15,rfl,by decide,rfl,rfl⟩
 by_cases h16:p=16
 ·subst h16;have h:some (0,1)=some (n,k):=h;cases h;exact ⟨16,rfl,by decide,rfl,rfl⟩
 by_cases h17:p=17
 ·subst h17;have h:some (2,0)=some (n,k):=h;cases h;exact ⟨17,rfl,by decide,rfl,rfl⟩
 by_cases h18:p=18
 ·subst h18;have h:some (3,0)=some (n,k):=h;cases h;exact ⟨18,rfl,by decide,rfl,rfl⟩
 by_cases h19:p=19
 ·subst h19;have h:some (0,1)=some (n,k):=h;cases h;exact ⟨19,rfl,by decide,rfl,rfl⟩
 by_cases h20:p=20
 ·subst h20;have h:some (2,0)=some (n,k):=h;cases h;exact ⟨20,rfl,by decide,rfl,rfl⟩
 by_cases h21:p=21
 ·subst h21;have h:some (1,0)=some (n,k):=h;cases h;exact ⟨21,rfl,by decide,rfl,rfl⟩
 by_cases h22:p=22
 ·subst h22;have h:some (0,0)=some (n,k):=h;cases h;exact ⟨22,rfl,by decide,rfl,rfl⟩
 by_cases h23:p=23
 ·subst h23;have h:some (0,0)=some (n,k):=h;cases h;exact ⟨23,rfl,by decide,rfl,rfl⟩
 unfold PyVbqzab.shape at h
 rw [if_neg h0,if_neg h1,if_neg h2,if_neg h3,if_neg h4,if_neg h5,if_neg h6,if_neg h7,if_neg h8,if_neg h9,if_neg h10,if_neg h11,if_neg h12,if_neg h13,if_neg h14,if_neg h15,if_neg h16,if_neg h17,if_neg h18,if_neg h19,if_neg h20,if_neg h21,if_neg h22,if_neg h23] at h
 cases h
end FP
namespace FP
open Vbqzab
theorem zx5 {bs:List Bound} {n:Nat} {l:List Nat} {x:Nat}:x∈mayBeFirst bs n l ↔ x∈l∧∀ y∈l,surelyBefore bs n y x=false:=by
 unfold mayBeFirst surelyBefore
 rw [List.mem_filter]
 refine and_congr Iff.rfl ?_
 rw [List.all_eq_true]
 refine forall_congr' fun y=>forall_congr' fun _=>?_
 show (!below (most bs n x y))=true ↔ _
 rw [Bool.not_eq_true']
theorem yr9 {bs:List Bound} {n:Nat} (hb:Inn bs n) (hn:NoNeg bs) {x:Nat} (hx:x < n):surelyBefore bs n x x=false:=by
 unfold surelyBefore
 rw [most_self hb hn hx]
 rfl
theorem yk6 {s:State} {i:Nat}:isOld s i=true ↔ ∃ j,i < j∧j < s.boxes.length∧teamOf s j=teamOf s i:=by
 unfold isOld
 rw [List.any_eq_true]
 constructor
 ·rintro ⟨j,hj,q⟩
  rw [Bool.and_eq_true] at q
  exact ⟨j,of_decide_eq_true q.1,List.mem_range.mp hj,eq_of_beq q.2⟩
 ·rintro ⟨j,h1,h2,h3⟩
  exact ⟨j,List.mem_range.mpr h2,by rw [Bool.and_eq_true];exact ⟨decide_eq_true h1,beq_iff_eq.mpr h3⟩⟩
theorem xa2 {s:State} {b:Box} {i:Nat} (h:i < s.boxes.length):teamOf { s with boxes:=s.boxes++[b] } i=teamOf s i:=by
 unfold teamOf
 show (((s.boxes++[b])[i]?).map fun b=>b.team).getD i=_
 rw [zg4 h]
theorem team_new (s:State) (b:Box):teamOf { s with boxes:=s.boxes++[b] } s.boxes.length=b.team:=by
 unfold teamOf
 show (((s.boxes++[b])[s.boxes.length]?).map fun b=>b.team).getD _=_
 rw [List.getElem?_append_right (Nat.le_refl _),Nat.sub_self]
 rfl
theorem wakes_old {s:State} {i k:Nat} {b:Box} (hb:s.boxes[i]?=some b) (ho:isOld s i=false) (hk:k < s.boxes.length):isOld { s with boxes:=s.boxes++[b] } k=(decide (k=i) || isOld s k):=by
 have hi:=(List.getElem?_eq_some_iff.mp hb).1
 have hlen:({ s with boxes:=s.boxes++[b] }:State).boxes.length=s.boxes.length + 1:=by show (s.boxes++[b]).length=_;rw [List.length_append];rfl
 have hti:teamOf s i=b.team:=zh0 hb
 rw [Bool.eq_iff_iff,Bool.or_eq_true,yk6,yk6,decide_eq_true_iff,hlen,xa2 hk]
 constructor
 ·rintro ⟨j,h1,h2,h3⟩
  by_cases e:j=s.boxes.length
  ·subst e
   rw [team_new] at h3
   by_cases q:k=i
   ·exact .inl q
   ·rcases Nat.lt_or_gt_of_ne q with q | q
    ·exact .inr ⟨i,q,hi,by rw [hti,h3]⟩
    ·exfalso
     have:isOld s i=true:=yk6.mpr ⟨k,q,hk,by rw [hti,h3]⟩
     rw [ho] at this
     cases this
  ·rw [xa2 (by omega)] at h3
   exact .inr ⟨j,h1,by omega,h3⟩
 ·rintro (rfl | ⟨j,h1,h2,h3⟩)
  ·exact ⟨s.boxes.length,hk,by omega,by rw [team_new,hti]⟩
  ·exact ⟨j,h1,by omega,by rw [xa2 h2];exact h3⟩
theorem wakes_new (s:State) (b:Box):isOld { s with boxes:=s.boxes++[b] } s.boxes.length=false:=by
 refine Bool.eq_false_iff.mpr fun q=>?_
 obtain ⟨j,h1,h2,_⟩:=yk6.mp q
 have h3:j < (s.boxes++[b]).length:=h2
 rw [List.length_append] at h3
 have h4:j < s.boxes.length + 1:=h3
 omega
theorem broken_first {bs:List Bound} {ts:List Int} {k:Nat} {b:Bound} (h:FirstAt bs (fun b=>decide (b.w < ts.getD b.dst 0 - ts.getD b.src 0)) k b):brokenBy bs ts=some k:=by
 unfold brokenBy
 rw [List.findIdx?_eq_some_iff_getElem]
 obtain ⟨hk,e⟩:=List.getElem?_eq_some_iff.mp h.get
 refine ⟨hk,by rw [e];exact h.yes,fun j hj=>?_⟩
 have:=h.no j _ hj (List.getElem?_eq_getElem (by omega))
 rw [this]
 exact Bool.false_ne_true
theorem broken_none {bs:List Bound} {ts:List Int} (h:∀ b∈bs,decide (b.w < ts.getD b.dst 0 - ts.getD b.src 0)=false):brokenBy bs ts=none:=by
 unfold brokenBy
 exact List.findIdx?_eq_none_iff.mpr h
end FP
namespace FP
open Vbqzab
theorem yv7 {o:Option Int}:below o=true ↔ ∃ w,o=some w∧w < 0:=by
 cases o with
 | none=>exact ⟨fun h=>(nomatch h),fun ⟨w,h,_⟩=>(nomatch h)⟩
 | some m=>exact ⟨fun h=>⟨m,rfl,of_decide_eq_true h⟩,fun ⟨w,h,hw⟩=>by cases h;exact decide_eq_true hw⟩
theorem yl5 {bs:List Bound} {n:Nat} (hb:Inn bs n) (hn:NoNeg bs) {x y z:Nat} (hx:x < n) (hy:y < n) (hz:z < n) (h1:surelyBefore bs n x y=true) (h2:surelyBefore bs n y z=true):surelyBefore bs n x z=true:=by
 obtain ⟨a,ha,ha0⟩:=yv7.mp h1
 obtain ⟨b,hb1,hb0⟩:=yv7.mp h2
 have l1:=zq7 hb hn hy hx
 have l2:=zq7 hb hn hz hy
 have l3:=zq7 hb hn hz hx
 rw [ha] at l1
 rw [hb1] at l2
 obtain ⟨j,q1⟩:=l1.1
 obtain ⟨k,q2⟩:=l2.1
 have q:=q2.append q1
 refine yv7.mpr ?_
 cases e:most bs n z x with
 | none =>
  rw [e] at l3
  exact absurd ⟨_,q⟩ (l3 _)
 | some c =>
  rw [e] at l3
  have:=l3.2 _ ⟨_,q⟩
  exact ⟨c,rfl,by omega⟩
theorem mayBe_eq (bs:List Bound) (n:Nat) (l:List Nat):mayBeFirst bs n l=l.filter fun x => !(l.any fun y=>surelyBefore bs n y x):=by
 unfold mayBeFirst
 refine List.filter_congr fun x _=>?_
 rw [List.not_any_eq_all_not]
 rfl
theorem filter_lt {α:Type} {p q:α→Bool}:∀ {l:List α},(∀ a∈l,p a=true→q a=true)→(∃ a∈l,q a=true∧p a=false)→(l.filter p).length < (l.filter q).length
 | [],_,⟨_,h,_⟩=>nomatch h
 | a :: l,h,⟨b,hb,hq,hp⟩=>by
  have le:∀ {l:List α},(∀ a∈l,p a=true→q a=true)→(l.filter p).length≤(l.filter q).length:=by
   intro l
   induction l with
   | nil=>exact fun _=>Nat.le_refl _
   | cons c r ih =>
    intro h
    have:=ih fun a ha=>h a (List.mem_cons_of_mem _ ha)
    have hc:=h c (List.mem_cons_self ..)
    rw [List.filter_cons,List.filter_cons]
    by_cases e:p c=true
    ·rw [if_pos e,if_pos (hc e)]
     simp only [List.length_cons]
     omega
    ·rw [if_neg e]
     split
     ·simp only [List.length_cons]
      omega
     ·exact this
  have ht:=fun c hc=>h c (List.mem_cons_of_mem a hc)
  rw [List.filter_cons,List.filter_cons]
  rcases List.mem_cons.mp hb with e | hb
  ·subst e
   rw [if_neg (by rw [hp];exact Bool.false_ne_true),if_pos hq,List.length_cons]
   have:=le ht
   omega
  ·have ih:=filter_lt ht ⟨b,hb,hq,hp⟩
   have hc:=h a (List.mem_cons_self ..)
   by_cases e:p a=true
   ·rw [if_pos e,if_pos (hc e)]
    simp only [List.length_cons]
    omega
   ·rw [if_neg e]
    split
    ·simp only [List.length_cons]
     omega
    ·exact ih
theorem has_min {bs:List Bound} {n:Nat} (hb:Inn bs n) (hn:NoNeg bs) {l:List Nat} (hl:∀ x∈l,x < n):∀ (k x:Nat),x∈l→(l.filter fun y=>surelyBefore bs n y x).length≤k→∃ m∈mayBeFirst bs n l,m=x∨surelyBefore bs n m x=true
 | k,x,hx,hk=>by
  by_cases h:∀ y∈l,surelyBefore bs n y x=false
  ·exact ⟨x,zx5.mpr ⟨hx,h⟩,.inl rfl⟩
  ·obtain ⟨y,hy,hyx⟩:∃ y∈l,surelyBefore bs n y x=true:=by
    apply Classical.byContradiction
    intro q
    exact h fun y hy=>Bool.eq_false_iff.mpr fun e=>q ⟨y,hy,e⟩
   have lt:(l.filter fun z=>surelyBefore bs n z y).length < (l.filter fun z=>surelyBefore bs n z x).length:=by
    refine filter_lt (fun a ha q=>yl5 hb hn (hl a ha) (hl y hy) (hl x hx) q hyx) ⟨y,hy,hyx,yr9 hb hn (hl y hy)⟩
   match k,hk with
   | 0,hk=>omega
   | k + 1,hk =>
    obtain ⟨m,hm,q⟩:=has_min hb hn hl k y hy (by omega)
    refine ⟨m,hm,.inr ?_⟩
    rcases q with q | q
    ·rw [q];exact hyx
    ·exact yl5 hb hn (hl m (zx5.mp hm).1) (hl y hy) (hl x hx) q hyx
theorem may_ne {bs:List Bound} {n:Nat} (hb:Inn bs n) (hn:NoNeg bs) {l:List Nat} (hl:∀ x∈l,x < n) (h:l≠[]):mayBeFirst bs n l≠[]:=by
 cases l with
 | nil=>exact absurd rfl h
 | cons a r =>
  obtain ⟨m,hm,_⟩:=has_min hb hn hl _ a (List.mem_cons_self ..) (Nat.le_refl _)
  exact fun e=>by rw [e] at hm;cases hm
theorem first_one {bs:List Bound} {n:Nat} (hb:Inn bs n) (hn:NoNeg bs) {l:List Nat} (hl:∀ x∈l,x < n) {x:Nat} (h:mayBeFirst bs n l=[x]):surelyFirst bs n l=some x:=by
 have hx:x∈mayBeFirst bs n l:=by rw [h];exact List.mem_singleton.mpr rfl
 have hxl:=(zx5.mp hx).1
 have px:(l.all fun y=>y == x || surelyBefore bs n x y)=true:=by
  refine List.all_eq_true.mpr fun y hy=>?_
  obtain ⟨m,hm,q⟩:=has_min hb hn hl _ y hy (Nat.le_refl _)
  rw [h] at hm
  rw [List.mem_singleton.mp hm] at q
  rw [Bool.or_eq_true]
  rcases q with q | q
  ·exact .inl (by rw [q];exact beq_self_eq_true _)
  ·exact .inr q
 unfold surelyFirst
 cases e:l.find? fun x=>l.all fun y=>y == x || surelyBefore bs n x y with
 | none=>exact absurd px (List.find?_eq_none.mp e x hxl)
 | some z =>
  have pz:=List.find?_some e
  have hz:=List.mem_of_find?_eq_some e
  have hm:z∈mayBeFirst bs n l:=by
   refine zx5.mpr ⟨hz,fun y hy=>?_⟩
   have q:=List.all_eq_true.mp pz y hy
   rw [Bool.or_eq_true] at q
   rcases q with q | q
   ·rw [eq_of_beq q]
    exact yr9 hb hn (hl z hz)
   ·refine Bool.eq_false_iff.mpr fun q2=>?_
    have:=yl5 hb hn (hl z hz) (hl y hy) (hl z hz) q q2
    rw [yr9 hb hn (hl z hz)] at this
    cases this
  rw [h] at hm
  rw [List.mem_singleton.mp hm]
theorem ym9 {bs:List Bound} {n:Nat} (hb:Inn bs n) (hn:NoNeg bs) {l:List Nat} (hl:∀ x∈l,x < n) (hd:l.Nodup) (h:(mayBeFirst bs n l).length≠1):surelyFirst bs n l=none:=by
 unfold surelyFirst
 cases e:l.find? fun x=>l.all fun y=>y == x || surelyBefore bs n x y with
 | none=>rfl
 | some z =>
  have pz:=List.find?_some e
  have hz:=List.mem_of_find?_eq_some e
  have all:∀ y∈mayBeFirst bs n l,y=z:=by
   intro y hy
   obtain ⟨h1,h2⟩:=zx5.mp hy
   have q:=List.all_eq_true.mp pz y h1
   rw [Bool.or_eq_true] at q
   rcases q with q | q
   ·exact eq_of_beq q
   ·rw [h2 z hz] at q
    cases q
  have nd:(mayBeFirst bs n l).Nodup:=by
   unfold mayBeFirst
   exact hd.sublist List.filter_sublist
  have ne:=may_ne hb hn hl (fun q=>by rw [q] at hz;cases hz)
  cases em:mayBeFirst bs n l with
  | nil=>exact absurd em ne
  | cons a r =>
   cases r with
   | nil=>rw [em] at h;exact absurd rfl h
   | cons b r =>
    rw [em] at nd all
    have e1:=all a (by simp)
    have e2:=all b (by simp)
    rw [e1,e2] at nd
    simp at nd
def firstBy (m:List Nat):List Int:=match m with
 | [x]=>[1,whole x]
 | l=>0 :: listed l
theorem zv2 {s:State} {l:List Nat} (hb:Inn (bounds s) s.events.length) (hn:NoNeg (bounds s)) (hl:∀ x∈l,x < s.events.length) (hd:l.Nodup):firstAnswer s l=firstBy (mayBeFirst (bounds s) s.events.length l):=by
 unfold firstAnswer
 dsimp only
 match e:mayBeFirst (bounds s) s.events.length l with
 | [x] =>
  rw [first_one hb hn hl e]
  rfl
 | [] =>
  rw [ym9 hb hn hl hd (by rw [e];decide)]
  rfl
 | a :: b :: r =>
  rw [ym9 hb hn hl hd (by rw [e];simp)]
  rfl
theorem Wk.sub {bs cs:List Bound} (h:∀ b∈bs,b∈cs) {k x y:Nat} {w:Int} (g:Wk bs k x y w):Wk cs k x y w:=by
 induction g with
 | nil x=>exact .nil x
 | cons hb _ ih=>exact .cons (h _ hb) ih
theorem NoNeg.sub {bs cs:List Bound} (h:∀ b∈bs,b∈cs) (hn:NoNeg cs):NoNeg bs:=fun k x w g=>hn k x w (g.sub h)
theorem dropped_bs {s:State} {k:Nat}:∀ b∈bounds (dropped s k),b∈bounds s:=by
 intro b hb
 unfold bounds at hb ⊢
 have e1:clockBounds (dropped s k)=clockBounds s:=rfl
 have e2:boundsOf (dropped s k)=boundsOf s:=by
  funext v
  cases v <;> rfl
 rw [e1,e2] at hb
 rcases List.mem_append.mp hb with q | q
 ·exact List.mem_append_left _ q
 ·obtain ⟨v,hv,q⟩:=List.mem_flatMap.mp q
  exact List.mem_append_right _ (List.mem_flatMap.mpr ⟨v,List.mem_of_mem_eraseIdx hv,q⟩)
theorem xc7 {s:State} {k:Nat} (h:NoNeg (bounds s)):NoNeg (bounds (dropped s k)):=NoNeg.sub dropped_bs h
def withHeard (s:State) (m i t:Nat):State:={ s with events:=s.events++[⟨i,t,0⟩],evidence:=s.evidence++[.hearing m s.events.length] }
theorem wf_would {s:State} (h:Wf s) {m i t:Nat} (hi:i < s.boxes.length) (ht:lastStamp s i≤t) (ht2:t≤1000000000) (hn:s.events.length < 16) (hv:s.evidence.length < 24) (hm:m < s.sent.length)
  (h5:teamAt s (s.sent.getD m 0)≠teamOf s i) (h6:∃ v,wireOf s (teamAt s (s.sent.getD m 0)) (teamOf s i)=some v):Wf (withHeard s m i t):=by
 have h1:=wf_event h (p:=0) hi ht ht2 (by decide) hn
 have g:Grows s { s with events:=s.events++[⟨i,t,0⟩] }:=⟨fun _ _=>rfl,fun i hi=>zg4 hi,fun _ _=>rfl,fun _ _ v e=>⟨v,e⟩⟩
 have hx:s.sent.getD m 0 < s.events.length:=by
  obtain ⟨x,hx⟩:=zc2 hm
  rw [List.getD_eq_getElem?_getD,hx]
  exact h.ms x (List.mem_of_getElem? hx)
 have e1:teamAt { s with events:=s.events++[⟨i,t,0⟩] } (s.sent.getD m 0)=teamAt s (s.sent.getD m 0):=g.teamAt h hx
 have e2:teamAt { s with events:=s.events++[⟨i,t,0⟩] } s.events.length=teamOf s i:=by
  unfold teamAt boxOf
  show teamOf { s with events:=s.events++[⟨i,t,0⟩] } ((((s.events++[⟨i,t,0⟩])[s.events.length]?).map fun e=>e.box).getD 0)=_
  rw [List.getElem?_append_right (Nat.le_refl _),Nat.sub_self]
  rfl
 refine zx7 h1 (l:=s.evidence++[.hearing m s.events.length]) (by simp;omega) fun v hv'=>?_
 rcases List.mem_append.mp hv' with q | q
 ·exact h1.vd v q
 ·rw [List.mem_singleton.mp q]
  refine ⟨hm,by show s.events.length < (s.events++[_]).length;simp,?_,?_⟩
  ·show teamAt { s with events:=s.events++[⟨i,t,0⟩] } (s.sent.getD m 0)≠teamAt { s with events:=s.events++[⟨i,t,0⟩] } s.events.length
   rw [e1,e2]
   exact h5
  ·show ∃ v,wireOf { s with events:=s.events++[⟨i,t,0⟩] } (teamAt { s with events:=s.events++[⟨i,t,0⟩] } (s.sent.getD m 0)) (teamAt { s with events:=s.events++[⟨i,t,0⟩] } s.events.length)=some v
   rw [e1,e2]
   exact h6
def kindIs (s:State) (k:Nat) (x:Nat):Bool:=(s.events[x]?).any fun e=>e.kind == k
def kindTo (s:State) (k j:Nat):List Nat:=(List.range j).filter (kindIs s k)
theorem yg4 (s:State) (k j:Nat):kindTo s k (j + 1)=if kindIs s k j=true then kindTo s k j++[j] else kindTo s k j:=by
 unfold kindTo
 rw [List.range_succ,List.filter_append,List.filter_cons,List.filter_nil]
 split
 ·rfl
 ·rw [List.append_nil]
theorem kindTo_all (s:State) (k:Nat):kindTo s k s.events.length=ofKind s k:=rfl
def repTo (s:State) (i j:Nat):Option Nat:=((kindTo s 2 j).filter fun x=>teamAt s x == i).getLast?
theorem repTo_succ (s:State) (i j:Nat):repTo s i (j + 1)=if kindIs s 2 j=true∧teamAt s j=i then some j else repTo s i j:=by
 unfold repTo
 rw [yg4]
 by_cases h:kindIs s 2 j=true
 ·rw [if_pos h,List.filter_append,List.filter_cons,List.filter_nil]
  by_cases h2:teamAt s j=i
  ·rw [if_pos (beq_iff_eq.mpr h2),if_pos ⟨h,h2⟩,List.getLast?_append]
   rfl
  ·rw [if_neg (fun q=>h2 (eq_of_beq q)),if_neg (fun q=>h2 q.2),List.append_nil]
 ·rw [if_neg h,if_neg (fun q=>h q.1)]
theorem repTo_all (s:State) (i:Nat):repTo s i s.events.length=reportOf s i:=rfl
theorem reportOf_lt {s:State} {i r:Nat} (h:reportOf s i=some r):r < s.events.length:=by
 unfold reportOf ofKind places at h
 have:=List.mem_of_getLast? h
 exact List.mem_range.mp (List.mem_filter.mp (List.mem_filter.mp this).1).1
def teamsTo (s:State) (j:Nat):List Nat:=(List.range j).filter fun i=>teamOf s i == i
theorem yn4 (s:State) (j:Nat):teamsTo s (j + 1)=if teamOf s j=j then teamsTo s j++[j] else teamsTo s j:=by
 unfold teamsTo
 rw [List.range_succ,List.filter_append,List.filter_cons,List.filter_nil]
 by_cases h:teamOf s j=j
 ·rw [if_pos (beq_iff_eq.mpr h),if_pos h]
 ·rw [if_neg (fun q=>h (eq_of_beq q)),if_neg h,List.append_nil]
theorem yq5 {s:State} {x:Nat} (h:x∈pressesOf s):x < s.events.length:=List.mem_range.mp (List.mem_filter.mp h).1
theorem xa8 (s:State):(pressesOf s).Nodup:=List.nodup_range.sublist List.filter_sublist
def ris (n lo:Int):List Int→Bool
 | []=>true
 | a :: r=>decide (lo≤a) && (decide (a < n) && ris n (a + 1) r)
theorem ris_eq (s:State):∀ (l:List Int) (lo:Int),0≤lo→ris (whole s.events.length) lo l=(risingIn s l && (match l with | []=>true | a :: _=>decide (lo≤a)))
 | [],lo,h=>rfl
 | [a],lo,h=>by
  show (decide (lo≤a) && (decide (a < whole s.events.length) && true))=(inside a 0 (whole s.events.length - 1) && decide (lo≤a))
  rw [Bool.eq_iff_iff]
  simp only [Bool.and_eq_true,decide_eq_true_iff,za7,and_true]
  constructor
  ·rintro ⟨h1,h2⟩
   exact ⟨⟨by omega,by omega⟩,h1⟩
  ·rintro ⟨⟨h1,h2⟩,h3⟩
   exact ⟨h3,by omega⟩
 | a :: b :: r,lo,h=>by
  show (decide (lo≤a) && (decide (a < whole s.events.length) && ris (whole s.events.length) (a + 1) (b :: r)))=((inside a 0 (whole s.events.length - 1) && (decide (a < b) && risingIn s (b :: r))) && decide (lo≤a))
  by_cases q:lo≤a
  ·rw [ris_eq s (b :: r) (a + 1) (by omega),Bool.eq_iff_iff]
   simp only [Bool.and_eq_true,decide_eq_true_iff,za7]
   constructor
   ·rintro ⟨h1,h2,h3,h4⟩
    exact ⟨⟨⟨by omega,by omega⟩,by omega,h3⟩,h1⟩
   ·rintro ⟨⟨⟨h1,h2⟩,h3,h4⟩,h5⟩
    exact ⟨h5,by omega,h4,by omega⟩
  ·rw [decide_eq_false q,Bool.false_and,Bool.and_false]
theorem ris_in (s:State) (l:List Int):ris (whole s.events.length) 0 l=risingIn s l:=by
 rw [ris_eq s l 0 (Int.le_refl 0)]
 cases l with
 | nil=>rfl
 | cons a r =>
  by_cases h:risingIn s (a :: r)=true
  ·have:0≤a:=by
    cases r with
    | nil=>exact (za7.mp h).1
    | cons b r =>
     have h:(inside a 0 (whole s.events.length - 1) && (decide (a < b) && risingIn s (b :: r)))=true:=h
     rw [Bool.and_eq_true] at h
     exact (za7.mp h.1).1
   show (risingIn s (a :: r) && decide (0≤a))=_
   rw [decide_eq_true this,Bool.and_true]
  ·rw [Bool.not_eq_true] at h
   rw [h,Bool.false_and]
theorem ris_all {n:Int}:∀ {l:List Int} {lo:Int},0≤lo→ris n lo l=true→(∀ x∈l,lo≤x∧x < n)∧(nats l).Pairwise (· < ·)
 | [],lo,_,_=>⟨fun x h=>(nomatch h),List.Pairwise.nil⟩
 | a :: r,lo,h0,h=>by
  have h:(decide (lo≤a) && (decide (a < n) && ris n (a + 1) r))=true:=h
  simp only [Bool.and_eq_true,decide_eq_true_iff] at h
  obtain ⟨h1,h2,h3⟩:=h
  obtain ⟨q1,q2⟩:=ris_all (show 0≤a + 1 by omega) h3
  refine ⟨fun x hx=>?_,List.Pairwise.cons (fun y hy=>?_) q2⟩
  ·rcases List.mem_cons.mp hx with e | hx
   ·rw [e];exact ⟨h1,h2⟩
   ·have:=q1 x hx
    exact ⟨by omega,this.2⟩
  ·obtain ⟨z,hz,rfl⟩:=List.mem_map.mp hy
   have:=q1 z hz
   omega
def bAt (bs:List Bound) (k:Nat):Bound:=bs.getD k ⟨0,0,0⟩
theorem yn3 {bs:List Bound} {k:Nat} (h:k < bs.length):bs[k]?=some (bAt bs k):=by
 unfold bAt
 rw [List.getD_eq_getElem?_getD,List.getElem?_eq_getElem h]
 rfl
def jn:List Bound→Bool
 | a :: b :: l=>a.dst == b.src && jn (b :: l)
 | _=>true
theorem joins_jn (bs:List Bound):∀ {l:List Nat},(∀ k∈l,k < bs.length)→joins bs l=jn (l.map (bAt bs))
 | [],_=>rfl
 | [a],_=>rfl
 | a :: b :: l,h=>by
  have ih:=joins_jn bs (l:=b :: l) fun k hk=>h k (List.mem_cons_of_mem _ hk)
  show ((match bs[a]?,bs[b]? with | some x,some y=>x.dst == y.src | _,_=>false) && joins bs (b :: l))=((bAt bs a).dst == (bAt bs b).src && jn ((b :: l).map (bAt bs)))
  rw [ih,yn3 (h a (by simp)),yn3 (h b (by simp))]
theorem jn_zip:∀ l:List Bound,jn l=(List.zipWith (fun a b:Bound=>a.dst == b.src) l (l.drop 1)).all id
 | []=>rfl
 | [a]=>rfl
 | a :: b :: l=>by
  show (a.dst == b.src && jn (b :: l))=((a.dst == b.src) :: List.zipWith (fun a b:Bound=>a.dst == b.src) (b :: l) ((b :: l).drop 1)).all id
  rw [jn_zip (b :: l),List.all_cons]
  rfl
theorem sumOf_eq (bs:List Bound) {l:List Nat} (h:∀ k∈l,k < bs.length):sumOf bs l=((l.map (bAt bs)).map Bound.w).sum:=by
 unfold sumOf
 have gen:∀ (l:List Nat) (a:Int),(∀ k∈l,k < bs.length)→l.foldl (fun a k=>a + ((bs[k]?).map fun b=>b.w).getD 0) a=a + ((l.map (bAt bs)).map Bound.w).sum:=by
  intro l
  induction l with
  | nil=>intro a _;simp
  | cons k r ih =>
   intro a h
   rw [List.foldl_cons,ih _ fun k hk=>h k (List.mem_cons_of_mem _ hk),yn3 (h k (by simp))]
   simp only [List.map_cons,List.sum_cons,Option.map_some,Option.getD_some]
   omega
 rw [gen l 0 h]
 omega
theorem row_from {bs:List Bound} {n:Nat} (hb:Inn bs n) (hn:NoNeg bs) {x:Nat} (hx:x < n):(fw bs n).getD x []=from_ bs n x:=by
 have sh:=(zs7 hb).sh
 refine at_ext (n:=n) (sh.row x hx) (zj2 bs n n _ (by unfold only;simp)) fun y hy=>?_
 exact ym7 hb hn hx hy
theorem hist_min {bs:List Bound} {n:Nat} (hb:Inn bs n) (hn:NoNeg bs) {y:Nat} (hy:y < n) {m:Int} (h1:∃ x,x < n∧g (fw bs n) x y=some m) (h2:∀ x d,x < n→g (fw bs n) x y=some d→m≤d):at_ (relaxed bs n n (zeros n)) y=some m:=by
 refine (zeros_least hb hn hy).uniq ?_
 obtain ⟨x,hx,e⟩:=h1
 have l:=xe2 hb hn hx hy
 rw [e] at l
 obtain ⟨j,q⟩:=l.1
 refine ⟨⟨j,x,hx,q⟩,?_⟩
 rintro w ⟨k,z,hz,q2⟩
 have l2:=xe2 hb hn hz hy
 cases e2:g (fw bs n) z y with
 | none =>
  rw [e2] at l2
  exact absurd ⟨k,q2⟩ (l2 w)
 | some d =>
  rw [e2] at l2
  have:=l2.2 w ⟨k,q2⟩
  have:=h2 z d hz e2
  omega
def histTimes (bs:List Bound) (n:Nat):List Int:=timesOf (relaxed bs n n (zeros n))
theorem xe0 (bs:List Bound) (n:Nat):(histTimes bs n).length=n:=by
 unfold histTimes timesOf
 rw [List.length_map,zj2]
 unfold zeros
 simp
theorem xe1 {bs:List Bound} {n y:Nat} {m:Int} (hy:y < n) (h:at_ (relaxed bs n n (zeros n)) y=some m):(histTimes bs n)[y]?=some m:=by
 unfold histTimes timesOf
 have hl:(relaxed bs n n (zeros n)).length=n:=by rw [zj2];unfold zeros;simp
 unfold at_ at h
 rw [List.getD_eq_getElem?_getD,List.getElem?_eq_getElem (by omega)] at h
 rw [List.getElem?_map,List.getElem?_eq_getElem (by omega)]
 have h:(relaxed bs n n (zeros n))[y]=some m:=h
 rw [Option.map_some,h]
 rfl
theorem leastOf_min {l:List Int} {m:Int} (h1:m∈l) (h2:∀ x∈l,m≤x):leastOf l=m:=by
 unfold leastOf
 have gen:∀ (l:List Int) (a:Int),(∀ x∈l,m≤x)→m≤a→(m∈l∨a=m)→l.foldl min a=m:=by
  intro l
  induction l with
  | nil =>
   intro a _ _ h
   rcases h with h | h
   ·cases h
   ·exact h
  | cons b r ih =>
   intro a h ha hm
   rw [List.foldl_cons]
   have hb:=h b (by simp)
   refine ih _ (fun x hx=>h x (by simp [hx])) (by omega) ?_
   rcases hm with hm | hm
   ·rcases List.mem_cons.mp hm with e | hm
    ·exact .inr (by omega)
    ·exact .inl hm
   ·exact .inr (by omega)
 cases l with
 | nil=>cases h1
 | cons a r=>exact gen (a :: r) a h2 (h2 a (by simp)) (.inl h1)
theorem yz3 {bs:List Bound} {n:Nat} {m:Int} (h:(histTimes bs n=[]∧m=0)∨(m∈histTimes bs n∧∀ x∈histTimes bs n,m≤x)):history bs n=(histTimes bs n).map fun t=>t - m:=by
 show (histTimes bs n).map (fun t=>t - leastOf (histTimes bs n))=_
 rcases h with ⟨h,_⟩ | ⟨h1,h2⟩
 ·rw [h];rfl
 ·rw [leastOf_min h1 h2]
end FP
section
namespace L2
open PySem PySem.Spec PyProof.Rows
abbrev Key:=Sum Int Str
def keyIs:Key→Value→Bool
 | .inl k,v=>Value.isInt k v
 | .inr x,v=>Value.isStrOf x v
def keyH (w:World):Key→Int
 | .inl k=>hashInt k
 | .inr x=>hashStr w x
theorem ze7:∀ {k:Key} {v:Value},keyIs k v=true→(∃ i t,k=Sum.inl i∧v=Value.int i t)∨(∃ x t,k=Sum.inr x∧v=Value.str x t)
 | .inl i,v,h=>by
  obtain ⟨t,e⟩:=Value.isInt_shape (k:=i) (v:=v) h
  exact .inl ⟨i,t,rfl,e⟩
 | .inr x,v,h=>by
  obtain ⟨t,e⟩:=Value.isStrOf_shape (x:=x) (v:=v) h
  exact .inr ⟨x,t,rfl,e⟩
theorem keyIs_int (i:Int) (t:Tok):keyIs (.inl i) (.int i t)=true:=by simp [keyIs,Value.isInt]
theorem yu8 (x:Str) (t:Tok):keyIs (.inr x) (.str x t)=true:=by simp [keyIs,Value.isStrOf]
theorem key_ll (a b:Int):decide ((Sum.inl a:Key)=Sum.inl b)=(a == b):=by
 by_cases e:a=b
 ·subst e;simp
 ·have h:¬ (Sum.inl a:Key)=Sum.inl b:=fun q=>e (Sum.inl.inj q)
  rw [decide_eq_false h]
  exact (beq_eq_false_iff_ne.mpr e).symm
theorem key_rr (a b:Str):decide ((Sum.inr a:Key)=Sum.inr b)=decide (a=b):=by
 by_cases e:a=b
 ·subst e;simp
 ·have h:¬ (Sum.inr a:Key)=Sum.inr b:=fun q=>e (Sum.inr.inj q)
  rw [decide_eq_false h,decide_eq_false e]
theorem key_lr (a:Int) (b:Str):decide ((Sum.inl a:Key)=Sum.inr b)=false:=decide_eq_false (fun q=>nomatch q)
theorem key_rl (a:Str) (b:Int):decide ((Sum.inr a:Key)=Sum.inl b)=false:=decide_eq_false (fun q=>nomatch q)
def mixKind (prog:Program) (w:World):PySem.KeyKind prog w Key where
 is:=keyIs
 hash:=keyH w
 inj:=fun v a b ha hb=>by
  rcases ze7 ha with ⟨i,t,rfl,rfl⟩ | ⟨x,t,rfl,rfl⟩
  ·rcases ze7 hb with ⟨j,u,rfl,e⟩ | ⟨y,u,rfl,e⟩
   ·injection e with e1 _;rw [e1]
   ·exact nomatch e
  ·rcases ze7 hb with ⟨j,u,rfl,e⟩ | ⟨y,u,rfl,e⟩
   ·exact nomatch e
   ·injection e with e1 _;rw [e1]
 byValue:=fun k v h=>by
  rcases ze7 h with ⟨i,t,rfl,rfl⟩ | ⟨x,t,rfl,rfl⟩ <;> rfl
 pyHash:=fun hv h=>by
  rcases ze7 hv with ⟨i,t,rfl,rfl⟩ | ⟨x,t,rfl,rfl⟩
  ·exact wpAny_pyHash_int h
  ·exact wpAny_pyHash_str h
 eqBool:=fun hu hv h=>by
  rcases ze7 hu with ⟨i,t,rfl,rfl⟩ | ⟨x,t,rfl,rfl⟩
  ·rcases ze7 hv with ⟨j,u,rfl,rfl⟩ | ⟨y,u,rfl,rfl⟩
   ·rw [key_ll] at h;exact wpAny_eqBool_int h
   ·rw [key_lr] at h;exact SeqAt.EqAt.int_str i t y u _ _ _ _ h
  ·rcases ze7 hv with ⟨j,u,rfl,rfl⟩ | ⟨y,u,rfl,rfl⟩
   ·rw [key_rl] at h;exact SeqAt.EqAt.str_int x t j u _ _ _ _ h
   ·rw [key_rr] at h;exact wpAny_eqBool_str h
 «strs»:=fun k x t v h=>by
  rcases ze7 h with ⟨i,u,rfl,e⟩ | ⟨y,u,rfl,e⟩
  ·exact nomatch e
  ·injection e with e1 _
   subst e1
   cases v <;> rfl
theorem mixKind_int (prog:Program) (w:World) (i:Int) (t:Tok):(mixKind prog w).is (.inl i) (.int i t)=true:=keyIs_int i t
theorem mixKind_str (prog:Program) (w:World) (x:Str) (t:Tok):(mixKind prog w).is (.inr x) (.str x t)=true:=yu8 x t
end L2
namespace L2
open PySem PySem.Spec PyProof.Rows
inductive V where
 | non | bl (b:Bool) | int (i:Int) | str (x:Str) | byt (b:Array UInt8) | flt (b:UInt64) | ref (a:Addr) | ty (n:String)
 deriving DecidableEq
def RelV:V→Value→Prop
 | .non,u=>u=Value.none
 | .bl b,u=>u=Value.bool b
 | .int i,u=>∃ t,u=Value.int i t
 | .str x,u=>∃ t,u=Value.str x t
 | .byt b,u=>∃ t,u=Value.bytes b t
 | .flt b,u=>∃ t,u=Value.float b t
 | .ref a,u=>u=Value.ref a
 | .ty n,u=>u=Value.type n
abbrev Vals:List V→List Value→Prop:=Paired RelV
theorem Vals.length {xs:List V} {us:List Value} (r:Vals xs us):xs.length=us.length:=Paired.length r
theorem Vals.get:∀ {xs:List V} {us:List Value} {i:Nat} {x:V},Vals xs us→xs[i]?=some x→∃ u,us[i]?=some u∧RelV x u
 | _,_,_,_,.nil,e=>by simp at e
 | _,_,0,_,.cons r _,e=>by simp at e;subst e;exact ⟨_,rfl,r⟩
 | _,_,i + 1,x,.cons _ t,e=>by
  obtain ⟨u,h1,h2⟩:=Vals.get (i:=i) (x:=x) t (by simpa using e)
  exact ⟨u,by simpa using h1,h2⟩
theorem Vals.set {x:V} {u:Value} (r:RelV x u):∀ {xs:List V} {us:List Value} (i:Nat),Vals xs us→Vals (xs.set i x) (us.set i u)
 | _,_,_,.nil => .nil
 | _,_,0,.cons _ t => .cons r t
 | _,_,i + 1,.cons q t => .cons q (Vals.set r i t)
theorem Vals.append:∀ {xs ys:List V} {us ws:List Value},Vals xs us→Vals ys ws→Vals (xs++ys) (us++ws)
 | _,_,_,_,.nil,s=>s
 | _,_,_,_,.cons r t,s => .cons r (Vals.append t s)
theorem Vals.take:∀ {xs:List V} {us:List Value} (n:Nat),Vals xs us→Vals (xs.take n) (us.take n)
 | _,_,0,_ => .nil
 | _,_,_ + 1,.nil => .nil
 | _,_,n + 1,.cons r t => .cons r (Vals.take n t)
theorem Vals.drop:∀ {xs:List V} {us:List Value} (n:Nat),Vals xs us→Vals (xs.drop n) (us.drop n)
 | _,_,0,r=>r
 | _,_,_ + 1,.nil => .nil
 | _,_,n + 1,.cons _ t=>Vals.drop n t
def RelO:Option V→Option Value→Prop
 | some v,some u=>RelV v u
 | none,none=>True
 | _,_=>False
def KV {κ:Type}:List (κ×V)→List (κ×Value)→Prop:=Paired fun (p:κ×V) (q:κ×Value)=>p.1=q.1∧RelV p.2 q.2
def kV:Key→V
 | .inl i => .int i
 | .inr x => .str x
inductive HO where
 | lst (xs:List V)
 | tup (xs:List V)
 | dK (kvs:List (Key×V)) | dT (kvs:List (List Key×V))
 | set (S:Int→Bool) (n:Nat)
 | ins (C dx:Addr) (fs:List (Str×V))
 | own (x:Addr)
 | xd (fs:List (Str×V))
 | met (f x:Addr)
 | rng (lo hi:Int)
 | frz (o:Obj) (u:HO)
 | tbl (ps:Array Value)
 | ext (φ:Heap→Prop)
abbrev Hp:=Addr→Option HO
def upd (H:Hp) (a:Addr) (o:HO):Hp:=fun b=>if b=a then some o else H b
theorem za2 {H:Hp} {a:Addr} {o:HO}:upd H a o a=some o:=by unfold upd;rw [if_pos rfl]
theorem zb5 {H:Hp} {a b:Addr} {o:HO} (h:b≠a):upd H a o b=H b:=by unfold upd;rw [if_neg h]
theorem zc6 {H:Hp} {a:Addr} {o u:HO}:upd (upd H a o) a u=upd H a u:=by
 funext b;unfold upd;split <;> rfl
theorem ne_of {H:Hp} {a b:Addr} {o u:HO} (h:H a=some o) (h':H b=some u) (d:o≠u):a≠b:=by
 intro e;subst e;rw [h] at h';exact d (Option.some.inj h')
theorem zb9 {H:Hp} {a b:Addr} {o:HO} (h:H a=some o) (h':H b=none):a≠b:=by
 intro e;subst e;rw [h] at h';cases h'
section
variable (P:Program) (w:World)
def ObjOk (H:Hp) (h:Heap) (a:Addr):HO→Prop
 | .lst xs=>xs.length≤sizeLine∧∃ (its:List Value) (n:Nat),Vals xs its∧h.get? a=some { cls := .type "list",data := .seq its.toArray n }
 | .tup xs=>xs.length≤sizeLine∧∃ its:List Value,Vals xs its∧IsTup h a its.toArray
 | .dK kvs=>kvs.length≤sizeLine∧(a == sysModules)=false∧∃ vs,KV kvs vs∧h.DictOf (mixKind P w) a vs
 | .dT kvs=>kvs.length≤sizeLine∧(a == sysModules)=false∧∃ xs:List (List Key×Addr×Value),
   Paired (fun (p:List Key×V) (q:List Key×Addr×Value)=>p.1=q.1∧H q.2.1=some (.tup (p.1.map kV))∧RelV p.2 q.2.2) kvs xs ∧
   ∃ o es ep,h.get? a=some o∧o.ExactDict∧o.data = .dict es ep∧es.toList=xs.map (entryOfKey (tupleKind (mixKind P w)))∧(xs.map (·.1)).Nodup
 | .set S n=>h.SetOf (intKind P w) a S n
 | .ins C dx fs=>H dx=some (.own a)∧fs.length≤1000∧dx≠a∧h.get? a=some (PySem.W.instObj C dx) ∧
   ∃ mA,h.Ns1 dx mA∧(∀ f,RelO (fs.lookup f) (mA f))∧PySem.Within mA (fs.map (·.1))
 | .own _=>∃ o,h.get? a=some o
 | .xd fs=>∃ mA,h.Ns1 a mA∧∀ f,RelO (fs.lookup f) (mA f)
 | .rng lo hi=>∃ t u v,h.get? a=some { cls := .type "range",data := .fields #[.int lo t,.int hi u,.int 1 v] }
 | .frz o u=>h.get? a=some o∧ObjOk H h a u
 | .tbl ps=>h.get? a=some { cls := .none,data := .fields ps }
 | .met f x=>h.get? a=some (PySem.W.methodObj (.ref f) (.ref x))
 | .ext φ=>φ h∧(∃ o,h.get? a=some o)∧∀ h1 h2:Heap,φ h1→(∀ o,h1.get? a=some o→h2.get? a=some o)→φ h2
def HOk (H:Hp) (h:Heap):Prop:=∀ a o,H a=some o→ObjOk P w H h a o
end
section
variable {P:Program} {w:World} {H H':Hp} {h h':Heap} {a:Addr} {o:HO}
theorem ObjOk.lt (x:ObjOk P w H h a o):a < h.objs.size:=by
 cases o with
 | lst xs=>obtain ⟨_,_,_,_,e⟩:=x;exact Heap.lt_size e
 | tup xs=>obtain ⟨_,_,_,p⟩:=x;exact p.lt
 | dK kvs=>obtain ⟨_,_,_,_,o,_,_,e,_⟩:=x;exact Heap.lt_size e
 | dT kvs=>obtain ⟨_,_,_,_,o,_,_,e,_⟩:=x;exact Heap.lt_size e
 | set S n=>obtain ⟨o,_,_,_,e,_⟩:=x;exact Heap.lt_size e
 | ins C dx fs=>obtain ⟨_,_,_,e,_⟩:=x;exact Heap.lt_size e
 | own y=>obtain ⟨_,e⟩:=x;exact Heap.lt_size e
 | xd fs=>obtain ⟨_,⟨_,_,_,e,_⟩,_⟩:=x;exact Heap.lt_size e
 | rng lo hi=>obtain ⟨_,_,_,e⟩:=x;exact Heap.lt_size e
 | frz ob u=>obtain ⟨e,_⟩:=x;exact Heap.lt_size e
 | tbl ps=>exact Heap.lt_size (show h.get? a=some _ from x)
 | met f y=>exact Heap.lt_size (show h.get? a=some _ from x)
 | ext φ=>obtain ⟨_,⟨_,e⟩,_⟩:=x;exact Heap.lt_size e
theorem Paired.mapP {α β:Type} {F G:α→β→Prop}:∀ {l₁:List α} {l₂:List β},Paired F l₁ l₂→(∀ a b,F a b→G a b)→Paired G l₁ l₂
 | _,_,.nil,_ => .nil
 | _,_,.cons r t,f => .cons (f _ _ r) (Paired.mapP t f)
theorem ObjOk.stay (x:ObjOk P w H h a o) (k:∀ b u,(b=a∨H b=some (.own a))→h.get? b=some u→h'.get? b=some u)
  (ho:∀ b,H b=some (.own a)→H' b=some (.own a)) (ht:∀ b xs,H b=some (.tup xs)→H' b=some (.tup xs)):ObjOk P w H' h' a o:=by
 induction o with
 | lst xs=>obtain ⟨z,its,n,r,e⟩:=x;exact ⟨z,its,n,r,k _ _ (.inl rfl) e⟩
 | tup xs=>obtain ⟨z,its,r,ob,e,c⟩:=x;exact ⟨z,its,r,ob,k _ _ (.inl rfl) e,c⟩
 | dK kvs=>obtain ⟨z,y,vs,r,ob,es,ep,e,c⟩:=x;exact ⟨z,y,vs,r,ob,es,ep,k _ _ (.inl rfl) e,c⟩
 | dT kvs =>
  obtain ⟨z,y,xs,r,ob,es,ep,e,c⟩:=x
  exact ⟨z,y,xs,Paired.mapP r fun p q z=>⟨z.1,ht _ _ z.2.1,z.2.2⟩,ob,es,ep,k _ _ (.inl rfl) e,c⟩
 | set S n=>obtain ⟨ob,es,ep,t,e,c⟩:=x;exact ⟨ob,es,ep,t,k _ _ (.inl rfl) e,c⟩
 | ins C dx fs =>
  obtain ⟨d,z,ne,e,mA,⟨od,es,ep,e2,c⟩,r⟩:=x
  exact ⟨ho _ d,z,ne,k _ _ (.inl rfl) e,mA,⟨od,es,ep,k _ _ (.inr d) e2,c⟩,r⟩
 | own y=>obtain ⟨ob,e⟩:=x;exact ⟨ob,k _ _ (.inl rfl) e⟩
 | xd fs=>obtain ⟨mA,⟨od,es,ep,e,c⟩,r⟩:=x;exact ⟨mA,⟨od,es,ep,k _ _ (.inl rfl) e,c⟩,r⟩
 | rng lo hi=>obtain ⟨t,u,v,e⟩:=x;exact ⟨t,u,v,k _ _ (.inl rfl) e⟩
 | frz ob u ih=>obtain ⟨e,q⟩:=x;exact ⟨k _ _ (.inl rfl) e,ih q⟩
 | tbl ps =>
  have e:h.get? a=some { cls := .none,data := .fields ps }:=x
  show h'.get? a=some { cls := .none,data := .fields ps }
  exact k a _ (.inl rfl) e
 | met f y =>
  have e:h.get? a=some (PySem.W.methodObj (.ref f) (.ref y)):=x
  show h'.get? a=some (PySem.W.methodObj (.ref f) (.ref y))
  exact k a _ (.inl rfl) e
 | ext φ=>obtain ⟨p,⟨o,e⟩,st⟩:=x;exact ⟨st _ _ p fun o q=>k _ _ (.inl rfl) q,⟨o,k _ _ (.inl rfl) e⟩,st⟩
theorem HOk.lt (x:HOk P w H h) (e:H a=some o):a < h.objs.size:=(x a o e).lt
theorem HOk.fresh (x:HOk P w H h) (e:h.objs.size≤a):H a=none:=by
 cases q:H a with
 | none=>rfl
 | some u=>exact absurd (Nat.lt_of_lt_of_le (x.lt q) e) (Nat.lt_irrefl _)
theorem HOk.kept (x:HOk P w H h) (k:∀ b u,h.get? b=some u→h'.get? b=some u):HOk P w H h':=fun a o e =>
 (x a o e).stay (fun b u _ q=>k b u q) (fun _ q=>q) fun _ _ q=>q
theorem HOk.laid (x:HOk P w H h) (k:∀ b u,h.get? b=some u→h'.get? b=some u) (hp:h.objs.size≤a) (new:ObjOk P w (upd H a o) h' a o):HOk P w (upd H a o) h':=fun b u e=>by
 have hn:=x.fresh hp
 by_cases hb:b=a
 ·subst hb;rw [za2] at e;cases e;exact new
 ·rw [zb5 hb] at e
  exact (x b u e).stay (fun c v _ q=>k c v q) (fun c q=>by rw [zb5 (zb9 q hn)];exact q) fun c xs q=>by rw [zb5 (zb9 q hn)];exact q
end
def Rd (H:Hp) (a:Addr) (u:HO):Prop:=H a=some u∨∃ o,H a=some (.frz o u)
theorem Rd.ok {P:Program} {w:World} {H:Hp} {h:Heap} {a:Addr} {u:HO} (r:Rd H a u) (x:HOk P w H h):ObjOk P w H h a u:=by
 rcases r with r | ⟨o,r⟩
 ·exact x a u r
 ·obtain ⟨_,q⟩:=x a _ r
  exact q
def Mut:Option HO→Prop
 | some (.lst _)=>True
 | some (.dK _)=>True
 | some (.dT _)=>True
 | some (.set _ _)=>True
 | some (.ins _ _ _)=>True
 | some (.ext _)=>True
 | _=>False
section
variable {P:Program} {w:World} {H:Hp} {h h':Heap} {x e:Addr} {o':HO}
theorem HOk.write (ok:HOk P w H h) (mu:Mut (H x)) (he:e=x∨H e=some (.own x)) (k:∀ b u,b≠e→h.get? b=some u→h'.get? b=some u) (heo:∃ u,h'.get? e=some u)
  (new:ObjOk P w (upd H x o') h' x o'):HOk P w (upd H x o') h':=fun b u q=>by
 have nown:∀ c y,H c=some (.own y)→c≠x:=fun c y r z=>by subst z;rw [r] at mu;exact mu
 have ntup:∀ c xs,H c=some (.tup xs)→c≠x:=fun c xs r z=>by subst z;rw [r] at mu;exact mu
 by_cases hb:b=x
 ·subst hb;rw [za2] at q;cases q;exact new
 ·rw [zb5 hb] at q
  by_cases hbe:b=e
  ·have q':H b=some (.own x):=by
    rcases he with z | z
    ·exact absurd (hbe.trans z) hb
    ·rw [hbe];exact z
   rw [q] at q';cases q'
   obtain ⟨v,hv⟩:=heo
   exact ⟨v,by rw [hbe];exact hv⟩
  ·refine (ok b u q).stay (fun c v hc r=>k c v ?_ r) (fun c r=>by rw [zb5 (nown c b r)];exact r) fun c xs r=>by rw [zb5 (ntup c xs r)];exact r
   rcases hc with rfl | hc
   ·exact hbe
   ·rintro rfl
    rcases he with z | z
    ·exact nown c b hc z
    ·rw [hc] at z;cases z;exact hb rfl
end
structure Un (fs ex:List Addr) (H H':Hp) (h h':Heap):Prop where
 keep:∀ b o,h.get? b=some o→H b=none→b ∉ fs→b ∉ ex→h'.get? b=some o
 slot:∀ b o,h.get? b=some o→H b=none→b∈fs→b ∉ ex→∃ sl,h'.get? b=some { o with slots:=sl }
 free:∀ b o,h.get? b=some o→H b=none→b ∉ ex→H' b=none
 there:∀ b o,h.get? b=some o→b ∉ ex→∃ o',h'.get? b=some o'
 tups:∀ b xs,H b=some (.tup xs)→H' b=some (.tup xs)
 frzs:∀ b o u,H b=some (.frz o u)→H' b=some (.frz o u)
 tbls:∀ b ps,H b=some (.tbl ps)→∃ more,H' b=some (.tbl (ps++more))
section
variable {fs fs' ex ex':List Addr} {H H1 H2:Hp} {h h1 h2 h':Heap} {a x e:Addr} {o:HO}
theorem Un.any (u:Un fs ex H H1 h h1) {b:Addr} {ob:Obj} (q:h.get? b=some ob) (n:H b=none) (hx:b ∉ ex):∃ sl,h1.get? b=some { ob with slots:=sl }:=by
 by_cases hb:b∈fs
 ·exact u.slot b ob q n hb hx
 ·exact ⟨ob.slots,u.keep b ob q n hb hx⟩
theorem Un.kept (k:∀ b u,h.get? b=some u→h'.get? b=some u):Un fs ex H H h h' :=
 ⟨fun b ob q _ _ _=>k b ob q,fun b ob q _ _ _=>⟨ob.slots,k b ob q⟩,fun _ _ _ n _=>n,fun b ob q _=>⟨ob,k b ob q⟩,fun _ _ q=>q,fun _ _ _ q=>q,fun _ ps q=>⟨#[],by rw [q];simp⟩⟩
theorem Un.refl:Un fs ex H H h h:=Un.kept fun _ _ q=>q
theorem Un.laid (k:∀ b u,h.get? b=some u→h'.get? b=some u) (hp:h.objs.size≤a) (hn:H a=none):Un fs ex H (upd H a o) h h' where
 keep:=fun b u q _ _ _=>k b u q
 slot:=fun b u q _ _ _=>⟨u.slots,k b u q⟩
 free:=fun b u q n _=>by rw [zb5 (Nat.ne_of_lt (Nat.lt_of_lt_of_le (Heap.lt_size q) hp))];exact n
 there:=fun b u q _=>⟨u,k b u q⟩
 tups:=fun b xs q=>by rw [zb5 (zb9 q hn)];exact q
 frzs:=fun b u xs q=>by rw [zb5 (zb9 q hn)];exact q
 tbls:=fun b ps q=>⟨#[],by rw [zb5 (zb9 q hn),q];simp⟩
theorem Un.write (mu:Mut (H x)) (he:e=x∨H e=some (.own x)) (k:∀ b u,b≠e→h.get? b=some u→h'.get? b=some u) (heo:∃ u,h'.get? e=some u):Un fs ex H (upd H x o) h h':=by
 have hx:∀ b,H b=none→b≠x:=fun b n z=>by subst z;rw [n] at mu;exact mu
 have hb:∀ b,H b=none→b≠e:=fun b n z=>by
  subst z
  rcases he with r | r
  ·exact hx b n r
  ·rw [n] at r;cases r
 have hm:∀ b u,H b=some u→¬ Mut (some u)→b≠x:=fun b u q nm z=>by subst z;rw [q] at mu;exact nm mu
 refine ⟨fun b u q n _ _=>k b u (hb b n) q,fun b u q n _ _=>⟨u.slots,k b u (hb b n) q⟩,fun b u q n _=>by rw [zb5 (hx b n)];exact n,fun b u q _=>?_,
  fun b xs q=>by rw [zb5 (hm b _ q fun z=>z)];exact q,fun b u xs q=>by rw [zb5 (hm b _ q fun z=>z)];exact q,fun b ps q=>⟨#[],by rw [zb5 (hm b _ q fun z=>z),q];simp⟩⟩
 by_cases hbe:b=e
 ·subst hbe;exact heo
 ·exact ⟨u,k b u hbe q⟩
end
def trk (h:Heap) (H:Hp):List Addr:=(List.range h.objs.size).filter fun a=>(H a).isSome
def hidT (h:Heap) (H:Hp):Heap:=PySem.W.hideAll h (trk h H)
theorem hidT_size (h:Heap) (H:Hp):(hidT h H).objs.size=h.objs.size:=PySem.W.hideAll_size _ _
theorem hidT_get {h:Heap} {H:Hp} {b:Addr} {o:Obj} (e:h.get? b=some o) (n:H b=none):(hidT h H).get? b=some o :=
 PySem.W.hideAll_get _ e fun hm=>by
  have q:(H b).isSome=true:=(List.mem_filter.mp hm).2
  rw [n] at q;simp at q
theorem of_hidT {h:Heap} {H:Hp} {b:Addr} {o:Obj} (e:(hidT h H).get? b=some o):h.get? b=some o∧H b=none:=by
 have e':h.get? b=some o:=PySem.W.of_hideAll (trk h H) e
 refine ⟨e',?_⟩
 cases q:H b with
 | none=>rfl
 | some x =>
  have hm:b∈trk h H:=List.mem_filter.mpr ⟨List.mem_range.mpr (Heap.lt_size e'),by simp [q]⟩
  have z:(hidT h H).get? b=none:=PySem.W.hideAll_none (trk h H) hm
  rw [z] at e;cases e
end L2
namespace L2
open PySem PySem.Spec PyProof.Rows
structure Mod (K:PySem.W.Frag) (mg:Str→Option Value) (base:Heap):Prop where
 kin:K.In base
 glob:base.Ns mainGlobals mg
 blt:∃ mb,base.Ns builtinsNs mb∧∀ x:Str,x ≠ "__name__" → mb x=bootBuiltins x
 nolimit:base.NoLimit
structure Cx where
 prog:Program
 w:World
 K:PySem.W.Frag
 mg:Str→Option Value
 base:Heap
 A:Around
 N:List Str
 s_0:Shared
 H_0:Hp
 env:Env
 outer:List Env
 stack:List Env
 ex:List Addr
 fn:Str→Bool
 calm:Bool
 pn:List (Addr×Obj)
 xe:Value→Shared→Prop
def frs (l:List Env):List Addr:=l.filterMap (·.frame)
abbrev Cx.fs (X:Cx):List Addr:=frs X.outer
def Vis (sc:Scope) (x:Str):Prop:=sc.names.lookup x=some .local∨sc.names.lookup x=some .cell∨sc.names.lookup x=some .free
def Loc (sc:Scope) (x:Str):Prop:=sc.names.lookup x=some .local∨sc.names.lookup x=some .cell
def Look (env:Env) (h:Heap) (m:Str→Option Value) (x:Str) (u:Value):Prop :=
 (env.kindOf x=some .local∧m x=some u)∨((env.kindOf x=some .cell∨env.kindOf x=some .free)∧∃ c,env.cells.lookup x=some c∧h.IsCell c (some u))
structure Cx.Ok (X:Cx):Prop where
 mod:Mod X.K X.mg X.base
 kind:X.env.scope.kind = .function
 glob:X.env.globals=mainGlobals
 blt:X.env.builtins=builtinsNs
 above:X.s_0.heap.objs.size≤X.env.locals
 inj:∀ x y c,X.env.cells.lookup x=some c→X.env.cells.lookup y=some c→x=y
 has:∀ x,(X.env.kindOf x=some .cell∨X.env.kindOf x=some .free)→∃ c,X.env.cells.lookup x=some c
 cab:∀ x c,X.fn x=true→X.env.cells.lookup x=some c→X.s_0.heap.objs.size≤c
 hd:X.calm=true→X.A.handled=none
 frames:X.A.frames=some X.stack
 stk:X.stack=X.outer∨(X.stack=X.env :: X.outer∧X.env.frame=some X.env.locals)
 exf:∀ b∈X.ex,b≠X.env.locals∧∀ x c,X.env.cells.lookup x=some c→c≠b
 bs:∀ b o,X.base.get? b=some o→X.s_0.heap.get? b=some o∧X.H_0 b=none
 bsz:X.base.objs.size≤X.s_0.heap.objs.size
 noex:∀ b o,X.base.get? b=some o→b ∉ X.ex
 exfs:∀ b∈X.ex,b ∉ X.fs
 funs:X.s_0.heap.FunFrames X.base X.outer
 frf:∀ b∈X.fs,X.H_0 b=none
structure Inv (X:Cx) (pins:List (Addr×Obj)) (σ:List (Option V)) (H:Hp) (s:Shared):Prop where
 ok:X.Ok
 os:s.os=X.s_0.os
 bare:AllBare s.gens
 base:Un X.fs X.ex X.H_0 H X.s_0.heap s.heap
 loc:∃ m,s.heap.Ns X.env.locals m∧∀ (i:Nat) (x:Str) (v:V),X.N[i]?=some x→σ[i]?=some (some v)→Vis X.env.scope x→∃ u,RelV v u∧Look X.env s.heap m x u
 cell:∀ x c,X.env.cells.lookup x=some c→∃ v,s.heap.IsCell c v
 free:H X.env.locals=none
 freeC:∀ x c,X.env.cells.lookup x=some c→H c=none
 pin:∀ p∈X.pn++pins,s.heap.get? p.1=some p.2∧H p.1=none∧p.1≠X.env.locals∧p.1 ∉ X.fs∧∀ v,p.2.data ≠ .cell v
 hok:HOk X.prog X.w H s.heap
 len:σ.length=X.N.length
section
variable {X:Cx} {pins:List (Addr×Obj)} {σ:List (Option V)} {H H':Hp} {s:Shared} {h':Heap}
theorem Cx.Ok.nofr (ok:X.Ok) {b:Addr} {o:Obj} (e:X.base.get? b=some o):b ∉ X.fs:=fun hb=>by
 have:=(ok.funs.mem hb).1
 rw [e] at this;cases this
theorem Inv.bs (I:Inv X pins σ H s):∀ b o,X.base.get? b=some o→s.heap.get? b=some o∧H b=none:=fun b o e =>
 ⟨I.base.keep b o (I.ok.bs b o e).1 (I.ok.bs b o e).2 (I.ok.nofr e) (I.ok.noex b o e),I.base.free b o (I.ok.bs b o e).1 (I.ok.bs b o e).2 (I.ok.noex b o e)⟩
theorem Inv.bk (I:Inv X pins σ H s):∀ b o,X.base.get? b=some o→s.heap.get? b=some o:=fun b o e=>(I.bs b o e).1
theorem Inv.mod (I:Inv X pins σ H s):Mod X.K X.mg X.base:=I.ok.mod
theorem Inv.kIn (I:Inv X pins σ H s):X.K.In s.heap:=I.ok.mod.kin.keeps I.bk
theorem Inv.lt (I:Inv X pins σ H s):X.env.locals < s.heap.objs.size:=let ⟨_,hn,_⟩:=I.loc;hn.lt
theorem Inv.sz (I:Inv X pins σ H s):X.s_0.heap.objs.size≤s.heap.objs.size:=Nat.le_trans I.ok.above (Nat.le_of_lt I.lt)
theorem Inv.nofs (I:Inv X pins σ H s) {a:Addr} (h:s.heap.objs.size≤a):a ∉ X.fs:=fun hb=>by
 obtain ⟨_,o,ho,_⟩:=I.ok.funs.mem hb
 exact absurd (Nat.lt_of_lt_of_le (Heap.lt_size ho) (Nat.le_trans I.sz h)) (Nat.lt_irrefl _)
theorem Inv.cne (I:Inv X pins σ H s):∀ x c,X.env.cells.lookup x=some c→c≠X.env.locals:=fun x c e z=>by
 obtain ⟨v,o,ho,hd⟩:=I.cell x c e
 obtain ⟨m,⟨o',es,ep,ho',hd',_⟩,_⟩:=I.loc
 rw [z,ho'] at ho;cases ho;rw [hd'] at hd;cases hd
theorem Inv.funs (I:Inv X pins σ H s):s.heap.FunFrames X.base X.outer:=by
 have all:∀ (l:List Env),(∀ b∈frs l,b∈X.fs)→X.s_0.heap.FunFrames X.base l→s.heap.FunFrames X.base l:=by
  intro l
  induction l with
  | nil=>intro _ _;trivial
  | cons env r ih =>
   intro hs hl
   obtain ⟨hk,⟨L,o,hf,hn,ho,hd⟩,hr⟩:=hl
   have hL:L∈X.fs:=hs L (by unfold frs;rw [List.filterMap_cons,hf];exact List.mem_cons_self)
   obtain ⟨sl,e⟩:=I.base.slot L o ho (I.ok.frf L hL) hL fun z=>I.ok.exfs L z hL
   exact ⟨hk,⟨L,_,hf,hn,e,hd⟩,ih (fun b hb=>hs b (by unfold frs;rw [List.filterMap_cons,hf];exact List.mem_cons_of_mem _ hb)) hr⟩
 exact all X.outer (fun _ hb=>hb) I.ok.funs
theorem Inv.stack (I:Inv X pins σ H s):s.heap.FunFrames X.base X.stack:=by
 rcases I.ok.stk with e | ⟨e,hf⟩
 ·rw [e];exact I.funs
 ·rw [e]
  obtain ⟨m,hn,_⟩:=I.loc
  refine .cons (by rw [I.ok.kind];decide) hf hn ?_ I.funs
  exact Heap.get?_none_of_le (Nat.le_trans I.ok.bsz I.ok.above)
theorem Inv.stkSub (I:Inv X pins σ H s):∀ b∈frs X.stack,b∈X.env.locals :: X.fs:=fun b hb=>by
 rcases I.ok.stk with e | ⟨e,hf⟩
 ·rw [e] at hb;exact List.mem_cons_of_mem _ hb
 ·rw [e] at hb
  unfold frs at hb
  rw [List.filterMap_cons,hf] at hb
  exact hb
theorem Inv.stkFree (I:Inv X pins σ H s):∀ b∈frs X.stack,H b=none:=fun b hb=>by
 rcases List.mem_cons.mp (I.stkSub b hb) with e | hb
 ·rw [e];exact I.free
 ·obtain ⟨_,o,ho,_⟩:=I.ok.funs.mem hb
  exact I.base.free b o ho (I.ok.frf b hb) fun z=>I.ok.exfs b z hb
theorem Inv.step {g':Array GenState} {t':Nat} {d':Drawn} {ch:List Addr} (I:Inv X pins σ H s)
  (hch:∀ b∈ch,(b∈X.ex∨X.s_0.heap.objs.size≤b)∧b≠X.env.locals∧(∀ x c,X.env.cells.lookup x=some c→c≠b)∧∀ p∈X.pn++pins,p.1≠b)
  (keep:∀ b o,b≠X.env.locals→b ∉ X.fs→b ∉ ch→s.heap.get? b=some o→H b=none→h'.get? b=some o)
  (slot:∀ b o,b≠X.env.locals→b∈X.fs→b ∉ ch→s.heap.get? b=some o→H b=none→∃ sl,h'.get? b=some { o with slots:=sl }) (free:∀ b o,b ∉ ch→s.heap.get? b=some o→H b=none→H' b=none)
  (there:∀ b o,b ∉ ch→s.heap.get? b=some o→∃ o',h'.get? b=some o')
  (tups:∀ b xs,H b=some (.tup xs)→H' b=some (.tup xs)) (frzs:∀ b o u,H b=some (.frz o u)→H' b=some (.frz o u)) (tbls:∀ b ps,H b=some (.tbl ps)→∃ more,H' b=some (.tbl (ps++more)))
  (ns:∀ m,s.heap.Ns X.env.locals m→h'.Ns X.env.locals m) (hok:HOk X.prog X.w H' h') (hg:AllBare g') :
  Inv X pins σ H' { s with heap:=h',gens:=g',drawn:=d',toks:=t' }:=by
 have neL:∀ b o,X.s_0.heap.get? b=some o→b≠X.env.locals:=fun b o e=>Nat.ne_of_lt (Nat.lt_of_lt_of_le (Heap.lt_size e) I.ok.above)
 have neC:∀ b o,X.s_0.heap.get? b=some o→b ∉ X.ex→b ∉ ch:=fun b o e hx hb=>by
  rcases (hch b hb).1 with z | z
  ·exact hx z
  ·exact absurd (Nat.lt_of_lt_of_le (Heap.lt_size e) z) (Nat.lt_irrefl _)
 have cellK:∀ x c,X.env.cells.lookup x=some c→∀ v,s.heap.IsCell c v→h'.IsCell c v:=fun x c e v ⟨o,ho,hd⟩=>by
  have nch:c ∉ ch:=fun z=>(hch c z).2.2.1 x c e rfl
  by_cases hc:c∈X.fs
  ·obtain ⟨sl,q⟩:=slot c o (I.cne x c e) hc nch ho (I.freeC x c e)
   exact ⟨_,q,hd⟩
  ·exact ⟨o,keep c o (I.cne x c e) hc nch ho (I.freeC x c e),hd⟩
 refine ⟨I.ok,I.os,hg,⟨fun b o e n hb hx=>?_,fun b o e n hb hx=>?_,fun b o e n hx=>?_,fun b o e hx=>?_,fun b xs e=>tups b xs (I.base.tups b xs e),fun b o xs e=>frzs b o xs (I.base.frzs b o xs e),fun b ps e=>?_⟩,?_,fun x c e=>?_,?_,fun x c e=>?_,fun p hp=>?_,hok,I.len⟩
 ·exact keep b o (neL b o e) hb (neC b o e hx) (I.base.keep b o e n hb hx) (I.base.free b o e n hx)
 ·obtain ⟨sl,e1⟩:=I.base.slot b o e n hb hx
  obtain ⟨sl',e2⟩:=slot b _ (neL b o e) hb (neC b o e hx) e1 (I.base.free b o e n hx)
  exact ⟨sl',e2⟩
 ·obtain ⟨o',e1⟩:=I.base.there b o e hx
  exact free b o' (neC b o e hx) e1 (I.base.free b o e n hx)
 ·obtain ⟨o',e1⟩:=I.base.there b o e hx
  exact there b o' (neC b o e hx) e1
 ·obtain ⟨m1,e1⟩:=I.base.tbls b ps e
  obtain ⟨m2,e2⟩:=tbls b _ e1
  exact ⟨m1++m2,by rw [e2,Array.append_assoc]⟩
 ·obtain ⟨m,hn,hl⟩:=I.loc
  refine ⟨m,ns m hn,fun i x v e1 e2 e3=>?_⟩
  obtain ⟨u,r,l⟩:=hl i x v e1 e2 e3
  refine ⟨u,r,?_⟩
  rcases l with l | ⟨k,c,e,z⟩
  ·exact .inl l
  ·exact .inr ⟨k,c,e,cellK x c e _ z⟩
 ·obtain ⟨v,z⟩:=I.cell x c e
  exact ⟨v,cellK x c e v z⟩
 ·obtain ⟨m,⟨o,_,_,ho,_⟩,_⟩:=I.loc
  exact free _ o (fun z=>(hch _ z).2.1 rfl) ho I.free
 ·obtain ⟨v,o,ho,hd⟩:=I.cell x c e
  exact free c o (fun z=>(hch c z).2.2.1 x c e rfl) ho (I.freeC x c e)
 ·obtain ⟨e,n,ne,nf,d⟩:=I.pin p hp
  have nch:p.1 ∉ ch:=fun z=>(hch p.1 z).2.2.2 p hp rfl
  exact ⟨keep p.1 p.2 ne nf nch e n,free p.1 p.2 nch e n,ne,nf,d⟩
theorem Inv.un {t':Nat} (I:Inv X pins σ H s) (u:Un X.fs [] H H' s.heap h') (hok:HOk X.prog X.w H' h'):Inv X pins σ H' { s with heap:=h',toks:=t' }:=by
 obtain ⟨m,⟨o,es,ep,ho,r⟩,_⟩:=id I.loc
 obtain ⟨sl,hL⟩:=u.any ho I.free (by simp)
 exact I.step (g':=s.gens) (d':=s.drawn) (ch:=[]) (fun _ z=>nomatch z) (fun b o _ hb _ e n=>u.keep b o e n hb (by simp)) (fun b o _ hb _ e n=>u.slot b o e n hb (by simp)) (fun b o _ e n=>u.free b o e n (by simp)) (fun b o _ e=>u.there b o e (by simp)) u.tups u.frzs u.tbls (fun m' hm=>by
  obtain ⟨o',es',ep',ho',r'⟩:=hm
  rw [ho] at ho';cases ho'
  exact ⟨_,es',ep',hL,r'⟩) hok I.bare
theorem Inv.call {g':Array GenState} {t':Nat} {d':Drawn} {ch:List Addr} (I:Inv X pins σ H s) (u:Un (frs X.stack) ch H H' s.heap h') (hok:HOk X.prog X.w H' h') (hg:AllBare g')
  (hch:∀ b∈ch,(b∈X.ex∨X.s_0.heap.objs.size≤b)∧b≠X.env.locals∧(∀ x c,X.env.cells.lookup x=some c→c≠b)∧∀ p∈X.pn++pins,p.1≠b) :
  Inv X pins σ H' { s with heap:=h',gens:=g',drawn:=d',toks:=t' }:=by
 obtain ⟨m,⟨o,es,ep,ho,r⟩,_⟩:=id I.loc
 obtain ⟨sl,hL⟩:=u.any ho I.free fun z=>(hch _ z).2.1 rfl
 exact I.step (ch:=ch) hch (fun b o hL hb hc e n=>u.keep b o e n (fun z=>(List.mem_cons.mp (I.stkSub b z)).elim hL hb) hc) (fun b o _ _ hc e n=>u.any e n hc) (fun b o hc e n=>u.free b o e n hc) (fun b o hc e=>u.there b o e hc) u.tups u.frzs u.tbls (fun m' hm=>by
  obtain ⟨o',es',ep',ho',r'⟩:=hm
  rw [ho] at ho';cases ho'
  exact ⟨_,es',ep',hL,r'⟩) hok hg
theorem Inv.turned {t':Nat} {it:Addr} (I:Inv X pins σ H s) (k:∀ b o,b≠it→s.heap.get? b=some o→h'.get? b=some o) (hn:H it=none) (hL:it≠X.env.locals)
  (h1:it∈X.ex∨X.s_0.heap.objs.size≤it) (h2:∀ x c,X.env.cells.lookup x=some c→c≠it) (h3:∀ p∈X.pn++pins,p.1≠it):Inv X pins σ H { s with heap:=h',toks:=t' }:=by
 have nit:∀ b u,H b=some u→b≠it:=fun b u e z=>by rw [z,hn] at e;cases e
 refine I.step (g':=s.gens) (d':=s.drawn) (ch:=[it]) (fun b hb=>?_) (fun b o _ _ hc e _=>k b o (fun z=>hc (by simp [z])) e) (fun b o _ _ hc e _=>⟨o.slots,k b o (fun z=>hc (by simp [z])) e⟩) (fun _ _ _ _ n=>n)
  (fun b o hc e=>⟨o,k b o (fun z=>hc (by simp [z])) e⟩) (fun _ _ e=>e) (fun _ _ _ e=>e) (fun b ps e=>⟨#[],by rw [e];simp⟩) (fun m hm=>?_) (fun b u e=>?_) I.bare
 ·have e:b=it:=by simpa using hb
  subst e
  exact ⟨h1,hL,h2,h3⟩
 ·obtain ⟨o,es,ep,ho,r⟩:=hm
  exact ⟨o,es,ep,k _ o (Ne.symm hL) ho,r⟩
 ·refine (I.hok b u e).stay (fun c v hc q=>k c v ?_ q) (fun _ q=>q) fun _ _ q=>q
  rcases hc with z | z
  ·rw [z];exact nit b u e
  ·exact nit c _ z
theorem Inv.tok (I:Inv X pins σ H s) (t:Nat):Inv X pins σ H { s with toks:=t }:=I.un (h':=s.heap) (t':=t) Un.refl I.hok
theorem Inv.kept {t':Nat} (I:Inv X pins σ H s) (k:∀ b u,s.heap.get? b=some u→h'.get? b=some u):Inv X pins σ H { s with heap:=h',toks:=t' }:=I.un (Un.kept k) (I.hok.kept k)
theorem Inv.laid {a:Addr} {o:HO} {t':Nat} (I:Inv X pins σ H s) (k:∀ b u,s.heap.get? b=some u→h'.get? b=some u) (hp:s.heap.objs.size≤a) (new:ObjOk X.prog X.w (upd H a o) h' a o) :
  Inv X pins σ (upd H a o) { s with heap:=h',toks:=t' }:=I.un (Un.laid k hp (I.hok.fresh hp)) (I.hok.laid k hp new)
theorem Inv.write {x e:Addr} {o:HO} {t':Nat} (I:Inv X pins σ H s) (mu:Mut (H x)) (he:e=x∨H e=some (.own x)) (k:∀ b u,b≠e→s.heap.get? b=some u→h'.get? b=some u) (heo:∃ u,h'.get? e=some u)
  (new:ObjOk X.prog X.w (upd H x o) h' x o):Inv X pins σ (upd H x o) { s with heap:=h',toks:=t' }:=I.un (Un.write mu he k heo) (I.hok.write mu he k heo new)
theorem Inv.weak {σ':List (Option V)} (I:Inv X pins σ H s) (hl:σ'.length=σ.length) (w:∀ (i:Nat) v,σ'[i]?=some (some v)→σ[i]?=some (some v)):Inv X pins σ' H s :=
 ⟨I.ok,I.os,I.bare,I.base,let ⟨m,hn,hl'⟩:=I.loc;⟨m,hn,fun i x v e1 e2 e3=>hl' i x v e1 (w i v e2) e3⟩,I.cell,I.free,I.freeC,I.pin,I.hok,hl.trans I.len⟩
theorem Inv.pins_of {pins':List (Addr×Obj)} (I:Inv X pins σ H s) (h:∀ p∈pins',s.heap.get? p.1=some p.2∧H p.1=none∧p.1≠X.env.locals∧p.1 ∉ X.fs∧∀ v,p.2.data ≠ .cell v):Inv X pins' σ H s :=
 ⟨I.ok,I.os,I.bare,I.base,I.loc,I.cell,I.free,I.freeC,fun p hp=>(List.mem_append.mp hp).elim (fun z=>I.pin p (List.mem_append_left _ z)) (h p),I.hok,I.len⟩
theorem xc8 {N:List Str} (hN:N.Nodup) {i j:Nat} {x:Str} (a:N[i]?=some x) (b:N[j]?=some x):i=j:=by
 obtain ⟨h1,e1⟩:=List.getElem?_eq_some_iff.mp a
 obtain ⟨h2,e2⟩:=List.getElem?_eq_some_iff.mp b
 exact (List.getElem_inj hN).mp (e1.trans e2.symm)
theorem store_ok2 {M:Model} {A:Around} {E:Value→Shared→Prop} {i:Nat} {x:Str} {v:V} {u:Value} {Q:Unit→Shared→Prop} (I:Inv X pins σ H s) (hN:X.N.Nodup) (hi:X.N[i]?=some x) (hx:Loc X.env.scope x) (r:RelV v u)
  (h:∀ s',Inv X pins (σ.set i (some v)) H s'→(∃ a,Heap.SameBut a s.heap s'.heap∧(a=X.env.locals∨X.env.cells.lookup x=some a))→Q () s') (hf:X.fn x=true∨X.env.scope.names.lookup x=some .local:=by first | exact .inl rfl | exact .inr rfl | assumption):wpAny M A (storeName X.env x u) Q E s:=by
 obtain ⟨m,hn,hl⟩:=id I.loc
 have hcls:(X.env.scope.kind == .class || (X.env.scope.kind == .module && X.env.locals != X.env.globals))=false:=by rw [I.ok.kind];rfl
 have hiσ:i < σ.length:=by rw [I.len];exact (List.getElem?_eq_some_iff.mp hi).1
 have cne:=I.cne
 have tracked:∀ {a:Addr} {h':Heap},(∃ o,s.heap.get? a=some o∧H a=none)→Heap.SameBut a s.heap h'→HOk X.prog X.w H h':=fun {a h'} ha hs b ob e=>by
  obtain ⟨_,_,hfree⟩:=ha
  refine (I.hok b ob e).stay (fun c w' hc q=>(hs.2 c ?_).trans q) (fun _ q=>q) fun _ _ q=>q
  rintro rfl
  rcases hc with rfl | hc
  ·rw [hfree] at e;cases e
  ·rw [hfree] at hc;cases hc
 rcases hx with hk | hk
 ·refine wpAny_storeName_local hk hn (fun h' hn' hs=>?_) hcls
  obtain ⟨oL,_,_,hoL,_⟩:=id hn
  refine h _ ⟨I.ok,I.os,I.bare,⟨fun b o e n hb hx=>?_,fun b o e n hb hx=>?_,I.base.free,fun b o e hx=>?_,I.base.tups,I.base.frzs,I.base.tbls⟩,⟨_,hn',fun j y v' e1 e2 e3=>?_⟩,fun y c e=>?_,I.free,I.freeC,fun p hp=>?_,tracked ⟨oL,hoL,I.free⟩ hs,by simpa using I.len⟩ ⟨_,hs,.inl rfl⟩
  ·exact (hs.2 b (Nat.ne_of_lt (Nat.lt_of_lt_of_le (Heap.lt_size e) I.ok.above))).trans (I.base.keep b o e n hb hx)
  ·obtain ⟨sl,e1⟩:=I.base.slot b o e n hb hx
   exact ⟨sl,(hs.2 b (Nat.ne_of_lt (Nat.lt_of_lt_of_le (Heap.lt_size e) I.ok.above))).trans e1⟩
  ·obtain ⟨o',e1⟩:=I.base.there b o e hx
   exact ⟨o',(hs.2 b (Nat.ne_of_lt (Nat.lt_of_lt_of_le (Heap.lt_size e) I.ok.above))).trans e1⟩
  ·by_cases hj:j=i
   ·subst hj
    rw [hi] at e1;cases e1
    rw [List.getElem?_set_self hiσ] at e2
    cases e2
    exact ⟨u,r,.inl ⟨hk,by simp⟩⟩
   ·rw [List.getElem?_set_ne (Ne.symm hj)] at e2
    obtain ⟨u',r',q⟩:=hl j y v' e1 e2 e3
    refine ⟨u',r',?_⟩
    rcases q with ⟨k,e⟩ | ⟨k,c,e,z⟩
    ·refine .inl ⟨k,?_⟩
     have:y≠x:=fun e=>hj (xc8 hN e1 (e▸hi))
     simp [this,e]
    ·exact .inr ⟨k,c,e,z.sameBut hs (cne y c e)⟩
  ·obtain ⟨w',z⟩:=I.cell y c e
   exact ⟨w',z.sameBut hs (cne y c e)⟩
  ·obtain ⟨e,n,ne,nf,d⟩:=I.pin p hp
   exact ⟨(hs.2 p.1 ne).trans e,n,ne,nf,d⟩
 ·have hfn:X.fn x=true:=by
   rcases hf with z | z
   ·exact z
   ·rw [z] at hk;cases hk
  obtain ⟨c,hc⟩:=I.ok.has x (.inl hk)
  obtain ⟨w',z⟩:=I.cell x c hc
  refine wpAny_storeName_cell I.ok.kind hk hc z (fun h' hc' hs=>?_)
  obtain ⟨oc,hoc,hocd⟩:=id z
  refine h { s with heap:=h' } ⟨I.ok,I.os,I.bare,⟨fun b o e n hb hx=>?_,fun b o e n hb hx=>?_,I.base.free,fun b o e hx=>?_,I.base.tups,I.base.frzs,I.base.tbls⟩,⟨m,hn.sameBut hs (Ne.symm (cne x c hc)),fun j y v' e1 e2 e3=>?_⟩,fun y c' e=>?_,I.free,I.freeC,fun p hp=>?_,tracked ⟨oc,hoc,I.freeC x c hc⟩ hs,by simpa using I.len⟩ ⟨c,hs,.inr hc⟩
  ·exact (hs.2 b (Nat.ne_of_lt (Nat.lt_of_lt_of_le (Heap.lt_size e) (I.ok.cab x c hfn hc)))).trans (I.base.keep b o e n hb hx)
  ·obtain ⟨sl,e1⟩:=I.base.slot b o e n hb hx
   exact ⟨sl,(hs.2 b (Nat.ne_of_lt (Nat.lt_of_lt_of_le (Heap.lt_size e) (I.ok.cab x c hfn hc)))).trans e1⟩
  ·obtain ⟨o',e1⟩:=I.base.there b o e hx
   exact ⟨o',(hs.2 b (Nat.ne_of_lt (Nat.lt_of_lt_of_le (Heap.lt_size e) (I.ok.cab x c hfn hc)))).trans e1⟩
  ·by_cases hj:j=i
   ·subst hj
    rw [hi] at e1;cases e1
    rw [List.getElem?_set_self hiσ] at e2
    cases e2
    exact ⟨u,r,.inr ⟨.inl hk,c,hc,hc'⟩⟩
   ·rw [List.getElem?_set_ne (Ne.symm hj)] at e2
    obtain ⟨u',r',q⟩:=hl j y v' e1 e2 e3
    refine ⟨u',r',?_⟩
    rcases q with q | ⟨k,c',e,z'⟩
    ·exact .inl q
    ·refine .inr ⟨k,c',e,z'.sameBut hs ?_⟩
     rintro rfl
     exact hj (xc8 hN e1 (I.ok.inj _ _ _ e hc▸hi))
  ·by_cases hcc:c'=c
   ·subst hcc;exact ⟨_,hc'⟩
   ·obtain ⟨w2,z2⟩:=I.cell y c' e
    exact ⟨w2,z2.sameBut hs hcc⟩
  ·obtain ⟨e,n,ne,nf,d⟩:=I.pin p hp
   refine ⟨(hs.2 p.1 ?_).trans e,n,ne,nf,d⟩
   intro q
   rw [q,hoc] at e
   have q':oc=p.2:=Option.some.inj e
   exact d w' (by rw [← q'];exact hocd)
theorem xa4 {M:Model} {A:Around} {E:Value→Shared→Prop} {i:Nat} {x:Str} {v:V} {u:Value} {Q:Unit→Shared→Prop} (I:Inv X pins σ H s) (hN:X.N.Nodup) (hi:X.N[i]?=some x) (hx:Loc X.env.scope x) (r:RelV v u)
  (h:∀ s',Inv X pins (σ.set i (some v)) H s'→Q () s') (hf:X.fn x=true∨X.env.scope.names.lookup x=some .local:=by first | exact .inl rfl | exact .inr rfl | assumption):wpAny M A (storeName X.env x u) Q E s :=
 store_ok2 I hN hi hx r (fun s' I' _=>h s' I') hf
theorem Inv.call' {s':Shared} {ch:List Addr} (I:Inv X pins σ H s) (ho:s'.os=s.os) (u:Un (frs X.stack) ch H H' s.heap s'.heap) (hok:HOk X.prog X.w H' s'.heap) (hg:AllBare s'.gens)
  (hch:∀ b∈ch,(b∈X.ex∨X.s_0.heap.objs.size≤b)∧b≠X.env.locals∧(∀ x c,X.env.cells.lookup x=some c→c≠b)∧∀ p∈X.pn++pins,p.1≠b):Inv X pins σ H' s':=by
 obtain ⟨h',g',d',t',o'⟩:=s'
 have e:o'=s.os:=ho
 subst e
 exact I.call (g':=g') (t':=t') (d':=d') u hok hg hch
end
abbrev XK:=Value→Option Addr→Hp→Prop
abbrev St:=List (Option V)
abbrev VK:=V→Hp→Prop
abbrev TE:=St→Hp→VK→Prop
abbrev TT:=St→Hp→(Bool→Hp→Prop)→Prop
abbrev TA:=St→Hp→(List V→Hp→Prop)→Prop
structure Ends where
 nx:St→Hp→Prop
 rt:VK
 bk:St→Hp→Prop:=fun _ _=>False
 ct:St→Hp→Prop:=fun _ _=>False
abbrev TS:=Ends→St→Hp→Prop
def EP (X:Cx) (pins:List (Addr×Obj)) (σ:St) (Q:VK) (u:Value) (s':Shared):Prop:=∃ v H',Inv X pins σ H' s'∧RelV v u∧Q v H'
def TP (X:Cx) (pins:List (Addr×Obj)) (σ:St) (Q:Bool→Hp→Prop) (b:Bool) (s':Shared):Prop:=∃ H',Inv X pins σ H' s'∧Q b H'
def AP (X:Cx) (pins:List (Addr×Obj)) (σ:St) (Q:List V→Hp→Prop) (us:List Value) (s':Shared):Prop:=∃ vs H',Inv X pins σ H' s'∧Vals vs us∧Q vs H'
def SP (X:Cx) (pins:List (Addr×Obj)) (D:Ends) (f:Flow) (s':Shared):Prop :=
 match f with
 | .next=>∃ σ' H',Inv X pins σ' H' s'∧D.nx σ' H'
 | .brk=>∃ σ' H',Inv X pins σ' H' s'∧D.bk σ' H'
 | .cont=>∃ σ' H',Inv X pins σ' H' s'∧D.ct σ' H'
 | .ret u=>∃ v σ' H',Inv X pins σ' H' s'∧RelV v u∧D.rt v H'
def PE (X:Cx) (e:Expr) (t:TE):Prop :=
 ∀ (pins:List (Addr×Obj)) (s:Shared) (σ:St) (H:Hp) (Q:VK),Inv X pins σ H s→t σ H Q→wpAny (model X.prog X.w) X.A (eval e X.env) (EP X pins σ Q) X.xe s
def PT (X:Cx) (e:Expr) (t:TT):Prop :=
 ∀ (pins:List (Addr×Obj)) (s:Shared) (σ:St) (H:Hp) (Q:Bool→Hp→Prop),Inv X pins σ H s→t σ H Q→wpAny (model X.prog X.w) X.A (isTrue e X.env (eval e X.env)) (TP X pins σ Q) X.xe s
def PW (X:Cx) (e:Expr) (t:TT):Prop :=
 ∀ (whole:Sem Value) (pins:List (Addr×Obj)) (s:Shared) (σ:St) (H:Hp) (Q:Bool→Hp→Prop),Inv X pins σ H s→t σ H Q→wpAny (model X.prog X.w) X.A (isTrue e X.env whole) (TP X pins σ Q) X.xe s
theorem PW.pt {X:Cx} {e:Expr} {t:TT} (h:PW X e t):PT X e t:=h _
def PA (X:Cx) (es:List Expr) (t:TA):Prop :=
 ∀ (pos:Pos) (pins:List (Addr×Obj)) (s:Shared) (σ:St) (H:Hp) (Q:List V→Hp→Prop),Inv X pins σ H s→t σ H Q→wpAny (model X.prog X.w) X.A (spliced (backTo pos (starEach es X.env))) (AP X pins σ Q) X.xe s
def PS (X:Cx) (st:Stmt) (t:TS):Prop :=
 ∀ (pins:List (Addr×Obj)) (s:Shared) (σ:St) (H:Hp) (D:Ends),Inv X pins σ H s→t D σ H→wpAny (model X.prog X.w) X.A (exec st X.env) (SP X pins D) X.xe s
def PSs (X:Cx) (st:List Stmt) (t:TS):Prop :=
 ∀ (pins:List (Addr×Obj)) (s:Shared) (σ:St) (H:Hp) (D:Ends),Inv X pins σ H s→t D σ H→wpAny (model X.prog X.w) X.A (execs st X.env) (SP X pins D) X.xe s
theorem thn {α:Type} {t:Sem α} {Q Q':α→Shared→Prop} {M:Model} {A:Around} {E:Value→Shared→Prop} {s:Shared} (h:wpAny M A t Q E s) (hQ:∀ a s,Q a s→Q' a s):wpAny M A t Q' E s:=wpAny_mono h hQ fun _ _ x=>x
end L2
namespace L2
open PySem PySem.Spec PyProof.Rows
section
variable {X:Cx}
def tVar (i:Nat):TE:=fun σ H Q=>∃ v,σ[i]?=some (some v)∧Q v H
def tC (v:V):TE:=fun _ H Q=>Q v H
theorem pe_var {i:Nat} {x:Str} {pos:Pos} (hN:X.N[i]?=some x) (hv:Vis X.env.scope x) (hd:(x == ("__debug__" : Str))=false:=by decide) (hcd:(x == ("__classdict__" : Str))=false:=by decide):PE X (.Name x pos) (tVar i):=by
 intro pins s σ H Q I h
 obtain ⟨v,e,h⟩:=h
 obtain ⟨m,hn,hl⟩:=I.loc
 obtain ⟨u,r,l⟩:=hl i x v hN e hv
 have fin:EP X pins σ Q u s:=⟨v,H,I,r,h⟩
 rcases l with ⟨hk,hm⟩ | ⟨hk,c,hc,hcell⟩
 ·exact wpAny_Name (wpAny_loadName_local I.ok.kind hk hn hm fin) hd
 ·rcases hk with hk | hk
  ·exact wpAny_Name (wpAny_loadName_cell I.ok.kind hk hc hcell fin) hd
  ·exact wpAny_Name (wpAny_loadName_free I.ok.kind hk hc hcell fin hcd) hd
theorem za9 {i j pos}:PE X (.Constant (.int i) j pos) (tC (.int i)):=fun _ _ _ H _ I h=>wpAny_Constant_int ⟨.int i,H,I.tok _,⟨_,rfl⟩,h⟩
theorem pe_bl {b j pos}:PE X (.Constant (.bool b) j pos) (tC (.bl b)):=fun _ _ _ H _ I h=>Constant_bool ⟨.bl b,H,I,rfl,h⟩
theorem zg0 {j pos}:PE X (.Constant .none j pos) (tC .non):=fun _ _ _ H _ I h=>Constant_none ⟨.non,H,I,rfl,h⟩
theorem ya4 {x j pos}:PE X (.Constant (.str x) j pos) (tC (.str x)):=fun _ _ _ H _ I h=>Calls.Constant_str ⟨.str x,H,I.tok _,⟨_,rfl⟩,h⟩
def Gl (X:Cx) (x:Str):Prop:=X.env.kindOf x=some .globalImplicit
theorem xd7 {E:Value→Shared→Prop} {pins:List (Addr×Obj)} {s:Shared} {σ:St} {H:Hp} {x:Str} {u:Value} {pos:Pos} {Q:Value→Shared→Prop} (I:Inv X pins σ H s) (hg:Gl X x) (hm:X.mg x=some u) (h:Q u s)
  (hd:(x == ("__debug__" : Str))=false:=by decide):wpAny (model X.prog X.w) X.A (eval (.Name x pos) X.env) Q E s :=
 Calls.Name_function_global I.ok.kind hg (Calls.loadGlobal_global (by rw [I.ok.glob];exact I.mod.glob.keeps I.bk) hm h) hd
theorem yo6 {E:Value→Shared→Prop} {pins:List (Addr×Obj)} {s:Shared} {σ:St} {H:Hp} {x:Str} {u:Value} {pos:Pos} {Q:Value→Shared→Prop} (I:Inv X pins σ H s) (hg:Gl X x) (hm:X.mg x=none) (hv:bootBuiltins x=some u) (h:Q u s)
  (hn:x ≠ "__name__" := by decide) (hd:(x == ("__debug__" : Str))=false:=by decide):wpAny (model X.prog X.w) X.A (eval (.Name x pos) X.env) Q E s:=by
 obtain ⟨mb,h1,h2⟩:=I.mod.blt
 exact Calls.Name_function_global I.ok.kind hg (Calls.loadGlobal_builtin (by rw [I.ok.glob];exact I.mod.glob.keeps I.bk) hm (by rw [I.ok.blt];exact h1.keeps I.bk) ((h2 x hn).trans hv) h) hd
theorem pe_glob {x:Str} {v:V} {u:Value} {pos:Pos} (hg:Gl X x) (hm:X.mg x=some u) (r:RelV v u) (hd:(x == ("__debug__" : Str))=false:=by decide):PE X (.Name x pos) (tC v) :=
 fun _ _ _ H _ I h=>xd7 I hg hm ⟨v,H,I,r,h⟩ hd
variable {a b:Expr} {ta tb:TE} {pos:Pos}
def PC (X:Cx) (op:CmpOp) (a b:Expr) (t:TE):Prop :=
 ∀ (pins:List (Addr×Obj)) (s:Shared) (σ:St) (H:Hp) (Q:VK),Inv X pins σ H s→t σ H Q →
  wpAny (model X.prog X.w) X.A (eval a X.env) (fun v s₁=>wpAny (model X.prog X.w) X.A (eval b X.env) (fun u s₂=>wpAny (model X.prog X.w) X.A (compareOp op v u) (EP X pins σ Q) X.xe s₂) X.xe s₁) X.xe s
def tB (t:TE):TT:=fun σ H Q=>t σ H fun x H1=>∃ c,x = .bl c∧Q c H1
theorem pt_cmp {op:CmpOp} {t:TE} (h:PC X op a b t) (h1:behindInMarks op b=false:=by first | exact nobehind _ (by decide) (by decide) | rfl):PT X (.Compare a [op] [b] pos) (tB t):=by
 intro pins s σ H Q I hw
 refine wpAny_isTrue_Compare1 (thn (h pins s σ H _ I hw) fun v s1 h1=>thn h1 fun u s2 h2=>thn h2 fun c s3 ⟨x,H1,I1,r1,q1⟩=>?_) h1
 obtain ⟨d,rfl,q⟩:=q1
 cases r1
 exact wpAny_truthy_bool ⟨H1,I1,q⟩
theorem pt_val {e:Expr} {t:TE} (h:PE X e t) (he:∀ whole,isTrue e X.env whole=(do let v ← whole;standAt e.pos;holding [v] (truthy v)):=by intro _;rfl):PT X e (tB t):=by
 intro pins s σ H Q I hw
 refine isTrue_plain (thn (h pins s σ H _ I hw) fun v s1 ⟨x,H1,I1,r1,q1⟩=>?_) (he _)
 obtain ⟨d,rfl,q⟩:=q1
 cases r1
 exact wpAny_truthy_bool ⟨H1,I1,q⟩
variable {tA tB':TT} {rest:List Expr}
def tAnd (t u:TT):TT:=fun σ H Q=>t σ H fun c H1=>if c=true then u σ H1 Q else Q false H1
def tOr (t u:TT):TT:=fun σ H Q=>t σ H fun c H1=>if c=true then Q true H1 else u σ H1 Q
def tNot (t:TT):TT:=fun σ H Q=>t σ H fun c H1=>Q (!c) H1
theorem pw_and1 (ha:PT X a tA):PW X (.BoolOp .And [a] pos) tA:=by
 intro wh pins s σ H Q I h
 refine isTrue_and (thn (ha pins s σ H Q I h) fun c s1 e=>?_)
 cases c with
 | true=>exact isTrue_and_nil e
 | false=>exact e
theorem pw_or1 (ha:PT X a tA):PW X (.BoolOp .Or [a] pos) tA:=by
 intro wh pins s σ H Q I h
 refine isTrue_or (thn (ha pins s σ H Q I h) fun c s1 e=>?_)
 cases c with
 | false=>exact isTrue_or_nil e
 | true=>exact e
theorem pw_and (ha:PT X a tA) (hb:PW X (.BoolOp .And (b :: rest) pos) tB'):PW X (.BoolOp .And (a :: b :: rest) pos) (tAnd tA tB'):=by
 intro wh pins s σ H Q I h
 refine isTrue_and (thn (ha pins s σ H _ I h) fun c s1 ⟨H1,I1,q1⟩=>?_)
 cases c with
 | true=>exact hb wh pins s1 σ H1 Q I1 q1
 | false=>exact ⟨H1,I1,q1⟩
theorem pw_or (ha:PT X a tA) (hb:PW X (.BoolOp .Or (b :: rest) pos) tB'):PW X (.BoolOp .Or (a :: b :: rest) pos) (tOr tA tB'):=by
 intro wh pins s σ H Q I h
 refine isTrue_or (thn (ha pins s σ H _ I h) fun c s1 ⟨H1,I1,q1⟩=>?_)
 cases c with
 | true=>exact ⟨H1,I1,q1⟩
 | false=>exact hb wh pins s1 σ H1 Q I1 q1
theorem zr4 (ha:PT X a tA):PT X (.UnaryOp .Not a pos) (tNot tA):=by
 intro pins s σ H Q I h
 exact isTrue_not (ha pins s σ H (fun c H1=>Q (!c) H1) I h)
def tAndV (ta tb:TE):TE:=fun σ H Q=>ta σ H fun x H1=>∃ c,x = .bl c∧if c=true then tb σ H1 Q else Q (.bl false) H1
def tOrV (ta tb:TE):TE:=fun σ H Q=>ta σ H fun x H1=>∃ c,x = .bl c∧if c=true then Q (.bl true) H1 else tb σ H1 Q
def tNotV (ta:TE):TE:=fun σ H Q=>ta σ H fun x H1=>∃ c,x = .bl c∧Q (.bl (!c)) H1
theorem pe_one {op} {t:TE} (h:PE X a t):PE X (.BoolOp op [a] pos) t:=fun pins s σ H Q I hw=>BoolOp_one (h pins s σ H Q I hw)
theorem pe_and (ha:PE X a ta) (hb:PE X (.BoolOp .And (b :: rest) pos) tb):PE X (.BoolOp .And (a :: b :: rest) pos) (tAndV ta tb):=by
 intro pins s σ H Q I h
 refine BoolOp_and (thn (ha pins s σ H _ I h) fun v s1 ⟨x,H1,I1,r1,q1⟩=>?_)
 obtain ⟨c,rfl,q1⟩:=q1
 cases r1
 refine wpAny_truthy_bool ?_
 cases c with
 | true=>exact hb pins s1 σ H1 Q I1 q1
 | false=>exact ⟨.bl false,H1,I1,rfl,q1⟩
theorem pe_or (ha:PE X a ta) (hb:PE X (.BoolOp .Or (b :: rest) pos) tb):PE X (.BoolOp .Or (a :: b :: rest) pos) (tOrV ta tb):=by
 intro pins s σ H Q I h
 refine BoolOp_or (thn (ha pins s σ H _ I h) fun v s1 ⟨x,H1,I1,r1,q1⟩=>?_)
 obtain ⟨c,rfl,q1⟩:=q1
 cases r1
 refine wpAny_truthy_bool ?_
 cases c with
 | false=>exact hb pins s1 σ H1 Q I1 q1
 | true=>exact ⟨.bl true,H1,I1,rfl,q1⟩
theorem pe_not (ha:PE X a ta):PE X (.UnaryOp .Not a pos) (tNotV ta):=by
 intro pins s σ H Q I h
 refine UnaryOp_ (thn (ha pins s σ H _ I h) fun v s1 ⟨x,H1,I1,r1,q1⟩=>?_)
 obtain ⟨c,rfl,q1⟩:=q1
 cases r1
 exact not_of (wpAny_truthy_bool ⟨.bl (!c),H1,I1,rfl,q1⟩)
def tIf (t:TT) (ta tb:TE):TE:=fun σ H Q=>t σ H fun c H1=>if c=true then ta σ H1 Q else tb σ H1 Q
theorem pe_ifExp {c:Expr} (hc:PT X c tA) (ha:PE X a ta) (hb:PE X b tb):PE X (.IfExp c a b pos) (tIf tA ta tb):=by
 intro pins s σ H Q I h
 refine wpAny_IfExp (thn (hc pins s σ H _ I h) fun d s1 ⟨H1,I1,q1⟩=>?_)
 cases d with
 | true=>exact ha pins s1 σ H1 Q I1 q1
 | false=>exact hb pins s1 σ H1 Q I1 q1
end
end L2
namespace L2
open PySem PySem.Spec PyProof.Rows
def SqL (K:PySem.W.Frag) (H:Hp) (a:Addr) (xs:List V):Prop :=
 Rd H a (.lst xs) ∨
  ∃ (o:Obj) (its:Array Value) (n:Nat),K.lookup a=some o∧o.cls = .type "list" ∧ o.dict=none∧o.data = .seq its n∧its.size≤sizeLine∧Vals xs its.toList
def SqT (K:PySem.W.Frag) (H:Hp) (a:Addr) (xs:List V):Prop :=
 Rd H a (.tup xs) ∨
  ∃ (o:Obj) (its:Array Value) (n:Nat),K.lookup a=some o∧o.cls = .type "tuple" ∧ o.data = .seq its n∧its.size≤sizeLine∧Vals xs its.toList
def absV:Value→Option V
 | .none=>some .non
 | .bool b=>some (.bl b)
 | .int i _=>some (.int i)
 | .str x _=>some (.str x)
 | .bytes b _=>some (.byt b)
 | .float b _=>some (.flt b)
 | .ref a=>some (.ref a)
 | .type n=>some (.ty n)
 | _=>none
theorem RelV.abs {x:V} {u:Value} (r:RelV x u):absV u=some x:=by
 cases x with
 | non=>cases r;rfl
 | bl _=>cases r;rfl
 | int _=>obtain ⟨t,rfl⟩:=r;rfl
 | str _=>obtain ⟨t,rfl⟩:=r;rfl
 | byt _=>obtain ⟨t,rfl⟩:=r;rfl
 | flt _=>obtain ⟨t,rfl⟩:=r;rfl
 | ref _=>cases r;rfl
 | ty _=>cases r;rfl
theorem RelV.inj {x y:V} {u:Value} (r:RelV x u) (q:RelV y u):x=y:=Option.some.inj (r.abs.symm.trans q.abs)
theorem Vals.inj:∀ {xs ys:List V} {us:List Value},Vals xs us→Vals ys us→xs=ys
 | _,_,_,.nil,.nil=>rfl
 | _,_,_,.cons r t,.cons r' t'=>by rw [r.inj r',Vals.inj t t']
section
variable {X:Cx} {pins:List (Addr×Obj)} {σ:St} {H:Hp} {s:Shared} {a:Addr} {xs ys:List V}
theorem SqL.of {K:PySem.W.Frag} (h:H a=some (.lst xs)):SqL K H a xs := .inl (.inl h)
theorem SqT.of {K:PySem.W.Frag} (h:H a=some (.tup xs)):SqT K H a xs := .inl (.inl h)
theorem Inv.list (I:Inv X pins σ H s) (h:SqL X.K H a xs):∃ its:List Value,Vals xs its∧PlainL s.heap a its.toArray∧xs.length≤sizeLine:=by
 rcases h with h | ⟨o,its,n,hk,hc,hd,hs,hz,r⟩
 ·obtain ⟨z,its,n,r,e⟩:=h.ok I.hok
  exact ⟨its,r,⟨_,n,e,rfl,rfl,rfl⟩,z⟩
 ·refine ⟨its.toList,r,⟨o,n,I.kIn a o hk,hc,hd,by simpa using hs⟩,?_⟩
  have e:=r.length
  simp only [Array.length_toList] at e
  omega
theorem Inv.tuple (I:Inv X pins σ H s) (h:SqT X.K H a xs):∃ its:List Value,Vals xs its∧IsTup s.heap a its.toArray∧xs.length≤sizeLine:=by
 rcases h with h | ⟨o,its,n,hk,hc,hs,hz,r⟩
 ·obtain ⟨z,its,r,p⟩:=h.ok I.hok
  exact ⟨its,r,p,z⟩
 ·refine ⟨its.toList,r,⟨o,I.kIn a o hk,hc,n,by simpa using hs⟩,?_⟩
  have e:=r.length
  simp only [Array.length_toList] at e
  omega
theorem Inv.list_inj (I:Inv X pins σ H s) (h:SqL X.K H a xs) (h':SqL X.K H a ys):xs=ys:=by
 obtain ⟨its,r,⟨o,n,e,_,_,d⟩,_⟩:=I.list h
 obtain ⟨its',r',⟨o',n',e',_,_,d'⟩,_⟩:=I.list h'
 rw [e] at e';cases e'
 rw [d] at d'
 injection d' with d1 _
 have:its=its':=by simpa using congrArg Array.toList d1
 subst this
 exact r.inj r'
theorem Inv.tuple_inj (I:Inv X pins σ H s) (h:SqT X.K H a xs) (h':SqT X.K H a ys):xs=ys:=by
 obtain ⟨its,r,⟨o,e,_,n,d⟩,_⟩:=I.tuple h
 obtain ⟨its',r',⟨o',e',_,n',d'⟩,_⟩:=I.tuple h'
 rw [e] at e';cases e'
 rw [d] at d'
 injection d' with d1 _
 have:its=its':=by simpa using congrArg Array.toList d1
 subst this
 exact r.inj r'
end
abbrev Cx.wish (X:Cx) (E:Value→Shared→Prop):Cx:={ X with xe:=E }
abbrev Cx.nox (X:Cx):Cx:=X.wish fun _ _=>False
theorem Cx.Ok.wish {X:Cx} (ok:X.Ok) (E:Value→Shared→Prop):(X.wish E).Ok :=
 ⟨ok.mod,ok.kind,ok.glob,ok.blt,ok.above,ok.inj,ok.has,ok.cab,ok.hd,ok.frames,ok.stk,ok.exf,ok.bs,ok.bsz,ok.noex,ok.exfs,ok.funs,ok.frf⟩
theorem Cx.Ok.unwish {X:Cx} {E:Value→Shared→Prop} (ok:(X.wish E).Ok):X.Ok :=
 ⟨ok.mod,ok.kind,ok.glob,ok.blt,ok.above,ok.inj,ok.has,ok.cab,ok.hd,ok.frames,ok.stk,ok.exf,ok.bs,ok.bsz,ok.noex,ok.exfs,ok.funs,ok.frf⟩
section
variable {X:Cx} {pins:List (Addr×Obj)} {σ:St} {H:Hp} {s:Shared} {E:Value→Shared→Prop}
theorem Inv.wish (I:Inv X pins σ H s) (E:Value→Shared→Prop):Inv (X.wish E) pins σ H s:=⟨I.ok.wish E,I.os,I.bare,I.base,I.loc,I.cell,I.free,I.freeC,I.pin,I.hok,I.len⟩
theorem Inv.unwish (I:Inv (X.wish E) pins σ H s):Inv X pins σ H s:=⟨I.ok.unwish,I.os,I.bare,I.base,I.loc,I.cell,I.free,I.freeC,I.pin,I.hok,I.len⟩
theorem SP.unwish {D:Ends} {f:Flow} {s':Shared} (h:SP (X.wish E) pins D f s'):SP X pins D f s':=by
 cases f with
 | next=>obtain ⟨σ',H',I,q⟩:=h;exact ⟨σ',H',I.unwish,q⟩
 | brk=>obtain ⟨σ',H',I,q⟩:=h;exact ⟨σ',H',I.unwish,q⟩
 | cont=>obtain ⟨σ',H',I,q⟩:=h;exact ⟨σ',H',I.unwish,q⟩
 | ret u=>obtain ⟨v,σ',H',I,r,q⟩:=h;exact ⟨v,σ',H',I.unwish,r,q⟩
theorem PSs.nox {st:List Stmt} {t:TS} (h:PSs X.nox st t):PSs X st t:=fun pins s σ H D I hw =>
 wpAny_mono (h pins s σ H D (I.wish _) hw) (fun _ _ q=>q.unwish) fun _ _ z=>False.elim z
end
section
variable {X:Cx} {st:Stmt} {rest:List Stmt} {t u:TS} {e:Expr} {te:TE} {pos:Pos}
def tNext:TS:=fun D σ H=>D.nx σ H
def tSeq (t u:TS):TS:=fun D σ H=>t { D with nx:=u D } σ H
theorem zb1:PSs X [] tNext:=fun _ _ σ H _ I h=>wpAny_execs_nil ⟨σ,H,I,h⟩
theorem za1 (h1:PS X st t) (h2:PSs X rest u):PSs X (st :: rest) (tSeq t u):=by
 intro pins s σ H D I h
 refine wpAny_execs_cons (thn (h1 pins s σ H { D with nx:=u D } I h) fun f s1 q=>?_)
 cases f with
 | next =>
  obtain ⟨σ',H',I',q⟩:=q
  exact h2 pins s1 σ' H' D I' q
 | ret v=>exact q
 | brk=>exact q
 | cont=>exact q
theorem za4 (h1:PS X st t):PSs X [st] t:=by
 intro pins s σ H D I h
 refine wpAny_execs_cons (thn (h1 pins s σ H D I h) fun f s1 q=>?_)
 cases f with
 | next=>exact wpAny_execs_nil q
 | ret v=>exact q
 | brk=>exact q
 | cont=>exact q
theorem Inv.quiet {pins:List (Addr×Obj)} {σ:St} {H:Hp} {s:Shared} (I:Inv X pins σ H s):interactive X.env=false:=by simp [interactive,I.ok.kind]
def tDrop (te:TE):TS:=fun D σ H=>te σ H fun _ H1=>D.nx σ H1
theorem zl7 (he:PE X e te) (hs:swapsWith e none pos.line X.env=pure false:=by rfl):PS X (.Expr e pos) (tDrop te):=by
 intro pins s σ H D I h
 exact wpAny_Expr_any (thn (he pins s σ H _ I h) fun v s1 ⟨x,H1,I1,r1,q1⟩=>⟨σ,H1,I1,q1⟩) I.quiet hs
def tRet (te:TE):TS:=fun D σ H=>te σ H D.rt
theorem za6 (he:PE X e te):PS X (.Return (some e) pos) (tRet te):=by
 intro pins s σ H D I h
 exact wpAny_Return_some (thn (he pins s σ H _ I h) fun v s1 ⟨x,H1,I1,r1,q1⟩=>⟨x,σ,H1,I1,r1,q1⟩)
def tIfS (c:TT) (t u:TS):TS:=fun D σ H=>c σ H fun b H1=>if b=true then t D σ H1 else u D σ H1
theorem ps_if {c:Expr} {a b:List Stmt} {tc:TT} (hc:PT X c tc) (ha:PSs X a t) (hb:PSs X b u):PS X (.If c a b pos) (tIfS tc t u):=by
 intro pins s σ H D I h
 refine wpAny_If (thn (hc pins s σ H _ I h) fun d s1 ⟨H1,I1,q1⟩=>?_)
 cases d with
 | true=>exact ha pins s1 σ H1 D I1 q1
 | false=>exact hb pins s1 σ H1 D I1 q1
end
abbrev TG:=V→St→Hp→(St→Hp→Prop)→Prop
abbrev TGs:=List V→St→Hp→(St→Hp→Prop)→Prop
def PG (X:Cx) (target:Expr) (t:TG):Prop :=
 ∀ (pins:List (Addr×Obj)) (s:Shared) (σ:St) (H:Hp) (v:V) (u:Value) (Q:St→Hp→Prop),Inv X pins σ H s→RelV v u→t v σ H Q →
  wpAny (model X.prog X.w) X.A (assign target X.env u) (fun _ s'=>∃ σ' H',Inv X pins σ' H' s'∧Q σ' H') X.xe s
def PGs (X:Cx) (ts:List Expr) (t:TGs):Prop :=
 ∀ (pins:List (Addr×Obj)) (s:Shared) (σ:St) (H:Hp) (vs:List V) (us:List Value) (Q:St→Hp→Prop),Inv X pins σ H s→Vals vs us→t vs σ H Q →
  wpAny (model X.prog X.w) X.A (assignInOrder ((assignEach ts X.env).map (·.2)) us) (fun _ s'=>∃ σ' H',Inv X pins σ' H' s'∧Q σ' H') X.xe s
abbrev TSet:=V→V→V→Hp→(Hp→Prop)→Prop
def PSet (X:Cx) (t:TSet):Prop :=
 ∀ (pins:List (Addr×Obj)) (s:Shared) (σ:St) (H:Hp) (o i v:V) (ov iv u:Value) (Q:Hp→Prop),Inv X pins σ H s→RelV o ov→RelV i iv→RelV v u→t o i v H Q →
  wpAny (model X.prog X.w) X.A (setItem ov iv u) (fun _ s'=>∃ H',Inv X pins σ H' s'∧Q H') X.xe s
abbrev TIp:=V→V→Hp→VK→Prop
def PIp (X:Cx) (op:Operator) (t:TIp):Prop :=
 ∀ (pins:List (Addr×Obj)) (s:Shared) (σ:St) (H:Hp) (x y:V) (v u:Value) (Q:VK),Inv X pins σ H s→RelV x v→RelV y u→t x y H Q →
  wpAny (model X.prog X.w) X.A (inplaceOp op v u) (EP X pins σ Q) X.xe s
section
variable {X:Cx} {pos:Pos}
def gName (i:Nat):TG:=fun v σ H Q=>Q (σ.set i (some v)) H
theorem zc3 {i:Nat} {x:Str} (hN:X.N.Nodup) (hi:X.N[i]?=some x) (hx:Loc X.env.scope x) (hf:X.fn x=true∨X.env.scope.names.lookup x=some .local:=by first | exact .inl rfl | exact .inr rfl | assumption):PG X (.Name x pos) (gName i):=by
 intro pins s σ H v u Q I r h
 exact wpAny_assign_Name (xa4 I hN hi hx r (fun s' I'=>⟨_,H,I',h⟩) hf)
def gNil:TGs:=fun vs σ H Q=>vs=[]∧Q σ H
def gCons (t:TG) (u:TGs):TGs:=fun vs σ H Q=>∃ v r,vs=v :: r∧t v σ H fun σ' H'=>u r σ' H' Q
theorem zz0:PGs X [] gNil:=by
 intro pins s σ H vs us Q I r h
 obtain ⟨e,h⟩:=h
 subst e
 cases r
 exact assignInOrder_nil ⟨σ,H,I,h⟩
theorem ze8 {e:Expr} {es:List Expr} {t:TG} {u:TGs} (h1:PG X e t) (h2:PGs X es u)
  (hs:(assignEach (e :: es) X.env).map (·.2)=assign e X.env :: (assignEach es X.env).map (·.2):=by rfl):PGs X (e :: es) (gCons t u):=by
 intro pins s σ H vs us Q I r h
 obtain ⟨v,vr,e1,h⟩:=h
 subst e1
 cases r with
 | cons r rr =>
  rw [hs]
  refine assignInOrder_cons (thn (h1 pins s σ H _ _ _ I r h) fun _ s1 ⟨σ1,H1,I1,q1⟩=>?_)
  exact h2 pins s1 σ1 H1 _ _ Q I1 rr q1
def gTup (K:PySem.W.Frag) (n:Nat) (t:TGs):TG:=fun v σ H Q=>∃ a xs,v = .ref a∧SqT K H a xs∧xs.length=n∧t xs σ H Q
theorem yt3 {es:List Expr} {k:Nat} {t:TGs} {n:Nat} (hc:X.calm=true) (h:PGs X es t)
  (hn:(assignEach es X.env).length=n:=by rfl) (hst:(assignEach es X.env).findIdx? (·.1)=none:=by rfl):PG X (.Tuple es k pos) (gTup X.K n t):=by
 intro pins s σ H v u Q I r hw
 obtain ⟨a,xs,e1,hq,hl,hw⟩:=hw
 subst e1
 cases r
 obtain ⟨its,rv,ht,hz⟩:=I.tuple hq
 refine assign_Tuple_tuple (I.ok.hd hc) ht (by simp [hn,← hl,rv.length]) hst fun h' hx=>?_
 have I1:Inv X pins σ H { s with heap:=h' }:=I.kept (t':=s.toks) fun b o e=>hx b o (Nat.ne_of_lt (Heap.lt_size e)) e
 exact h pins _ σ H xs _ Q I1 (by simpa using rv) hw
def gSub (to ti:TE) (t:TSet):TG:=fun v σ H Q=>to σ H fun o H1=>ti σ H1 fun i H2=>t o i v H2 fun H3=>Q σ H3
theorem pg_sub {o i:Expr} {to ti:TE} {t:TSet} (ho:PE X o to) (hi:PE X i ti) (hs:PSet X t)
  (ha:∀ v,assign (.Subscript o i pos) X.env v=(do
   let ov ← holding [v] (eval o X.env)
   let iv ← holding [v,ov] (eval i X.env)
   standAt pos
   holding [v,ov,iv] (setItem ov iv v)
   release [v,ov,iv] []):=by intro _;rfl):PG X (.Subscript o i pos) (gSub to ti t):=by
 intro pins s σ H v u Q I r h
 rw [ha]
 refine wpAny_bind (wpAny_holding (thn (ho pins s σ H _ I h) fun ov s1 ⟨x,H1,I1,r1,q1⟩=>?_))
 refine wpAny_bind (wpAny_holding (thn (hi pins s1 σ H1 _ I1 q1) fun iv s2 ⟨y,H2,I2,r2,q2⟩=>?_))
 refine wpAny_bind (wpAny_standAt (wpAny_bind (wpAny_holding (thn (hs pins s2 σ H2 x y v ov iv u _ I2 r1 r2 r q2) fun _ s3 ⟨H3,I3,q3⟩=>?_))))
 exact wpAny_release ⟨σ,H3,I3,q3⟩
def tAsg (te:TE) (g:TG):TS:=fun D σ H=>te σ H fun x H1=>g x σ H1 D.nx
theorem ps_asg {tg e:Expr} {te:TE} {g:TG} (he:PE X e te) (hg:PG X tg g) (hs:swapsWithSole [tg] e pos.line X.env=pure false:=by rfl) (hw:swappedStores [tg] e X.env=pure none:=by rfl)
  (h1:(assignEach [tg] X.env).map (·.2)=[assign tg X.env]:=by rfl):PS X (.Assign [tg] e pos) (tAsg te g):=by
 intro pins s σ H D I h
 refine wpAny_Assign_stores (thn (he pins s σ H _ I h) fun v s1 ⟨x,H1,I1,r1,q1⟩=>?_) hs hw
 rw [h1]
 exact thn (hg pins s1 σ H1 x v _ I1 r1 q1) fun _ s2 q=>q
theorem zb8 {i:Nat} {x:Str} {e:Expr} {te:TE} {pos':Pos} (hN:X.N.Nodup) (hi:X.N[i]?=some x) (hx:Loc X.env.scope x) (he:PE X e te) (hs:swapsWith e (some (.Name x pos')) pos.line X.env=pure false:=by rfl) (hf:X.fn x=true∨X.env.scope.names.lookup x=some .local:=by first | exact .inl rfl | exact .inr rfl | assumption) :
  PS X (.Assign [.Name x pos'] e pos) (tAsg te (gName i)):=by
 intro pins s σ H D I h
 refine wpAny_Assign_Name (thn (he pins s σ H _ I h) fun v s1 ⟨y,H1,I1,r1,q1⟩=>?_) hs
 exact xa4 I1 hN hi hx r1 (fun s2 I2=>⟨_,H1,I2,q1⟩) hf
def tAug (i:Nat) (te:TE) (ti:TIp):TS:=fun D σ H=>∃ x,σ[i]?=some (some x)∧te σ H fun y H1=>ti x y H1 fun z H2=>D.nx (σ.set i (some z)) H2
theorem ps_aug {i:Nat} {x:Str} {e:Expr} {te:TE} {op:Operator} {ti:TIp} {pos':Pos} (hN:X.N.Nodup) (hi:X.N[i]?=some x) (hx:Loc X.env.scope x) (he:PE X e te) (ho:PIp X op ti) (hf:X.fn x=true∨X.env.scope.names.lookup x=some .local:=by first | exact .inl rfl | exact .inr rfl | assumption) :
  PS X (.AugAssign (.Name x pos') op e pos) (tAug i te ti):=by
 intro pins s σ H D I h
 obtain ⟨v,e1,h⟩:=h
 obtain ⟨m,hn,hl⟩:=I.loc
 have vis:Vis X.env.scope x:=by rcases hx with k | k;exact .inl k;exact .inr (.inl k)
 obtain ⟨u,r,l⟩:=hl i x v hi e1 vis
 refine wpAny_AugAssign_Name ?_
 have go:wpAny (model X.prog X.w) X.A (eval e X.env) (fun w s₂=>wpAny (model X.prog X.w) X.A (inplaceOp op u w) (fun r s₃=>wpAny (model X.prog X.w) X.A (storeName X.env x r) (fun _=>SP X pins D .next) X.xe s₃) X.xe s₂) X.xe s:=by
  refine thn (he pins s σ H _ I h) fun w s1 ⟨y,H1,I1,r1,q1⟩=>?_
  refine thn (ho pins s1 σ H1 v y u w _ I1 r r1 q1) fun z s2 ⟨zv,H2,I2,r2,q2⟩=>?_
  exact xa4 I2 hN hi hx r2 (fun s3 I3=>⟨_,H2,I3,q2⟩) hf
 rcases l with ⟨hk,hm⟩ | ⟨hk,c,hc,hcell⟩
 ·exact wpAny_loadName_local I.ok.kind hk hn hm go
 ·rcases hk with hk | hk
  ·exact wpAny_loadName_cell I.ok.kind hk hc hcell go
  ·rcases hx with k | k
   ·have:X.env.scope.names.lookup x=some .free:=hk
    rw [k] at this;cases this
   ·have:X.env.scope.names.lookup x=some .free:=hk
    rw [k] at this;cases this
def ipI (f:Int→Int→Int):TIp:=fun x y H Q=>∃ i j,x = .int i∧y = .int j∧Q (.int (f i j)) H
theorem ip_add:PIp X .Add (ipI fun i j=>i + j):=by
 intro pins s σ H x y v u Q I r1 r2 h
 obtain ⟨i,j,e1,e2,q⟩:=h
 subst e1;subst e2
 obtain ⟨t,rfl⟩:=r1
 obtain ⟨t',rfl⟩:=r2
 exact iadd_int ⟨.int _,H,I.tok _,⟨_,rfl⟩,q⟩
end
section
variable {X:Cx} {pos:Pos}
def tWhile (c:TT) (tb:TS):TS:=fun D σ H=>∃ W:Nat→St→Hp→Prop,(∃ m,W m σ H)∧∀ m σ H,W m σ H →
 c σ H fun b H1=>if b=true then ∃ N:St→Hp→Prop,(∀ σ' H',N σ' H'→∃ m',m' < m∧W m' σ' H')∧tb { D with nx:=N,ct:=N,bk:=D.nx } σ H1 else D.nx σ H1
theorem yq3 {c:Expr} {body:List Stmt} {tc:TT} {tb:TS} (hp:PassesOwn (model X.prog X.w) X.A X.env X.xe) (hc:PT X c tc) (hb:PSs X body tb):PS X (.While c body [] pos) (tWhile tc tb):=by
 intro pins s σ H D I h
 obtain ⟨W,⟨m0,w0⟩,turn⟩:=h
 refine wpAny_While (codeAny_whileLoop (fun n s'=>∃ σ' H',Inv X pins σ' H' s'∧W n σ' H') ?_ m0 ⟨σ,H,I,w0⟩)
 rintro n s1 ⟨σ1,H1,I1,w1⟩
 refine wpAny_passesOwn hp (thn (hc pins s1 σ1 H1 _ I1 (turn n σ1 H1 w1)) fun b s2 ⟨H2,I2,q2⟩=>?_)
 cases b with
 | true =>
  obtain ⟨N,hN,q2⟩:=q2
  rw [if_pos rfl]
  refine wpAny_passesOwn hp (thn (hb pins s2 σ1 H2 _ I2 q2) fun f s3 q3=>?_)
  cases f with
  | next =>
   obtain ⟨σ3,H3,I3,n3⟩:=q3
   obtain ⟨m',hm,w3⟩:=hN σ3 H3 n3
   exact ⟨m',hm,σ3,H3,I3,w3⟩
  | cont =>
   obtain ⟨σ3,H3,I3,n3⟩:=q3
   obtain ⟨m',hm,w3⟩:=hN σ3 H3 n3
   exact ⟨m',hm,σ3,H3,I3,w3⟩
  | brk=>exact q3
  | ret v=>exact q3
 | false =>
  rw [if_neg Bool.false_ne_true]
  exact wpAny_execs_nil ⟨σ1,H2,I2,q2⟩
end
structure It where
 go:Nat→Hp→Prop
 yld:Nat→Hp→V→Hp→Prop
 stop:Nat→Hp→Prop
def FpOk (X:Cx) (pins:List (Addr×Obj)) (H:Hp) (b:Addr):Prop :=
 H b=none∧b≠X.env.locals∧b ∉ X.fs∧(b∈X.ex∨X.s_0.heap.objs.size≤b)∧(∀ x c,X.env.cells.lookup x=some c→c≠b)∧∀ p∈X.pn++pins,p.1≠b
theorem Inv.fpOk {X:Cx} {pins:List (Addr×Obj)} {σ:St} {H H':Hp} {s:Shared} {b:Addr} (I:Inv X pins σ H s) (hb:s.heap.objs.size≤b) (hn:H' b=none):FpOk X pins H' b:=by
 refine ⟨hn,Nat.ne_of_gt (Nat.lt_of_lt_of_le I.lt hb),I.nofs hb,.inr (Nat.le_trans I.sz hb),fun x c e z=>?_,fun p hp z=>?_⟩
 ·obtain ⟨v,q⟩:=I.cell x c e
  exact absurd (Nat.lt_of_lt_of_le q.lt (by rw [z];exact hb)) (Nat.lt_irrefl _)
 ·exact absurd (Nat.lt_of_lt_of_le (Heap.lt_size (I.pin p hp).1) (by rw [z];exact hb)) (Nat.lt_irrefl _)
structure Turn (P:Program) (w:World) (K:PySem.W.Frag) (tg:Expr) (J:It) (fp:List Addr) (it:Addr) (tn:Nat→Heap→Prop):Prop where
 mem:it∈fp
 obj:∀ i h,tn i h→∀ b∈fp,∃ o,h.get? b=some o∧∀ v,o.data ≠ .cell v
 keep:∀ i h h',tn i h→(∀ b∈fp,∀ o,h.get? b=some o→h'.get? b=some o)→tn i h'
 item:∀ (X:Cx),X.prog=P→X.w=w→X.K=K→X.calm=true→∀ (i:Nat) (pins:List (Addr×Obj)) (s:Shared) (σ:St) (H:Hp) (E:Value→Shared→Prop),Inv X pins σ H s→(∀ b∈fp,FpOk X pins H b)→tn i s.heap→J.go i H →
  wpAny (model P w) X.A (pyNext (.ref it)) (fun r s1=>∃ u,r=some u ∧
   wpAny (model P w) X.A (letOwnedTupleGo tg (.ref it) u) (fun _ s2=>∃ x H',Inv X pins σ H' s2∧RelV x u∧J.yld i H x H'∧tn (i + 1) s2.heap∧∀ b∈fp,H' b=none) E s1) E s
 done:∀ (X:Cx),X.prog=P→X.w=w→X.K=K→X.calm=true→∀ (i:Nat) (pins:List (Addr×Obj)) (s:Shared) (σ:St) (H:Hp) (E:Value→Shared→Prop),Inv X pins σ H s→(∀ b∈fp,FpOk X pins H b)→tn i s.heap→J.stop i H →
  wpAny (model P w) X.A (pyNext (.ref it)) (fun r s1=>r=none∧Inv X pins σ H s1) E s
 self:∀ (A:Around) (i:Nat) (s:Shared) (Q:Value→Shared→Prop) (E:Value→Shared→Prop),tn i s.heap→Q (.ref it) s→wpAny (model P w) A (pyIter (.ref it)) Q E s
abbrev TI:=St→Hp→(It→Hp→Prop)→Prop
def PIE (X:Cx) (pins:List (Addr×Obj)) (σ:St) (tg:Expr) (R:It→Hp→Prop) (itv:Value) (s2:Shared):Prop :=
 ∃ (it:Addr) (fp:List Addr) (tn:Nat→Heap→Prop) (J:It) (H':Hp),itv = .ref it∧Inv X pins σ H' s2∧Turn X.prog X.w X.K tg J fp it tn∧tn 0 s2.heap∧(∀ b∈fp,FpOk X pins H' b)∧R J H'
def PI (X:Cx) (tg iter:Expr) (wi:TI):Prop :=
 ∀ (pins:List (Addr×Obj)) (s:Shared) (σ:St) (H:Hp) (R:It→Hp→Prop),Inv X pins σ H s→wi σ H R →
  wpAny (model X.prog X.w) X.A (eval iter X.env) (fun v s1=>wpAny (model X.prog X.w) X.A (pyIter v) (PIE X pins σ tg R) X.xe s1) X.xe s
theorem go_of {M:Model} {A:Around} {E:Value→Shared→Prop} {s:Shared} {tg:Expr} {it:Addr} {u:Value} {o:Obj} {n:String} {vs:Array Value} {Q:Unit→Shared→Prop} (ho:s.heap.get? it=some o) (hc:o.cls = .type n) (hd:o.data = .fields vs)
  (hn:["enumerate", "zip", "dict_itemiterator", "dict_reverseitemiterator", "odict_iterator", "itertools.zip_longest", "itertools.pairwise"].contains n=false) (hQ:Q () s):wpAny M A (letOwnedTupleGo tg (.ref it) u) Q E s:=by
 unfold letOwnedTupleGo
 cases tg <;> first
  | exact wpAny_pure hQ
  | (cases u <;> first
    | exact wpAny_pure hQ
    | (refine wpAny_bind (wpAny_load ho ?_)
       rw [hc,hd]
       show wpAny M A (if (["enumerate", "zip", "dict_itemiterator", "dict_reverseitemiterator", "odict_iterator", "itertools.zip_longest", "itertools.pairwise"].contains n && vs[0]? == some (rawInt _))=true then _ else _) Q E s
       rw [if_neg (by intro h;rw [hn,Bool.false_and] at h;cases h)]
       exact wpAny_pure hQ))
def Itl (K:PySem.W.Frag) (a:Addr):It :=
 ⟨fun i H=>∃ xs x,SqL K H a xs∧xs[i]?=some x,fun i H x H'=>H'=H∧∀ xs,SqL K H a xs→xs[i]?=some x,fun i H=>∃ xs,SqL K H a xs∧xs.length≤i⟩
def Itr (lo:Int) (n:Nat):It:=⟨fun i _=>i < n,fun i H x H'=>H'=H∧x = .int (lo + i),fun i _=>n≤i⟩
theorem turn_list {P:Program} {w:World} {K:PySem.W.Frag} {tg:Expr} (a it:Addr):Turn P w K tg (Itl K a) [it] it (fun i h=>h.IsListIter it a i) where
 mem:=by simp
 obj:=fun i h st b hb=>by
  have e:b=it:=by simpa using hb
  subst e
  obtain ⟨o,e,c,d⟩:=st
  exact ⟨o,e,fun v z=>by rw [d] at z;cases z⟩
 keep:=fun i h h' st k=>st.at fun o e=>k it (by simp) o e
 item:=by
  intro X hP hw hK hc i pins s σ H E I hf st hg
  subst hP hw hK
  obtain ⟨xs,x,hq,hx⟩:=hg
  obtain ⟨its,rv,p,hz⟩:=I.list hq
  obtain ⟨u,hu,ru⟩:=rv.get hx
  obtain ⟨f0,f1,f2,f3,f4,f5⟩:=hf it (by simp)
  refine wpAny_pyNext_list_item st p.isList (x:=u) (by simpa using hu) fun h' st' sb=>?_
  have I1:Inv X pins σ H { s with heap:=h' }:=I.turned (t':=s.toks) (fun b o hb e=>(sb.2 b hb).trans e) f0 f1 f3 f4 f5
  obtain ⟨o,e,c,d⟩:=id st'
  exact ⟨u,rfl,go_of (s:={ s with heap:=h' }) e c d (by decide) ⟨x,H,I1,ru,⟨rfl,fun ys hy=>by rw [I.list_inj hy hq];exact hx⟩,st',fun b hb=>(hf b hb).1⟩⟩
 done:=by
  intro X hP hw hK hc i pins s σ H E I hf st hg
  subst hP hw hK
  obtain ⟨xs,hq,hx⟩:=hg
  obtain ⟨its,rv,p,hz⟩:=I.list hq
  obtain ⟨f0,f1,f2,f3,f4,f5⟩:=hf it (by simp)
  have hl:=rv.length
  exact wpAny_pyNext_list_end (I.ok.hd hc) st p.isList (by simp;omega) fun h' eb=>⟨rfl,I.turned (t':=s.toks) (fun b o hb e=>eb b o hb e) f0 f1 f3 f4 f5⟩
 self:=fun _ _ _ _ _ st h=>wpAny_pyIter_listiter st h
theorem turn_range {P:Program} {w:World} {K:PySem.W.Frag} {tg:Expr} (it:Addr) (lo:Int) (n:Nat):Turn P w K tg (Itr lo n) [it] it (fun i h=>IsRangeIter h it (lo + (i:Nat) * 1) ((n:Int) - (i:Nat)) 1) where
 mem:=by simp
 obj:=fun i h st b hb=>by
  have e:b=it:=by simpa using hb
  subst e
  exact ⟨_,st,fun v z=>by
   have z':Data.fields _=Data.cell v:=z
   cases z'⟩
 keep:=fun i h h' st k=>k it (by simp) _ st
 item:=by
  intro X hP hw hK hc i pins s σ H E I hf st hg
  subst hP hw hK
  obtain ⟨f0,f1,f2,f3,f4,f5⟩:=hf it (by simp)
  have W:=Walks.range (prog:=X.prog) (w:=X.w) (I.ok.hd hc) it lo 1 n
  refine W.item i s _ _ hg st fun v h' tk hv st' kk=>?_
  obtain ⟨t,rfl⟩:=hv
  have I1:Inv X pins σ H { s with heap:=h',toks:=tk }:=I.turned (fun b o hb e=>kk b o (by simpa using hb) e) f0 f1 f3 f4 f5
  refine ⟨_,rfl,go_of (s:={ s with heap:=h',toks:=tk }) (n := "range_iterator") st' rfl rfl (by decide) ⟨.int (lo + i),H,I1,⟨t,?_⟩,⟨rfl,rfl⟩,st',fun b hb=>(hf b hb).1⟩⟩
  rw [Int.mul_one]
 done:=by
  intro X hP hw hK hc i pins s σ H E I hf st hg
  subst hP hw hK
  obtain ⟨f0,f1,f2,f3,f4,f5⟩:=hf it (by simp)
  exact wpAny_pyNext_range_end (I.ok.hd hc) st (by have:n≤i:=hg;omega) fun h' eb=>⟨rfl,I.turned (t':=s.toks) (fun b o hb e=>eb b o hb e) f0 f1 f3 f4 f5⟩
 self:=fun _ _ _ _ _ st h=>wpAny_pyIter_rangeiter st h
end L2
namespace L2
open PySem PySem.Spec PyProof.Rows
section
variable {X:Cx} {tg:Expr}
def iList (K:PySem.W.Frag) (tl:TE):TI:=fun σ H R=>tl σ H fun x H1=>∃ a,x = .ref a∧(∃ xs,SqL K H1 a xs)∧R (Itl K a) H1
theorem zj0 {l:Expr} {tl:TE} (hl:PE X l tl):PI X tg l (iList X.K tl):=by
 intro pins s σ H R I h
 refine thn (hl pins s σ H _ I h) fun v s1 ⟨x,H1,I1,r1,q1⟩=>?_
 obtain ⟨a,e,⟨xs,hq⟩,q⟩:=q1
 subst e
 cases r1
 obtain ⟨its,rv,p,hz⟩:=I1.list hq
 refine wpAny_pyIter_list p.isList ?_
 refine ⟨s1.heap.objs.size,[s1.heap.objs.size],_,_,H1,rfl,I1.kept (t':=s1.toks) fun b o e=>Heap.get?_push_of_some _ e,turn_list a _,⟨_,Heap.get?_push_size _ rfl,rfl,rfl⟩,fun b hb=>?_,q⟩
 have e:b=s1.heap.objs.size:=by simpa using hb
 subst e
 exact I1.fpOk (Nat.le_refl _) (I1.hok.fresh (Nat.le_refl _))
theorem range_it {pins:List (Addr×Obj)} {σ:St} {H:Hp} {s:Shared} {R:It→Hp→Prop} {E:Value→Shared→Prop} {lo hi:Int} {t u v:Tok} {tk:Nat} (I:Inv X pins σ H s) (h1 : -(2 ^ 62)≤lo) (h2:lo < 2 ^ 62) (h3 : -(2 ^ 62)≤hi) (h4:hi < 2 ^ 62)
  (q:R (Itr lo (hi - lo).toNat) H):wpAny (model X.prog X.w) X.A (pyIter (.ref s.heap.objs.size)) (PIE X pins σ tg R) E { s with heap:=s.heap.push { cls := .type "range",data := .fields #[.int lo t,.int hi u,.int 1 v] },toks:=tk }:=by
 refine wpAny_pyIter_range (IsRange.new ..) (small_one h1 h2 h3 h4) ?_
 have I1:Inv X pins σ H { s with heap:=s.heap.push { cls := .type "range",data := .fields #[.int lo t,.int hi u,.int 1 v] },toks:=tk }:=I.kept fun b o e=>Heap.get?_push_of_some _ e
 refine ⟨(s.heap.push { cls := .type "range",data := .fields #[.int lo t,.int hi u,.int 1 v] }).objs.size,[(s.heap.push { cls := .type "range",data := .fields #[.int lo t,.int hi u,.int 1 v] }).objs.size],_,_,H,rfl,
  I1.kept (t':=tk) fun b o e=>Heap.get?_push_of_some _ e,turn_range _ lo (hi - lo).toNat,?_,fun b hb=>?_,q⟩
 ·have e1:lo + ((0:Nat):Int) * 1=lo:=by simp
  have e2:(((hi - lo).toNat:Nat):Int) - ((0:Nat):Int)=Builtin.Range.rangeSize lo hi 1:=by rw [rangeSize_one];split <;> omega
  show IsRangeIter _ _ (lo + ((0:Nat):Int) * 1) ((((hi - lo).toNat:Nat):Int) - ((0:Nat):Int)) 1
  rw [e1,e2]
  exact Heap.get?_push_size _ rfl
 ·have e:b=(s.heap.push { cls := .type "range",data := .fields #[.int lo t,.int hi u,.int 1 v] }).objs.size:=by simpa using hb
  subst e
  exact I1.fpOk (Nat.le_refl _) (I1.hok.fresh (Nat.le_refl _))
def iRng1 (ta:TA):TI:=fun σ H R=>ta σ H fun vs H1=>∃ j:Int,vs=[.int j] ∧ -(2 ^ 62)≤j∧j < 2 ^ 62∧R (Itr 0 j.toNat) H1
def iRng2 (ta:TA):TI:=fun σ H R=>ta σ H fun vs H1=>∃ i j:Int,vs=[.int i,.int j]∧(-(2 ^ 62)≤i∧i < 2 ^ 62 ∧ -(2 ^ 62)≤j∧j < 2 ^ 62)∧R (Itr i (j - i).toNat) H1
theorem zl8 {a:Expr} {ta:TA} {p pos:Pos} (hg:Gl X "range") (hm:X.mg "range" = none) (ha:PA X [a] ta) (hs:starEach [a] X.env=[(false,eval a X.env)]:=by rfl):PI X tg (.Call (.Name "range" p) [a] [] pos) (iRng1 ta):=by
 intro pins s σ H R I h
 refine Call_ (yo6 I hg hm boot_range (PyProof.Rows.callWith_type1 (thn (ha pos pins s σ H _ I h) fun us s1 ⟨vs,H1,I1,r1,q1⟩=>?_) hs rfl))
 obtain ⟨j,e,q1,q2,q⟩:=q1
 subst e
 cases r1 with
 | cons r rr =>
  cases rr
  obtain ⟨t,rfl⟩:=r
  exact call_range_1 (range_it I1 (by omega) (by omega) q1 q2 (by simpa using q))
theorem pi_range2 {a b:Expr} {ta:TA} {p pos:Pos} (hg:Gl X "range") (hm:X.mg "range" = none) (ha:PA X [a,b] ta) (hs:starEach [a,b] X.env=[(false,eval a X.env),(false,eval b X.env)]:=by rfl) (hs2:starEach [b] X.env=[(false,eval b X.env)]:=by rfl) :
  PI X tg (.Call (.Name "range" p) [a,b] [] pos) (iRng2 ta):=by
 intro pins s σ H R I h
 refine Call_ (yo6 I hg hm boot_range (PyProof.Rows.callWith_type1 (thn (ha pos pins s σ H _ I h) fun us s1 ⟨vs,H1,I1,r1,q1⟩=>?_) (by rw [hs,hs2]) (by rw [hs2];rfl)))
 obtain ⟨i,j,e,⟨q1,q2,q3,q4⟩,q⟩:=q1
 subst e
 cases r1 with
 | cons r rr =>
  cases rr with
  | cons r' rr =>
   cases rr
   obtain ⟨t,rfl⟩:=r
   obtain ⟨t',rfl⟩:=r'
   exact call_range_2 (range_it I1 q1 q2 q3 q4 q)
def tFor (wi:TI) (g:TG) (tb:TS):TS:=fun D σ H=>wi σ H fun J H1=>∃ W:Nat→Nat→St→Hp→Prop,(∃ m,W 0 m σ H1)∧∀ i m σ H,W i m σ H →
 (J.stop i H∧D.nx σ H)∨(J.go i H∧∃ N:St→Hp→Prop,(∀ σ' H',N σ' H'→∃ m',m' < m∧W (i + 1) m' σ' H')∧∀ x H',J.yld i H x H'→g x σ H' fun σ2 H2=>tb { D with nx:=N,ct:=N,bk:=D.nx } σ2 H2)
def pinsAt (fp:List Addr) (h:Heap):List (Addr×Obj):=fp.filterMap fun b=>(h.get? b).map fun o=>(b,o)
theorem ym5 {fp:List Addr} {h:Heap} {b:Addr} {o:Obj} (hb:b∈fp) (e:h.get? b=some o):(b,o)∈pinsAt fp h:=List.mem_filterMap.mpr ⟨b,hb,by rw [e];rfl⟩
theorem of_pinsAt {fp:List Addr} {h:Heap} {p:Addr×Obj} (hp:p∈pinsAt fp h):p.1∈fp∧h.get? p.1=some p.2:=by
 obtain ⟨b,hb,e⟩:=List.mem_filterMap.mp hp
 cases q:h.get? b with
 | none=>rw [q] at e;cases e
 | some o =>
  rw [q] at e
  have e':(b,o)=p:=Option.some.inj e
  subst e'
  exact ⟨hb,q⟩
theorem Inv.pinned {pins:List (Addr×Obj)} {σ:St} {H:Hp} {s:Shared} {fp:List Addr} (I:Inv X pins σ H s) (hf:∀ b∈fp,FpOk X pins H b) (ho:∀ b∈fp,∃ o,s.heap.get? b=some o∧∀ v,o.data ≠ .cell v):Inv X (pins++pinsAt fp s.heap) σ H s :=
 I.pins_of fun p hp=>(List.mem_append.mp hp).elim (fun z=>I.pin p (List.mem_append_right _ z)) fun z=>by
  obtain ⟨hb,e⟩:=of_pinsAt z
  obtain ⟨f0,f1,f2,_⟩:=hf p.1 hb
  obtain ⟨o,e',d⟩:=ho p.1 hb
  rw [e] at e';cases e'
  exact ⟨e,f0,f1,f2,d⟩
theorem Inv.unpinned {pins pl:List (Addr×Obj)} {σ:St} {H:Hp} {s:Shared} (I:Inv X (pins++pl) σ H s):Inv X pins σ H s:=I.pins_of fun p hp=>I.pin p (List.mem_append_right _ (List.mem_append_left _ hp))
theorem zj3 {iter:Expr} {body:List Stmt} {wi:TI} {g:TG} {tb:TS} {pos:Pos} (hp:PassesOwn (model X.prog X.w) X.A X.env X.xe) (hc:X.calm=true) (hi:PI X tg iter wi) (hg:PG X tg g) (hb:PSs X body tb)
  (hs:∀ x,foldedSetIterable iter X.env x=pure x:=by intro _;rfl):PS X (.For tg iter body [] pos) (tFor wi g tb):=by
 intro pins s σ H D I h
 refine wpAny_For (thn (hi pins s σ H _ I h) fun v s1 h1=>thn h1 fun itv s2 h2=>?_) hs
 obtain ⟨it,fp,tn,J,H2,e,I2,T,st2,f2,W,⟨m0,w0⟩,turn⟩:=h2
 subst e
 have stat:∀ {H':Hp},(∀ b∈fp,H' b=none)→∀ b∈fp,FpOk X pins H' b:=fun hn b hb=>⟨hn b hb,(f2 b hb).2⟩
 refine codeAny_forLoop_any (fun n s'=>∃ i σ' H',Inv X pins σ' H' s'∧tn i s'.heap∧(∀ b∈fp,H' b=none)∧W i n σ' H') ?_ m0 ⟨0,σ,H2,I2,st2,fun b hb=>(f2 b hb).1,w0⟩
 rintro n s3 ⟨i,σ3,H3,I3,st3,fr3,w3⟩
 rcases turn i n σ3 H3 w3 with ⟨stop,qn⟩ | ⟨go,N,hN,step⟩
 ·refine wpAny_passesOwn hp (thn (T.done X rfl rfl rfl hc i pins s3 σ3 H3 X.xe I3 (stat fr3) st3 stop) fun r s4 ⟨hr,I4⟩=>?_)
  subst hr
  exact wpAny_execs_nil ⟨σ3,H3,I4,qn⟩
 ·refine wpAny_passesOwn hp (thn (T.item X rfl rfl rfl hc i pins s3 σ3 H3 X.xe I3 (stat fr3) st3 go) fun r s4 ⟨u,hr,h4⟩=>?_)
  subst hr
  refine wpAny_passesOwn hp (thn h4 fun _ s5 ⟨x,H5,I5,r5,y5,st5,fr5⟩=>?_)
  have I5':=I5.pinned (stat fr5) (T.obj _ _ st5)
  refine wpAny_passesOwn hp (thn (hg _ s5 σ3 H5 x u _ I5' r5 (step x H5 y5)) fun _ s6 ⟨σ6,H6,I6,q6⟩=>?_)
  refine wpAny_passesOwn hp (thn (hb _ s6 σ6 H6 _ I6 q6) fun f s7 q7=>?_)
  have again:∀ {σ7:St} {H7:Hp},Inv X (pins++pinsAt fp s5.heap) σ7 H7 s7→N σ7 H7→∃ m,m < n∧∃ i σ' H',Inv X pins σ' H' s7∧tn i s7.heap∧(∀ b∈fp,H' b=none)∧W i m σ' H':=fun {σ7 H7} I7 n7=>by
   obtain ⟨m',hm,w7⟩:=hN σ7 H7 n7
   refine ⟨m',hm,i + 1,σ7,H7,I7.unpinned,T.keep _ _ _ st5 fun b hb o e=>(I7.pin (b,o) (List.mem_append_right _ (List.mem_append_right _ (ym5 hb e)))).1,fun b hb=>?_,w7⟩
   obtain ⟨o,e,d⟩:=T.obj _ _ st5 b hb
   exact (I7.pin (b,o) (List.mem_append_right _ (List.mem_append_right _ (ym5 hb e)))).2.1
  cases f with
  | next=>obtain ⟨σ7,H7,I7,n7⟩:=q7;exact again I7 n7
  | cont=>obtain ⟨σ7,H7,I7,n7⟩:=q7;exact again I7 n7
  | brk=>obtain ⟨σ7,H7,I7,q7⟩:=q7;exact ⟨σ7,H7,I7.unpinned,q7⟩
  | ret v=>obtain ⟨x7,σ7,H7,I7,r7,q7⟩:=q7;exact ⟨x7,σ7,H7,I7.unpinned,r7,q7⟩
end
theorem zu9 {K:PySem.W.Frag} {a:Addr} {xs:List V} {g:TG} {tb:TS} {D:Ends} {σ:St} {H:Hp} (Pv:Nat→St→Hp→Prop) (h0:Pv 0 σ H) (hl:∀ i σ H,i≤xs.length→Pv i σ H→SqL K H a xs)
  (hs:∀ i x σ H,xs[i]?=some x→Pv i σ H→g x σ H fun σ2 H2=>tb { D with nx:=Pv (i + 1),ct:=Pv (i + 1),bk:=D.nx } σ2 H2) (hd:∀ σ H,Pv xs.length σ H→D.nx σ H) :
  ∃ W:Nat→Nat→St→Hp→Prop,(∃ m,W 0 m σ H)∧∀ i m σ H,W i m σ H →
   ((Itl K a).stop i H∧D.nx σ H)∨((Itl K a).go i H∧∃ N:St→Hp→Prop,(∀ σ' H',N σ' H'→∃ m',m' < m∧W (i + 1) m' σ' H')∧∀ x H',(Itl K a).yld i H x H'→g x σ H' fun σ2 H2=>tb { D with nx:=N,ct:=N,bk:=D.nx } σ2 H2):=by
 refine ⟨fun i m σ H=>m=xs.length - i∧i≤xs.length∧Pv i σ H,⟨xs.length,by simp,Nat.zero_le _,h0⟩,?_⟩
 rintro i m σ H ⟨rfl,hi,p⟩
 have q:=hl i σ H hi p
 by_cases hlt:i < xs.length
 ·refine .inr ⟨⟨xs,xs[i],q,by simp [hlt]⟩,Pv (i + 1),fun σ' H' p'=>⟨xs.length - (i + 1),by omega,rfl,hlt,p'⟩,fun x H' y=>?_⟩
  obtain ⟨e,y⟩:=y
  subst e
  exact hs i x σ _ (y xs q) p
 ·have e:i=xs.length:=by omega
  subst e
  exact .inl ⟨⟨xs,q,Nat.le_refl _⟩,hd σ H p⟩
theorem zx6 {lo:Int} {n:Nat} {g:TG} {tb:TS} {D:Ends} {σ:St} {H:Hp} (Pv:Nat→St→Hp→Prop) (h0:Pv 0 σ H)
  (hs:∀ i σ H,i < n→Pv i σ H→g (.int (lo + i)) σ H fun σ2 H2=>tb { D with nx:=Pv (i + 1),ct:=Pv (i + 1),bk:=D.nx } σ2 H2) (hd:∀ σ H,Pv n σ H→D.nx σ H) :
  ∃ W:Nat→Nat→St→Hp→Prop,(∃ m,W 0 m σ H)∧∀ i m σ H,W i m σ H →
   ((Itr lo n).stop i H∧D.nx σ H)∨((Itr lo n).go i H∧∃ N:St→Hp→Prop,(∀ σ' H',N σ' H'→∃ m',m' < m∧W (i + 1) m' σ' H')∧∀ x H',(Itr lo n).yld i H x H'→g x σ H' fun σ2 H2=>tb { D with nx:=N,ct:=N,bk:=D.nx } σ2 H2):=by
 refine ⟨fun i m σ H=>m=n - i∧i≤n∧Pv i σ H,⟨n,by simp,Nat.zero_le _,h0⟩,?_⟩
 rintro i m σ H ⟨rfl,hi,p⟩
 by_cases hlt:i < n
 ·refine .inr ⟨hlt,Pv (i + 1),fun σ' H' p'=>⟨n - (i + 1),by omega,rfl,hlt,p'⟩,fun x H' y=>?_⟩
  obtain ⟨e,y⟩:=y
  subst e y
  exact hs i σ _ hlt p
 ·have e:i=n:=by omega
  subst e
  exact .inl ⟨Nat.le_refl _,hd σ H p⟩
end L2
namespace L2
open PySem PySem.Spec PyProof.Rows
abbrev R2:=V→V→Hp→VK→Prop
def OpR (X:Cx) (f:Value→Value→Sem Value) (r:R2):Prop :=
 ∀ (pins:List (Addr×Obj)) (s:Shared) (σ:St) (H:Hp) (x y:V) (v u:Value) (Q:VK),Inv X pins σ H s→RelV x v→RelV y u→r x y H Q →
  wpAny (model X.prog X.w) X.A (f v u) (EP X pins σ Q) X.xe s
def UnR (X:Cx) (f:Value→Sem Value) (r:V→Hp→VK→Prop):Prop :=
 ∀ (pins:List (Addr×Obj)) (s:Shared) (σ:St) (H:Hp) (x:V) (v:Value) (Q:VK),Inv X pins σ H s→RelV x v→r x H Q →
  wpAny (model X.prog X.w) X.A (f v) (EP X pins σ Q) X.xe s
def CallR (X:Cx) (f:Value) (r:List V→Hp→VK→Prop):Prop :=
 ∀ (pins:List (Addr×Obj)) (s:Shared) (σ:St) (H:Hp) (xs:List V) (us:List Value) (Q:VK),Inv X pins σ H s→Vals xs us→r xs H Q →
  wpAny (model X.prog X.w) X.A (call f us) (EP X pins σ Q) X.xe s
def TruR (X:Cx) (r:V→Hp→(Bool→Hp→Prop)→Prop):Prop :=
 ∀ (pins:List (Addr×Obj)) (s:Shared) (σ:St) (H:Hp) (x:V) (v:Value) (Q:Bool→Hp→Prop),Inv X pins σ H s→RelV x v→r x H Q →
  wpAny (model X.prog X.w) X.A (truthy v) (TP X pins σ Q) X.xe s
def tOp (r:R2) (ta tb:TE):TE:=fun σ H Q=>ta σ H fun x H1=>tb σ H1 fun y H2=>r x y H2 Q
def tUn (r:V→Hp→VK→Prop) (ta:TE):TE:=fun σ H Q=>ta σ H fun x H1=>r x H1 Q
def rI (C:Int→Int→Prop) (g:Int→Int→V):R2:=fun x y H Q=>∃ i j,x = .int i∧y = .int j∧C i j∧Q (g i j) H
def rI0 (g:Int→Int→V):R2:=fun x y H Q=>∃ i j,x = .int i∧y = .int j∧Q (g i j) H
def rU (g:Int→V):V→Hp→VK→Prop:=fun x H Q=>∃ i,x = .int i∧Q (g i) H
section
variable {X:Cx} {a b c:Expr} {ta tb tc:TE} {pos:Pos}
theorem binT (ha:PE X a ta) (hb:PE X b tb) {pins:List (Addr×Obj)} {s:Shared} {σ:St} {H:Hp} {R:V→V→Hp→Prop} (I:Inv X pins σ H s)
  (h:ta σ H fun x H1=>tb σ H1 fun y H2=>R x y H2) {Q:Value→Shared→Prop} {f:Value→Value→Sem Value}
  (hf:∀ v u s2 x y H2,Inv X pins σ H2 s2→RelV x v→RelV y u→R x y H2→wpAny (model X.prog X.w) X.A (f v u) Q X.xe s2) :
  wpAny (model X.prog X.w) X.A (eval a X.env) (fun v s₁=>wpAny (model X.prog X.w) X.A (eval b X.env) (fun u s₂=>wpAny (model X.prog X.w) X.A (f v u) Q X.xe s₂) X.xe s₁) X.xe s:=by
 refine thn (ha pins s σ H _ I h) fun v s1 ⟨x,H1,I1,r1,q1⟩=>?_
 refine thn (hb pins s1 σ H1 _ I1 q1) fun u s2 ⟨y,H2,I2,r2,q2⟩=>?_
 exact hf v u s2 x y H2 I2 r1 r2 q2
theorem pe_op {op:Operator} {r:R2} (ho:OpR X (binaryOp op) r) (ha:PE X a ta) (hb:PE X b tb):PE X (.BinOp a op b pos) (tOp r ta tb):=by
 intro pins s σ H Q I h
 exact wpAny_BinOp (binT ha hb I h fun v u s2 x y H2 I2 rx ry q=>ho pins s2 σ H2 x y v u Q I2 rx ry q)
theorem pe_un {op:UnaryOp} {r:V→Hp→VK→Prop} (ho:UnR X (unaryOp op) r) (ha:PE X a ta):PE X (.UnaryOp op a pos) (tUn r ta):=by
 intro pins s σ H Q I h
 exact UnaryOp_ (thn (ha pins s σ H _ I h) fun v s1 ⟨x,H1,I1,r1,q1⟩=>ho pins s1 σ H1 x v Q I1 r1 q1)
theorem opI {f:Value→Value→Sem Value} {C:Int→Int→Prop} {g:Int→Int→Int}
  (rule:∀ (i j:Int) (t u:Tok) (s:Shared) (Q:Value→Shared→Prop) (E:Value→Shared→Prop),C i j→Q (.int (g i j) s.toks) { s with toks:=s.toks + 1 }→wpAny (model X.prog X.w) X.A (f (.int i t) (.int j u)) Q E s) :
  OpR X f (rI C fun i j => .int (g i j)):=by
 intro pins s σ H x y v u Q I rx ry h
 obtain ⟨i,j,rfl,rfl,hc,q⟩:=h
 obtain ⟨t,rfl⟩:=rx
 obtain ⟨t',rfl⟩:=ry
 exact rule i j t t' s _ _ hc ⟨.int (g i j),H,I.tok _,⟨_,rfl⟩,q⟩
theorem opI0 {f:Value→Value→Sem Value} {g:Int→Int→Int}
  (rule:∀ (i j:Int) (t u:Tok) (s:Shared) (Q:Value→Shared→Prop) (E:Value→Shared→Prop),Q (.int (g i j) s.toks) { s with toks:=s.toks + 1 }→wpAny (model X.prog X.w) X.A (f (.int i t) (.int j u)) Q E s) :
  OpR X f (rI0 fun i j => .int (g i j)):=by
 intro pins s σ H x y v u Q I rx ry h
 obtain ⟨i,j,rfl,rfl,q⟩:=h
 obtain ⟨t,rfl⟩:=rx
 obtain ⟨t',rfl⟩:=ry
 exact rule i j t t' s _ _ ⟨.int (g i j),H,I.tok _,⟨_,rfl⟩,q⟩
theorem opB0 {f:Value→Value→Sem Value} {g:Int→Int→Bool}
  (rule:∀ (i j:Int) (t u:Tok) (s:Shared) (Q:Value→Shared→Prop) (E:Value→Shared→Prop),Q (.bool (g i j)) s→wpAny (model X.prog X.w) X.A (f (.int i t) (.int j u)) Q E s) :
  OpR X f (rI0 fun i j => .bl (g i j)):=by
 intro pins s σ H x y v u Q I rx ry h
 obtain ⟨i,j,rfl,rfl,q⟩:=h
 obtain ⟨t,rfl⟩:=rx
 obtain ⟨t',rfl⟩:=ry
 exact rule i j t t' s _ _ ⟨.bl (g i j),H,I,rfl,q⟩
def CMul (i j:Int):Prop:=(-(2 ^ 64) < i∧i < 2 ^ 64)∨(-(2 ^ 64) < j∧j < 2 ^ 64)
theorem CMul.ok {i j:Int} (h:CMul i j):IntMulOk i j:=by
 rcases h with ⟨h1,h2⟩ | ⟨h1,h2⟩
 ·exact .of_left (intBits_le_64 h1 h2)
 ·exact .of_right (intBits_le_64 h1 h2)
theorem zx2:OpR X (binaryOp .Add) (rI0 fun i j => .int (i + j)):=opI0 fun _ _ _ _ _ _ _ q=>add_int q
theorem yt5:OpR X (binaryOp .Sub) (rI0 fun i j => .int (i - j)):=opI0 fun _ _ _ _ _ _ _ q=>sub_int q
theorem op_mul:OpR X (binaryOp .Mult) (rI CMul fun i j => .int (i * j)):=opI fun _ _ _ _ _ _ _ hc q=>mul_int q hc.ok
theorem unI {f:Value→Sem Value} {g:Int→Int}
  (rule:∀ (i:Int) (t:Tok) (s:Shared) (Q:Value→Shared→Prop) (E:Value→Shared→Prop),Q (.int (g i) s.toks) { s with toks:=s.toks + 1 }→wpAny (model X.prog X.w) X.A (f (.int i t)) Q E s) :
  UnR X f (rU fun i => .int (g i)):=by
 intro pins s σ H x v Q I rx h
 obtain ⟨i,rfl,q⟩:=h
 obtain ⟨t,rfl⟩:=rx
 exact rule i t s _ _ ⟨.int (g i),H,I.tok _,⟨_,rfl⟩,q⟩
theorem ye1:UnR X (unaryOp .USub) (rU fun i => .int (-i)):=unI fun _ _ _ _ _ q=>neg_int q
end
def scal:V→V→Bool
 | .non,.non=>true | .non,.int _=>true | .int _,.non=>true | .non,.bl _=>true | .bl _,.non=>true | .non,.str _=>true | .str _,.non=>true
 | .int _,.int _=>true | .bl _,.bl _=>true | .str _,.str _=>true | .byt _,.byt _=>true
 | .int _,.str _=>true | .str _,.int _=>true | .bl _,.str _=>true | .str _,.bl _=>true
 | _,_=>false
def rEq:R2:=fun x y H Q=>scal x y=true∧Q (.bl (decide (x=y))) H
def rNe:R2:=fun x y H Q=>scal x y=true∧Q (.bl (!decide (x=y))) H
theorem dec_int {i j:Int}:decide (V.int i=V.int j)=(i == j):=by
 rw [Bool.eq_iff_iff]
 simp
theorem dec_bl {i j:Bool}:decide (V.bl i=V.bl j)=(i == j):=by
 rw [Bool.eq_iff_iff]
 simp
theorem dec_str {i j:Str}:decide (V.str i=V.str j)=(i == j):=by
 rw [Bool.eq_iff_iff]
 simp
theorem dec_byt {i j:Array UInt8}:decide (V.byt i=V.byt j)=(i.toList == j.toList):=by
 rw [Bool.eq_iff_iff]
 cases i
 cases j
 simp
section
variable {X:Cx} {a b c:Expr} {ta tb tc:TE} {pos:Pos}
theorem ze3 {pins:List (Addr×Obj)} {σ:St} {H:Hp} {s:Shared} {Q:VK} {k k':Bool} (I:Inv X pins σ H s) (q:Q (.bl k) H) (e:k=k'):EP X pins σ Q (.bool k') s:=by
 subst e
 exact ⟨.bl k,H,I,rfl,q⟩
theorem op_eq:OpR X (compareOp .Eq) rEq:=by
 intro pins s σ H x y v u Q I rx ry h
 obtain ⟨hs,q⟩:=h
 cases x with
 | non =>
  cases rx
  cases y with
  | non=>cases ry;exact PySem.EqNone.eq_none_none (ze3 I q (by simp))
  | bl j=>cases ry;exact PySem.EqNone.eq_none_bool (ze3 I q (by simp))
  | int j=>obtain ⟨t',rfl⟩:=ry;exact PySem.EqNone.eq_none_int (ze3 I q (by simp))
  | str j=>obtain ⟨t',rfl⟩:=ry;exact PySem.EqNone.eq_none_str (ze3 I q (by simp))
  | _=>exact absurd (show false=true from hs) Bool.false_ne_true
 | bl i =>
  cases rx
  cases y with
  | non=>cases ry;exact PySem.EqNone.eq_bool_none (ze3 I q (by simp))
  | bl j=>cases ry;exact eq_bool (ze3 I q dec_bl)
  | str j=>obtain ⟨t',rfl⟩:=ry;exact PySem.EqMixed.eq_bool_str (ze3 I q (by simp))
  | _=>exact absurd (show false=true from hs) Bool.false_ne_true
 | int i =>
  obtain ⟨t,rfl⟩:=rx
  cases y with
  | non=>cases ry;exact PySem.EqNone.eq_int_none (ze3 I q (by simp))
  | int j=>obtain ⟨t',rfl⟩:=ry;exact eq_int (ze3 I q dec_int)
  | str j=>obtain ⟨t',rfl⟩:=ry;exact PySem.EqMixed.eq_int_str (ze3 I q (by simp))
  | _=>exact absurd (show false=true from hs) Bool.false_ne_true
 | str i =>
  obtain ⟨t,rfl⟩:=rx
  cases y with
  | non=>cases ry;exact PySem.EqNone.eq_str_none (ze3 I q (by simp))
  | bl j=>cases ry;exact PySem.EqMixed.eq_str_bool (ze3 I q (by simp))
  | int j=>obtain ⟨t',rfl⟩:=ry;exact PySem.EqMixed.eq_str_int (ze3 I q (by simp))
  | str j=>obtain ⟨t',rfl⟩:=ry;exact eq_str (ze3 I q dec_str)
  | _=>exact absurd (show false=true from hs) Bool.false_ne_true
 | byt i =>
  obtain ⟨t,rfl⟩:=rx
  cases y with
  | byt j=>obtain ⟨t',rfl⟩:=ry;exact PySem.W.eq_bytes (ze3 I q dec_byt)
  | _=>exact absurd (show false=true from hs) Bool.false_ne_true
 | _=>cases y <;> exact absurd (show false=true from hs) Bool.false_ne_true
theorem op_ne:OpR X (compareOp .NotEq) rNe:=by
 intro pins s σ H x y v u Q I rx ry h
 obtain ⟨hs,q⟩:=h
 cases x with
 | non =>
  cases rx
  cases y with
  | non=>cases ry;exact PySem.EqNone.ne_none_none (ze3 I q (by simp))
  | bl j=>cases ry;exact PySem.EqNone.ne_none_bool (ze3 I q (by simp))
  | int j=>obtain ⟨t',rfl⟩:=ry;exact PySem.EqNone.ne_none_int (ze3 I q (by simp))
  | str j=>obtain ⟨t',rfl⟩:=ry;exact PySem.EqNone.ne_none_str (ze3 I q (by simp))
  | _=>exact absurd (show false=true from hs) Bool.false_ne_true
 | bl i =>
  cases rx
  cases y with
  | non=>cases ry;exact PySem.EqNone.ne_bool_none (ze3 I q (by simp))
  | bl j=>cases ry;exact ne_bool (ze3 I q (congrArg not dec_bl))
  | str j=>obtain ⟨t',rfl⟩:=ry;exact PySem.EqMixed.ne_bool_str (ze3 I q (by simp))
  | _=>exact absurd (show false=true from hs) Bool.false_ne_true
 | int i =>
  obtain ⟨t,rfl⟩:=rx
  cases y with
  | non=>cases ry;exact PySem.EqNone.ne_int_none (ze3 I q (by simp))
  | int j=>obtain ⟨t',rfl⟩:=ry;exact ne_int (ze3 I q (congrArg not dec_int))
  | str j=>obtain ⟨t',rfl⟩:=ry;exact PySem.EqMixed.ne_int_str (ze3 I q (by simp))
  | _=>exact absurd (show false=true from hs) Bool.false_ne_true
 | str i =>
  obtain ⟨t,rfl⟩:=rx
  cases y with
  | non=>cases ry;exact PySem.EqNone.ne_str_none (ze3 I q (by simp))
  | bl j=>cases ry;exact PySem.EqMixed.ne_str_bool (ze3 I q (by simp))
  | int j=>obtain ⟨t',rfl⟩:=ry;exact PySem.EqMixed.ne_str_int (ze3 I q (by simp))
  | str j=>obtain ⟨t',rfl⟩:=ry;exact ne_str (ze3 I q (congrArg not dec_str))
  | _=>exact absurd (show false=true from hs) Bool.false_ne_true
 | byt i =>
  obtain ⟨t,rfl⟩:=rx
  cases y with
  | byt j=>obtain ⟨t',rfl⟩:=ry;exact PySem.W.ne_bytes (ze3 I q (congrArg not dec_byt))
  | _=>exact absurd (show false=true from hs) Bool.false_ne_true
 | _=>cases y <;> exact absurd (show false=true from hs) Bool.false_ne_true
theorem op_lt:OpR X (compareOp .Lt) (rI0 fun i j => .bl (decide (i < j))):=opB0 fun _ _ _ _ _ _ _ q=>lt_int q
theorem op_le:OpR X (compareOp .LtE) (rI0 fun i j => .bl (decide (i≤j))):=opB0 fun _ _ _ _ _ _ _ q=>le_int q
theorem op_gt:OpR X (compareOp .Gt) (rI0 fun i j => .bl (decide (j < i))):=opB0 fun _ _ _ _ _ _ _ q=>gt_int q
theorem op_ge:OpR X (compareOp .GtE) (rI0 fun i j => .bl (decide (j≤i))):=opB0 fun _ _ _ _ _ _ _ q=>ge_int q
theorem yy4:OpR X (compareOp .Is) (fun x y H Q=>y = .non∧Q (.bl (decide (x = .non))) H):=by
 intro pins s σ H x y v u Q I rx ry h
 obtain ⟨rfl,q⟩:=h
 cases ry
 refine is_none_gen (ze3 I q ?_)
 cases x <;> first
  | (cases rx;rfl)
  | (obtain ⟨t,rfl⟩:=rx;rfl)
theorem zp4:OpR X (compareOp .IsNot) (fun x y H Q=>y = .non∧Q (.bl (!decide (x = .non))) H):=by
 intro pins s σ H x y v u Q I rx ry h
 obtain ⟨rfl,q⟩:=h
 cases ry
 refine isnot_none_gen (ze3 I q ?_)
 cases x <;> first
  | (cases rx;rfl)
  | (obtain ⟨t,rfl⟩:=rx;rfl)
theorem nomark (b:Expr) {op:CmpOp} (h:op ≠ .In:=by decide) (h2:op ≠ .NotIn:=by decide):behindInMarks op b=false:=by
 have e1:(op == CmpOp.In)=false:=by cases op <;> first | rfl | exact absurd rfl h
 have e2:(op == CmpOp.NotIn)=false:=by cases op <;> first | rfl | exact absurd rfl h2
 cases b <;> simp [behindInMarks,e1,e2]
theorem zv1 {op:CmpOp} {r:R2} (ho:OpR X (compareOp op) r) (ha:PE X a ta) (hb:PE X b tb) (hm:behindInMarks op b=false):PE X (.Compare a [op] [b] pos) (tOp r ta tb):=by
 intro pins s σ H Q I h
 exact wpAny_Compare1 (binT ha hb I h fun v u s2 x y H2 I2 rx ry q=>ho pins s2 σ H2 x y v u Q I2 rx ry q) hm
def tTest (t:TE):TT:=fun σ H Q=>t σ H fun x H'=>∃ k,x = .bl k∧Q k H'
theorem zb2 {op:CmpOp} {r:R2} (ho:OpR X (compareOp op) r) (ha:PE X a ta) (hb:PE X b tb) (hm:behindInMarks op b=false):PT X (.Compare a [op] [b] pos) (tTest (tOp r ta tb)):=by
 intro pins s σ H Q I h
 refine wpAny_isTrue_Compare1 (thn (ha pins s σ H _ I h) fun v s1 ⟨x,H1,I1,r1,q1⟩=>thn (hb pins s1 σ H1 _ I1 q1) fun u s2 ⟨y,H2,I2,r2,q2⟩ =>
  thn (ho pins s2 σ H2 x y v u _ I2 r1 r2 q2) fun c s3 ⟨z,H3,I3,r3,k,e,q3⟩=>?_) hm
 subst e
 cases r3
 exact wpAny_truthy_bool ⟨H3,I3,q3⟩
def tChain (r r':R2) (ta tb tc:TE):TE:=fun σ H Q=>ta σ H fun x H1=>tb σ H1 fun y H2=>r x y H2 fun z H3=>∃ k,z = .bl k ∧
 (if k=true then tc σ H3 fun w' H4=>r' y w' H4 Q else Q (.bl false) H3)
theorem pe_chain {op op':CmpOp} {r r':R2} (ho:OpR X (compareOp op) r) (ho':OpR X (compareOp op') r') (ha:PE X a ta) (hb:PE X b tb) (hc:PE X c tc)
  (hm:lastMarks [op,op'] [b,c]=false:=by with_unfolding_all rfl):PE X (.Compare a [op,op'] [b,c] pos) (tChain r r' ta tb tc):=by
 intro pins s σ H Q I h
 refine Compare_chain (thn (ha pins s σ H _ I h) fun v s1 ⟨x,H1,I1,r1,q1⟩=>chain_link (thn (hb pins s1 σ H1 _ I1 q1) fun u s2 ⟨y,H2,I2,r2,q2⟩ =>
  thn (ho pins s2 σ H2 x y v u _ I2 r1 r2 q2) fun d s3 ⟨z,H3,I3,r3,k,e,q3⟩=>?_)) hm
 subst e
 cases r3
 refine wpAny_truthy_bool ?_
 cases k with
 | false=>exact ite_ff ⟨.bl false,H3,I3,rfl,q3⟩
 | true=>exact ite_tt (chain_last (thn (hc pins s3 σ H3 _ I3 q3) fun w' s4 ⟨z',H4,I4,r4,q4⟩=>ho' pins s4 σ H4 y z' u w' Q I4 r2 r4 q4))
def TruV (K:PySem.W.Frag) (x:V) (H:Hp) (k:Bool):Prop :=
 match x with
 | .non=>k=false
 | .bl b=>k=b
 | .int i=>k=(i != 0)
 | .str y=>y.length≤sizeLine∧k=((y.length:Int) != 0)
 | .byt y=>y.size≤sizeLine∧k=((y.size:Int) != 0)
 | .ref p=>(∃ xs,SqL K H p xs∧k = !xs.isEmpty)∨(∃ xs,SqT K H p xs∧k = !xs.isEmpty)∨∃ kvs,H p=some (.dK kvs)∧k = !kvs.isEmpty
 | _=>False
theorem isEmpty_kv {κ:Type} {kvs:List (κ×V)} {vs:List (κ×Value)} (r:KV kvs vs):(!vs.isEmpty) = !kvs.isEmpty:=by
 cases r <;> rfl
theorem yz2 {xs:List V} {its:List Value} (r:Vals xs its):(!its.toArray.isEmpty) = !xs.isEmpty:=by
 cases r <;> simp
theorem line63:(sizeLine:Nat) < 2 ^ 63:=by rw [sizeLine_eq];decide
theorem tru_ok:TruR X (fun x H Q=>∃ k,TruV X.K x H k∧Q k H):=by
 intro pins s σ H x v Q I rx h
 obtain ⟨k,e,q⟩:=h
 have hl:=line63
 have hs:sizeLine=16777216:=sizeLine_eq
 cases x with
 | non =>
  cases rx
  have e':k=false:=e
  subst e'
  exact truthy_none ⟨H,I,q⟩
 | bl b =>
  cases rx
  have e':k=b:=e
  subst e'
  exact wpAny_truthy_bool ⟨H,I,q⟩
 | int i =>
  obtain ⟨t,rfl⟩:=rx
  have e':k=(i != 0):=e
  subst e'
  exact PySem.P.truthy_int ⟨H,I,q⟩
 | str y =>
  obtain ⟨t,rfl⟩:=rx
  obtain ⟨hy,e'⟩:y.length≤sizeLine∧k=((y.length:Int) != 0):=e
  subst e'
  exact PySem.P.truthy_str (by omega) ⟨H,I.tok _,q⟩
 | byt y =>
  obtain ⟨t,rfl⟩:=rx
  obtain ⟨hy,e'⟩:y.size≤sizeLine∧k=((y.size:Int) != 0):=e
  subst e'
  exact PySem.W.truthy_bytes (by omega) ⟨H,I.tok _,q⟩
 | ref p =>
  cases rx
  have e':(∃ xs,SqL X.K H p xs∧k = !xs.isEmpty)∨(∃ xs,SqT X.K H p xs∧k = !xs.isEmpty)∨∃ kvs,H p=some (.dK kvs)∧k = !kvs.isEmpty:=e
  rcases e' with ⟨xs,hx,e'⟩ | ⟨xs,hx,e'⟩ | ⟨kvs,hx,e'⟩
  ·subst e'
   obtain ⟨its,r,pl,hz⟩:=I.list hx
   have hlen:=r.length
   exact wpAny_truthy_list pl.isList (by simp only [List.size_toArray];omega) ⟨H,I.tok _,by rw [yz2 r];exact q⟩
  ·subst e'
   obtain ⟨its,r,pl,hz⟩:=I.tuple hx
   have hlen:=r.length
   exact truthy_tuple pl (by simp only [List.size_toArray];omega) ⟨H,I.tok _,by rw [yz2 r];exact q⟩
  ·subst e'
   obtain ⟨hz,hS,vs,r,m⟩:kvs.length≤sizeLine∧(p == sysModules)=false∧∃ vs,KV kvs vs∧s.heap.DictOf (mixKind X.prog X.w) p vs:=I.hok p _ hx
   have hlen:kvs.length=vs.length:=Paired.length r
   exact wpAny_truthy_dict hS m (by omega) ⟨H,I.tok _,by rw [isEmpty_kv r];exact q⟩
 | _=>exact (show False from e).elim
theorem zd0 (ha:PE X a ta) (he:∀ whole,isTrue a X.env whole=(do let v ← whole;standAt a.pos;holding [v] (truthy v))) :
  PT X a (fun σ H Q=>ta σ H fun x H'=>∃ k,TruV X.K x H' k∧Q k H'):=by
 intro pins s σ H Q I h
 exact isTrue_plain (thn (ha pins s σ H _ I h) fun v s1 ⟨x,H1,I1,r1,q1⟩=>tru_ok pins s1 σ H1 x v Q I1 r1 q1) (he _)
theorem vals1 {x:V} {us:List Value} (r:Vals [x] us):∃ u,us=[u]∧RelV x u:=by
 cases r with
 | cons r1 r2=>cases r2;exact ⟨_,rfl,r1⟩
theorem vals2 {x y:V} {us:List Value} (r:Vals [x,y] us):∃ u w',us=[u,w']∧RelV x u∧RelV y w':=by
 cases r with
 | cons r1 r2 =>
  cases r2 with
  | cons r3 r4=>cases r4;exact ⟨_,_,rfl,r1,r3⟩
theorem call_max2 (hc:X.calm=true):CallR X (.builtin "max") (fun xs H Q=>∃ i j,xs=[.int i,.int j]∧Q (.int (if j > i then j else i)) H):=by
 intro pins s σ H xs us Q I r h
 obtain ⟨i,j,rfl,q⟩:=h
 obtain ⟨u,w',rfl,⟨t,rfl⟩,⟨t',rfl⟩⟩:=vals2 r
 refine max_two_ints (I.ok.hd hc) fun h' tk k=>⟨_,H,I.kept k,?_,q⟩
 by_cases hj:j > i
 ·rw [if_pos hj,if_pos hj];exact ⟨_,rfl⟩
 ·rw [if_neg hj,if_neg hj];exact ⟨_,rfl⟩
end
end L2
namespace L2
open PySem PySem.Spec PyProof.Rows
structure ObjM (h:Heap) (x dx C:Addr) (mA:Str→Option Value):Prop where
 obj:h.get? x=some (PySem.W.instObj C dx)
 ns:h.Ns1 dx mA
 ne:dx≠x
theorem lookIn_ns {h:Heap} {dx:Addr} {mA:Str→Option Value} (n:h.Ns1 dx mA):∃ od,h.get? dx=some od∧∀ name,PySem.W.lookIn name od=some (mA name):=by
 obtain ⟨o,es,ep,ho,hd,hk,_,hm⟩:=n
 refine ⟨o,ho,fun name=>?_⟩
 have e:=hm name
 unfold nsFind findBy at e
 rw [← Array.find?_toList] at e
 unfold PySem.W.lookIn
 rw [hd]
 dsimp only
 split
 ·rename_i y q
  rw [q] at e
  exact congrArg some e
 ·rename_i q
  rw [q] at e
  have a:es.toList.any (·.refKey)=false:=by
   rw [List.any_eq_false]
   intro y hy
   obtain ⟨z,t,hkey⟩:=hk y (Array.mem_toList_iff.mp hy)
   simp [DictEntry.refKey,hkey]
  have a':¬ es.toList.any (·.refKey)=true:=by rw [a];exact Bool.false_ne_true
  rw [if_neg a']
  exact congrArg some e
theorem ObjM.look {h:Heap} {x dx C:Addr} {mA:Str→Option Value} (I:ObjM h x dx C mA):∃ od,PySem.W.InstAt h x (PySem.W.instObj C dx) C (some od)∧∀ name,PySem.W.lookIn name od=some (mA name) :=
 let ⟨od,ho,hl⟩:=lookIn_ns I.ns
 ⟨od,⟨I.obj,rfl,rfl,ho⟩,hl⟩
section
variable {prog:Program} {w:World} {A:Around} {E:Value→Shared→Prop} {s:Shared} {K:PySem.W.Frag} {x dx C f:Addr} {mA:Str→Option Value} {name:Str} {v:Value}
theorem get_map {expr:Bool} {Q:Value→Shared→Prop} (X:K.In s.heap) (I:ObjM s.heap x dx C mA) (hg:PySem.W.plainGet K C name=true) (hh:PySem.W.hasDictIn K C=true)
  (ha:PySem.W.findIn K (.ref C) name=some none) (hv:mA name=some v) (hv':PySem.W.handedIn v=true) (h:Q v { s with toks:=s.toks + 1 }) :
  wpAny (model prog w) A (getAttr (.ref x) name expr) Q E s:=by
 obtain ⟨od,J,hl⟩:=I.look
 exact PySem.W.get_value X J (PySem.W.plainGet_of hg).1 (PySem.W.findObj_own hh ha rfl (by rw [hl,hv])) hv' h
theorem get_meth {pl:Sem Bool} {Q:Value×List Value→Shared→Prop} (X:K.In s.heap) (I:ObjM s.heap x dx C mA) (hg:PySem.W.plainGet K C name=true)
  (hf:PySem.W.findIn K (.ref C) name=some (some (.ref f))) (ht:PySem.W.isFn K (.ref f)=true) (hv:mA name=none) (h:Q (.ref f,[.ref x]) s) :
  wpAny (model prog w) A (getMethod (.ref x) name pl) Q E s:=by
 obtain ⟨od,J,hl⟩:=I.look
 exact PySem.W.method_fn X J (PySem.W.plainGet_of hg).1 (PySem.W.plainGet_of hg).2 hf (beq_iff_eq.mp ht) (by show (PySem.W.lookIn name od).map (·.isSome)=some false;rw [hl,hv];rfl) h
theorem set_map {ns:List Str} {Q:Unit→Shared→Prop} (X:K.In s.heap) (I:ObjM s.heap x dx C mA)
  (hs:PySem.W.findIn K (.ref C) "__setattr__" = some (some (.builtin "object.__setattr__"))) (hp:PySem.W.plainOver K C=true) (ht:PySem.W.takerIn K C name=some none) (hh:PySem.W.hasDictIn K C=true)
  (hw:PySem.Within mA ns) (hsz:ns.length≤sizeLine)
  (h:∀ h',ObjM h' x dx C (fun y=>if y=name then some v else mA y)→Heap.SameBut dx s.heap h'→Q () { s with heap:=h',toks:=s.toks + 2 }) :
  wpAny (model prog w) A (setAttr (.ref x) name v) Q E s:=by
 obtain ⟨od,J,hl⟩:=I.look
 refine PySem.W.set_plain X J hs (PySem.W.osa_open (s:={ s with toks:=s.toks + 1 }) (r:=none) X J hp ht fun b=>?_)
 obtain ⟨cd,hc,hd'⟩:=PySem.W.any_some hh
 have hx:s.heap.get? x=some ⟨.ref C,some dx,.plain,#[]⟩:=I.obj
 refine wpAny_bind (wpAny_pure (wpAny_bind (wpAny_bind (wpAny_loadPart hx (wpAny_bind (PySem.W.Looks.here (s:={ s with toks:=s.toks + 1 }) (PySem.W.looks_clsIn X hc) ?_))))))
 rw [hd']
 refine wpAny_pure (a:=some dx) (wpAny_bind (wpAny_pure (wpAny_bind ?_)))
 refine wpAny_nsSet1 (s:={ s with toks:=s.toks + 1 }) I.ns fun h' hn2 hs2=>?_
 obtain ⟨oD,esD,epD,hoD,hdD,hcD⟩:=hn2.count (PySem.Within.cons name v hw)
 refine wpAny_bind (wpAny_lookBehind hoD (by rw [hdD];exact pastItsLine_dict (Nat.le_trans hcD (by rw [List.length_cons];omega))) ?_)
 exact wpAny_pure (h _ ⟨(hs2.2 _ (Ne.symm I.ne)).trans I.obj,hn2,I.ne⟩ hs2)
theorem make_map {R:Result→Shared→Prop} {vs:List Value} {kw:List (Str×Value)} (X:K.In s.heap) (hm:PySem.W.makesIn K C=true)
  (hi:PySem.W.findIn K (.ref C) "__init__" = some (some (.ref f))) (hf:PySem.W.typeIn K (.ref f)=some (.type "function"))
  (h:codeAny (model prog w) (A.under (.builtin "type.__call__" ⟨.ref C :: vs,kw⟩)) (.call (.ref f) ⟨.ref (s.heap.objs.size + 1) :: vs,kw⟩) (PySem.W.InitBack (s.heap.objs.size + 1) R)
   { s with heap:=(s.heap.push PySem.W.emptyDict).push (PySem.W.instObj C s.heap.objs.size) }) :
  codeAny (model prog w) A (.call (.ref C) ⟨vs,kw⟩) R s:=by
 obtain ⟨hh,g,d,t,os⟩:=s
 exact PySem.W.make_core (PySem.W.makes_of X hm) (PySem.W.looks_findIn X hi) (fun self=>PySem.W.bind_fn X self hf) (.inl rfl) h
end
def putF (f:Str) (v:V):List (Str×V)→List (Str×V)
 | []=>[(f,v)]
 | (g,x) :: r=>if g=f then (g,v) :: r else (g,x) :: putF f v r
theorem za5 (f g:Str) (v:V):∀ fs:List (Str×V),(putF f v fs).lookup g=if g=f then some v else fs.lookup g
 | []=>by
  show List.lookup g [(f,v)]=_
  by_cases h:g=f
  ·have hb:(g == f)=true:=beq_iff_eq.mpr h
   simp only [List.lookup,hb,if_pos h]
  ·have hb:(g == f)=false:=beq_eq_false_iff_ne.mpr h
   simp only [List.lookup,hb,if_neg h]
 | (k,x) :: r=>by
  have ih:=za5 f g v r
  rw [show putF f v ((k,x) :: r)=(if k=f then (k,v) :: r else (k,x) :: putF f v r) from rfl]
  by_cases hk:k=f
  ·rw [if_pos hk]
   by_cases h:g=k
   ·have hb:(g == k)=true:=beq_iff_eq.mpr h
    simp only [List.lookup,hb,if_pos (h.trans hk)]
   ·have hb:(g == k)=false:=beq_eq_false_iff_ne.mpr h
    simp only [List.lookup,hb,if_neg (fun e:g=f=>h (e.trans hk.symm))]
  ·rw [if_neg hk]
   by_cases h:g=k
   ·have hb:(g == k)=true:=beq_iff_eq.mpr h
    simp only [List.lookup,hb,if_neg (fun e:g=f=>hk (h.symm.trans e))]
   ·have hb:(g == k)=false:=beq_eq_false_iff_ne.mpr h
    simp only [List.lookup,hb]
    exact ih
theorem yu7 (f:Str) (v:V):∀ fs:List (Str×V),f∈(putF f v fs).map (·.1)∧∀ g,g∈fs.map (·.1)→g∈(putF f v fs).map (·.1)
 | []=>⟨by simp [putF],fun g h=>by simp at h⟩
 | (k,x) :: r=>by
  obtain ⟨i1,i2⟩:=yu7 f v r
  rw [show putF f v ((k,x) :: r)=(if k=f then (k,v) :: r else (k,x) :: putF f v r) from rfl]
  by_cases hk:k=f
  ·rw [if_pos hk]
   subst hk
   exact ⟨by simp,fun g h=>by simpa using h⟩
  ·rw [if_neg hk]
   refine ⟨?_,fun g h=>?_⟩
   ·rw [List.map_cons]
    exact List.mem_cons_of_mem _ i1
   ·rw [List.map_cons] at h ⊢
    rcases List.mem_cons.mp h with e | e
    ·exact List.mem_cons.mpr (.inl e)
    ·exact List.mem_cons_of_mem _ (i2 g e)
theorem yu6 (f:Str) (v:V):∀ fs:List (Str×V),(putF f v fs).length≤fs.length + 1
 | []=>by simp [putF]
 | (k,x) :: r=>by
  have ih:=yu6 f v r
  rw [show putF f v ((k,x) :: r)=(if k=f then (k,v) :: r else (k,x) :: putF f v r) from rfl]
  by_cases hk:k=f
  ·rw [if_pos hk,List.length_cons,List.length_cons];omega
  ·rw [if_neg hk,List.length_cons,List.length_cons];omega
theorem RelO.some_of {v:V} {o:Option Value} (r:RelO (some v) o):∃ u,o=some u∧RelV v u:=by
 cases o with
 | none=>exact (show False from r).elim
 | some u=>exact ⟨u,rfl,r⟩
theorem RelO.none_of {o:Option Value} (r:RelO none o):o=none:=by
 cases o with
 | none=>rfl
 | some u=>exact (show False from r).elim
theorem handed_of {v:V} {u:Value} (r:RelV v u):PySem.W.handedIn u=true:=by
 cases v with
 | non=>cases (show u=Value.none from r);rfl
 | bl b=>cases (show u=Value.bool b from r);rfl
 | int i=>obtain ⟨t,e⟩:=(show ∃ t,u=Value.int i t from r);cases e;rfl
 | str x=>obtain ⟨t,e⟩:=(show ∃ t,u=Value.str x t from r);cases e;rfl
 | byt b=>obtain ⟨t,e⟩:=(show ∃ t,u=Value.bytes b t from r);cases e;rfl
 | flt b=>obtain ⟨t,e⟩:=(show ∃ t,u=Value.float b t from r);cases e;rfl
 | ref a=>cases (show u=Value.ref a from r);rfl
 | ty n=>cases (show u=Value.type n from r);rfl
section
variable {P:Program} {w:World} {H H':Hp} {h h':Heap} {a C dx:Addr} {fs fs':List (Str×V)}
theorem xd9 (hok:HOk P w H h) (e:H a=some (.ins C dx fs)):∃ mA,ObjM h a dx C mA∧(∀ f,RelO (fs.lookup f) (mA f))∧PySem.Within mA (fs.map (·.1))∧fs.length≤1000∧H dx=some (.own a):=by
 obtain ⟨d,z,ne,ob,mA,n,r,q⟩:=(show ObjOk P w H h a (.ins C dx fs) from hok a _ e)
 exact ⟨mA,⟨ob,n,ne⟩,r,q,z,d⟩
end
structure Cls (K:PySem.W.Frag) (C:Addr):Prop where
 pg:PySem.W.plainGet K C Str.empty=true
 hd:PySem.W.hasDictIn K C=true
 po:PySem.W.plainOver K C=true
 sa:PySem.W.findIn K (.ref C) "__setattr__" = some (some (.builtin "object.__setattr__"))
theorem Cls.get {K:PySem.W.Frag} {C:Addr} (c:Cls K C) (f:Str):PySem.W.plainGet K C f=true:=c.pg
def NoAttr (K:PySem.W.Frag) (C:Addr) (f:Str):Prop:=PySem.W.findIn K (.ref C) f=some none
theorem NoAttr.taker {K:PySem.W.Frag} {C:Addr} {f:Str} (n:NoAttr K C f):PySem.W.takerIn K C f=some none:=by
 unfold PySem.W.takerIn
 rw [show PySem.W.findIn K (.ref C) f=some none from n]
 rfl
structure Meth (K:PySem.W.Frag) (C:Addr) (m:Str) (f:Addr):Prop where
 at_:PySem.W.findIn K (.ref C) m=some (some (.ref f))
 fn:PySem.W.isFn K (.ref f)=true
 kp:PySem.W.keepIn K (.ref f)=true
section
variable {X:Cx} {pins:List (Addr×Obj)} {σ:St} {H:Hp} {s:Shared} {a C dx:Addr} {fs:List (Str×V)} {f:Str} {v:V} {A:Around} {E:Value→Shared→Prop}
theorem getattr_ok {b:Bool} {Q:Value→Shared→Prop} (I:Inv X pins σ H s) (e:H a=some (.ins C dx fs)) (c:Cls X.K C) (n:NoAttr X.K C f) (l:fs.lookup f=some v)
  (h:∀ u s',Inv X pins σ H s'→RelV v u→Q u s'):wpAny (model X.prog X.w) A (getAttr (.ref a) f b) Q E s:=by
 obtain ⟨mA,O,r,_,_,_⟩:=xd9 I.hok e
 obtain ⟨u,hu,ru⟩:=RelO.some_of (v:=v) (o:=mA f) (by rw [← l];exact r f)
 exact get_map I.kIn O (c.get f) c.hd n hu (handed_of ru) (h u _ (I.tok _) ru)
theorem yz4 {m:Str} {g:Addr} {pl:Sem Bool} {Q:Value×List Value→Shared→Prop} (I:Inv X pins σ H s) (e:H a=some (.ins C dx fs)) (c:Cls X.K C) (k:Meth X.K C m g) (l:fs.lookup m=none)
  (h:Q (.ref g,[.ref a]) s):wpAny (model X.prog X.w) A (getMethod (.ref a) m pl) Q E s:=by
 obtain ⟨mA,O,r,_,_,_⟩:=xd9 I.hok e
 have hn:mA m=none:=RelO.none_of (by rw [← l];exact r m)
 exact get_meth I.kIn O (c.get m) k.at_ k.fn hn h
theorem setattr_ok {y:V} {u:Value} {Q:Unit→Shared→Prop} (I:Inv X pins σ H s) (e:H a=some (.ins C dx fs)) (c:Cls X.K C) (n:NoAttr X.K C f) (hl:fs.length < 1000) (ry:RelV y u)
  (h:∀ s',Inv X pins σ (upd H a (.ins C dx (putF f y fs))) s'→Q () s'):wpAny (model X.prog X.w) A (setAttr (.ref a) f u) Q E s:=by
 obtain ⟨mA,O,r,wi,_,ho⟩:=xd9 I.hok e
 have hz:(fs.map (·.1)).length≤sizeLine:=by rw [List.length_map,sizeLine_eq];omega
 refine set_map I.kIn O c.sa c.po n.taker c.hd wi hz fun h' O' sb=>h _ ?_
 have hd:∃ o,h'.get? dx=some o:=let ⟨o,_,_,e',_⟩:=O'.ns;⟨o,e'⟩
 refine I.write (x:=a) (e:=dx) (by rw [e];exact True.intro) (.inr ho) (fun b q hb z=>(sb.2 b hb).trans z) hd ?_
 refine ⟨by rw [zb5 O.ne];exact ho,?_,O.ne,O'.obj,_,O'.ns,fun g=>?_,fun g hg=>?_⟩
 ·have:=yu6 f y fs;omega
 ·show RelO ((putF f y fs).lookup g) (if g=f then some u else mA g)
  rw [za5]
  by_cases q:g=f
  ·rw [if_pos q,if_pos q];exact ry
  ·rw [if_neg q,if_neg q];exact r g
 ·by_cases q:g=f
  ·rw [q];exact (yu7 f y fs).1
  ·refine (yu7 f y fs).2 g (wi g fun z=>hg ?_)
   show (if g=f then some u else mA g)=none
   rw [if_neg q];exact z
theorem Inv.made (I:Inv X pins σ H s):Inv X pins σ (upd (upd H s.heap.objs.size (.own (s.heap.objs.size + 1))) (s.heap.objs.size + 1) (.ins C s.heap.objs.size []))
  { s with heap:=(s.heap.push PySem.W.emptyDict).push (PySem.W.instObj C s.heap.objs.size) }:=by
 have e1:(s.heap.push PySem.W.emptyDict).get? s.heap.objs.size=some PySem.W.emptyDict:=Heap.get?_push_size s.heap rfl
 have e2:((s.heap.push PySem.W.emptyDict).push (PySem.W.instObj C s.heap.objs.size)).get? (s.heap.objs.size + 1)=some (PySem.W.instObj C s.heap.objs.size):=by
  have:=Heap.get?_push_size (s.heap.push PySem.W.emptyDict) (o:=PySem.W.instObj C s.heap.objs.size) rfl
  rwa [Heap.size_push] at this
 have e3:(s.heap.push PySem.W.emptyDict).Ns s.heap.objs.size (fun _=>none):=⟨PySem.W.emptyDict,#[],_,e1,rfl,(fun e he=>absurd he (by simp)),fun _=>rfl⟩
 have I1:=I.laid (a:=s.heap.objs.size) (o := .own (s.heap.objs.size + 1)) (h':=s.heap.push PySem.W.emptyDict) (t':=s.toks) (fun b u q=>Heap.get?_push_of_some _ q) (Nat.le_refl _) ⟨_,e1⟩
 refine I1.laid (a:=s.heap.objs.size + 1) (o := .ins C s.heap.objs.size []) (t':=s.toks) (fun b u q=>Heap.get?_push_of_some _ q) (Nat.le_of_eq (Heap.size_push _ _)) ?_
 have ne:s.heap.objs.size≠s.heap.objs.size + 1:=Nat.ne_of_lt (Nat.lt_succ_self _)
 refine ⟨by rw [zb5 ne,za2],Nat.zero_le _,ne,e2,fun _=>none,(Heap.Ns1.of_empty e3).at fun o q=>Heap.get?_push_of_some _ q,fun _=>True.intro,fun y hy=>absurd rfl hy⟩
theorem attr_of {prog:Program} {w:World} {env:Env} {e:Expr} {f:Str} {pos:Pos} {s:Shared} {Q:Value→Shared→Prop} (hb:attributeBase e f env (eval e env)=eval e env)
  (h:wpAny (model prog w) A (eval e env) (fun o s₁=>wpAny (model prog w) A (getAttr o f true) Q E s₁) E s):wpAny (model prog w) A (eval (.Attribute e f pos) env) Q E s :=
 Attribute_any_ h (by rw [arm_eval_Attribute,hb])
end
def tFld (K:PySem.W.Frag) (ta:TE) (f:Str):TE:=fun σ H Q=>ta σ H fun x H1=>∃ a C dx fs v,x = .ref a∧H1 a=some (.ins C dx fs)∧Cls K C∧NoAttr K C f∧fs.lookup f=some v∧Q v H1
def sFld (K:PySem.W.Frag) (ta tv:TE) (f:Str):TS:=fun D σ H=>tv σ H fun y H1=>ta σ H1 fun x H2=>∃ a C dx fs,x = .ref a∧H2 a=some (.ins C dx fs)∧Cls K C∧NoAttr K C f∧fs.length < 1000 ∧
 D.nx σ (upd H2 a (.ins C dx (putF f y fs)))
section
variable {X:Cx} {o e value:Expr} {f:Str} {pos pos' tpos:Pos} {ta tv:TE}
theorem pe_fld (he:PE X e ta) (hb:attributeBase e f X.env (eval e X.env)=eval e X.env):PE X (.Attribute e f pos) (tFld X.K ta f):=by
 intro pins s σ H Q I h
 refine attr_of hb (thn (he pins s σ H _ I h) fun u s1 ⟨x,H1,I1,rx,a,C,dx,fs,v,ex,ea,c,n,l,q⟩=>?_)
 subst ex
 obtain rfl:u=Value.ref a:=rx
 exact getattr_ok I1 ea c n l fun u' s2 I2 ru=>⟨v,H1,I2,ru,q⟩
theorem zd6 (ha:PE X o ta) (hv:PE X value tv) (hs:swapsWith value (some (.Attribute o f pos')) pos.line X.env=pure false):PS X (.Assign [.Attribute o f pos'] value pos) (sFld X.K ta tv f):=by
 intro pins s σ H D I h
 refine plainObj_wpAny_Assign_Attribute (thn (hv pins s σ H _ I h) fun u s1 ⟨y,H1,I1,ry,q⟩=>thn (ha pins s1 σ H1 _ I1 q) fun ov s2 ⟨x,H2,I2,rx,a,C,dx,fs,ex,ea,c,n,l,q2⟩=>?_) hs
 subst ex
 obtain rfl:ov=Value.ref a:=rx
 exact setattr_ok I2 ea c n l ry fun s3 I3=>⟨σ,_,I3,q2⟩
end
section
variable {X:Cx} {pins:List (Addr×Obj)} {σ:St} {H:Hp} {s:Shared} {A:Around} {E:Value→Shared→Prop} {Q:Value→Shared→Prop} {c:Value} {b:Bool}
inductive TyOf (K:PySem.W.Frag) (H:Hp):V→Value→Prop where
 | non:TyOf K H .non (.type "NoneType")
 | bl (x:Bool):TyOf K H (.bl x) (.type "bool")
 | int (i:Int):TyOf K H (.int i) (.type "int")
 | str (x:Str):TyOf K H (.str x) (.type "str")
 | flt (x:UInt64):TyOf K H (.flt x) (.type "float")
 | lst {a:Addr} {xs:List V} (e:H a=some (.lst xs)):TyOf K H (.ref a) (.type "list")
 | frz {a:Addr} {o:Obj} {xs:List V} (e:H a=some (.frz o (.lst xs))):TyOf K H (.ref a) (.type "list")
 | tup {a:Addr} {xs:List V} (e:H a=some (.tup xs)):TyOf K H (.ref a) (.type "tuple")
 | dK {a:Addr} {kvs:List (Key×V)} (e:H a=some (.dK kvs)):TyOf K H (.ref a) (.type "dict")
 | dT {a:Addr} {kvs:List (List Key×V)} (e:H a=some (.dT kvs)):TyOf K H (.ref a) (.type "dict")
 | ins {a C dx:Addr} {fs:List (Str×V)} (e:H a=some (.ins C dx fs)) (cl:Cls K C) (ha:PySem.W.findIn K (.ref C) "__class__" = some (some (.builtin "object.__class__")))
   (hn:PySem.W.specialIn K (.builtin "object.__class__") "__get__" = some (some (.builtin "getset_descriptor.__get__"))) (htk:PySem.W.takesIn K (.builtin "object.__class__")=some true)
   (hm:PySem.W.mroIn K C (.type "object")=some true):TyOf K H (.ref a) (.ref C)
theorem isinst_ok {x:V} {u t:Value} (I:Inv X pins σ H s) (rx:RelV x u) (ty:TyOf X.K H x t) (e:PySem.W.kitOne X.K t c=some b) (h:∀ tk,Q (.bool b) { s with toks:=tk }) :
  wpAny (model X.prog X.w) A (call (.builtin "isinstance") [u,c]) Q E s:=by
 cases ty with
 | non=>cases (show u=Value.none from rx);exact PySem.W.kia_one PySem.W.kitx_none I.kIn True.intro e (fun z=>nomatch z) h
 | bl y=>cases (show u=Value.bool y from rx);exact PySem.W.kia_one PySem.W.kitx_bool I.kIn True.intro e (fun z=>nomatch z) h
 | int i=>obtain ⟨t,q⟩:=(show ∃ t,u=Value.int i t from rx);cases q;exact PySem.W.kia_one PySem.W.kitx_int I.kIn True.intro e (fun z=>nomatch z) h
 | str y=>obtain ⟨t,q⟩:=(show ∃ t,u=Value.str y t from rx);cases q;exact PySem.W.kia_one PySem.W.kitx_str I.kIn True.intro e (fun z=>nomatch z) h
 | flt y=>obtain ⟨t,q⟩:=(show ∃ t,u=Value.float y t from rx);cases q;exact PySem.W.kia_one PySem.W.kitx_float I.kIn True.intro e (fun z=>nomatch z) h
 | @lst a xs ea =>
  cases (show u=Value.ref a from rx)
  obtain ⟨_,_,n,_,h1⟩:=(show ObjOk X.prog X.w H s.heap a (.lst xs) from I.hok a _ ea)
  exact PySem.W.kia_one PySem.W.kitx_list I.kIn ⟨_,h1,rfl⟩ e (fun z=>nomatch z) h
 | @frz a ob xs ea =>
  cases (show u=Value.ref a from rx)
  obtain ⟨_,_,_,n,_,h1⟩:=(show ObjOk X.prog X.w H s.heap a (.frz ob (.lst xs)) from I.hok a _ ea)
  exact PySem.W.kia_one PySem.W.kitx_list I.kIn ⟨_,h1,rfl⟩ e (fun z=>nomatch z) h
 | @tup a xs ea =>
  cases (show u=Value.ref a from rx)
  obtain ⟨_,_,_,p⟩:=(show ObjOk X.prog X.w H s.heap a (.tup xs) from I.hok a _ ea)
  obtain ⟨o,h1,h2,_⟩:=p
  exact PySem.W.kia_one PySem.W.kitx_tuple I.kIn ⟨o,h1,h2⟩ e (fun z=>nomatch z) h
 | @dK a kvs ea =>
  cases (show u=Value.ref a from rx)
  obtain ⟨_,_,vs,_,p⟩:=(show ObjOk X.prog X.w H s.heap a (.dK kvs) from I.hok a _ ea)
  obtain ⟨o,es,ep,h1,h2,_⟩:=p
  exact PySem.W.kia_one PySem.W.kitx_dict I.kIn ⟨o,h1,h2.1⟩ e (fun z=>nomatch z) h
 | @dT a kvs ea =>
  cases (show u=Value.ref a from rx)
  obtain ⟨_,_,xs,_,o,es,ep,h1,h2,_⟩:=(show ObjOk X.prog X.w H s.heap a (.dT kvs) from I.hok a _ ea)
  exact PySem.W.kia_one PySem.W.kitx_dict I.kIn ⟨o,h1,h2.1⟩ e (fun z=>nomatch z) h
 | @ins a C dx fs ea cl ha hn htk hm =>
  cases (show u=Value.ref a from rx)
  obtain ⟨mA,O,_⟩:=xd9 I.hok ea
  obtain ⟨od,J,_⟩:=O.look
  exact PySem.W.kia_one (PySem.W.kitx_own (cl.get _) cl.hd ha hn htk hm) I.kIn J e (fun z=>nomatch z) h
end
end L2
namespace L2
open PySem PySem.Spec PyProof.Rows
structure Room (k:Nat) (A:Around):Prop where
 hd:A.handled=none
 dp:A.depth + 3 * k + 5 < recursionLimit
 un:A.units + 16 * k + 200 < cLine
theorem Room.mono {j k:Nat} {A:Around} (r:Room k A) (h:j≤k):Room j A:=⟨r.hd,by have:=r.dp;omega,by have:=r.un;omega⟩
theorem Room.deeper {k:Nat} {A:Around} (r:Room (k + 1) A) (env:Env):Room k (A.deeper env) :=
 ⟨r.hd,by have:=r.dp;show A.depth + 1 + 3 * k + 5 < _;omega,by have:=r.un;show A.units + 3 + 16 * k + 200 < _;omega⟩
theorem make_depth {A:Around} {C:Addr} {us:List Value} {kw:List (Str×Value)}:(A.under (.builtin "type.__call__" ⟨.ref C :: us,kw⟩)).depth=A.depth + 1:=by
 first | rfl | simp [Around.under,Code.weight,Code.isCreation,Code.isGuard,Code.isCaller,Code.frames,Code.isFrame,guardIds]
theorem make_units {A:Around} {C:Addr} {us:List Value} {kw:List (Str×Value)}:(A.under (.builtin "type.__call__" ⟨.ref C :: us,kw⟩)).units=A.units + 1:=by
 first | rfl | simp [Around.under,Code.cUnits,Code.frames,Code.isFrame]
theorem Room.make {k:Nat} {A:Around} (r:Room (k + 1) A) (C:Addr) (us:List Value) (kw:List (Str×Value)):Room k (A.under (.builtin "type.__call__" ⟨.ref C :: us,kw⟩)) :=
 ⟨r.hd,by have:=r.dp;rw [make_depth];omega,by have:=r.un;rw [make_units];omega⟩
theorem Room.depth {k:Nat} {A:Around} (r:Room k A):A.depth < recursionLimit:=by have:=r.dp;omega
theorem Room.units {k:Nat} {A:Around} (r:Room k A):A.units + 64 < cLine:=by have:=r.un;omega
def tNil:TA:=fun _ H Q=>Q [] H
def tCons (ta:TE) (tr:TA):TA:=fun σ H Q=>ta σ H fun x H1=>tr σ H1 fun xs H2=>Q (x :: xs) H2
section
variable {X:Cx} {e:Expr} {es:List Expr} {te:TE} {t:TA} {pos:Pos}
theorem za3:PA X [] tNil:=fun _ _ _ _ H Q I h=>Calls.spliced_nil ⟨[],H,I,.nil,h⟩
theorem za0 (ha:PE X e te) (hr:PA X es t) (hs:starEach (e :: es) X.env=(false,eval e X.env) :: starEach es X.env:=by rfl):PA X (e :: es) (tCons te t):=by
 intro pos pins s σ H Q I h
 rw [hs]
 show wpAny _ _ (spliced ((false,eval e X.env) :: backTo pos (starEach es X.env))) _ _ s
 refine Calls.spliced_cons (thn (ha pins s σ H _ I h) fun u s1 ⟨x,H1,I1,r1,q1⟩=>?_)
 exact thn (hr pos pins s1 σ H1 _ I1 q1) fun us s2 ⟨xs,H2,I2,r2,q2⟩=>⟨x :: xs,H2,I2,.cons r1 r2,q2⟩
def tTup (t:TA):TE:=fun σ H Q=>t σ H fun xs H1=>xs.length≤sizeLine∧∀ p,H1 p=none→Q (.ref p) (upd H1 p (.tup xs))
def tLst (t:TA):TE:=fun σ H Q=>t σ H fun xs H1=>xs.length≤sizeLine∧∀ p,H1 p=none→Q (.ref p) (upd H1 p (.lst xs))
theorem pe_tup {x1} (h:PA X es t):PE X (.Tuple es x1 pos) (tTup t):=by
 intro pins s σ H Q I hq
 refine wpAny_Tuple_spliced (thn (h pos pins s σ H _ I hq) fun us s1 ⟨xs,H1,I1,r,z,q⟩=>⟨by rw [← r.length];exact z,?_⟩)
 have hf:H1 s1.heap.objs.size=none:=I1.hok.fresh (Nat.le_refl _)
 refine ⟨.ref s1.heap.objs.size,upd H1 s1.heap.objs.size (.tup xs),I1.laid (t':=s1.toks) (fun b u e=>Heap.get?_push_of_some _ e) (Nat.le_refl _) ?_,rfl,q _ hf⟩
 exact ⟨z,us,r,⟨_,Heap.get?_push_size _ rfl,rfl,_,rfl⟩⟩
theorem zb7 (h:PA X es t):PE X (.List es pos) (tLst t):=by
 intro pins s σ H Q I hq
 refine wpAny_List_spliced (thn (h pos pins s σ H _ I hq) fun us s1 ⟨xs,H1,I1,r,z,q⟩=>⟨by rw [← r.length];exact z,?_⟩)
 have hf:H1 s1.heap.objs.size=none:=I1.hok.fresh (Nat.le_refl _)
 refine ⟨.ref s1.heap.objs.size,upd H1 s1.heap.objs.size (.lst xs),I1.laid (t':=s1.toks) (fun b u e=>Heap.get?_push_of_some _ e) (Nat.le_refl _) ?_,rfl,q _ hf⟩
 exact ⟨z,us,0,r,Heap.get?_push_size _ rfl⟩
end
abbrev Sp:=List V→Hp→VK→XK→Prop
abbrev CXT:=List Env→Hp→Shared→XK→Value→Shared→Prop
structure Env0 (P:Program) (w:World) (K:PySem.W.Frag) (mg:Str→Option Value) (base:Heap) (A:Around) (outer:List Env) (s:Shared) (H:Hp):Prop where
 frames:A.frames=some outer
 mod:Mod K mg base
 bs:∀ b o,base.get? b=some o→s.heap.get? b=some o∧H b=none
 bsz:base.objs.size≤s.heap.objs.size
 funs:s.heap.FunFrames base outer
 frf:∀ b∈frs outer,H b=none
 hok:HOk P w H s.heap
 bare:AllBare s.gens
def CE (outer:List Env) (P:Program) (w:World) (H:Hp) (s:Shared) (Q:VK) (u:Value) (s':Shared):Prop :=
 ∃ v H',s'.os=s.os∧AllBare s'.gens∧Un (frs outer) [] H H' s.heap s'.heap∧HOk P w H' s'.heap∧RelV v u∧Q v H'
def CR (CX:CXT) (outer:List Env) (P:Program) (w:World) (H:Hp) (s:Shared) (Q:VK) (E:XK) (r:Result) (s':Shared):Prop :=
 match r with
 | .ok (.ret u)=>CE outer P w H s Q u s'
 | .ok _=>False
 | .error e=>CX outer H s E e s'
structure FnOk (P:Program) (w:World) (K:PySem.W.Frag) (mg:Str→Option Value) (base:Heap) (CX:CXT) (k:Nat) (f:Addr) (fd:FuncData) (ps:List Str) (sp:Sp):Prop where
 len:∀ vs H Q E,sp vs H Q E→vs.length=ps.length
 run:∀ (A:Around) (outer:List Env) (s:Shared) (H:Hp) (args:Args) (us:List Value) (vs:List V) (Q:VK) (E:XK),Room k A→Env0 P w K mg base A outer s H→BindsTo s fd args (ps.zip us)→Vals vs us→sp vs H Q E →
  codeAny (model P w) A (.call (.ref f) args) (CR CX outer P w H s Q E) s
theorem Env0.make {P:Program} {w:World} {K:PySem.W.Frag} {mg:Str→Option Value} {base:Heap} {A:Around} {outer:List Env} {s:Shared} {H:Hp} (e:Env0 P w K mg base A outer s H) (C:Addr) (us:List Value) (kw:List (Str×Value)) :
  Env0 P w K mg base (A.under (.builtin "type.__call__" ⟨.ref C :: us,kw⟩)) outer s H:=⟨by first | exact e.frames | (simpa [Around.under,Code.envs,Code.isFrame,pushEnvs] using e.frames),e.mod,e.bs,e.bsz,e.funs,e.frf,e.hok,e.bare⟩
section
variable {X:Cx} {pins:List (Addr×Obj)} {σ:St} {H:Hp} {s s':Shared}
theorem Inv.env0 (I:Inv X pins σ H s):Env0 X.prog X.w X.K X.mg X.base X.A X.stack s H :=
 ⟨I.ok.frames,I.ok.mod,I.bs,Nat.le_trans I.ok.bsz I.sz,I.stack,I.stkFree,I.hok,I.bare⟩
theorem Inv.after {Q:VK} {u:Value} (I:Inv X pins σ H s) (h:CE X.stack X.prog X.w H s Q u s'):EP X pins σ Q u s':=by
 obtain ⟨v,H',os,bare,un,hok,r,q⟩:=h
 obtain ⟨hh,g,d,t,os'⟩:=s'
 obtain rfl:os'=s.os:=os
 exact ⟨v,H',I.call (h':=hh) (g':=g) (d':=d) (t':=t) (ch:=[]) un hok bare (fun b z=>absurd z (by simp)),r,q⟩
end
def tCall (sp:Sp) (dvs:List V) (E:XK) (t:TA):TE:=fun σ H Q=>t σ H fun vs H1=>sp (vs++dvs) H1 Q E
def tMeth (C:Addr) (m:Str) (sp:Sp) (dvs:List V) (E:XK) (ta:TE) (t:TA):TE:=fun σ H Q=>ta σ H fun x H1=>∃ a dx fs,x = .ref a∧H1 a=some (.ins C dx fs)∧fs.lookup m=none ∧
 t σ H1 fun vs H2=>sp (x :: (vs++dvs)) H2 Q E
def tMake (C:Addr) (sp:Sp) (dvs:List V) (E:XK) (t:TA):TE:=fun σ H Q=>t σ H fun vs H1=>∀ x dx,H1 x=none→H1 dx=none→dx≠x →
 sp (.ref x :: (vs++dvs)) (upd (upd H1 dx (.own x)) x (.ins C dx [])) (fun v H2=>v = .non∧Q (.ref x) H2) E
def Binds (K:PySem.W.Frag) (fd:FuncData) (ps:List Str) (ds:List Value):Prop :=
 ∀ (s:Shared) (us:List Value),K.In s.heap→(us++ds).length=ps.length→BindsTo s fd ⟨us,[]⟩ (ps.zip (us++ds))
theorem Binds.all {K:PySem.W.Frag} {fd:FuncData} {ps:List Str} (h:∀ us:List Value,us.length=ps.length→bindArgs fd ⟨us,[]⟩=pure (ps.zip us)):Binds K fd ps []:=fun s us _ hl=>by
 rw [List.append_nil] at hl ⊢
 exact .of_eq (h us hl)
def Passes (CX:CXT) (X:Cx) (E:XK):Prop:=∀ (pins:List (Addr×Obj)) (σ:St) (H:Hp) (s:Shared) (e:Value) (s':Shared),Inv X pins σ H s→CX X.stack H s E e s'→X.xe e s'
section
variable {X:Cx} {CX:CXT} {k:Nat} {f C:Addr} {fd:FuncData} {ps:List Str} {sp:Sp} {dvs:List V} {ds:List Value} {E:XK} {x m:Str} {p pos apos:Pos} {e o:Expr} {es:List Expr} {ta:TE} {t:TA}
theorem run_fn {pins:List (Addr×Obj)} {σ:St} {H:Hp} {s:Shared} {Q:VK} {us:List Value} {vs:List V} (F:FnOk X.prog X.w X.K X.mg X.base CX k f fd ps sp) (hr:Room k X.A) (hb:Binds X.K fd ps ds) (hd:Vals dvs ds) (hx:Passes CX X E)
  (I:Inv X pins σ H s) (r:Vals vs us) (h:sp (vs++dvs) H Q E):wpAny (model X.prog X.w) X.A (call (.ref f) us) (EP X pins σ Q) X.xe s:=by
 have r2:Vals (vs++dvs) (us++ds):=r.append hd
 have hl:(us++ds).length=ps.length:=by rw [← r2.length];exact F.len _ _ _ _ h
 refine wpAny_call (codeAny_mono (F.run X.A X.stack s H ⟨us,[]⟩ (us++ds) (vs++dvs) Q E hr I.env0 (hb s us I.kIn hl) r2 h) fun r s' hq=>?_)
 cases r with
 | error e=>exact hx pins σ H s e s' I hq
 | ok fl =>
  cases fl with
  | ret u=>exact I.after hq
  | next=>exact False.elim hq
  | brk=>exact False.elim hq
  | cont=>exact False.elim hq
theorem pe_call (F:FnOk X.prog X.w X.K X.mg X.base CX k f fd ps sp) (hr:Room k X.A) (hg:Gl X x) (hm:X.mg x=some (.ref f)) (hk:PySem.W.keepIn X.K (.ref f)=true) (hb:Binds X.K fd ps ds) (hd:Vals dvs ds) (hx:Passes CX X E)
  (ha:PA X (e :: es) t) (hdb:(x == ("__debug__" : Str))=false:=by decide) (he:starEach (e :: es) X.env=(false,eval e X.env) :: starEach es X.env:=by rfl) (hpl:(backTo pos (starEach es X.env)).any (·.1)=false:=by rfl) :
  PE X (.Call (.Name x p) (e :: es) [] pos) (tCall sp dvs E t):=by
 intro pins s σ H Q I h
 refine wpAny_Call_Name_kw (xd7 I hg hm ?_ hdb)
 refine PySem.W.callWith_K (h₀:=X.base) I.ok.mod.kin hk (thn (ha pos pins s σ H _ I h) fun us s1 ⟨vs,H1,I1,r,q⟩=>⟨I1.kIn,?_⟩) he hpl
 exact run_fn F hr hb hd hx I1 r q
theorem pe_meth {pl:Sem Bool} (he:PE X o ta) (c:Cls X.K C) (hm:Meth X.K C m f) (F:FnOk X.prog X.w X.K X.mg X.base CX k f fd ps sp) (hr:Room k X.A) (hb:Binds X.K fd ps ds) (hd:Vals dvs ds) (hx:Passes CX X E) (ha:PA X (e :: es) t)
  (hst:starEach (e :: es) X.env=(false,eval e X.env) :: starEach es X.env:=by rfl) (hpl:(backTo pos (starEach es X.env)).any (·.1)=false:=by rfl)
  (ht:eval (.Call (.Attribute o m apos) (e :: es) [] pos) X.env=(do
   let ov ← eval o X.env
   standAt apos.atName
   let (f,first) ← holding [ov] (getMethod ov m pl)
   callWith pos f first (backTo pos (starEach (e :: es) X.env)) (backToKw pos (keywordEach [] X.env))):=by rfl) :
  PE X (.Call (.Attribute o m apos) (e :: es) [] pos) (tMeth C m sp dvs E ta t):=by
 intro pins s σ H Q I h
 refine PySem.W.methodCall_KW (pl:=pl) (thn (he pins s σ H _ I h) fun u s1 ⟨x,H1,I1,rx,a,dx,fs,ex,ea,l,q⟩=>?_) ht
 subst ex
 obtain rfl:u=Value.ref a:=rx
 refine yz4 I1 ea c hm l ?_
 refine PySem.W.callWith_K (first:=[.ref a]) (h₀:=X.base) I.ok.mod.kin hm.kp (thn (ha pos pins s1 σ H1 _ I1 q) fun us s2 ⟨vs,H2,I2,r,q2⟩=>⟨I2.kIn,?_⟩) hst hpl
 exact run_fn (us := .ref a :: us) (vs := .ref a :: vs) F hr hb hd hx I2 (.cons rfl r) q2
theorem pe_meth0 {pl:Sem Bool} (he:PE X o ta) (c:Cls X.K C) (hm:Meth X.K C m f) (F:FnOk X.prog X.w X.K X.mg X.base CX k f fd ps sp) (hr:Room k X.A) (hb:Binds X.K fd ps ds) (hd:Vals dvs ds) (hx:Passes CX X E)
  (ht:eval (.Call (.Attribute o m apos) [] [] pos) X.env=(do
   let ov ← eval o X.env
   standAt apos.atName
   let (f,first) ← holding [ov] (getMethod ov m pl)
   callWith pos f first (backTo pos (starEach [] X.env)) (backToKw pos (keywordEach [] X.env))):=by rfl) :
  PE X (.Call (.Attribute o m apos) [] [] pos) (tMeth C m sp dvs E ta tNil):=by
 intro pins s σ H Q I h
 refine PySem.W.methodCall_KW (pl:=pl) (thn (he pins s σ H _ I h) fun u s1 ⟨x,H1,I1,rx,a,dx,fs,ex,ea,l,q⟩=>?_) ht
 subst ex
 obtain rfl:u=Value.ref a:=rx
 refine yz4 I1 ea c hm l ?_
 exact PySem.W.callWith_K0 (first:=[.ref a]) I1.kIn hm.kp (run_fn (us:=[.ref a]) (vs:=[.ref a]) F hr hb hd hx I1 (.cons rfl .nil) q)
structure Mk (K:PySem.W.Frag) (C f:Addr):Prop where
 makes:PySem.W.makesIn K C=true
 init:PySem.W.findIn K (.ref C) "__init__" = some (some (.ref f))
 fn:PySem.W.isFn K (.ref f)=true
 kp:PySem.W.keepIn K (.ref C)=true
theorem run_make {pins:List (Addr×Obj)} {σ:St} {H:Hp} {s:Shared} {Q:VK} {us:List Value} {vs:List V} (M:Mk X.K C f) (F:FnOk X.prog X.w X.K X.mg X.base CX k f fd ps sp) (hr:Room (k + 1) X.A) (hb:Binds X.K fd ps ds) (hd:Vals dvs ds)
  (hx:Passes CX X E) (I:Inv X pins σ H s) (r:Vals vs us)
  (h:∀ x dx,H x=none→H dx=none→dx≠x→sp (.ref x :: (vs++dvs)) (upd (upd H dx (.own x)) x (.ins C dx [])) (fun v H2=>v = .non∧Q (.ref x) H2) E) :
  wpAny (model X.prog X.w) X.A (call (.ref C) us) (EP X pins σ Q) X.xe s:=by
 have hq:=h (s.heap.objs.size + 1) s.heap.objs.size (I.hok.fresh (Nat.le_succ _)) (I.hok.fresh (Nat.le_refl _)) (Nat.ne_of_lt (Nat.lt_succ_self _))
 have I2:=Inv.made (C:=C) I
 have r2:Vals (V.ref (s.heap.objs.size + 1) :: (vs++dvs)) (Value.ref (s.heap.objs.size + 1) :: (us++ds)) := .cons rfl (r.append hd)
 have hl:(Value.ref (s.heap.objs.size + 1) :: us++ds).length=ps.length:=by
  have e:=r2.length
  rw [F.len _ _ _ _ hq] at e
  exact e.symm
 refine wpAny_call (make_map (f:=f) I.kIn M.makes M.init (beq_iff_eq.mp M.fn) (codeAny_mono (F.run _ X.stack _ _ ⟨Value.ref (s.heap.objs.size + 1) :: us,[]⟩ (Value.ref (s.heap.objs.size + 1) :: (us++ds)) _ _ E (hr.make C us [])
  (I2.env0.make C us []) (hb _ (Value.ref (s.heap.objs.size + 1) :: us) I2.kIn hl) r2 hq) fun r s' hq'=>?_))
 cases r with
 | error e=>exact hx pins σ _ _ e s' I2 hq'
 | ok fl =>
  cases fl with
  | ret u =>
   obtain ⟨v,H',I3,rv,ev,q3⟩:=I2.after hq'
   subst ev
   exact ⟨rv,⟨V.ref (s.heap.objs.size + 1),H',I3,rfl,q3⟩⟩
  | next=>exact False.elim hq'
  | brk=>exact False.elim hq'
  | cont=>exact False.elim hq'
theorem pe_make (M:Mk X.K C f) (F:FnOk X.prog X.w X.K X.mg X.base CX k f fd ps sp) (hr:Room (k + 1) X.A) (hg:Gl X x) (hm:X.mg x=some (.ref C)) (hb:Binds X.K fd ps ds) (hd:Vals dvs ds) (hx:Passes CX X E)
  (ha:PA X (e :: es) t) (hdb:(x == ("__debug__" : Str))=false:=by decide) (he:starEach (e :: es) X.env=(false,eval e X.env) :: starEach es X.env:=by rfl) (hpl:(backTo pos (starEach es X.env)).any (·.1)=false:=by rfl) :
  PE X (.Call (.Name x p) (e :: es) [] pos) (tMake C sp dvs E t):=by
 intro pins s σ H Q I h
 refine wpAny_Call_Name_kw (xd7 I hg hm ?_ hdb)
 refine PySem.W.callWith_K (h₀:=X.base) I.ok.mod.kin M.kp (thn (ha pos pins s σ H _ I h) fun us s1 ⟨vs,H1,I1,r,q⟩=>⟨I1.kIn,?_⟩) he hpl
 exact run_make M F hr hb hd hx I1 r q
theorem pe_make0 (M:Mk X.K C f) (F:FnOk X.prog X.w X.K X.mg X.base CX k f fd ps sp) (hr:Room (k + 1) X.A) (hg:Gl X x) (hm:X.mg x=some (.ref C)) (hb:Binds X.K fd ps ds) (hd:Vals dvs ds) (hx:Passes CX X E)
  (hdb:(x == ("__debug__" : Str))=false:=by decide):PE X (.Call (.Name x p) [] [] pos) (tMake C sp dvs E tNil):=by
 intro pins s σ H Q I h
 refine wpAny_Call_Name_kw (xd7 I hg hm ?_ hdb)
 exact PySem.W.callWith_K0 I.kIn M.kp (run_make (us:=[]) M F hr hb hd hx I .nil h)
end
def PK (X:Cx) (kws:List Keyword) (t:TA):Prop :=
 ∀ (pos:Pos) (pins:List (Addr×Obj)) (s:Shared) (σ:St) (H:Hp) (Q:List V→Hp→Prop),Inv X pins σ H s→t σ H Q→wpAny (model X.prog X.w) X.A (evalAll ((backToKw pos (keywordEach kws X.env)).map (·.2))) (AP X pins σ Q) X.xe s
section
variable {X:Cx} {CX:CXT} {k:Nat} {f C:Addr} {fd:FuncData} {ps ks:List Str} {sp:Sp} {E:XK} {x m:Str} {p pos apos kpos:Pos} {e o:Expr} {es:List Expr} {kws:List Keyword} {te ta:TE} {t tk:TA} {nm:Option Str}
theorem pk_nil:PK X [] tNil:=fun _ _ _ _ H Q I h=>wpAny_evalAll_nil ⟨[],H,I,.nil,h⟩
theorem pk_cons (ha:PE X e te) (hr:PK X kws t):PK X (⟨nm,e,kpos⟩ :: kws) (tCons te t):=by
 intro pos pins s σ H Q I h
 show wpAny _ _ (evalAll ((do let v ← eval e X.env;standAt pos;pure v) :: (backToKw pos (keywordEach kws X.env)).map (·.2))) _ _ s
 refine wpAny_evalAll_cons (wpAny_bind (thn (ha pins s σ H _ I h) fun u s1 ⟨x,H1,I1,r1,q1⟩=>wpAny_bind (wpAny_standAt (wpAny_pure ?_))))
 exact thn (hr pos pins s1 σ H1 _ I1 q1) fun us s2 ⟨xs,H2,I2,r2,q2⟩=>⟨x :: xs,H2,I2,.cons r1 r2,q2⟩
variable {g:List Value→List Value→List Value} {gV:List V→List V→List V}
end
structure FnScope (N P:List Str) (sc:Scope):Prop where
 kind:sc.kind = .function
 co:sc.isCoroutine=false
 gen:sc.isGenerator=false
 nd:N.Nodup
 pre:N.take P.length=P
 par:∀ x∈P,sc.names.lookup x=some .local∨sc.names.lookup x=some .cell
 nofree:∀ y∈sc.names,y.2 ≠ .free
theorem bindL_out {kindOf:Str→Option NameKind} {x:Str}:∀ {binds:List (Str×Value)} {m:Str→Option Value},(∀ v,(x,v) ∉ binds)→bindL kindOf binds m x=m x
 | [],_,_=>rfl
 | (n,v) :: r,m,h=>by
  unfold bindL
  rw [bindL_out fun w hw=>h w (List.mem_cons_of_mem _ hw)]
  split
  ·have:x≠n:=by rintro rfl;exact h v List.mem_cons_self
   simp [this]
  ·rfl
theorem bindC_out {kindOf:Str→Option NameKind} {x:Str}:∀ {binds:List (Str×Value)} {m:Str→Option Value},(∀ v,(x,v) ∉ binds)→bindC kindOf binds m x=m x
 | [],_,_=>rfl
 | (n,v) :: r,m,h=>by
  unfold bindC
  rw [bindC_out fun w hw=>h w (List.mem_cons_of_mem _ hw)]
  split
  ·rfl
  ·have:x≠n:=by rintro rfl;exact h v List.mem_cons_self
   simp [this]
theorem bindL_get {kindOf:Str→Option NameKind} {x:Str} {v:Value}:∀ {P:List Str} {vs:List Value} {i:Nat} {m:Str→Option Value},P.Nodup→P[i]?=some x→vs[i]?=some v→kindOf x=some .local →
  bindL kindOf (P.zip vs) m x=some v
 | [],_,_,_,_,h,_,_=>by simp at h
 | _ :: _,[],_,_,_,_,h,_=>by simp at h
 | p :: P,w :: vs,0,m,nd,h1,h2,hk=>by
  simp at h1 h2;subst h1;subst h2
  show bindL kindOf ((p,w) :: P.zip vs) m p=_
  unfold bindL
  rw [bindL_out fun v hv=>(List.nodup_cons.mp nd).1 (List.of_mem_zip hv).1,if_pos hk]
  simp
 | p :: P,w :: vs,i + 1,m,nd,h1,h2,hk=>by
  show bindL kindOf ((p,w) :: P.zip vs) m x=_
  unfold bindL
  exact bindL_get (i:=i) (List.nodup_cons.mp nd).2 (by simpa using h1) (by simpa using h2) hk
theorem bindC_get {kindOf:Str→Option NameKind} {x:Str} {v:Value}:∀ {P:List Str} {vs:List Value} {i:Nat} {m:Str→Option Value},P.Nodup→P[i]?=some x→vs[i]?=some v→kindOf x≠some .local →
  bindC kindOf (P.zip vs) m x=some v
 | [],_,_,_,_,h,_,_=>by simp at h
 | _ :: _,[],_,_,_,_,h,_=>by simp at h
 | p :: P,w :: vs,0,m,nd,h1,h2,hk=>by
  simp at h1 h2;subst h1;subst h2
  show bindC kindOf ((p,w) :: P.zip vs) m p=_
  unfold bindC
  rw [bindC_out fun v hv=>(List.nodup_cons.mp nd).1 (List.of_mem_zip hv).1,if_neg hk]
  simp
 | p :: P,w :: vs,i + 1,m,nd,h1,h2,hk=>by
  show bindC kindOf ((p,w) :: P.zip vs) m x=_
  unfold bindC
  exact bindC_get (i:=i) (List.nodup_cons.mp nd).2 (by simpa using h1) (by simpa using h2) hk
def start (N:List Str) (vs:List V):St:=vs.map some++List.replicate (N.length - vs.length) none
def cxOf (CX:CXT) (P:Program) (w:World) (K:PySem.W.Frag) (mg:Str→Option Value) (base:Heap) (N:List Str) (qual:Str) (scope:Scope) (f:Addr) (cd:Value) (A:Around) (outer:List Env) (s:Shared) (H:Hp) (E:XK):Cx where
 prog:=P
 w:=w
 K:=K
 mg:=mg
 base:=base
 A:=A.deeper (envOfC qual scope s.heap.objs.size f cd)
 N:=N
 s_0:=s
 H_0:=H
 env:=envOfC qual scope s.heap.objs.size f cd
 outer:=outer
 stack:=envOfC qual scope s.heap.objs.size f cd :: outer
 ex:=[]
 calm:=true
 fn:=fun _=>true
 pn:=[]
 xe:=fun e s'=>wpAny (model P w) (A.deeper (envOfC qual scope s.heap.objs.size f cd)) (leaving (envOfC qual scope s.heap.objs.size f cd) e) (fun _ s''=>CX outer H s E e s'') (fun e' s''=>CX outer H s E e' s'') s'
theorem cell_has {sc:Scope} {n:Nat} {x:Str} (h:sc.names.lookup x=some .cell):∃ c,(cellsFrom n sc.names []).lookup x=some c:=by
 have q:=PySem.W.cellsFrom_some sc.names n [] (.inl h)
 exact Option.isSome_iff_exists.mp q
theorem inv_start {CX:CXT} {P:Program} {w:World} {K:PySem.W.Frag} {mg:Str→Option Value} {base:Heap} {N ps:List Str} {qual:Str} {scope:Scope} {f:Addr} {cd:Value} {A:Around} {outer:List Env} {s s1:Shared} {H:Hp} {E:XK} {us:List Value} {vs:List V}
  (S:FnScope N ps scope) (hd:A.handled=none) (e0:Env0 P w K mg base A outer s H) (hl:vs.length=ps.length) (r:Vals vs us)
  (x:InCallC s s.heap.objs.size (bindL (envOfC qual scope s.heap.objs.size f cd).kindOf (ps.zip us) fun _=>none) (cellsFrom (s.heap.objs.size + 1) scope.names []) (bindC (envOfC qual scope s.heap.objs.size f cd).kindOf (ps.zip us) fun _=>none) s1) :
  Inv (cxOf CX P w K mg base N qual scope f cd A outer s H E) [] (start N vs) H s1:=by
 have hpl:ps.length≤N.length:=by have:=congrArg List.length S.pre;rw [List.length_take] at this;omega
 obtain ⟨h1,tk,rfl,hk⟩:=x.done
 have noA:∀ b:Addr,b ∉ (cxOf CX P w K mg base N qual scope f cd A outer s H E).ex:=fun b z=>absurd (show b∈([]:List Addr) from z) (by simp)
 refine ⟨⟨e0.mod,S.kind,rfl,rfl,Nat.le_refl _,fun y z c h1 h2=>?_,fun y hy=>?_,fun y c _ h=>?_,fun _=>hd,Around.frames_deeper e0.frames,.inr ⟨rfl,rfl⟩,fun b z=>absurd z (noA b),e0.bs,e0.bsz,fun b _ _=>noA b,fun b z=>absurd z (noA b),e0.funs,e0.frf⟩,
  rfl,e0.bare,Un.kept hk,⟨_,x.toInCall.ns,fun i y v h1 h2 h3=>?_⟩,fun y c h=>⟨_,x.cell y c h⟩,e0.hok.fresh (Nat.le_refl _),fun y c h=>?_,fun p hp=>absurd (show p∈([]:List (Addr×Obj)) from hp) (by simp),e0.hok.kept hk,?_⟩
 ·exact name_of_addr x.apart (PySem.mem_of_lookup h1) (PySem.mem_of_lookup h2)
 ·have hy:scope.names.lookup y=some .cell∨scope.names.lookup y=some .free:=hy
  rcases hy with hy | hy
  ·exact cell_has hy
  ·exact absurd rfl (S.nofree _ (PySem.mem_of_lookup hy))
 ·exact Nat.le_of_lt (x.above y c (PySem.mem_of_lookup h))
 ·have hi:i < vs.length:=by
   unfold start at h2
   by_cases hi:i < vs.length
   ·exact hi
   ·rw [List.getElem?_append_right (by simpa using hi)] at h2
    rw [List.getElem?_replicate] at h2
    split at h2 <;> cases h2
  have ha:vs[i]?=some v:=by
   unfold start at h2
   rw [List.getElem?_append_left (by simpa using hi),List.getElem?_map] at h2
   cases e:vs[i]? with
   | none=>rw [e] at h2;cases h2
   | some a=>rw [e] at h2;cases h2;rfl
  obtain ⟨u,hu,rv⟩:=r.get ha
  have hp:ps[i]?=some y:=by
   rw [← S.pre,List.getElem?_take_of_lt (by omega)];exact h1
  have ndP:ps.Nodup:=by rw [← S.pre];exact S.nd.sublist (List.take_sublist _ _)
  refine ⟨u,rv,?_⟩
  rcases S.par y (List.mem_of_getElem? hp) with k | k
  ·exact .inl ⟨k,bindL_get ndP hp hu k⟩
  ·obtain ⟨c,e⟩:=cell_has (n:=s.heap.objs.size + 1) k
   refine .inr ⟨.inl k,c,e,?_⟩
   have q:=x.cell y c e
   rw [bindC_get ndP hp hu (by show scope.names.lookup y≠_;rw [k];decide)] at q
   exact q
 ·exact e0.hok.fresh (Nat.le_of_lt (x.above y c (PySem.mem_of_lookup h)))
 ·unfold start
  show _=N.length
  rw [List.length_append,List.length_map,List.length_replicate]
  omega
theorem fn_of {CX:CXT} {P:Program} {w:World} {K:PySem.W.Frag} {mg:Str→Option Value} {base:Heap} {k:Nat} {f:Addr} {name qual:Str} {params:Arguments} {body:List Stmt} {scope:Scope} {dV kV doc pm cdv ct oc:Value} {an od:Option Addr}
  {osl:Array (Option Value)} {N ps:List Str} {sp:Sp} (lk:K.lookup f=some ⟨oc,od,.func (PySem.W.fnOf name qual params body scope dV kV doc pm an cdv ct),osl⟩) (hcd:PySem.W.codeIn K cdv qual=true) (S:FnScope N ps scope)
  (len:∀ vs H Q E,sp vs H Q E→vs.length=ps.length)
  (hbody:∀ (A:Around) (outer:List Env) (s:Shared) (H:Hp) (vs:List V) (Q:VK) (E:XK),Room k (A.deeper (envOfC qual scope s.heap.objs.size f cdv))→sp vs H Q E →
   ∃ t,PSs (cxOf CX P w K mg base N qual scope f cdv A outer s H E) body t∧t { nx:=fun _ H'=>Q .non H',rt:=Q } (start N vs) H) :
  FnOk P w K mg base CX (k + 1) f (PySem.W.fnOf name qual params body scope dV kV doc pm an cdv ct) ps sp:=by
 refine ⟨len,fun A outer s H args us vs Q E hr e0 hb r hsp=>?_⟩
 have hl:=len _ _ _ _ hsp
 have KX:K.In s.heap:=e0.mod.kin.keeps fun b o e=>(e0.bs b o e).1
 have lim:s.heap.NoLimit:=e0.mod.nolimit.keeps fun b o e=>(e0.bs b o e).1
 have hkind:∀ y∈ps.zip us,scope.names.lookup y.1=some .local∨(scope.names.lookup y.1=some .cell∧((cellsFrom (s.heap.objs.size + 1) scope.names []).lookup y.1).isSome=true):=fun ⟨n,v⟩ hy=>by
  rcases S.par n (List.of_mem_zip hy).1 with q | q
  ·exact .inl q
  ·exact .inr ⟨q,PySem.W.cellsFrom_some _ _ _ (.inl q)⟩
 refine codeAny_call_function hr.depth (KX _ _ lk) rfl S.co S.gen rfl (PySem.W.codeRec_of KX hcd) (hb _ _ _ _ ?_)
 refine wpAny_newFunctionEnv_cells S.kind hkind fun env he s1 x=>?_
 subst he
 refine ⟨lim.keeps x.toInCall.keep,codeAny_func ?_⟩
 obtain ⟨t,ht,hq⟩:=hbody A outer s H vs Q E (hr.deeper _) hsp
 have I:Inv (cxOf CX P w K mg base N qual scope f cdv A outer s H E) [] (start N vs) H s1:=inv_start S hr.hd e0 hl r x
 refine wpAny_mono (ht [] s1 (start N vs) H _ I hq) (fun fl s' hs=>?_) fun e s' hs=>hs
 have fin:∀ {σ':St} {H':Hp} {v:V} {u:Value},Inv (cxOf CX P w K mg base N qual scope f cdv A outer s H E) [] σ' H' s'→RelV v u→Q v H'→CE outer P w H s Q u s' :=
  fun {σ' H' v u} J rv q=>⟨v,H',J.os,J.bare,J.base,J.hok,rv,q⟩
 cases fl with
 | ret u =>
  obtain ⟨v,σ',H',J,rv,q⟩:=hs
  exact fin J rv q
 | next =>
  obtain ⟨σ',H',J,q⟩:=hs
  exact fin (v:=V.non) (u:=Value.none) J rfl q
 | brk =>
  obtain ⟨_,_,_,q⟩:=hs
  exact False.elim q
 | cont =>
  obtain ⟨_,_,_,q⟩:=hs
  exact False.elim q
end L2
namespace L2
open PySem PySem.Spec PyProof.Rows
section
variable {X:Cx} {x:Str} {p pos:Pos} {e:Expr} {es:List Expr} {t:TA} {id T:String} {r:List V→Hp→VK→Prop}
def tCB (r:List V→Hp→VK→Prop) (t:TA):TE:=fun σ H Q=>t σ H fun vs H1=>r vs H1 Q
theorem zc0 (hc:CallR X (.builtin id) r) (hg:Gl X x) (hm:X.mg x=none) (hv:bootBuiltins x=some (.builtin id)) (ha:PA X (e :: es) t) (hn:x ≠ "__name__" := by decide) (hdb:(x == ("__debug__" : Str))=false:=by decide)
  (he:starEach (e :: es) X.env=(false,eval e X.env) :: starEach es X.env:=by rfl) (hpl:(backTo pos (starEach es X.env)).any (·.1)=false:=by rfl):PE X (.Call (.Name x p) (e :: es) [] pos) (tCB r t):=by
 intro pins s σ H Q I h
 refine wpAny_Call_Name_kw (yo6 I hg hm hv ?_ hn hdb)
 exact PyProof.Rows.callWith_builtin1 (thn (ha pos pins s σ H _ I h) fun us s1 ⟨vs,H1,I1,r1,q1⟩=>hc pins s1 σ H1 vs us Q I1 r1 q1) he hpl
end
end L2
namespace HT
open PySem PyProof.Rows
section
open PySem.SeqAt
open PySem.AutoSeq1 (wpAny_loadPart')
open PySem.MeetsSeq PySem.MeetsSeq2 PySem.MeetsSeq3
end
section
variable {prog:Program} {w:World} {A:Around} {E:Value→Shared→Prop} {s:Shared}
def sIx (n d:Nat):Option Int→Nat
 | none=>d
 | some v=>if v < 0 then (v + (n:Int)).toNat else min v.toNat n
end
end HT
namespace L2
open PySem PySem.Spec PyProof.Rows
abbrev TO:=St→Hp→(Option Int→Hp→Prop)→Prop
def PO (X:Cx) (e:Option Expr) (t:TO):Prop :=
 ∀ (pins:List (Addr×Obj)) (s:Shared) (σ:St) (H:Hp) (Q:Option Int→Hp→Prop),Inv X pins σ H s→t σ H Q →
  wpAny (model X.prog X.w) X.A (evalPart e X.env) (fun u s'=>∃ o H',Inv X pins σ H' s'∧IsPart u o∧Q o H') X.xe s
def tNoPart:TO:=fun _ H Q=>Q none H
def tPart (t:TE):TO:=fun σ H Q=>t σ H fun x H1=>∃ i,x = .int i∧Q (some i) H1
section
variable {X:Cx} {e:Expr} {te:TE} {lo hi:Option Expr} {tl th:TO} {pos p2:Pos}
theorem po_none:PO X none tNoPart:=by
 intro pins s σ H Q I h
 rw [evalPart_none]
 exact wpAny_pure ⟨none,H,I,.none,h⟩
theorem yf8 (h:PE X e te):PO X (some e) (tPart te):=by
 intro pins s σ H Q I hw
 rw [evalPart_some]
 refine thn (h pins s σ H _ I hw) fun u s1 ⟨x,H1,I1,r1,q1⟩=>?_
 obtain ⟨i,rfl,q⟩:=q1
 obtain ⟨t,rfl⟩:=r1
 exact ⟨some i,H1,I1,.int i t,q⟩
def SlR (X:Cx) (r:V→Option Int→Option Int→Hp→VK→Prop):Prop :=
 ∀ (pins:List (Addr×Obj)) (s:Shared) (σ:St) (H:Hp) (x:V) (v vl vu:Value) (lo hi:Option Int) (sl:Addr) (Q:VK),Inv X pins σ H s→RelV x v→s.heap.IsSliceOf sl vl vu .none→IsPart vl lo→IsPart vu hi→r x lo hi H Q →
  ∃ T id,typeLookup (.type T) "__getitem__" = pure (some (.builtin id))∧s.TypeIs v T∧wpAny (model X.prog X.w) X.A (getItem v (.ref sl)) (EP X pins σ Q) X.xe s
def tSl (r:V→Option Int→Option Int→Hp→VK→Prop) (te:TE) (tl th:TO):TE:=fun σ H Q=>te σ H fun x H1=>tl σ H1 fun l H2=>th σ H2 fun u H3=>r x l u H3 Q
theorem yj2 {r:V→Option Int→Option Int→Hp→VK→Prop} (hr:SlR X r) (he:PE X e te) (hl:PO X lo tl) (hu:PO X hi th):PE X (.Subscript e (.Slice lo hi none p2) pos) (tSl r te tl th):=by
 intro pins s σ H Q I h
 refine Subscript_ (thn (he pins s σ H _ I h) fun v s1 ⟨x,H1,I1,r1,q1⟩=>?_)
 refine wpAny_Slice (thn (hl pins s1 σ H1 _ I1 q1) fun vl s2 ⟨l,H2,I2,pl,q2⟩=>thn (hu pins s2 σ H2 _ I2 q2) fun vu s3 ⟨u,H3,I3,pu,q3⟩=>?_)
 rw [evalPart_none]
 refine wpAny_pure ?_
 have I4:Inv X pins σ H3 { s3 with heap:=s3.heap.push { cls := .type "slice",data := .fields #[vl,vu,.none] } }:=I3.kept (t':=s3.toks) fun b ob q=>Heap.get?_push_of_some _ q
 obtain ⟨T,id,hT,ht,hg⟩:=hr pins { s3 with heap:=s3.heap.push { cls := .type "slice",data := .fields #[vl,vu,.none] } } σ H3 x v vl vu l u s3.heap.objs.size Q I4 r1 (Heap.IsSliceOf.new ..) pl pu q3
 show wpAny (model X.prog X.w) X.A (subscriptTail e (.Slice lo hi none p2) v (.ref s3.heap.objs.size)) (EP X pins σ Q) X.xe { s3 with heap:=s3.heap.push { cls := .type "slice",data := .fields #[vl,vu,.none] } }
 exact tail_any (ops:=[.ref s3.heap.objs.size,v]) ht hT hg (by with_unfolding_all rfl)
def cutV (xs:List V) (lo hi:Option Int):List V:=(xs.drop (HT.sIx xs.length 0 lo)).take (HT.sIx xs.length xs.length hi - HT.sIx xs.length 0 lo)
theorem cutV_length (xs:List V) (lo hi:Option Int):(cutV xs lo hi).length≤xs.length:=by
 unfold cutV
 rw [List.length_take,List.length_drop]
 omega
end
end L2
namespace L2
open PySem PySem.Spec PyProof.Rows
def ixN (n:Nat) (i:Int):Option Nat:=if 0≤i then (if i < n then some i.toNat else none) else if -(n:Int)≤i then some (i + n).toNat else none
def atI {α:Type} (xs:List α) (i:Int):Option α:=(ixN xs.length i).bind fun j=>xs[j]?
theorem ixN_seq {n:Nat} {i:Int} {j:Nat} (h:ixN n i=some j):seqIndex? i n=some j∧j < n ∧ -(n:Int)≤i∧i < n:=by
 unfold ixN at h
 by_cases h0:0≤i
 ·rw [if_pos h0] at h
  by_cases h1:i < n
  ·rw [if_pos h1] at h
   have e:i.toNat=j:=Option.some.inj h
   exact ⟨by rw [seqIndex_of h0 h1,e],by omega,by omega,h1⟩
  ·rw [if_neg h1] at h;cases h
 ·rw [if_neg h0] at h
  by_cases h1 : -(n:Int)≤i
  ·rw [if_pos h1] at h
   have e:(i + n).toNat=j:=Option.some.inj h
   exact ⟨by rw [seqIndex_neg (by omega) h1,e],by omega,h1,by omega⟩
  ·rw [if_neg h1] at h;cases h
theorem atI_get {α:Type} {xs:List α} {i:Int} {v:α} (h:atI xs i=some v):∃ j,seqIndex? i xs.length=some j∧xs[j]?=some v∧j < xs.length ∧ -(xs.length:Int)≤i∧i < xs.length:=by
 unfold atI at h
 cases e:ixN xs.length i with
 | none=>rw [e] at h;cases h
 | some j =>
  rw [e] at h
  obtain ⟨h1,h2,h3,h4⟩:=ixN_seq e
  exact ⟨j,h1,h,h2,h3,h4⟩
theorem za8 {α:Type} {xs:List α} {j:Nat} {v:α} (h:xs[j]?=some v):atI xs (j:Int)=some v:=by
 have hj:j < xs.length:=(List.getElem?_eq_some_iff.mp h).1
 have e:ixN xs.length (j:Int)=some j:=by
  unfold ixN
  rw [if_pos (by omega),if_pos (by omega)];simp
 unfold atI;rw [e];exact h
theorem atI_last {α:Type} (xs:List α) (v:α):atI (xs++[v]) (-1)=some v:=by
 have hl:(xs++[v]).length=xs.length + 1:=by simp
 have e:ixN (xs++[v]).length (-1)=some xs.length:=by
  unfold ixN
  rw [hl,if_neg (by decide),if_pos (by omega)]
  congr 1
  omega
 unfold atI
 rw [e]
 show (xs++[v])[xs.length]?=some v
 simp
def PlainIx (b:Expr):Prop:=∀ o i,subscripted b false o i=operate [o,i] (getItem o i)
def IxR (X:Cx) (r:R2):Prop :=
 ∀ (value slice:Expr) (pins:List (Addr×Obj)) (s:Shared) (σ:St) (H:Hp) (x y:V) (v u:Value) (Q:VK),Inv X pins σ H s→RelV x v→RelV y u→r x y H Q →
  subscripted slice false v u=operate [v,u] (getItem v u)→wpAny (model X.prog X.w) X.A (subscriptTail value slice v u) (EP X pins σ Q) X.xe s
def MtR (X:Cx) (id:String) (r:V→List V→Hp→VK→Prop):Prop :=
 ∀ (pins:List (Addr×Obj)) (s:Shared) (σ:St) (H:Hp) (x:V) (xs:List V) (v:Value) (us:List Value) (Q:VK),Inv X pins σ H s→RelV x v→Vals xs us→r x xs H Q →
  wpAny (model X.prog X.w) X.A (call (.builtin id) (v :: us)) (EP X pins σ Q) X.xe s
section
variable {X:Cx} {a b:Expr} {ta tb:TE} {pos:Pos}
theorem pe_ix {r:R2} (hr:IxR X r) (ha:PE X a ta) (hb:PE X b tb) (hs:PlainIx b):PE X (.Subscript a b pos) (tOp r ta tb):=by
 intro pins s σ H Q I h
 exact Subscript_ (binT ha hb I h fun v u s2 x y H2 I2 rx ry q=>hr a b pins s2 σ H2 x y v u Q I2 rx ry q (hs _ _))
def rIxL (K:PySem.W.Frag):R2:=fun x y H Q=>∃ p xs i v,x = .ref p∧y = .int i∧SqL K H p xs∧atI xs i=some v∧Q v H
def rIxT (K:PySem.W.Frag):R2:=fun x y H Q=>∃ p xs i v,x = .ref p∧y = .int i∧SqT K H p xs∧atI xs i=some v∧Q v H
theorem zb0:IxR X (rIxL X.K):=by
 intro value slice pins s σ H x y v u Q I rx ry h hs
 obtain ⟨p,xs,i,z,rfl,rfl,hq,he,q⟩:=h
 cases rx
 obtain ⟨t,rfl⟩:=ry
 obtain ⟨its,r,pl,hz⟩:=I.list hq
 obtain ⟨j,h1,h2,h3,h4,h5⟩:=atI_get he
 obtain ⟨w,ew,rw'⟩:=r.get h2
 have hl:=r.length
 have hn:=line63
 have fin:EP X pins σ Q w s:=⟨z,H,I,rw',q⟩
 by_cases h0:0≤i
 ·have hj:i.toNat=j:=by
   rw [seqIndex_of h0 h5] at h1
   exact Option.some.inj h1
  exact item_listR pl.isList h0 (by omega) (by rw [hj];simpa using ew) fin hs
 ·have hj:(i + (its.toArray.size:Int)).toNat=j:=by
   rw [seqIndex_neg (by omega) h4] at h1
   rw [List.size_toArray,← hl]
   exact Option.some.inj h1
  exact subscriptTail_builtinR (x:=w) pl.isList.typeIs slot_list_getitem.lookup
   (wpAny_getItem_list_neg (Q:=fun r s'=>r=w∧EP X pins σ Q r s') pl.isList (by omega) (by rw [List.size_toArray] <;> omega) (by omega) (by rw [hj];simpa using ew) ⟨rfl,fin⟩) hs
theorem yu9:IxR X (rIxT X.K):=by
 intro value slice pins s σ H x y v u Q I rx ry h hs
 obtain ⟨p,xs,i,z,rfl,rfl,hq,he,q⟩:=h
 cases rx
 obtain ⟨t,rfl⟩:=ry
 obtain ⟨its,r,pl,hz⟩:=I.tuple hq
 obtain ⟨j,h1,h2,h3,h4,h5⟩:=atI_get he
 obtain ⟨w,ew,rw'⟩:=r.get h2
 have hl:=r.length
 have hn:=line63
 have fin:EP X pins σ Q w s:=⟨z,H,I,rw',q⟩
 exact subscriptTail_builtinR (x:=w) pl.typeIs slot_tuple_getitem.lookup
  (getItem_tuple (j:=j) (Q:=fun r s'=>r=w∧EP X pins σ Q r s') pl (by omega) (by omega) (by rw [List.size_toArray,← hl];exact h1) (by simpa using ew) ⟨rfl,fin⟩) hs
theorem mapSeq_set (its:List Value) (n j:Nat) (u:Value):Obj.mapSeq (·.setIfInBounds j u) { cls := .type "list",data := .seq its.toArray n } = { cls := .type "list",data := .seq (its.set j u).toArray n }:=by
 simp [Obj.mapSeq]
theorem Inv.lst {pins:List (Addr×Obj)} {σ:St} {H:Hp} {s:Shared} {p:Addr} {xs:List V} (I:Inv X pins σ H s) (h:H p=some (.lst xs)) :
  ∃ (its:List Value) (n:Nat),Vals xs its∧s.heap.get? p=some { cls := .type "list",data := .seq its.toArray n }∧xs.length≤sizeLine:=by
 obtain ⟨z,its,n,r,e⟩:=I.hok p _ h
 exact ⟨its,n,r,e,z⟩
theorem Inv.lstUpd {pins:List (Addr×Obj)} {σ:St} {H:Hp} {s:Shared} {p:Addr} {xs ys:List V} {its its':List Value} {n n':Nat} {f:Obj→Obj} (I:Inv X pins σ H s) (h:H p=some (.lst xs))
  (ho:s.heap.get? p=some { cls := .type "list",data := .seq its.toArray n }) (hf:f { cls := .type "list",data := .seq its.toArray n } = { cls := .type "list",data := .seq its'.toArray n' }) (r:Vals ys its') (hz:ys.length≤sizeLine) (t:Nat) :
  Inv X pins σ (upd H p (.lst ys)) { s with heap:=s.heap.update p f,toks:=t }:=by
 have e:(s.heap.update p f).get? p=some { cls := .type "list",data := .seq its'.toArray n' }:=by
  rw [Heap.get?_update_self f ho (by rw [hf] <;> rfl),hf]
 refine I.write (x:=p) (e:=p) (by rw [h];trivial) (.inl rfl) (fun b u hb q=>(Heap.get?_update_other _ _ (Ne.symm hb)).trans q) ⟨_,e⟩ ?_
 exact ⟨hz,its',n',r,e⟩
def rSetL:V→V→V→Hp→(Hp→Prop)→Prop:=fun o i v H Q=>∃ p xs k j,o = .ref p∧i = .int k∧H p=some (.lst xs)∧ixN xs.length k=some j∧Q (upd H p (.lst (xs.set j v)))
theorem yq0:PSet X rSetL:=by
 intro pins s σ H o i v ov iv u Q I ro ri rv h
 obtain ⟨p,xs,k,j,rfl,rfl,hp,hj,q⟩:=h
 cases ro
 obtain ⟨t,rfl⟩:=ri
 obtain ⟨its,n,r,ho,hz⟩:=I.lst hp
 obtain ⟨h1,h2,h3,h4⟩:=ixN_seq hj
 have hl:=r.length
 have hn:=line63
 have I':Inv X pins σ (upd H p (.lst (xs.set j v))) { s with heap:=s.heap.update p (Obj.mapSeq (·.setIfInBounds j u)) } :=
  I.lstUpd hp ho (mapSeq_set its n j u) (r.set rv j) (by rw [List.length_set];exact hz) s.toks
 by_cases h0:0≤k
 ·have hk:k.toNat=j:=by
   rw [seqIndex_of h0 h4] at h1
   exact Option.some.inj h1
  exact PySem.W.ki_setAt ho h0 (by omega) (by rw [List.size_toArray,← hl];exact h4) (by rw [hk];exact ⟨_,I',q⟩)
 ·have hk:(k + (its.toArray.size:Int)).toNat=j:=by
   rw [seqIndex_neg (by omega) h3] at h1
   rw [List.size_toArray,← hl]
   exact Option.some.inj h1
  exact PySem.W.ki_setBack ho (by omega) (by rw [List.size_toArray,← hl];exact h3) (by omega) (by rw [hk];exact ⟨_,I',q⟩)
theorem slice_bounds (lo hi:Option Int) (n:Nat):(sliceBounds lo hi none n).1=((HT.sIx n 0 lo:Nat):Int)∧(sliceBounds lo hi none n).2.1=((HT.sIx n n hi:Nat):Int)∧(sliceBounds lo hi none n).2.2=1:=by
 refine ⟨?_,?_,rfl⟩
 ·cases lo with
  | none=>simp [sliceBounds,HT.sIx]
  | some i =>
   simp only [sliceBounds,HT.sIx,Option.getD_none,show (1:Int) > 0 by decide,if_true]
   by_cases h:i < 0
   ·simp only [h,if_true] <;> omega
   ·simp only [h,if_false] <;> omega
 ·cases hi with
  | none=>simp [sliceBounds,HT.sIx]
  | some i =>
   simp only [sliceBounds,HT.sIx,Option.getD_none,show (1:Int) > 0 by decide,if_true]
   by_cases h:i < 0
   ·simp only [h,if_true] <;> omega
   ·simp only [h,if_false] <;> omega
theorem xa5 (its:List Value) (lo hi:Option Int):slicePick its.toArray lo hi none=((its.drop (HT.sIx its.length 0 lo)).take (HT.sIx its.length its.length hi - HT.sIx its.length 0 lo)).toArray:=by
 obtain ⟨h1,h2,h3⟩:=slice_bounds lo hi its.toArray.size
 unfold slicePick
 rw [h1,h2,h3]
 simp only [sliceRange_one,pick_run,List.size_toArray] <;> rfl
def rSlL (K:PySem.W.Frag):V→Option Int→Option Int→Hp→VK→Prop:=fun x lo hi H Q=>∃ a xs,x = .ref a∧SqL K H a xs∧∀ p,H p=none→Q (.ref p) (upd H p (.lst (cutV xs lo hi)))
theorem ys1:SlR X (rSlL X.K):=by
 intro pins s σ H x v vl vu lo hi sl Q I rx hs pl pu h
 obtain ⟨a,xs,rfl,hx,q⟩:=h
 cases rx
 obtain ⟨its,r,ht,hz⟩:=I.list hx
 have hlen:=r.length
 refine ⟨"list",_,slot_list_getitem.lookup,ht.isList.typeIs,?_⟩
 refine wpAny_getItem_list_slice ht.isList hs pl pu .none (by simp) ?_ (by rw [List.size_toArray] <;> omega)
 rw [xa5,← hlen]
 refine ⟨.ref s.heap.objs.size,_,I.laid (t':=s.toks) (o := .lst (cutV xs lo hi)) (fun b ob q=>Heap.get?_push_of_some _ q) (Nat.le_refl _) ?_,rfl,q _ (I.hok.fresh (Nat.le_refl _))⟩
 exact ⟨Nat.le_trans (cutV_length xs lo hi) hz,_,0,(r.drop (HT.sIx xs.length 0 lo)).take (HT.sIx xs.length xs.length hi - HT.sIx xs.length 0 lo),Heap.get?_push_size _ rfl⟩
def flatV:V→Bool
 | .non=>true
 | .bl _=>true
 | .int _=>true
 | .str _=>true
 | _=>false
def eqV:V→V→Bool
 | .non,.non=>true
 | .bl a,.bl b=>a == b
 | .bl a,.int b=>(if a then 1 else 0) == b
 | .int a,.bl b=>a == (if b then 1 else 0)
 | .int a,.int b=>a == b
 | .str a,.str b=>a == b
 | _,_=>false
theorem eqAt_V {A:Around} {s:Shared} {y x:V} {u v:Value} (ry:RelV y u) (rx:RelV x v) (fy:flatV y=true) (fx:flatV x=true):SeqAt.EqAt A s u v (eqV y x):=by
 cases y with
 | non =>
  cases ry
  cases x with
  | non=>cases rx;exact SeqAt.EqAt.same _
  | bl b=>cases rx;exact SeqAt.EqAt.none_bool b
  | int b=>obtain ⟨t,rfl⟩:=rx;exact SeqAt.EqAt.none_int b t
  | str b=>obtain ⟨t,rfl⟩:=rx;exact SeqAt.EqAt.none_str b t
  | _=>exact absurd (show false=true from fx) Bool.false_ne_true
 | bl a =>
  cases ry
  cases x with
  | non=>cases rx;exact SeqAt.EqAt.bool_none a
  | bl b=>cases rx;exact SeqAt.EqAt.bool_bool a b
  | int b=>obtain ⟨t,rfl⟩:=rx;exact SeqAt.EqAt.bool_int a b t
  | str b=>obtain ⟨t,rfl⟩:=rx;exact SeqAt.EqAt.bool_str a b t
  | _=>exact absurd (show false=true from fx) Bool.false_ne_true
 | int a =>
  obtain ⟨t',rfl⟩:=ry
  cases x with
  | non=>cases rx;exact SeqAt.EqAt.int_none a t'
  | bl b=>cases rx;exact SeqAt.EqAt.int_bool a t' b
  | int b=>obtain ⟨t,rfl⟩:=rx;exact SeqAt.EqAt.int_int a t' b t
  | str b=>obtain ⟨t,rfl⟩:=rx;exact SeqAt.EqAt.int_str a t' b t
  | _=>exact absurd (show false=true from fx) Bool.false_ne_true
 | str a =>
  obtain ⟨t',rfl⟩:=ry
  cases x with
  | non=>cases rx;exact SeqAt.EqAt.str_none a t'
  | bl b=>cases rx;exact SeqAt.EqAt.str_bool a t' b
  | int b=>obtain ⟨t,rfl⟩:=rx;exact SeqAt.EqAt.str_int a t' b t
  | str b=>obtain ⟨t,rfl⟩:=rx;exact SeqAt.EqAt.str_str a t' b t
  | _=>exact absurd (show false=true from fx) Bool.false_ne_true
 | _=>exact absurd (show false=true from fy) Bool.false_ne_true
def eqU (x:V) (u:Value):Bool:=match u with
 | .none=>eqV .non x
 | .bool b=>eqV (.bl b) x
 | .int i _=>eqV (.int i) x
 | .str z _=>eqV (.str z) x
 | _=>false
theorem eqU_of {x y:V} {u:Value} (r:RelV y u) (f:flatV y=true):eqU x u=eqV y x:=by
 cases y with
 | non=>cases r;rfl
 | bl b=>cases r;rfl
 | int i=>obtain ⟨t,rfl⟩:=r;rfl
 | str z=>obtain ⟨t,rfl⟩:=r;rfl
 | _=>exact absurd (show false=true from f) Bool.false_ne_true
theorem yv8 {x:V}:∀ {xs:List V} {us:List Value},Vals xs us→xs.all flatV=true→us.any (eqU x)=xs.any fun y=>eqV y x
 | _,_,.nil,_=>rfl
 | y :: xs,u :: us,.cons r t,f=>by
  rw [List.all_cons,Bool.and_eq_true] at f
  rw [List.any_cons,List.any_cons,eqU_of r f.1,yv8 t f.2]
theorem yk4 {A:Around} {s:Shared} {x:V} {v:Value} (rx:RelV x v) (fx:flatV x=true):∀ {xs:List V} {us:List Value},Vals xs us→xs.all flatV=true→∀ u∈us,SeqAt.EqAt A s u v (eqU x u)
 | _,_,.nil,_=>fun u hu=>by cases hu
 | y :: xs,u :: us,.cons r t,f=>fun u' hu=>by
  rw [List.all_cons,Bool.and_eq_true] at f
  rcases List.mem_cons.mp hu with rfl | hu
  ·rw [eqU_of r f.1];exact eqAt_V r rx f.1 fx
  ·exact yk4 rx fx t f.2 u' hu
def inV (x:V) (xs:List V):Bool:=xs.any fun y=>eqV y x
def rIn (K:PySem.W.Frag) (neg:Bool):R2:=fun x y H Q=>∃ p xs,y = .ref p∧(SqL K H p xs∨SqT K H p xs)∧flatV x=true∧xs.all flatV=true∧Q (.bl (if neg then !inV x xs else inV x xs)) H
theorem yj5:OpR X (compareOp .In) (rIn X.K false):=by
 intro pins s σ H x y v u Q I rx ry h
 obtain ⟨p,xs,rfl,hq,fx,fs,q⟩:=h
 cases ry
 rcases hq with hq | hq
 ·obtain ⟨its,r,pl,hz⟩:=I.list hq
  refine SeqAt.in_listAt (eqU x) pl.isList (fun w hw=>yk4 rx fx r fs w (by simpa using hw)) ⟨.bl _,H,I,rfl,?_⟩
  rw [show its.toArray.any (eqU x)=its.any (eqU x) by simp,yv8 r fs]
  exact q
 ·obtain ⟨its,r,pl,hz⟩:=I.tuple hq
  refine SeqAt.in_tupleAt (eqU x) pl (fun w hw=>yk4 rx fx r fs w (by simpa using hw)) ⟨.bl _,H,I,rfl,?_⟩
  rw [show its.toArray.any (eqU x)=its.any (eqU x) by simp,yv8 r fs]
  exact q
theorem op_notIn_seq:OpR X (compareOp .NotIn) (rIn X.K true):=by
 intro pins s σ H x y v u Q I rx ry h
 obtain ⟨p,xs,rfl,hq,fx,fs,q⟩:=h
 cases ry
 rcases hq with hq | hq
 ·obtain ⟨its,r,pl,hz⟩:=I.list hq
  refine SeqAt.notIn_listAt (eqU x) pl.isList (fun w hw=>yk4 rx fx r fs w (by simpa using hw)) ⟨.bl _,H,I,rfl,?_⟩
  rw [show its.toArray.any (eqU x)=its.any (eqU x) by simp,yv8 r fs]
  exact q
 ·obtain ⟨its,r,pl,hz⟩:=I.tuple hq
  refine SeqAt.notIn_tupleAt (eqU x) pl (fun w hw=>yk4 rx fx r fs w (by simpa using hw)) ⟨.bl _,H,I,rfl,?_⟩
  rw [show its.toArray.any (eqU x)=its.any (eqU x) by simp,yv8 r fs]
  exact q
theorem zb4:CallR X (.builtin "len") (fun xs H Q=>∃ p ys,xs=[.ref p]∧(SqL X.K H p ys∨SqT X.K H p ys)∧Q (.int ys.length) H):=by
 intro pins s σ H xs us Q I r h
 obtain ⟨p,ys,rfl,hq,q⟩:=h
 obtain ⟨u,rfl,rx⟩:=vals1 r
 cases rx
 have hn:=line63
 rcases hq with hq | hq
 ·obtain ⟨its,r',pl,hz⟩:=I.list hq
  have hlen:=r'.length
  exact Calls.call_len_list pl.isList (by simp only [List.size_toArray] <;> omega) ⟨.int ys.length,H,I.tok _,⟨s.toks + 1,by rw [List.size_toArray,hlen]⟩,q⟩
 ·obtain ⟨its,r',pl,hz⟩:=I.tuple hq
  have hlen:=r'.length
  exact len_tuple pl (by simp only [List.size_toArray] <;> omega) ⟨.int ys.length,H,I.tok _,⟨s.toks + 1,by rw [List.size_toArray,hlen]⟩,q⟩
def tyV (K:PySem.W.Frag) (T:String) (x:V) (H:Hp):Prop:=match x with
 | .str _=>T = "str"
 | .int _=>T = "int"
 | .ref p=>(T = "list" ∧ ∃ xs,SqL K H p xs)∨(T = "tuple" ∧ ∃ o,K.lookup p=some o∧o.cls = .type "tuple" ∧ o.dict=none) ∨
   (T = "dict" ∧ ((∃ kvs,H p=some (.dK kvs))∨∃ kvs,H p=some (.dT kvs)))∨(T = "set" ∧ ∃ S n,H p=some (.set S n))
 | _=>False
theorem tyV_is {pins:List (Addr×Obj)} {σ:St} {H:Hp} {s:Shared} {T:String} {x:V} {v:Value} (I:Inv X pins σ H s) (r:RelV x v) (ty:tyV X.K T x H) :
  s.TypeIs v T∧∀ a,v = .ref a→∃ ob,s.heap.get? a=some ob∧ob.dict=none:=by
 cases x with
 | str z =>
  obtain ⟨t,rfl⟩:=r
  cases (show T = "str" from ty)
  exact ⟨typeIs_str s z t,fun _ e=>nomatch e⟩
 | int i =>
  obtain ⟨t,rfl⟩:=r
  cases (show T = "int" from ty)
  exact ⟨typeIs_int s i t,fun _ e=>nomatch e⟩
 | ref p =>
  cases r
  rcases ty with ⟨rfl,xs,hq⟩ | ⟨rfl,o,hk,hc,hd⟩ | ⟨rfl,hk⟩ | ⟨rfl,S,n,hk⟩
  ·obtain ⟨its,_,pl,_⟩:=I.list hq
   refine ⟨pl.isList.typeIs,fun a e=>?_⟩
   cases e
   obtain ⟨o,n,e,c,hd,_⟩:=pl
   exact ⟨o,e,hd⟩
  ·refine ⟨⟨o,I.kIn p o hk,hc⟩,fun a e=>?_⟩
   cases e
   exact ⟨o,I.kIn _ o hk,hd⟩
  ·have z:∃ o,s.heap.get? p=some o∧o.ExactDict:=by
    rcases hk with ⟨kvs,hk⟩ | ⟨kvs,hk⟩
    ·obtain ⟨_,_,_,_,o,_,_,e,ex,_⟩:=I.hok p _ hk
     exact ⟨o,e,ex⟩
    ·obtain ⟨_,_,_,_,o,_,_,e,ex,_⟩:=I.hok p _ hk
     exact ⟨o,e,ex⟩
   obtain ⟨o,e,ex⟩:=z
   refine ⟨⟨o,e,ex.1⟩,fun a e2=>?_⟩
   cases e2
   exact ⟨o,e,ex.2.1⟩
  ·obtain ⟨o,_,_,_,e,ex,_⟩:=I.hok p _ hk
   refine ⟨⟨o,e,ex.1⟩,fun a e2=>?_⟩
   cases e2
   exact ⟨o,e,ex.2.1⟩
 | _=>exact False.elim ty
def tBM (K:PySem.W.Frag) (T:String) (r:V→List V→Hp→VK→Prop) (to:TE) (t:TA):TE:=fun σ H Q=>to σ H fun x H1=>tyV K T x H1∧t σ H1 fun xs H2=>r x xs H2 Q
variable {o e:Expr} {es:List Expr} {to:TE} {t:TA} {name:Str} {apos cpos:Pos} {T id:String} {r:V→List V→Hp→VK→Prop}
theorem pe_bm (pa:PlainAttrs T) (slot:Slot T name id) (hty:typeOf (.builtin id)=pure (.type "method_descriptor")) (hm:MtR X id r) (ho:PE X o to) (ha:PA X (e :: es) t)
  (hbase:attributeBase o name X.env (eval o X.env)=eval o X.env:=by rfl)
  (hfew:((backTo cpos (starEach (e :: es) X.env)).all (fun x => !x.1) && (backToKw cpos (keywordEach [] X.env)).all (fun x=>x.1.isSome)
   && decide ((e :: es).length + ([]:List Keyword).length + (if ([]:List Keyword).isEmpty then 0 else 1) < 30))=true:=by rfl)
  (hline:(apos.endLine == cpos.line)=true:=by rfl) (hs:starEach (e :: es) X.env=(false,eval e X.env) :: starEach es X.env:=by rfl) (hplain:(backTo cpos (starEach es X.env)).any (·.1)=false:=by rfl) :
  PE X (.Call (.Attribute o name apos) (e :: es) [] cpos) (tBM X.K T r to t):=by
 intro pins s σ H Q I h
 refine wpAny_Call_method_late hbase hfew hline rfl (thn (ho pins s σ H _ I h) fun v s1 ⟨x,H1,I1,r1,ty,q1⟩=>?_)
 obtain ⟨h1,h2⟩:=tyV_is I1 r1 ty
 refine ⟨T,id,pa,slot,hty,h1,h2,?_⟩
 have hA:=ha cpos pins s1 σ H1 _ I1 q1
 rw [hs] at hA ⊢
 refine Calls.callWith_builtin (by show (false || (backTo cpos (starEach es X.env)).any (·.1))=false;rw [hplain] <;> rfl) (Calls.evalArgs_plain ?_)
 exact thn hA fun us s2 ⟨vs,H2,I2,r2,q2⟩=>hm pins s2 σ H2 x vs v us Q I2 r1 r2 q2
end
end L2
namespace L2
open PySem PySem.Spec PyProof.Rows
def MtM (X:Cx) (id:String) (r:V→List V→Hp→VK→Prop):Prop :=
 ∀ (pins:List (Addr×Obj)) (s:Shared) (σ:St) (H:Hp) (x:V) (xs:List V) (v:Value) (us:List Value) (Q:VK),Inv X pins σ H s→RelV x v→Vals xs us→r x xs H Q →
  wpAny (model X.prog X.w) X.A (call (.builtin id) (v :: us)) (EP X pins σ Q) X.xe s
theorem Vals.one:∀ {x:V} {us:List Value},Vals [x] us→∃ u,us=[u]∧RelV x u
 | _,_,.cons r .nil=>⟨_,rfl,r⟩
theorem Vals.eraseIdx:∀ {xs:List V} {us:List Value} (i:Nat),Vals xs us→Vals (xs.eraseIdx i) (us.eraseIdx i)
 | _,_,_,.nil => .nil
 | _,_,0,.cons _ t=>t
 | _,_,i + 1,.cons r t => .cons r (Vals.eraseIdx i t)
theorem Vals.rep {xs:List V} {us:List Value} (h:Vals xs us):∀ k:Nat,Vals (List.replicate k xs).flatten (List.replicate k us).flatten
 | 0 => .nil
 | k + 1=>by
  rw [List.replicate_succ,List.replicate_succ,List.flatten_cons,List.flatten_cons]
  exact Vals.append h (Vals.rep h k)
theorem len_erase {α:Type}:∀ (l:List α) (i:Nat),(l.eraseIdx i).length≤l.length
 | [],_=>Nat.le_refl _
 | _ :: _,0=>Nat.le_succ _
 | _ :: r,i + 1=>Nat.succ_le_succ (len_erase r i)
theorem foldl_rep (its:List Value):∀ (k:Nat) (acc:List Value),
  List.foldl (fun x1 x2=>x1++x2) acc.toArray (List.replicate k its.toArray)=(acc++(List.replicate k its).flatten).toArray
 | 0,acc=>by simp
 | k + 1,acc=>by
  have e:acc.toArray++its.toArray=(acc++its).toArray:=by simp
  have e2:(acc++its)++(List.replicate k its).flatten=acc++(List.replicate (k + 1) its).flatten:=by
   rw [List.replicate_succ,List.flatten_cons,List.append_assoc]
  rw [← e2,← foldl_rep its k (acc++its),← e,List.replicate_succ,List.foldl_cons]
section
variable {X:Cx} {pins:List (Addr×Obj)} {σ:St} {H:Hp} {s:Shared} {l b:Addr} {xs ys zs:List V}
theorem Inv.lset {its its':List Value} {n:Nat} {f:Array Value→Array Value} {t':Nat} (I:Inv X pins σ H s) (hH:H l=some (.lst xs))
  (e:s.heap.get? l=some { cls := .type "list",data := .seq its.toArray n }) (hf:f its.toArray=its'.toArray) (hv:Vals ys its') (hz:ys.length≤sizeLine) :
  Inv X pins σ (upd H l (.lst ys)) { s with heap:=s.heap.update l (Obj.mapSeq f),toks:=t' }:=by
 have q:=PySem.IsL.update e f
 rw [hf] at q
 refine I.write (x:=l) (e:=l) (by rw [hH];exact trivial) (.inl rfl) (fun b' u hb hu=>(Heap.get?_update_other s.heap (Obj.mapSeq f) (Ne.symm hb)).trans hu) ⟨_,q⟩ ?_
 exact ⟨hz,its',_,hv,q⟩
theorem Inv.lnew {its:List Value} {t':Nat} (I:Inv X pins σ H s) (hv:Vals ys its) (hz:ys.length≤sizeLine) :
  Inv X pins σ (upd H s.heap.objs.size (.lst ys)) { s with heap:=s.heap.push { cls := .type "list",data := .seq its.toArray },toks:=t' } :=
 I.laid (fun _ _ q=>Heap.get?_push_of_some _ q) (Nat.le_refl _) ⟨hz,its,0,hv,Heap.get?_push_size _ rfl⟩
theorem Inv.fresh (I:Inv X pins σ H s):H s.heap.objs.size=none:=I.hok.fresh (Nat.le_refl _)
theorem Inv.lstM (I:Inv X pins σ H s) (hH:H l=some (.lst xs)):xs.length≤sizeLine∧∃ (its:List Value) (n:Nat),Vals xs its∧xs.length=its.length∧s.heap.get? l=some { cls := .type "list",data := .seq its.toArray n }:=by
 obtain ⟨z,its,n,r,e⟩:=I.hok l _ hH
 exact ⟨z,its,n,r,r.length,e⟩
theorem notLongL {n:Nat} (h:n≤sizeLine):Builtin.List.listTooLong n=false:=by
 unfold Builtin.List.listTooLong
 exact decide_eq_false (by omega)
end
section
variable {X:Cx}
def rAppend:V→List V→Hp→VK→Prop:=fun x vs H Q=>∃ l xs y,x = .ref l∧vs=[y]∧H l=some (.lst xs)∧xs.length < sizeLine∧Q .non (upd H l (.lst (xs++[y])))
theorem zs4:MtM X "list.append" rAppend:=by
 intro pins s σ H x vs v us Q I rx rv h
 obtain ⟨l,xs,y,rfl,rfl,hH,hz,q⟩:=h
 cases rx
 obtain ⟨u,rfl,ru⟩:=rv.one
 obtain ⟨z,its,n,r,hl,e⟩:=I.lstM hH
 refine call_meets F.slot_list_append ⟨_,e,rfl⟩ F.entry_list_append (F.args_list_append_2 _ _) (PySem.list_append l its.toArray n u (by rw [List.size_toArray];omega)) ⟨e,?_⟩
 refine ⟨.non,_,I.lset (its':=its++[u]) hH e (by simp) (r.append (.cons ru .nil)) ?_,rfl,q⟩
 rw [List.length_append,List.length_singleton]
 omega
def rExtend:V→List V→Hp→VK→Prop:=fun x vs H Q=>∃ l b xs zs,x = .ref l∧vs=[.ref b]∧H l=some (.lst xs)∧H b=some (.lst zs)∧xs.length + zs.length≤sizeLine∧Q .non (upd H l (.lst (xs++zs)))
theorem zx3:MtM X "list.extend" rExtend:=by
 intro pins s σ H x vs v us Q I rx rv h
 obtain ⟨l,b,xs,zs,rfl,rfl,hH,hB,hz,q⟩:=h
 cases rx
 obtain ⟨u,rfl,ru⟩:=rv.one
 cases ru
 obtain ⟨z,its,n,r,hl,e⟩:=I.lstM hH
 obtain ⟨z2,its2,n2,r2,hl2,e2⟩:=I.lstM hB
 have hsz:its.toArray.size + its2.toArray.size≤sizeLine:=by rw [List.size_toArray,List.size_toArray];omega
 have hlong:¬ (!its.toArray.isEmpty && Builtin.List.listTooLong (its.toArray.size + its2.toArray.size))=true:=by
  rw [notLongL hsz,Bool.and_false]
  exact Bool.false_ne_true
 refine call_meets F.slot_list_extend ⟨_,e,rfl⟩ F.entry_list_extend (F.args_list_extend_2 _ _)
  (AutoSeq1.list_extend_list_list_0 l its.toArray n b its2.toArray n2 hlong (by rw [List.size_toArray];omega) (by omega)) ⟨e,e2,?_⟩
 refine ⟨.non,_,I.lset (its':=its++its2) hH e (by simp) (r.append r2) ?_,rfl,q⟩
 rw [List.length_append]
 omega
def rPopAt:V→List V→Hp→VK→Prop:=fun x vs H Q=>∃ l xs i k y,x = .ref l∧vs=[.int i]∧H l=some (.lst xs) ∧ -(2 ^ 63)≤i∧i < 2 ^ 63∧seqIndex? i xs.length=some k∧xs[k]?=some y∧Q y (upd H l (.lst (xs.eraseIdx k)))
theorem mt_popAt:MtM X "list.pop" rPopAt:=by
 intro pins s σ H x vs v us Q I rx rv h
 obtain ⟨l,xs,i,k,y,rfl,rfl,hH,h1,h2,hk,hy,q⟩:=h
 cases rx
 obtain ⟨u,rfl,ru⟩:=rv.one
 obtain ⟨t,rfl⟩:=ru
 obtain ⟨z,its,n,r,hl,e⟩:=I.lstM hH
 obtain ⟨w,hw,rw'⟩:=r.get hy
 refine call_meets F.slot_list_pop ⟨_,e,rfl⟩ F.entry_list_pop (F.args_list_pop_2 _ _)
  (MeetsSeq.list_pop_at l its.toArray n i t k w (fitsIndex_both h1 h2) (by rw [List.size_toArray,← hl];exact hk) (by rw [← Array.getElem?_toList];exact hw) (by rw [List.size_toArray];omega)) ⟨e,?_⟩
 refine ⟨y,_,I.lset (its':=its.eraseIdx k) hH e ?_ (r.eraseIdx k) ?_,rw',q⟩
 ·show its.toArray.eraseIdxIfInBounds k=(its.eraseIdx k).toArray
  rw [List.eraseIdxIfInBounds_toArray]
 ·have:=len_erase xs k
  omega
def rCat:R2:=fun x y H Q=>∃ l b xs zs,x = .ref l∧y = .ref b∧H l=some (.lst xs)∧H b=some (.lst zs)∧xs.length + zs.length≤sizeLine∧∀ p,H p=none→Q (.ref p) (upd H p (.lst (xs++zs)))
theorem yj6:OpR X (binaryOp .Add) rCat:=by
 intro pins s σ H x y v u Q I rx ry h
 obtain ⟨l,b,xs,zs,rfl,rfl,hH,hB,hz,q⟩:=h
 cases rx
 cases ry
 obtain ⟨z,its,n,r,hl,e⟩:=I.lstM hH
 obtain ⟨z2,its2,n2,r2,hl2,e2⟩:=I.lstM hB
 refine PySem.P.add_list e e2 ?_ (by rw [List.size_toArray,List.size_toArray];omega)
 have ea:its.toArray++its2.toArray=(its++its2).toArray:=by simp
 rw [ea]
 exact ⟨.ref _,_,I.lnew (t':=s.toks) (r.append r2) (by rw [List.length_append];omega),rfl,q _ I.fresh⟩
def rRep:R2:=fun x y H Q=>∃ l k xs,x = .ref l∧y = .int k∧H l=some (.lst xs) ∧ -(2 ^ 63)≤k∧k < 2 ^ 63∧xs.length * k.toNat≤sizeLine ∧
 ∀ p,H p=none→Q (.ref p) (upd H p (.lst (List.replicate k.toNat xs).flatten))
theorem len_rep {α:Type} (xs:List α) (k:Nat):(List.replicate k xs).flatten.length=k * xs.length:=by
 induction k with
 | zero=>simp
 | succ k ih=>rw [List.replicate_succ,List.flatten_cons,List.length_append,ih,Nat.succ_mul,Nat.add_comm]
theorem op_rep:OpR X (binaryOp .Mult) rRep:=by
 intro pins s σ H x y v u Q I rx ry h
 obtain ⟨l,k,xs,rfl,rfl,hH,h1,h2,hz,q⟩:=h
 cases rx
 obtain ⟨t,rfl⟩:=ry
 obtain ⟨z,its,n,r,hl,e⟩:=I.lstM hH
 have hlen:its.toArray.size * k.toNat≤sizeLine:=by rw [List.size_toArray,← hl];exact hz
 have hcap:¬ its.toArray.size * k.toNat > (2 ^ 63 - 1) / 8:=by
  have:(sizeLine:Nat)≤(2 ^ 63 - 1) / 8:=by decide
  omega
 have hfit:¬ (!Builtin.List.listFitsIndex k)=true:=by
  rw [fitsIndex_both h1 h2]
  exact Bool.false_ne_true
 have hlong:¬ Builtin.List.listTooLong (its.toArray.size * k.toNat)=true:=by
  rw [notLongL hlen]
  exact Bool.false_ne_true
 have hnew:List.foldl (fun x1 x2=>x1++x2) #[] (List.replicate (if its.toArray.isEmpty=true then 0 else k.toNat) its.toArray)=(List.replicate k.toNat its).flatten.toArray:=by
  have f0:∀ m:Nat,List.foldl (fun x1 x2=>x1++x2) #[] (List.replicate m its.toArray)=(List.replicate m its).flatten.toArray:=fun m=>by
   have:=foldl_rep its m []
   rw [List.nil_append] at this
   exact this
  rw [f0]
  cases its with
  | nil=>simp
  | cons a r'=>rw [if_neg (by simp)]
 refine wpAny_binaryOp_repeat_ref (T := "list") (U := "int") (by decide) ⟨_,e,rfl⟩ (fun s'=>typeIs_int s' k t) noFill_list_mul F.fills_int_mul F.slot_int_rmul repeat_list F.slot_int_index.lookup
  (call_meets F.slot_int_rmul (typeIs_int s k t) F.entry_int_rmul (F.args_int_rmul_2 _ _) (int___rmul___int_list k t l its.toArray n)
   ⟨e,rfl,⟨_,e,rfl⟩,call_meets F.slot_list_mul ⟨_,e,rfl⟩ F.entry_list_mul (F.args_list_mul_2 _ _) (AutoListH.list___mul___list_int_3 l its.toArray n k t hfit hcap hlong) ⟨e,?_⟩⟩)
 rw [hnew]
 exact ⟨.ref _,_,I.lnew (t':=s.toks) (r.rep k.toNat) (by rw [len_rep,Nat.mul_comm];exact hz),rfl,q _ I.fresh⟩
end
section
variable {prog:Program} {w:World} {A:Around} {E:Value→Shared→Prop} {s:Shared}
end
section
variable {X:Cx}
end
end L2
namespace L2
open PySem PySem.Spec PyProof.Rows
theorem Vals.ints:∀ {ns:List Int} {us:List Value},Vals (ns.map V.int) us→IntsAre us ns
 | [],us,h=>by
  rw [List.map_nil] at h
  cases h
  exact IntsAre.nil
 | n :: ns,us,h=>by
  rw [List.map_cons] at h
  cases h with
  | cons r t =>
   obtain ⟨k,rfl⟩:=r
   exact IntsAre.cons n k (Vals.ints t)
theorem Vals.bls:∀ {bs:List Bool} {us:List Value},Vals (bs.map V.bl) us→us=bs.map Value.bool
 | [],us,h=>by
  rw [List.map_nil] at h
  cases h
  rfl
 | b :: bs,us,h=>by
  rw [List.map_cons] at h
  cases h with
  | cons r t =>
   cases r
   rw [Vals.bls t,List.map_cons]
theorem Vals.ref1 {a:Addr} {us:List Value} (r:Vals [V.ref a] us):us=[Value.ref a]:=by
 cases r with
 | cons r t =>
  cases t
  cases r
  rfl
section
variable {prog:Program} {w:World} {A:Around} {E:Value→Shared→Prop} {s:Shared} {l:Addr} {its:List Value} {ns:List Int} {Q:Value→Shared→Prop}
theorem sum_raw (hh:A.handled=none) (hl:s.heap.IsList l its.toArray) (hi:IntsAre its ns)
  (h:∀ h' tk t',(∀ b o,s.heap.get? b=some o→h'.get? b=some o)→Q (.int ns.sum t') { s with heap:=h',toks:=tk }):wpAny (model prog w) A (call (.builtin "sum") [.ref l]) Q E s:=by
 obtain ⟨xs,e⟩:=hi.allInts.items
 have hn:numsOf (intItems xs).toList=ns:=by rw [← e];exact hi.numsOf
 rw [nums_intItems] at hn
 rw [e] at hl
 refine PySem.sum_intListG hh hl fun h' tk t' hk=>?_
 have:=h h' tk t' hk
 rw [preSum_eq,List.take_of_length_le (by simp),hn];exact this
theorem min_raw (hh:A.handled=none) (hl:s.heap.IsList l its.toArray) (hi:IntsAre its ns) (hne:0 < ns.length)
  (h:∀ h' tk M t',(∀ b o,s.heap.get? b=some o→h'.get? b=some o)→M∈ns→(∀ a,a∈ns→M≤a)→Q (.int M t') { s with heap:=h',toks:=tk }):wpAny (model prog w) A (call (.builtin "min") [.ref l]) Q E s:=by
 obtain ⟨xs,e⟩:=hi.allInts.items
 have hn:numsOf (intItems xs).toList=ns:=by rw [← e];exact hi.numsOf
 rw [nums_intItems] at hn
 subst hn
 rw [e] at hl
 have hsz:0 < xs.size:=by simpa using hne
 refine PySem.min_intList hh hl hsz fun v h' tk hv hk=>?_
 obtain ⟨t,rfl⟩:=intItems_at hv
 obtain ⟨h1,h2⟩:=argBest_lt (numAt xs) (xs.size - 1)
 refine h h' tk _ t hk ?_ fun a ha=>?_
 ·rw [numAt_eq];exact PySem.getD_mem (by rw [List.length_map,Array.length_toList];omega)
 ·obtain ⟨j,hj,rfl⟩:=mem_getD ha
  rw [List.length_map,Array.length_toList] at hj
  rw [← numAt_eq];exact h2 j (by omega)
end
section
variable {X:Cx}
def rSum (K:PySem.W.Frag):List V→Hp→VK→Prop:=fun vs H Q=>∃ (a:Addr) (ns:List Int),vs=[V.ref a]∧SqL K H a (ns.map V.int)∧Q (.int ns.sum) H
def rMin (K:PySem.W.Frag):List V→Hp→VK→Prop:=fun vs H Q=>∃ (a:Addr) (ns:List Int),vs=[V.ref a]∧SqL K H a (ns.map V.int)∧0 < ns.length∧∀ m,m∈ns→(∀ y,y∈ns→m≤y)→Q (.int m) H
theorem cr_sum (hc:X.calm=true):CallR X (.builtin "sum") (rSum X.K):=by
 intro pins s σ H vs us Q I r h
 obtain ⟨a,ns,rfl,hs,q⟩:=h
 obtain ⟨its,rv,hl,_⟩:=I.list hs
 rw [Vals.ref1 r]
 exact sum_raw (I.ok.hd hc) hl.isList rv.ints fun h' tk t' hk=>⟨.int _,H,I.kept hk,⟨_,rfl⟩,q⟩
theorem cr_min (hc:X.calm=true):CallR X (.builtin "min") (rMin X.K):=by
 intro pins s σ H vs us Q I r h
 obtain ⟨a,ns,rfl,hs,hne,q⟩:=h
 obtain ⟨its,rv,hl,_⟩:=I.list hs
 rw [Vals.ref1 r]
 exact min_raw (I.ok.hd hc) hl.isList rv.ints hne fun h' tk m t' hk h1 h2=>⟨.int _,H,I.kept hk,⟨_,rfl⟩,q m h1 h2⟩
end
section
variable {X:Cx}
end
section
variable {X:Cx}
end
theorem iter_any {prog:Program} {w:World} {A:Around} {E:Value→Shared→Prop} {s:Shared} {l:Addr} {items:Array Value} {Q:Value→Shared→Prop} (hl:s.heap.IsList l items)
  (h:∀ s₂:Shared,s₂={ s with heap:=s.heap.push { cls := .type "list_iterator",data := .fields #[.ref l,.int 0 0] } } →
   (s₂.heap.IsListIter s.heap.objs.size l 0∧s₂.heap.IsList l items)→l≠s.heap.objs.size→Q (.ref s.heap.objs.size) s₂):wpAny (model prog w) A (pyIter (.ref l)) Q E s:=by
 have hlt:l < s.heap.objs.size:=by obtain ⟨_,e,_⟩:=hl;exact Heap.lt_size e
 exact wpAny_pyIter_list hl (h _ rfl ⟨⟨_,Heap.get?_push_size _ rfl,rfl,rfl⟩,hl.push _⟩ (Nat.ne_of_lt hlt))
theorem yr6 {prog:Program} {w:World} {A:Around} {bs:List Bool} {its:List Value} (e:its=bs.map Value.bool) :
  TruthOf prog w A (fun i v=>its.toArray[i]?=some v) (fun i=>bs.getD i false):=fun i v s Q E hv hq=>by
 have hv':its[i]?=some v:=by simpa using hv
 rw [e,List.getElem?_map] at hv'
 obtain ⟨b,hb,rfl⟩:=Option.map_eq_some_iff.mp hv'
 have hg:bs.getD i false=b:=by rw [List.getD_eq_getElem?_getD,hb] <;> rfl
 have hq':Q (bs.getD i false) s:=hq
 rw [hg] at hq'
 exact wpAny_truthy_bool hq'
theorem any_range:∀ bs:List Bool,(List.range bs.length).any (fun i=>bs.getD i false)=bs.any id
 | []=>rfl
 | b :: bs=>by
  rw [List.length_cons,List.range_succ_eq_map,List.any_cons,List.any_map,List.any_cons,← any_range bs]
  all_goals rfl
theorem all_range:∀ bs:List Bool,(List.range bs.length).all (fun i=>bs.getD i false)=bs.all id
 | []=>rfl
 | b :: bs=>by
  rw [List.length_cons,List.range_succ_eq_map,List.all_cons,List.all_map,List.all_cons,← all_range bs]
  all_goals rfl
section
variable {X:Cx}
def rAny (K:PySem.W.Frag):List V→Hp→VK→Prop:=fun vs H Q=>∃ (a:Addr) (bs:List Bool),vs=[V.ref a]∧SqL K H a (bs.map V.bl)∧Q (.bl (bs.any id)) H
def rAll (K:PySem.W.Frag):List V→Hp→VK→Prop:=fun vs H Q=>∃ (a:Addr) (bs:List Bool),vs=[V.ref a]∧SqL K H a (bs.map V.bl)∧Q (.bl (bs.all id)) H
theorem cr_any (hc:X.calm=true):CallR X (.builtin "any") (rAny X.K):=by
 intro pins s σ H vs us Q I r h
 obtain ⟨a,bs,rfl,hs,q⟩:=h
 obtain ⟨its,rv,hl,_⟩:=I.list hs
 rw [Vals.ref1 r]
 have hb:=rv.bls
 refine call_any_walk (iter_any hl.isList fun s₂ e2 st hne=>?_)
 subst e2
 refine ⟨_,_,_,_,_,_,_,rfl,Walks.list (A:=X.A.in1) (I.ok.hd hc) _ a hne its.toArray,st,yr6 hb,fun h' tk hk=>?_⟩
 refine ⟨.bl _,H,I.kept fun b o eo=>hk b o (fun hmem=>?_) (Heap.get?_push_of_some _ eo),?_,q⟩
 ·rcases List.mem_cons.mp hmem with e1 | hmem
  ·exact absurd (e1▸Heap.lt_size eo) (Nat.lt_irrefl _)
  ·cases hmem
 ·show Value.bool _=Value.bool _
  rw [← any_range,hb,List.size_toArray,List.length_map]
theorem cr_all (hc:X.calm=true):CallR X (.builtin "all") (rAll X.K):=by
 intro pins s σ H vs us Q I r h
 obtain ⟨a,bs,rfl,hs,q⟩:=h
 obtain ⟨its,rv,hl,_⟩:=I.list hs
 rw [Vals.ref1 r]
 have hb:=rv.bls
 refine call_all_walk (iter_any hl.isList fun s₂ e2 st hne=>?_)
 subst e2
 refine ⟨_,_,_,_,_,_,_,rfl,Walks.list (A:=X.A.in1) (I.ok.hd hc) _ a hne its.toArray,st,yr6 hb,fun h' tk hk=>?_⟩
 refine ⟨.bl _,H,I.kept fun b o eo=>hk b o (fun hmem=>?_) (Heap.get?_push_of_some _ eo),?_,q⟩
 ·rcases List.mem_cons.mp hmem with e1 | hmem
  ·exact absurd (e1▸Heap.lt_size eo) (Nat.lt_irrefl _)
  ·cases hmem
 ·show Value.bool _=Value.bool _
  rw [← all_range,hb,List.size_toArray,List.length_map]
end
section
variable {X:Cx} {pins:List (Addr×Obj)} {σ:St} {H:Hp} {s:Shared}
end
section
variable {X:Cx}
end
end L2
namespace L2
open PySem PySem.Spec PyProof.Rows
abbrev CellAt (h:Heap) (c:Addr) (v:Option Value):Prop:=h.IsCell c v
def relS (scope sc:Scope):Scope :=
 { scope with names:=scope.names.map fun (n,k)=>if (k == .free && sc.kind == .function && sc.names.lookup n == some .cell) then (n,.cell) else (n,k) }
def cloFrom (cells:List (Str×Addr)):List (Str×NameKind)→List (Str×Addr)→List (Str×Addr)
 | [],acc=>acc
 | (n,k) :: r,acc=>if k == .free then cloFrom cells r ((n,(cells.lookup n).getD 0) :: acc) else cloFrom cells r acc
theorem yo7 (env:Env) (f:Str×NameKind→List (Str×Addr)→Sem (ForInStep (List (Str×Addr))))
  (hf:∀ n k c,f (n,k) c=if k == .free then (do let a ← cellOf env n;pure (.yield ((n,a) :: c))) else pure (.yield c)) :
  ∀ (names:List (Str×NameKind)) (acc:List (Str×Addr)),(∀ y∈names,y.2 = .free→∃ c,env.cells.lookup y.1=some c)→forIn names acc f=pure (cloFrom env.cells names acc)
 | [],acc,_=>by rw [List.forIn_nil];rfl
 | (n,k) :: r,acc,h=>by
  rw [List.forIn_cons,hf]
  have ih:=fun acc=>yo7 env f hf r acc fun y hy=>h y (List.mem_cons_of_mem _ hy)
  unfold cloFrom
  by_cases hk:(k == NameKind.free)=true
  ·rw [if_pos hk,if_pos hk]
   obtain ⟨c,hc⟩:=h (n,k) List.mem_cons_self (by simpa using hk)
   have e:cellOf env n=pure c:=by unfold cellOf;rw [hc]
   rw [e]
   have e2:(env.cells.lookup n).getD 0=c:=by rw [hc];rfl
   rw [e2]
   exact ih _
  ·rw [if_neg hk,if_neg hk]
   exact ih _
theorem closure_ok {scope:Scope} {env:Env} (h:∀ y∈scope.names,y.2 = .free→∃ c,env.cells.lookup y.1=some c):closureFor scope env=pure (cloFrom env.cells scope.names []):=by
 simp only [closureFor]
 rw [yo7 env _ (fun n k c=>rfl) scope.names [] h]
 rfl
theorem ym6 {α:Type}:∀ {l:List (Str×α)} {n:Str} {c:α},(n,c)∈l→∃ c',l.lookup n=some c'
 | (k,v) :: r,n,c,h=>by
  rw [List.lookup_cons]
  cases hb:n == k with
  | true=>exact ⟨_,rfl⟩
  | false =>
   rcases List.mem_cons.mp h with e | h
   ·cases e;simp at hb
   ·exact ym6 h
theorem zz8 {cells:List (Str×Addr)}:∀ {names:List (Str×NameKind)} {acc:List (Str×Addr)} {n:Str} {c:Addr},(n,c)∈cloFrom cells names acc→(n,c)∈acc∨((n,.free)∈names∧c=(cells.lookup n).getD 0)
 | [],_,_,_,h => .inl h
 | (m,k) :: r,acc,n,c,h=>by
  unfold cloFrom at h
  split at h
  ·rename_i hk
   have hk:k = .free:=by simpa using hk
   rcases zz8 h with h | ⟨h1,h2⟩
   ·rcases List.mem_cons.mp h with e | h
    ·cases e;exact .inr ⟨hk▸List.mem_cons_self,rfl⟩
    ·exact .inl h
   ·exact .inr ⟨List.mem_cons_of_mem _ h1,h2⟩
  ·rcases zz8 h with h | ⟨h1,h2⟩
   ·exact .inl h
   ·exact .inr ⟨List.mem_cons_of_mem _ h1,h2⟩
theorem yg8 {cells:List (Str×Addr)}:∀ {names:List (Str×NameKind)} {acc:List (Str×Addr)} {p:Str×Addr},p∈acc→p∈cloFrom cells names acc
 | [],_,_,h=>h
 | (m,k) :: r,acc,p,h=>by
  unfold cloFrom
  split
  ·exact yg8 (List.mem_cons_of_mem _ h)
  ·exact yg8 h
theorem yg7 {cells:List (Str×Addr)}:∀ {names:List (Str×NameKind)} {acc:List (Str×Addr)} {n:Str},(n,.free)∈names→(n,(cells.lookup n).getD 0)∈cloFrom cells names acc
 | (m,k) :: r,acc,n,h=>by
  unfold cloFrom
  rcases List.mem_cons.mp h with e | h
  ·cases e
   exact yg8 List.mem_cons_self
  ·split
   ·exact yg7 h
   ·exact yg7 h
theorem yc1:∀ {names:List (Str×NameKind)} {h:Heap} {acc:List (Str×Addr)} {x:Str} {c:Addr},(x,c)∈cellsFrom h.objs.size names acc →
  (x,c)∈acc∨((x,.cell)∈names∧h.objs.size≤c∧CellAt (pushCells h names) c none)
 | [],_,_,_,_,h => .inl h
 | (n,k) :: r,h,acc,x,c,hm=>by
  unfold cellsFrom at hm
  unfold pushCells
  split at hm
  ·rename_i hk
   rw [if_pos hk]
   have hk:k = .cell:=by simpa using hk
   rw [← Heap.size_push h { cls := .type "cell",data := .cell none }] at hm
   rcases yc1 hm with hm | ⟨h1,h2,h3⟩
   ·rcases List.mem_cons.mp hm with e | hm
    ·cases e
     exact .inr ⟨hk▸List.mem_cons_self,Nat.le_refl _,_,pushCells_keeps r _ _ _ (Heap.get?_push_size _ rfl),rfl⟩
    ·exact .inl hm
   ·rw [Heap.size_push] at h2
    exact .inr ⟨List.mem_cons_of_mem _ h1,Nat.le_of_succ_le h2,h3⟩
  ·rename_i hk
   rw [if_neg hk]
   rcases yc1 hm with hm | ⟨h1,h2,h3⟩
   ·exact .inl hm
   ·exact .inr ⟨List.mem_cons_of_mem _ h1,h2,h3⟩
theorem yk9:∀ {names:List (Str×NameKind)} {n:Nat} {acc:List (Str×Addr)} {p:Str×Addr},p∈acc→p∈cellsFrom n names acc
 | [],_,_,_,h=>h
 | (m,k) :: r,n,acc,p,h=>by
  unfold cellsFrom
  split
  ·exact yk9 (List.mem_cons_of_mem _ h)
  ·exact yk9 h
theorem yv6:∀ {names:List (Str×NameKind)} {n:Nat} {acc:List (Str×Addr)} {x:Str},(x,.cell)∈names→∃ c,(x,c)∈cellsFrom n names acc
 | (m,k) :: r,n,acc,x,h=>by
  unfold cellsFrom
  rcases List.mem_cons.mp h with e | h
  ·cases e
   exact ⟨n,yk9 List.mem_cons_self⟩
  ·split
   ·exact yv6 h
   ·exact yv6 h
theorem yv5:∀ {names:List (Str×NameKind)} {h:Heap} {acc:List (Str×Addr)} {x y:Str} {c:Addr},(∀ p∈acc,p.2 < h.objs.size)→(∀ x y c,(x,c)∈acc→(y,c)∈acc→x=y) →
  (x,c)∈cellsFrom h.objs.size names acc→(y,c)∈cellsFrom h.objs.size names acc→x=y
 | [],_,_,_,_,_,_,hi,h1,h2=>hi _ _ _ h1 h2
 | (n,k) :: r,h,acc,x,y,c,hl,hi,h1,h2=>by
  unfold cellsFrom at h1 h2
  split at h1
  ·rename_i hk
   rw [if_pos hk] at h2
   rw [← Heap.size_push h { cls := .type "cell",data := .cell none }] at h1 h2
   refine yv5 (h:=h.push _) (fun p hp=>?_) (fun x y c a b=>?_) h1 h2
   ·rw [Heap.size_push]
    rcases List.mem_cons.mp hp with rfl | hp
    ·exact Nat.lt_succ_self _
    ·exact Nat.lt_succ_of_lt (hl p hp)
   ·rcases List.mem_cons.mp a with e | a <;> rcases List.mem_cons.mp b with e' | b
    ·cases e;cases e';rfl
    ·cases e;exact absurd (hl _ b) (Nat.lt_irrefl _)
    ·cases e';exact absurd (hl _ a) (Nat.lt_irrefl _)
    ·exact hi _ _ _ a b
  ·rename_i hk
   rw [if_neg hk] at h2
   exact yv5 hl hi h1 h2
theorem newEnv_comp {M:Model} {A:Around} {E:Value→Shared→Prop} {s:Shared} {scope:Scope} {globals:Addr} {closure:List (Str×Addr)} {qual:Str} {func:Option Addr} {code:Value} {around:Env} {builtins:Addr} {Q:Env→Shared→Prop}
  (h:Q (newEnv scope s.heap.objs.size globals (cellsFrom (s.heap.objs.size + 1) scope.names closure) qual func code (some around) builtins)
   { s with heap:=pushCells (s.heap.push { cls := .type "dict",data := .dict #[] }) scope.names }) :
  wpAny M A (newFunctionEnv scope globals closure [] qual func code (some around) builtins) Q E s:=by
 simp only [newFunctionEnv,Option.isSome_some,if_true]
 refine wpAny_bind (wpAny_alloc ?_)
 refine wpAny_bind (wpAny_layCells _ (fun n k c=>rfl) scope.names closure _ _ ?_)
 rw [show ({ s with heap:=s.heap.push { cls := .type "dict",data := .dict #[] } }:Shared).heap.objs.size=s.heap.objs.size + 1 from Heap.size_push ..]
 rw [List.forIn_nil]
 exact wpAny_bind (wpAny_pure (wpAny_pure h))
theorem yg2 {sc:Scope}:∀ {names:List (Str×NameKind)} {x:Str} {k:NameKind},
  (names.map fun (n,k)=>if (k == NameKind.free && sc.kind == .function && sc.names.lookup n == some .cell) then (n,NameKind.cell) else (n,k)).lookup x=some k →
  ∃ k',names.lookup x=some k'∧(k=k'∨(k' = .free∧k = .cell))
 | [],_,_,h=>by simp at h
 | (n,k₀) :: r,x,k,h=>by
  have ih:=@yg2 sc r x k
  have h':List.lookup x ((if (k₀ == NameKind.free && sc.kind == .function && sc.names.lookup n == some .cell)=true then (n,NameKind.cell) else (n,k₀)) :: (r.map _))=some k:=h
  cases hx:x == n with
  | true =>
   simp only [List.lookup_cons,hx]
   by_cases hc:(k₀ == NameKind.free && sc.kind == .function && sc.names.lookup n == some .cell)=true
   ·rw [if_pos hc] at h'
    simp only [List.lookup_cons,hx] at h'
    cases h'
    simp only [Bool.and_eq_true,beq_iff_eq] at hc
    exact ⟨k₀,rfl,.inr ⟨hc.1.1,rfl⟩⟩
   ·rw [if_neg hc] at h'
    simp only [List.lookup_cons,hx] at h'
    cases h'
    exact ⟨_,rfl,.inl rfl⟩
  | false =>
   simp only [List.lookup_cons,hx]
   by_cases hc:(k₀ == NameKind.free && sc.kind == .function && sc.names.lookup n == some .cell)=true
   ·rw [if_pos hc] at h'
    simp only [List.lookup_cons,hx] at h'
    exact ih h'
   ·rw [if_neg hc] at h'
    simp only [List.lookup_cons,hx] at h'
    exact ih h'
structure BlkOk (N:List Str) (sc scope:Scope) (own:List (Str×Nat)):Prop where
 kind:scope.kind = .function
 uniq:∀ y∈scope.names,scope.names.lookup y.1=some y.2
 ix:∀ p∈own,N[p.2]?=some p.1
 free:∀ y∈scope.names,y.2 = .free→sc.names.lookup y.1=some .cell∨sc.names.lookup y.1=some .free
 own:∀ y∈scope.names,y.2 = .local∨y.2 = .cell→y.1∈own.map (·.1)∨y.1 ∉ N
def wipe (σ:St):List Nat→St
 | []=>σ
 | v :: vs=>(wipe σ vs).set v none
theorem yf4 (σ:St):∀ vs:List Nat,(wipe σ vs).length=σ.length
 | []=>rfl
 | v :: vs=>by unfold wipe;rw [List.length_set,yf4 σ vs]
theorem yr4 {σ:St} {i:Nat} {x:V}:∀ {vs:List Nat},(wipe σ vs)[i]?=some (some x)→σ[i]?=some (some x)∧i ∉ vs
 | [],h=>⟨h,by simp⟩
 | v :: vs,h=>by
  unfold wipe at h
  by_cases hi:v=i
  ·subst hi
   by_cases hv:v < (wipe σ vs).length
   ·rw [List.getElem?_set_self hv] at h;cases h
   ·rw [List.getElem?_eq_none (by simpa using hv)] at h;cases h
  ·rw [List.getElem?_set_ne hi] at h
   obtain ⟨h1,h2⟩:=yr4 h
   exact ⟨h1,by simp only [List.mem_cons,not_or];exact ⟨fun e=>hi e.symm,h2⟩⟩
abbrev Cx.blk (X:Cx) (s:Shared) (H:Hp) (scope:Scope) (cenv:Env) (fp:List Addr):Cx:={ X with s_0:=s,H_0:=H,env:=cenv,outer:=X.stack,ex:=fp,fn:=fun x=>scope.names.lookup x == some .cell,pn:=[],xe:=fun _ _=>False }
section
variable {X:Cx} {pins:List (Addr×Obj)} {σ:St} {H:Hp} {s:Shared}
theorem block_start {scope:Scope} {own:List (Str×Nat)} {fp:List Addr} (I:Inv X pins σ H s) (ok:BlkOk X.N X.env.scope scope own) (hN:X.N.Nodup) (hfp:∀ b∈fp,FpOk X pins H b∧b < s.heap.objs.size) :
  Inv (X.blk s H scope (compEnvC scope (cellsFrom (s.heap.objs.size + 1) scope.names (cloFrom X.env.cells scope.names [])) s.heap.objs.size X.env) fp) [] (wipe σ (own.map (·.2))) H { s with heap:=pushCells (s.heap.push { cls := .type "dict",data := .dict #[] }) scope.names }:=by
 have hfree:∀ y∈scope.names,y.2 = .free→∃ c,X.env.cells.lookup y.1=some c:=fun y hy e=>by
  rcases ok.free y hy e with k | k
  ·exact I.ok.has _ (.inl k)
  ·exact I.ok.has _ (.inr k)
 generalize hcenv:compEnvC scope (cellsFrom (s.heap.objs.size + 1) scope.names (cloFrom X.env.cells scope.names [])) s.heap.objs.size X.env=cenv
 have kp:∀ b o,s.heap.get? b=some o→(pushCells (s.heap.push { cls := .type "dict",data := .dict #[] }) scope.names).get? b=some o:=fun b o e=>pushCells_keeps _ _ _ _ (Heap.get?_push_of_some _ e)
 have hL:cenv.locals=s.heap.objs.size:=by rw [← hcenv];rfl
 have hcl:cenv.cells=cellsFrom (s.heap.objs.size + 1) scope.names (cloFrom X.env.cells scope.names []):=by rw [← hcenv];rfl
 have hsc:cenv.scope=relS scope X.env.scope:=by rw [← hcenv];rfl
 rw [← Heap.size_push s.heap { cls := .type "dict",data := .dict #[] }] at hcl
 have cm:∀ {y c},(y,c)∈cloFrom X.env.cells scope.names []→X.env.cells.lookup y=some c∧c < s.heap.objs.size:=fun {y c} hm=>by
  rcases zz8 hm with hm | ⟨h1,rfl⟩
  ·cases hm
  ·obtain ⟨c,hc⟩:=hfree _ h1 rfl
   rw [hc]
   obtain ⟨w,z⟩:=I.cell _ _ hc
   exact ⟨rfl,z.lt⟩
 have mem:∀ {y c},cenv.cells.lookup y=some c→(X.env.cells.lookup y=some c∧c < s.heap.objs.size)∨(s.heap.objs.size + 1≤c∧CellAt (pushCells (s.heap.push { cls := .type "dict",data := .dict #[] }) scope.names) c none):=fun {y c} e=>by
  rw [hcl] at e
  rcases yc1 (PySem.mem_of_lookup e) with hm | ⟨_,h2,h3⟩
  ·exact .inl (cm hm)
  ·rw [Heap.size_push] at h2;exact .inr ⟨h2,h3⟩
 have look:∀ {y},scope.names.lookup y=some .free→∃ c,cenv.cells.lookup y=some c∧X.env.cells.lookup y=some c:=fun {y} hl=>by
  have hy:(y,NameKind.free)∈scope.names:=PySem.mem_of_lookup hl
  obtain ⟨c',e'⟩:=ym6 (yk9 (names:=scope.names) (n:=(s.heap.push { cls := .type "dict",data := .dict #[] }).objs.size) (yg7 (cells:=X.env.cells) (acc:=[]) hy))
  rw [← hcl] at e'
  refine ⟨c',e',?_⟩
  rw [hcl] at e'
  rcases yc1 (PySem.mem_of_lookup e') with hm | ⟨h1,_,_⟩
  ·exact (cm hm).1
  ·have:=ok.uniq _ h1
   rw [hl] at this;cases this
 have okB:(X.blk s H scope cenv fp).Ok:=by
  refine ⟨I.ok.mod,by show cenv.scope.kind=_;rw [hsc];exact ok.kind,by show cenv.globals=_;rw [← hcenv];exact I.ok.glob,by show cenv.builtins=_;rw [← hcenv];exact I.ok.blt,by show s.heap.objs.size≤cenv.locals;rw [hL];exact Nat.le_refl _,
   fun y z c e1 e2=>?_,fun y hy=>?_,fun y c z e=>?_,I.ok.hd,I.ok.frames,.inl rfl,fun b hb=>⟨?_,fun y c e z=>?_⟩,I.bs,Nat.le_trans I.ok.bsz I.sz,fun b o e hb=>?_,fun b hb z=>?_,I.stack,I.stkFree⟩
  ·have e1:cenv.cells.lookup y=some c:=e1
   have e2:cenv.cells.lookup z=some c:=e2
   rw [hcl] at e1 e2
   refine yv5 (fun p hp=>?_) (fun y z c a b=>I.ok.inj y z c (cm a).1 (cm b).1) (PySem.mem_of_lookup e1) (PySem.mem_of_lookup e2)
   rw [Heap.size_push]
   exact Nat.lt_succ_of_lt (cm (y:=p.1) (c:=p.2) hp).2
  ·show ∃ c,cenv.cells.lookup y=some c
   have key:∀ k,cenv.kindOf y=some k→(k = .cell∨k = .free)→∃ c,cenv.cells.lookup y=some c:=fun k hk hk'=>by
    unfold Env.kindOf at hk
    rw [hsc] at hk
    obtain ⟨k',e,r⟩:=yg2 hk
    have:k' = .cell∨k' = .free:=by
     rcases r with rfl | ⟨rfl,_⟩
     ·exact hk'
     ·exact .inr rfl
    rcases this with rfl | rfl
    ·obtain ⟨c,hm⟩:=yv6 (n:=(s.heap.push { cls := .type "dict",data := .dict #[] }).objs.size) (acc:=cloFrom X.env.cells scope.names []) (PySem.mem_of_lookup e)
     obtain ⟨c',e'⟩:=ym6 hm
     exact ⟨c',by rw [hcl];exact e'⟩
    ·obtain ⟨c,h1,_⟩:=look e
     exact ⟨c,h1⟩
   rcases hy with hy | hy
   ·exact key _ hy (.inl rfl)
   ·exact key _ hy (.inr rfl)
  ·have z:(scope.names.lookup y == some NameKind.cell)=true:=z
   have z:scope.names.lookup y=some .cell:=by simpa using z
   have e:cenv.cells.lookup y=some c:=e
   rw [hcl] at e
   rcases yc1 (PySem.mem_of_lookup e) with hm | ⟨_,h2,_⟩
   ·rcases zz8 hm with hm | ⟨h1,_⟩
    ·cases hm
    ·have q:=ok.uniq _ h1
     rw [z] at q;cases q
   ·rw [Heap.size_push] at h2
    exact Nat.le_of_succ_le h2
  ·show b≠cenv.locals
   rw [hL];exact Nat.ne_of_lt (hfp b hb).2
  ·have e:cenv.cells.lookup y=some c:=e
   rcases mem e with ⟨h1,_⟩ | ⟨h1,_⟩
   ·exact (hfp b hb).1.2.2.2.2.1 y c h1 z
   ·have h2:s.heap.objs.size + 1≤b:=by rw [← z];exact h1
    exact absurd (Nat.lt_of_lt_of_le (hfp b hb).2 (Nat.le_of_succ_le h2)) (Nat.lt_irrefl _)
  ·rcases (hfp b hb).1.2.2.2.1 with z | z
   ·exact I.ok.noex b o e z
   ·exact absurd (Nat.lt_of_lt_of_le (Heap.lt_size e) (Nat.le_trans I.ok.bsz z)) (Nat.lt_irrefl _)
  ·rcases List.mem_cons.mp (I.stkSub b z) with z | z
   ·exact (hfp b hb).1.2.1 z
   ·exact (hfp b hb).1.2.2.1 z
 refine ⟨okB,rfl,I.bare,Un.kept kp,⟨fun _=>none,?_,fun i y av e1 e2 e3=>?_⟩,fun y c e=>?_,?_,fun y c e=>?_,fun p hp=>?_,I.hok.kept kp,by rw [yf4];exact I.len⟩
 ·show Heap.Ns _ cenv.locals _
  rw [hL]
  exact Heap.Ns.keeps (Heap.Ns.new ..) fun b o e=>pushCells_keeps _ _ _ _ e
 ·obtain ⟨e2,hne⟩:=yr4 e2
  have hfr:scope.names.lookup y=some .free∧(cenv.kindOf y=some .cell∨cenv.kindOf y=some .free):=by
   have key:∀ k,cenv.scope.names.lookup y=some k→k = .local∨k = .cell∨k = .free→scope.names.lookup y=some .free∧(cenv.kindOf y=some .cell∨cenv.kindOf y=some .free):=fun k hk hk'=>by
    have hk0:=hk
    rw [hsc] at hk
    obtain ⟨k',e,r⟩:=yg2 hk
    have no:¬ (k' = .local∨k' = .cell):=fun hh=>by
     rcases ok.own _ (PySem.mem_of_lookup e) hh with e' | e'
     ·obtain ⟨p,hp,hpy⟩:=List.mem_map.mp e'
      have e3:=ok.ix p hp
      have:p.1=y:=hpy
      rw [this] at e3
      exact hne (List.mem_map.mpr ⟨p,hp,xc8 hN e3 e1⟩)
     ·exact e' (List.mem_of_getElem? e1)
    rcases r with rfl | ⟨rfl,rfl⟩
    ·rcases hk' with rfl | rfl | rfl
     ·exact absurd (.inl rfl) no
     ·exact absurd (.inr rfl) no
     ·exact ⟨e,.inr hk0⟩
    ·exact ⟨e,.inl hk0⟩
   have e3:Vis cenv.scope y:=e3
   rcases e3 with e3 | e3 | e3
   ·exact key _ e3 (.inl rfl)
   ·exact key _ e3 (.inr (.inl rfl))
   ·exact key _ e3 (.inr (.inr rfl))
  obtain ⟨m,hn,hl⟩:=I.loc
  have hvis:Vis X.env.scope y:=(ok.free _ (PySem.mem_of_lookup hfr.1) rfl).elim (fun k => .inr (.inl k)) (fun k => .inr (.inr k))
  obtain ⟨w,r,q⟩:=hl i y av e1 e2 hvis
  refine ⟨w,r,.inr ⟨hfr.2,?_⟩⟩
  obtain ⟨c,h1,h2⟩:=look hfr.1
  rcases q with ⟨k,_⟩ | ⟨_,c',e',z⟩
  ·have k:X.env.scope.names.lookup y=some .local:=k
   rcases ok.free _ (PySem.mem_of_lookup hfr.1) rfl with k' | k' <;> rw [show X.env.scope.names.lookup y=_ from k'] at k <;> cases k
  ·rw [h2] at e';cases e'
   exact ⟨c,h1,z.keeps kp⟩
 ·have e:cenv.cells.lookup y=some c:=e
  rcases mem e with ⟨h1,_⟩ | ⟨_,z⟩
  ·obtain ⟨w,z⟩:=I.cell y c h1
   exact ⟨w,z.keeps kp⟩
  ·exact ⟨_,z⟩
 ·show H cenv.locals=none
  rw [hL];exact I.hok.fresh (Nat.le_refl _)
 ·have e:cenv.cells.lookup y=some c:=e
  rcases mem e with ⟨h1,_⟩ | ⟨h1,_⟩
  ·exact I.freeC y c h1
  ·exact I.hok.fresh (Nat.le_of_succ_le h1)
 ·exact absurd (show p∈([]:List (Addr×Obj))++[] from hp) (by simp)
theorem app_ok {E:Value→Shared→Prop} {D:Addr} {xs:List V} {y:V} {v:Value} {Q:Value→Shared→Prop} (I:Inv X pins σ H s) (hD:H D=some (.lst xs)) (hz:xs.length < sizeLine) (r:RelV y v)
  (h:∀ s',Inv X pins σ (upd H D (.lst (xs++[y]))) s'→Q .none s'):wpAny (model X.prog X.w) X.A (call (.builtin "list.append") [.ref D,v]) Q E s:=by
 obtain ⟨hz',its,n,ri,e⟩:=I.hok D _ hD
 have hl:=ri.length
 refine append_at (hsz:=by rw [List.size_toArray];omega) e fun h' sb ho'=>?_
 refine h { s with heap:=h' } (I.write (t':=s.toks) (by rw [hD];trivial) (.inl rfl) (fun b u hb q=>(sb.2 b hb).trans q) ⟨_,ho'⟩ ⟨by rw [List.length_append];exact hz,its++[v],n + 1,ri.append (.cons r .nil),?_⟩)
 rw [ho']
 simp
def PTs (X:Cx) (ifs:List Expr) (t:TT):Prop :=
 ∀ (pins:List (Addr×Obj)) (s:Shared) (σ:St) (H:Hp) (Q:Bool→Hp→Prop),Inv X pins σ H s→t σ H Q →
  wpAny (model X.prog X.w) X.A (forIn ifs true fun c r=>if r=true then do let ok ← isTrue c X.env (eval c X.env);pure (ForInStep.yield ok) else pure (ForInStep.yield r)) (TP X pins σ Q) X.xe s
def tYes:TT:=fun _ H Q=>Q true H
theorem zy9:PTs X [] tYes:=fun _ _ _ H _ I h=>wpAny_tests_nil ⟨H,I,h⟩
theorem yl6 {c:Expr} {t:TT} (h:PT X c t):PTs X [c] t:=fun pins s σ H Q I hw=>wpAny_tests_one (h pins s σ H Q I hw)
end
theorem thnF {α:Type} {t:Sem α} {Q Q':α→Shared→Prop} {M:Model} {A:Around} {E:Value→Shared→Prop} {s:Shared} (h:wpAny M A t Q (fun _ _=>False) s) (hQ:∀ a s,Q a s→Q' a s):wpAny M A t Q' E s:=wpAny_mono h hQ fun _ _ z=>False.elim z
theorem compLoop_any {prog:Program} {w:World} {A:Around} {R:Result→Shared→Prop} {s:Shared} {elt target iter:Expr} {ifs:List Expr} {scope:Scope} {pos:Pos} {it acc:Value} {env:Env} (I:Nat→Shared→Prop)
  (turn:∀ n s,I n s→wpAny (model prog w) A (pyNext it) (fun r s₁=>match r with
   | none=>R (.ok .next) s₁
   | some v=>wpAny (model prog w) A (letOwnedTupleGo target it v) (fun _ s₁'=>wpAny (model prog w) A (assign target env v) (fun _ s₂ =>
     wpAny (model prog w) A (forIn ifs true fun c r=>if r=true then do let ok ← isTrue c env (eval c env);pure (ForInStep.yield ok) else pure (ForInStep.yield r)) (fun ok s₃ =>
      if ok=true then wpAny (model prog w) A (eval elt env) (fun x s₄ =>
       wpAny (model prog w) A (call (.builtin "list.append") [acc,x]) (fun _ s₅=>∃ m,m < n∧I m s₅) (notedBy (model prog w) A env fun e s'=>R (.error e) s') s₄) (notedBy (model prog w) A env fun e s'=>R (.error e) s') s₃
      else ∃ m,m < n∧I m s₃) (notedBy (model prog w) A env fun e s'=>R (.error e) s') s₂) (notedBy (model prog w) A env fun e s'=>R (.error e) s') s₁') (notedBy (model prog w) A env fun e s'=>R (.error e) s') s₁) (notedBy (model prog w) A env fun e s'=>R (.error e) s') s)
  (n:Nat) (h:I n s) :
  codeAny (model prog w) A (.compLoop (.ListComp elt [⟨target,iter,ifs,0⟩] scope pos) 0 it acc env) R s:=by
 refine codeAny_loop rfl I (fun n s hI=>?_) n h
 show wpAny _ A ((compTurn (.ListComp elt [⟨target,iter,ifs,0⟩] scope pos) 0 it acc env).onRaise (fun x=>do noteFrame x env;theTreesLotGoes x)) _ _ s
 refine wpAny_noted ?_
 rw [compTurn_list]
 refine wpAny_bind (wpAny_standAt (wpAny_bind (wpAny_mono (turn n s hI) (fun r s₁ h₁=>?_) fun _ _ h'=>h')))
 cases r with
 | none=>exact wpAny_pure h₁
 | some v =>
  refine wpAny_bind (wpAny_mono h₁ (fun _ s₁' h₁'=>?_) fun _ _ h'=>h')
  refine wpAny_bind (wpAny_mono h₁' (fun _ s₂ h₂=>wpAny_bind (wpAny_mono h₂ (fun ok s₃ h₃=>?_) fun _ _ h'=>h')) fun _ _ h'=>h')
  cases ok with
  | false=>exact wpAny_pure ⟨rfl,h₃⟩
  | true =>
   exact wpAny_bind (wpAny_bind (wpAny_mono h₃ (fun x s₄ h₄=>wpAny_bind (wpAny_mono h₄ (fun _ s₅ h₅=>wpAny_pure (wpAny_pure ⟨rfl,h₅⟩)) fun _ _ h'=>h')) fun _ _ h'=>h'))
section
variable {X:Cx}
def tLc (wi:TI) (g:TG) (tt:TT) (te:TE) (vs:List Nat):TE:=fun σ H Q=>wi σ H fun J H1=>∀ D,H1 D=none→∃ W:Nat→Nat→Hp→Prop,(∃ m,W 0 m (upd H1 D (.lst [])))∧∀ i m H,W i m H →
 (J.stop i H∧Q (.ref D) H)∨(J.go i H∧∃ Nx:Hp→Prop,(∀ H',Nx H'→∃ m',m' < m∧W (i + 1) m' H')∧∀ x H',J.yld i H x H'→g x (wipe σ vs) H' fun σ2 H2=>wipe σ2 vs=wipe σ vs∧tt σ2 H2 fun b H3 =>
  if b=true then te σ2 H3 fun y H4=>∃ acc,H4 D=some (.lst acc)∧acc.length < sizeLine∧Nx (upd H4 D (.lst (acc++[y]))) else Nx H3)
theorem lc_core {pins:List (Addr×Obj)} {s:Shared} {σ:St} {H:Hp} {Q:VK} {elt tg iter:Expr} {ifs:List Expr} {scope:Scope} {own:List (Str×Nat)} {pos pos':Pos} {wi:TI} {g:TG} {tt:TT} {te:TE} {use:Option (Value→Sem Unit)} {Qf:Value→Shared→Prop}
  (hc:X.calm=true) (hN:X.N.Nodup) (I:Inv X pins σ H s) (hi:PI X tg iter wi) (ok:BlkOk X.N X.env.scope scope own)
  (hg:∀ (s:Shared) (H:Hp) (C:Addr) (cl:List (Str×Addr)) (fp:List Addr),PG (X.blk s H scope (compEnvC scope cl C X.env) fp) tg g) (ht:∀ (s:Shared) (H:Hp) (C:Addr) (cl:List (Str×Addr)) (fp:List Addr),PTs (X.blk s H scope (compEnvC scope cl C X.env) fp) ifs tt)
  (he:∀ (s:Shared) (H:Hp) (C:Addr) (cl:List (Str×Addr)) (fp:List Addr),PE (X.blk s H scope (compEnvC scope cl C X.env) fp) elt te) (hs:∀ x,foldedSetIterable iter X.env x=pure x)
  (h:tLc wi g tt te (own.map (·.2)) σ H Q)
  (hRR:∀ D C s' m H',Inv X pins σ H' s'→Q (.ref D) H'→s'.heap.Ns C m→FpOk X pins H' C→compPost (model X.prog X.w) X.A X.xe use Qf (.ref D) C (.ok .next) s') :
  wpAny (model X.prog X.w) X.A (comprehension (.ListComp elt [⟨tg,iter,ifs,0⟩] scope pos) scope X.env pos' (newList []) false (eval iter X.env) use) Qf X.xe s:=by
 have hfree:∀ y∈scope.names,y.2 = .free→∃ c,X.env.cells.lookup y.1=some c:=fun y hy e=>by
  rcases ok.free y hy e with k | k
  ·exact I.ok.has _ (.inl k)
  ·exact I.ok.has _ (.inr k)
 refine wpAny_comprehension_free (use:=use) rfl hs (closure_ok hfree) ok.kind (fun y hy e=>by rw [ok.uniq y hy,e])
  (thn (hi pins s σ H _ I h) fun xv s1 hx=>thn hx fun itv s2 h2=>?_)
 obtain ⟨it,fp,tn,J,H2,e,I2,T,st2,f2,q⟩:=h2
 subst e
 refine wpAny_newObj_type (newEnv_comp ?_) (by show 0≤sizeLine;decide)
 generalize hD:s2.heap.objs.size=D
 have hDn:H2 D=none:=I2.hok.fresh (Nat.le_of_eq hD)
 obtain ⟨W,⟨m0,w0⟩,turn⟩:=q D hDn
 generalize hs3:({ s2 with heap:=s2.heap.push { cls := .type "list",data := .seq ([]:List Value).toArray } }:Shared)=s3
 have I3:Inv X pins σ (upd H2 D (.lst [])) s3:=by
  rw [← hs3]
  refine I2.laid (t':=s2.toks) (fun b o e=>Heap.get?_push_of_some _ e) (Nat.le_of_eq hD) ⟨Nat.zero_le _,[],0,.nil,?_⟩
  rw [← hD]
  exact Heap.get?_push_size _ rfl
 have h3:s3.heap=s2.heap.push { cls := .type "list",data := .seq ([]:List Value).toArray }:=by rw [← hs3]
 have sz:∀ b∈fp,b < s2.heap.objs.size:=fun b hb=>by
  obtain ⟨o,e,_⟩:=T.obj _ _ st2 b hb
  exact Heap.lt_size e
 have f3:∀ b∈fp,FpOk X pins (upd H2 D (.lst [])) b∧b < s3.heap.objs.size:=fun b hb=>by
  have hlt:=sz b hb
  refine ⟨⟨?_,(f2 b hb).2⟩,by rw [h3,Heap.size_push];exact Nat.lt_succ_of_lt hlt⟩
  rw [zb5 (by rw [← hD];exact Nat.ne_of_lt hlt)]
  exact (f2 b hb).1
 have st3:tn 0 s3.heap:=T.keep _ _ _ st2 fun b _ o e=>by rw [h3];exact Heap.get?_push_of_some _ e
 have I4:=block_start I3 ok hN f3
 have pg:=hg s3 (upd H2 D (.lst [])) s3.heap.objs.size (cellsFrom (s3.heap.objs.size + 1) scope.names (cloFrom X.env.cells scope.names [])) fp
 have pt:=ht s3 (upd H2 D (.lst [])) s3.heap.objs.size (cellsFrom (s3.heap.objs.size + 1) scope.names (cloFrom X.env.cells scope.names [])) fp
 have pe:=he s3 (upd H2 D (.lst [])) s3.heap.objs.size (cellsFrom (s3.heap.objs.size + 1) scope.names (cloFrom X.env.cells scope.names [])) fp
 show codeAny _ _ (.compStart (.ListComp elt [⟨tg,iter,ifs,0⟩] scope pos) 0 (.ref it) (.ref D) (compEnvC scope (cellsFrom (s3.heap.objs.size + 1) scope.names (cloFrom X.env.cells scope.names [])) s3.heap.objs.size X.env)) (compPost (model X.prog X.w) X.A X.xe use Qf (.ref D) s3.heap.objs.size) { s3 with heap:=pushCells (s3.heap.push { cls := .type "dict",data := .dict #[] }) scope.names }
 have nfp:∀ b∈fp,(upd H2 D (.lst [])) b=none:=fun b hb=>(f3 b hb).1.1
 generalize hce:compEnvC scope (cellsFrom (s3.heap.objs.size + 1) scope.names (cloFrom X.env.cells scope.names [])) s3.heap.objs.size X.env=ce at I4 pg pt pe ⊢
 have cL:ce.locals=s3.heap.objs.size:=by subst hce;rfl
 generalize hH3:upd H2 D (.lst [])=H3 at I3 I4 pg pt pe w0 nfp f3
 generalize hs4:({ s3 with heap:=pushCells (s3.heap.push { cls := .type "dict",data := .dict #[] }) scope.names }:Shared)=s4 at I4 ⊢
 have st4:tn 0 s4.heap:=T.keep _ _ _ st3 fun b _ o e=>by rw [← hs4];exact pushCells_keeps _ _ _ _ (Heap.get?_push_of_some _ e)
 have stat:∀ {σ':St} {H':Hp} {s':Shared},Inv (X.blk s3 H3 scope ce fp) [] σ' H' s'→(∀ b∈fp,H' b=none)→∀ b∈fp,FpOk (X.blk s3 H3 scope ce fp) [] H' b:=fun {σ' H' s'} I' hn b hb =>
  ⟨hn b hb,(I'.ok.exf b hb).1,I'.ok.exfs b hb,.inl hb,fun x c e=>(I'.ok.exf b hb).2 x c e,fun p hp=>absurd (show p∈([]:List (Addr×Obj))++[] from hp) (by simp)⟩
 have loop:codeAny (model X.prog X.w) X.A (.compLoop (.ListComp elt [⟨tg,iter,ifs,0⟩] scope pos) 0 (.ref it) (.ref D) ce) (compPost (model X.prog X.w) X.A X.xe use Qf (.ref D) s3.heap.objs.size) s4:=by
  refine compLoop_any (fun n s'=>∃ i H',Inv (X.blk s3 H3 scope ce fp) [] (wipe σ (own.map (·.2))) H' s'∧tn i s'.heap∧(∀ b∈fp,H' b=none)∧W i n H') ?_ m0 ⟨0,H3,I4,st4,nfp,w0⟩
  rintro n s5 ⟨i,H5,I5,st5,n5,w5⟩
  rcases turn i n H5 w5 with ⟨stop,qq⟩ | ⟨go,Nx,hNx,step⟩
  ·have td:=T.done (X.blk s3 H3 scope ce fp) rfl rfl rfl hc i [] s5 _ H5 (fun _ _=>False) I5 (stat I5 n5) st5 stop
   refine thnF td fun r s6 ⟨hr,I6⟩=>?_
   subst hr
   have I7:Inv X pins σ H5 s6:=I3.call' (ch:=fp) I6.os I6.base I6.hok I6.bare fun b hb=>⟨(f3 b hb).1.2.2.2.1,(f3 b hb).1.2.1,(f3 b hb).1.2.2.2.2.1,(f3 b hb).1.2.2.2.2.2⟩
   have nC:H5 s3.heap.objs.size=none:=by
    have z:H5 ce.locals=none:=I6.free
    rw [cL] at z
    exact z
   obtain ⟨m,hn,_⟩:=I6.loc
   have hn:s6.heap.Ns ce.locals m:=hn
   rw [cL] at hn
   exact hRR D s3.heap.objs.size s6 m H5 I7 qq hn (I3.fpOk (Nat.le_refl _) nC)
  ·have ti:=T.item (X.blk s3 H3 scope ce fp) rfl rfl rfl hc i [] s5 _ H5 (fun _ _=>False) I5 (stat I5 n5) st5 go
   refine thnF ti fun r s6 ⟨u,hr,h6⟩=>?_
   subst hr
   refine thnF h6 fun _ s7 ⟨x,H7,I7,r7,y7,st7,n7⟩=>?_
   have I7':=I7.pinned (stat I7 n7) (T.obj _ _ st7)
   refine thnF (pg _ s7 _ H7 x u _ I7' r7 (step x H7 y7)) fun _ s8 ⟨σ8,H8,I8,hw8,q8⟩=>?_
   refine thnF (pt _ s8 σ8 H8 _ I8 q8) fun b s9 ⟨H9,I9,q9⟩=>?_
   have fin:∀ {s':Shared} {H':Hp},Inv (X.blk s3 H3 scope ce fp) ([]++pinsAt fp s7.heap) σ8 H' s'→Nx H'→∃ m,m < n∧∃ i H',Inv (X.blk s3 H3 scope ce fp) [] (wipe σ (own.map (·.2))) H' s'∧tn i s'.heap∧(∀ b∈fp,H' b=none)∧W i m H':=fun {s' H'} I' nx=>by
    obtain ⟨m',hm,w'⟩:=hNx H' nx
    have pin':∀ b∈fp,∀ o,s7.heap.get? b=some o→s'.heap.get? b=some o∧H' b=none:=fun b hb o e =>
     let z:=I'.pin (b,o) (List.mem_append_right _ (List.mem_append_right _ (ym5 hb e)))
     ⟨z.1,z.2.1⟩
    have hl:(wipe σ (own.map (·.2))).length=σ8.length:=by rw [← hw8,yf4]
    refine ⟨m',hm,i + 1,H',(I'.unpinned (pins:=[])).weak hl (fun j v e=>?_),T.keep _ _ _ st7 fun b hb o e=>(pin' b hb o e).1,fun b hb=>?_,w'⟩
    ·rw [← hw8] at e
     exact (yr4 e).1
    ·obtain ⟨o,e,_⟩:=T.obj _ _ st7 b hb
     exact (pin' b hb o e).2
   cases b with
   | false =>
    simp only [Bool.false_eq_true,if_false] at q9 ⊢
    exact fin I9 q9
   | true =>
    simp only [if_true] at q9 ⊢
    refine thnF (pe _ s9 σ8 H9 _ I9 q9) fun z s10 ⟨yv,H10,I10,r10,acc,hD10,hz10,nx⟩=>?_
    exact app_ok (X:=X.blk s3 H3 scope ce fp) I10 hD10 hz10 r10 fun s11 I11=>fin I11 nx
 exact codeAny_compStart_list loop (T.self X.A 0 _ _ _ st4 loop)
theorem pe_lc {elt tg iter:Expr} {ifs:List Expr} {scope:Scope} {own:List (Str×Nat)} {pos:Pos} {wi:TI} {g:TG} {tt:TT} {te:TE} (hc:X.calm=true) (hN:X.N.Nodup) (hi:PI X tg iter wi) (ok:BlkOk X.N X.env.scope scope own)
  (hg:∀ (s:Shared) (H:Hp) (C:Addr) (cl:List (Str×Addr)) (fp:List Addr),PG (X.blk s H scope (compEnvC scope cl C X.env) fp) tg g) (ht:∀ (s:Shared) (H:Hp) (C:Addr) (cl:List (Str×Addr)) (fp:List Addr),PTs (X.blk s H scope (compEnvC scope cl C X.env) fp) ifs tt)
  (he:∀ (s:Shared) (H:Hp) (C:Addr) (cl:List (Str×Addr)) (fp:List Addr),PE (X.blk s H scope (compEnvC scope cl C X.env) fp) elt te) (hs:∀ x,foldedSetIterable iter X.env x=pure x:=by intro _;rfl) :
  PE X (.ListComp elt [⟨tg,iter,ifs,0⟩] scope pos) (tLc wi g tt te (own.map (·.2))):=by
 intro pins s σ H Q I h
 rw [eval_ListComp]
 refine lc_core hc hN I hi ok hg ht he hs h fun D C s' m H' I' q hn f=>⟨m,hn,fun h'' sb=>?_⟩
 obtain ⟨f0,f1,f2,f3,f4,f5⟩:=f
 exact ⟨.ref D,H',I'.turned (t':=s'.toks) (fun b o hb e=>(sb.2 b hb).trans e) f0 f1 f3 f4 f5,rfl,q⟩
theorem yq4 {i:Nat} {y:Str} {py:Pos} {elt tg iter:Expr} {ifs:List Expr} {scope:Scope} {own:List (Str×Nat)} {pos spos:Pos} {wi:TI} {g:TG} {tt:TT} {te:TE} (hc:X.calm=true) (hN:X.N.Nodup) (hy:X.N[i]?=some y) (hyl:X.env.scope.names.lookup y=some .local)
  (hsw:swapsWith (.ListComp elt [⟨tg,iter,ifs,0⟩] scope pos) (some (.Name y py)) spos.line X.env=pure true) (hi:PI X tg iter wi) (ok:BlkOk X.N X.env.scope scope own)
  (hg:∀ (s:Shared) (H:Hp) (C:Addr) (cl:List (Str×Addr)) (fp:List Addr),PG (X.blk s H scope (compEnvC scope cl C X.env) fp) tg g) (ht:∀ (s:Shared) (H:Hp) (C:Addr) (cl:List (Str×Addr)) (fp:List Addr),PTs (X.blk s H scope (compEnvC scope cl C X.env) fp) ifs tt)
  (he:∀ (s:Shared) (H:Hp) (C:Addr) (cl:List (Str×Addr)) (fp:List Addr),PE (X.blk s H scope (compEnvC scope cl C X.env) fp) elt te) (hs:∀ x,foldedSetIterable iter X.env x=pure x:=by intro _;rfl) :
  PS X (.Assign [.Name y py] (.ListComp elt [⟨tg,iter,ifs,0⟩] scope pos) spos) (tAsg (tLc wi g tt te (own.map (·.2))) (gName i)):=by
 intro pins s σ H D I h
 rw [exec_Assign_Name_used _ _ _ _ hsw]
 refine wpAny_bind (wpAny_standAt (wpAny_bind ?_))
 show wpAny _ X.A (do let _ ← comprehension (.ListComp elt [⟨tg,iter,ifs,0⟩] scope pos) scope X.env (firstIterPos [⟨tg,iter,ifs,0⟩] pos) (newList []) false (eval iter X.env) (some (assign (.Name y py) X.env))) _ _ s
 have h:tLc wi g tt te (own.map (·.2)) σ H (fun x H1=>gName i x σ H1 D.nx):=h
 refine wpAny_bind (thn (lc_core (Qf:=fun _ s'=>SP X pins D .next s') hc hN I hi ok hg ht he hs h fun L C s' m H' I' q hn f=>?_) fun _ s' hq=>wpAny_pure (wpAny_pure hq))
 show wpAny _ _ (assign (.Name y py) X.env (.ref L)) _ _ _
 refine wpAny_assign_Name (store_ok2 (v:=V.ref L) I' hN hy (.inl hyl) rfl (fun s2 I2 ⟨a,sb,ha⟩=>?_) (.inr hyl))
 obtain ⟨f0,f1,f2,f3,f4,f5⟩:=f
 have haC:C≠a:=by
  rcases ha with z | z
  ·rw [z];exact f1
  ·exact fun e=>f4 y a z e.symm
 refine ⟨m,hn.sameBut sb haC,fun h3 sb3=>?_⟩
 exact ⟨_,H',I2.turned (t':=s2.toks) (fun b o hb e=>(sb3.2 b hb).trans e) f0 f1 f3 f4 f5,q⟩
theorem xa3 {elt:Expr} {gs:List Comprehension} {scope:Scope} {pos py:Pos} {y:Str} {l:Nat} {env:Env} (hk:env.scope.kind = .function) (hy:env.scope.names.lookup y=some .local) (hl:(py.line == pos.line)=true)
  (ha:(scope.names.any fun (n,k)=>n == y && (k == .local || k == .cell))=false):swapsWith (.ListComp elt gs scope pos) (some (.Name y py)) l env=pure true:=by
 have ky:env.kindOf y=some .local:=hy
 have hb:env.blockKind = .function:=by unfold Env.blockKind;rw [hk];rfl
 unfold swapsWith
 simp only [hb,ky,ha,Expr.pos,hl]
 rfl
end
theorem yq7 {lo:Int} {n:Nat} {g:TG} {tt:TT} {te:TE} {vs:List Nat} {σ:St} {H1:Hp} {D:Addr} {Qd:Hp→Prop} (Pv:Nat→Hp→Prop) (h0:Pv 0 (upd H1 D (.lst [])))
  (hs:∀ i H,i < n→Pv i H→g (.int (lo + i)) (wipe σ vs) H fun σ2 H2=>wipe σ2 vs=wipe σ vs∧tt σ2 H2 fun b H3 =>
   if b=true then te σ2 H3 fun y H4=>∃ acc,H4 D=some (.lst acc)∧acc.length < sizeLine∧Pv (i + 1) (upd H4 D (.lst (acc++[y]))) else Pv (i + 1) H3) (hd:∀ H,Pv n H→Qd H) :
  ∃ W:Nat→Nat→Hp→Prop,(∃ m,W 0 m (upd H1 D (.lst [])))∧∀ i m H,W i m H →
   ((Itr lo n).stop i H∧Qd H)∨((Itr lo n).go i H∧∃ Nx:Hp→Prop,(∀ H',Nx H'→∃ m',m' < m∧W (i + 1) m' H')∧∀ x H',(Itr lo n).yld i H x H'→g x (wipe σ vs) H' fun σ2 H2=>wipe σ2 vs=wipe σ vs∧tt σ2 H2 fun b H3 =>
    if b=true then te σ2 H3 fun y H4=>∃ acc,H4 D=some (.lst acc)∧acc.length < sizeLine∧Nx (upd H4 D (.lst (acc++[y]))) else Nx H3):=by
 refine ⟨fun i m H=>m=n - i∧i≤n∧Pv i H,⟨n,by simp,Nat.zero_le _,h0⟩,?_⟩
 rintro i m H ⟨rfl,hi,p⟩
 by_cases hlt:i < n
 ·refine .inr ⟨hlt,Pv (i + 1),fun H' p'=>⟨n - (i + 1),by omega,rfl,hlt,p'⟩,fun x H' y=>?_⟩
  obtain ⟨e,y⟩:=y
  subst e y
  exact hs i _ hlt p
 ·have e:i=n:=by omega
  subst e
  exact .inl ⟨Nat.le_refl _,hd H p⟩
theorem yb8 {K:PySem.W.Frag} {a:Addr} {xs:List V} {g:TG} {tt:TT} {te:TE} {vs:List Nat} {σ:St} {H1:Hp} {D:Addr} {Qd:Hp→Prop} (Pv:Nat→Hp→Prop) (h0:Pv 0 (upd H1 D (.lst []))) (hl:∀ i H,i≤xs.length→Pv i H→SqL K H a xs)
  (hs:∀ i x H,xs[i]?=some x→Pv i H→g x (wipe σ vs) H fun σ2 H2=>wipe σ2 vs=wipe σ vs∧tt σ2 H2 fun b H3 =>
   if b=true then te σ2 H3 fun y H4=>∃ acc,H4 D=some (.lst acc)∧acc.length < sizeLine∧Pv (i + 1) (upd H4 D (.lst (acc++[y]))) else Pv (i + 1) H3) (hd:∀ H,Pv xs.length H→Qd H) :
  ∃ W:Nat→Nat→Hp→Prop,(∃ m,W 0 m (upd H1 D (.lst [])))∧∀ i m H,W i m H →
   ((Itl K a).stop i H∧Qd H)∨((Itl K a).go i H∧∃ Nx:Hp→Prop,(∀ H',Nx H'→∃ m',m' < m∧W (i + 1) m' H')∧∀ x H',(Itl K a).yld i H x H'→g x (wipe σ vs) H' fun σ2 H2=>wipe σ2 vs=wipe σ vs∧tt σ2 H2 fun b H3 =>
    if b=true then te σ2 H3 fun y H4=>∃ acc,H4 D=some (.lst acc)∧acc.length < sizeLine∧Nx (upd H4 D (.lst (acc++[y]))) else Nx H3):=by
 refine ⟨fun i m H=>m=xs.length - i∧i≤xs.length∧Pv i H,⟨xs.length,by simp,Nat.zero_le _,h0⟩,?_⟩
 rintro i m H ⟨rfl,hi,p⟩
 have q:=hl i H hi p
 by_cases hlt:i < xs.length
 ·refine .inr ⟨⟨xs,xs[i],q,by simp [hlt]⟩,Pv (i + 1),fun H' p'=>⟨xs.length - (i + 1),by omega,rfl,hlt,p'⟩,fun x H' y=>?_⟩
  obtain ⟨e,y⟩:=y
  subst e
  exact hs i x _ (y xs q) p
 ·have e:i=xs.length:=by omega
  subst e
  exact .inl ⟨⟨xs,q,Nat.le_refl _⟩,hd H p⟩
end L2
namespace L2
open PySem PySem.Spec PyProof.Rows
section
variable {prog:Program} {w:World} {A:Around} {R:Result→Shared→Prop} {s:Shared} {elt t0 i0 t1 i1:Expr} {ifs0 ifs1:List Expr} {scope:Scope} {pos:Pos} {it acc:Value} {env:Env}
end
section
variable {X:Cx}
end
end L2
namespace L2
open PySem PySem.Spec PyProof.Rows
section
variable {κ:Type} [DecidableEq κ]
def valV (kvs:List (κ×V)) (k:κ):Option V:=(kvs.find? fun kv=>decide (kv.1=k)).map (·.2)
def putK (kvs:List (κ×V)) (k:κ) (v:V):List (κ×V) :=
 if (kvs.any fun kv=>decide (kv.1=k))=true then kvs.map (fun kv=>if kv.1=k then (kv.1,v) else kv) else kvs++[(k,v)]
theorem zk8 {p:κ×V} {r:List (κ×V)} {k:κ} (e:p.1=k):valV (p :: r) k=some p.2:=by simp [valV,List.find?_cons,e]
theorem zk9 {p:κ×V} {r:List (κ×V)} {k:κ} (e:¬ p.1=k):valV (p :: r) k=valV r k:=by simp [valV,List.find?_cons,e]
theorem yp9 (k:κ):∀ kvs:List (κ×V),(kvs.any fun kv=>decide (kv.1=k))=(valV kvs k).isSome
 | []=>rfl
 | p :: r=>by
  rw [List.any_cons]
  by_cases e:p.1=k
  ·simp only [zk8 e,decide_eq_true e,Bool.true_or,Option.isSome_some]
  ·rw [zk9 e,decide_eq_false e,Bool.false_or];exact yp9 k r
theorem valV_map (k j:κ) (y:V):∀ kvs:List (κ×V),valV (kvs.map fun kv=>if kv.1=k then (kv.1,y) else kv) j=(valV kvs j).map fun x=>if j=k then y else x
 | []=>rfl
 | p :: r=>by
  have ih:=valV_map k j y r
  rw [List.map_cons]
  by_cases h:p.1=k
  ·rw [if_pos h]
   by_cases e:p.1=j
   ·rw [zk8 (p:=(p.1,y)) e,zk8 e,Option.map_some,if_pos (e.symm.trans h)]
   ·rw [zk9 (p:=(p.1,y)) e,zk9 e,ih]
  ·rw [if_neg h]
   by_cases e:p.1=j
   ·rw [zk8 (p:=p) e,zk8 e,Option.map_some,if_neg (fun z=>h (e.trans z))]
   ·rw [zk9 (p:=p) e,zk9 e,ih]
theorem valV_snoc (k j:κ) (y:V):∀ kvs:List (κ×V),valV kvs k=none→valV (kvs++[(k,y)]) j=if j=k then some y else valV kvs j
 | [],_=>by
  by_cases e:k=j
  ·rw [if_pos e.symm];exact zk8 (p:=(k,y)) e
  ·rw [if_neg (fun z=>e z.symm)];exact zk9 (p:=(k,y)) e
 | p :: r,hn=>by
  rw [List.cons_append]
  have hk:¬ p.1=k:=fun z=>by rw [zk8 z] at hn;cases hn
  rw [zk9 hk] at hn
  have ih:=valV_snoc k j y r hn
  by_cases e:p.1=j
  ·rw [zk8 e,zk8 e,if_neg (fun z=>hk (e.trans z))]
  ·rw [zk9 e,zk9 e,ih]
theorem valV_put (kvs:List (κ×V)) (k j:κ) (y:V):valV (putK kvs k y) j=if j=k then some y else valV kvs j:=by
 unfold putK
 by_cases a:(kvs.any fun kv=>decide (kv.1=k))=true
 ·rw [if_pos a,valV_map]
  rw [yp9] at a
  by_cases e:j=k
  ·obtain ⟨x,hx⟩:=Option.isSome_iff_exists.mp a
   rw [if_pos e,e,hx,Option.map_some,if_pos rfl]
  ·rw [if_neg e]
   cases valV kvs j with
   | none=>rfl
   | some x=>rw [Option.map_some,if_neg e]
 ·rw [if_neg a]
  refine valV_snoc k j y kvs ?_
  rw [yp9] at a
  cases q:valV kvs k with
  | none=>rfl
  | some x=>rw [q] at a;exact (a rfl).elim
theorem yu5 (kvs:List (κ×V)) (k:κ) (v:V):(putK kvs k v).length≤kvs.length + 1:=by
 unfold putK
 split
 ·rw [List.length_map];omega
 ·rw [List.length_append,List.length_cons,List.length_nil];omega
theorem RelO.isSome_eq {o:Option V} {u:Option Value} (r:RelO o u):o.isSome=u.isSome:=by
 cases o with
 | none=>cases u with
  | none=>rfl
  | some _=>exact (show False from r).elim
 | some _=>cases u with
  | none=>exact (show False from r).elim
  | some _=>rfl
theorem KV.val {kvs:List (κ×V)} {vs:List (κ×Value)} (r:KV kvs vs) (k:κ):RelO (valV kvs k) (valueAt vs k):=by
 unfold KV at r
 induction r with
 | nil=>exact True.intro
 | @cons p q ps qs h t ih =>
  obtain ⟨h1,h2⟩:=h
  by_cases e:p.1=k
  ·have e':q.1=k:=h1.symm.trans e
   have b:valueAt (q :: qs) k=some q.2:=by simp [valueAt,List.find?_cons,e']
   rw [zk8 e,b];exact h2
  ·have e':¬ q.1=k:=fun z=>e (h1.trans z)
   have b:valueAt (q :: qs) k=valueAt qs k:=by simp [valueAt,List.find?_cons,e']
   rw [zk9 e,b];exact ih
theorem KV.any {kvs:List (κ×V)} {vs:List (κ×Value)} (r:KV kvs vs) (k:κ):(kvs.any fun kv=>decide (kv.1=k))=vs.any fun kv=>decide (kv.1=k):=by
 unfold KV at r
 induction r with
 | nil=>rfl
 | cons h t ih=>rw [List.any_cons,List.any_cons,ih,h.1]
theorem KV.repl {kvs:List (κ×V)} {vs:List (κ×Value)} (r:KV kvs vs) (k:κ) {y:V} {u:Value} (ry:RelV y u) :
  KV (kvs.map fun kv=>if kv.1=k then (kv.1,y) else kv) (vs.map fun kv=>if kv.1=k then (kv.1,u) else kv):=by
 unfold KV at r ⊢
 induction r with
 | nil=>exact .nil
 | @cons p q ps qs h t ih =>
  rw [List.map_cons,List.map_cons]
  refine .cons ?_ ih
  obtain ⟨h1,h2⟩:=h
  by_cases e:p.1=k
  ·rw [if_pos e,if_pos (h1.symm.trans e)];exact ⟨h1,ry⟩
  ·rw [if_neg e,if_neg (fun z=>e (h1.trans z))];exact ⟨h1,h2⟩
theorem KV.put {kvs:List (κ×V)} {vs:List (κ×Value)} (r:KV kvs vs) (k:κ) {y:V} {u:Value} (ry:RelV y u):KV (putK kvs k y) (stored vs k u):=by
 unfold putK stored
 rw [r.any k]
 by_cases e:(vs.any fun kv=>decide (kv.1=k))=true
 ·rw [if_pos e,if_pos e];exact r.repl k ry
 ·rw [if_neg e,if_neg e];exact Paired.snoc r ⟨rfl,ry⟩
theorem KV.length {kvs:List (κ×V)} {vs:List (κ×Value)} (r:KV kvs vs):kvs.length=vs.length:=Paired.length r
end
theorem kV_is {P:Program} {w:World} {k:Key} {u:Value} (r:RelV (kV k) u):(mixKind P w).is k u=true:=by
 cases k with
 | inl i=>obtain ⟨t,e⟩:=(show ∃ t,u=Value.int i t from r);subst e;exact mixKind_int P w i t
 | inr x=>obtain ⟨t,e⟩:=(show ∃ t,u=Value.str x t from r);subst e;exact mixKind_str P w x t
theorem items_are {P:Program} {w:World}:∀ {ks:List Key} {us:List Value},Vals (ks.map kV) us→ItemsAre (mixKind P w) ks us
 | [],_,r=>by rw [List.map_nil] at r;cases r;exact .nil
 | k :: ks,_,r=>by
  rw [List.map_cons] at r
  cases r with
  | cons h t=>exact .cons (kV_is h) (items_are t)
abbrev KT (H:Hp):List (List Key×V)→List (List Key×Addr×Value)→Prop:=Paired fun p q=>p.1=q.1∧H q.2.1=some (.tup (p.1.map kV))∧RelV p.2 q.2.2
theorem KT.val {H:Hp} {kvs:List (List Key×V)} {xs:List (List Key×Addr×Value)} (r:KT H kvs xs) (k:List Key):RelO (valV kvs k) ((atKey xs k).map (·.2)):=by
 induction r with
 | nil=>exact True.intro
 | @cons p q ps qs h t ih =>
  obtain ⟨h1,_,h2⟩:=h
  by_cases e:p.1=k
  ·have e':q.1=k:=h1.symm.trans e
   have b:atKey (q :: qs) k=some q.2:=by simp [atKey,List.find?_cons,e']
   rw [zk8 e,b];exact h2
  ·have e':¬ q.1=k:=fun z=>e (h1.trans z)
   have b:atKey (q :: qs) k=atKey qs k:=by simp [atKey,List.find?_cons,e']
   rw [zk9 e,b];exact ih
theorem KT.repl {H:Hp} {kvs:List (List Key×V)} {xs:List (List Key×Addr×Value)} (r:KT H kvs xs) (k:List Key) {y:V} {u:Value} (ry:RelV y u) :
  KT H (kvs.map fun kv=>if kv.1=k then (kv.1,y) else kv) (xs.map (putAt k u)):=by
 induction r with
 | nil=>exact .nil
 | @cons p q ps qs h t ih =>
  rw [List.map_cons,List.map_cons]
  refine .cons ?_ ih
  obtain ⟨h1,h2,h3⟩:=h
  unfold putAt
  by_cases e:p.1=k
  ·rw [if_pos e,if_pos (h1.symm.trans e)];exact ⟨h1,h2,ry⟩
  ·rw [if_neg e,if_neg (fun z=>e (h1.trans z))];exact ⟨h1,h2,h3⟩
theorem KT.put {H:Hp} {kvs:List (List Key×V)} {xs:List (List Key×Addr×Value)} (r:KT H kvs xs) (k:List Key) {b:Addr} {y:V} {u:Value} (hb:H b=some (.tup (k.map kV))) (ry:RelV y u) :
  KT H (putK kvs k y) (storedH xs k b u):=by
 have e:(kvs.any fun kv=>decide (kv.1=k))=(atKey xs k).isSome:=by
  rw [yp9,(r.val k).isSome_eq,Option.isSome_map]
 unfold putK storedH
 rw [e]
 by_cases q:(atKey xs k).isSome=true
 ·rw [if_pos q,if_pos q];exact r.repl k ry
 ·rw [if_neg q,if_neg q];exact Paired.snoc r ⟨rfl,hb,ry⟩
theorem KT.keeps {H H':Hp} {kvs:List (List Key×V)} {xs:List (List Key×Addr×Value)} (r:KT H kvs xs) (ht:∀ b ys,H b=some (.tup ys)→H' b=some (.tup ys)):KT H' kvs xs :=
 Paired.mapP r fun _ _ z=>⟨z.1,ht _ _ z.2.1,z.2.2⟩
section
variable {P:Program} {w:World} {H:Hp} {h:Heap} {a:Addr}
theorem rd_of {u:HO} (ok:HOk P w H h) (e:Rd H a u):ObjOk P w H h a u:=e.ok ok
theorem dk_rd {kvs:List (Key×V)} (ok:HOk P w H h) (e:Rd H a (.dK kvs)):kvs.length≤sizeLine∧(a == sysModules)=false∧∃ vs,KV kvs vs∧h.DictOf (mixKind P w) a vs :=
 show ObjOk P w H h a (.dK kvs) from rd_of ok e
theorem dk_of {kvs:List (Key×V)} (ok:HOk P w H h) (e:H a=some (.dK kvs)):kvs.length≤sizeLine∧(a == sysModules)=false∧∃ vs,KV kvs vs∧h.DictOf (mixKind P w) a vs:=dk_rd ok (.inl e)
theorem key_of {ks:List Key} (ok:HOk P w H h) (e:H a=some (.tup (ks.map kV))):(tupleKind (mixKind P w)).is h ks a:=by
 obtain ⟨_,its,r,o,h1,h2,n,h3⟩:=(show ObjOk P w H h a (.tup (ks.map kV)) from ok a _ e)
 exact ⟨o,its.toArray,n,h1,h2,h3,by simpa using items_are r⟩
theorem dt_rd {kvs:List (List Key×V)} (ok:HOk P w H h) (e:Rd H a (.dT kvs)):kvs.length≤sizeLine∧(a == sysModules)=false ∧
  ∃ xs,KT H kvs xs∧h.DictOfH (tupleKind (mixKind P w)) a xs:=by
 obtain ⟨z,y,xs,r,o,es,ep,h1,h2,h3,h4,h5⟩:=(show ObjOk P w H h a (.dT kvs) from rd_of ok e)
 refine ⟨z,y,xs,r,o,es,ep,h1,h2,h3,h4,fun x hx=>?_,h5⟩
 have all:∀ {l:List (List Key×V)} {m:List (List Key×Addr×Value)},KT H l m→∀ x∈m,(tupleKind (mixKind P w)).is h x.1 x.2.1:=by
  intro l m q
  induction q with
  | nil=>intro x hx;exact nomatch hx
  | @cons p q ps qs hq t ih =>
   intro x hx
   rcases List.mem_cons.mp hx with e | hx
   ·subst e
    exact key_of ok (by rw [← hq.1];exact hq.2.1)
   ·exact ih x hx
 exact all r x hx
theorem dt_of {kvs:List (List Key×V)} (ok:HOk P w H h) (e:H a=some (.dT kvs)):kvs.length≤sizeLine∧(a == sysModules)=false ∧
  ∃ xs,KT H kvs xs∧h.DictOfH (tupleKind (mixKind P w)) a xs:=dt_rd ok (.inl e)
end
def DGet (H:Hp) (a:Addr) (y:V) (r:Option V):Prop :=
 (∃ kvs k,Rd H a (.dK kvs)∧y=kV k∧r=valV kvs k)∨∃ kvs k b,Rd H a (.dT kvs)∧y = .ref b∧H b=some (.tup (k.map kV))∧r=valV kvs k
def DPut (H:Hp) (a:Addr) (y v:V) (H':Hp):Prop :=
 (∃ kvs k,H a=some (.dK kvs)∧y=kV k∧kvs.length < sizeLine∧H'=upd H a (.dK (putK kvs k v))) ∨
 ∃ kvs k b,H a=some (.dT kvs)∧y = .ref b∧H b=some (.tup (k.map kV))∧kvs.length < sizeLine∧H'=upd H a (.dT (putK kvs k v))
theorem DGet.t {H:Hp} {a b:Addr} {kvs:List (List Key×V)} {k:List Key} (e:H a=some (.dT kvs)) (eb:H b=some (.tup (k.map kV))):DGet H a (.ref b) (valV kvs k) := .inr ⟨kvs,k,b,.inl e,rfl,eb,rfl⟩
theorem DPut.t {H:Hp} {a b:Addr} {kvs:List (List Key×V)} {k:List Key} {v:V} (e:H a=some (.dT kvs)) (eb:H b=some (.tup (k.map kV))) (hl:kvs.length < sizeLine) :
  DPut H a (.ref b) v (upd H a (.dT (putK kvs k v))) := .inr ⟨kvs,k,b,e,rfl,eb,hl,rfl⟩
section
variable {X:Cx} {pins:List (Addr×Obj)} {σ:St} {H:Hp} {s:Shared} {a:Addr} {y v:V} {u r:Value} {o:Option V} {A:Around} {E:Value→Shared→Prop}
theorem Inv.big (I:Inv X pins σ H s):sysModules < s.heap.objs.size:=by
 have h:mainGlobals < s.heap.objs.size:=(I.mod.glob.keeps I.bk).lt
 exact Nat.lt_trans (by decide) h
theorem d_getItem {Q:Value→Shared→Prop} (hu:A.units + 1 < cLine) (I:Inv X pins σ H s) (g:DGet H a y (some v)) (ry:RelV y u) (h:∀ w' s',Inv X pins σ H s'→RelV v w'→Q w' s') :
  wpAny (model X.prog X.w) A (getItem (.ref a) u) Q E s:=by
 rcases g with ⟨kvs,k,e,ey,l⟩ | ⟨kvs,k,b,e,ey,eb,l⟩
 ·subst ey
  obtain ⟨z,hd,vs,rel,dd⟩:=dk_rd I.hok e
  obtain ⟨w',hw,rw'⟩:=RelO.some_of (v:=v) (o:=valueAt vs k) (by rw [l];exact rel.val k)
  exact wpAny_getItem_of (kV_is ry) dd.mapOf hw (h w' _ (I.tok _) rw')
 ·subst ey
  cases (show u=Value.ref b from ry)
  obtain ⟨z,hd,xs,rel,dd⟩:=dt_rd I.hok e
  obtain ⟨w',hw,rw'⟩:=RelO.some_of (v:=v) (o:=(atKey xs k).map (·.2)) (by rw [l];exact rel.val k)
  obtain ⟨p,hp,hp2⟩:=Option.map_eq_some_iff.mp hw
  refine wpAny_getItem_heap (tupleKind_room_in1 hu) (key_of I.hok eb) dd hp ?_
  rw [hp2]
  exact h w' _ (I.tok _) rw'
theorem d_notIn {Q:Value→Shared→Prop} (hu:A.units + 1 < cLine) (I:Inv X pins σ H s) (g:DGet H a y o) (ry:RelV y u) (h:∀ s',Inv X pins σ H s'→Q (.bool (!o.isSome)) s') :
  wpAny (model X.prog X.w) A (compareOp .NotIn u (.ref a)) Q E s:=by
 rcases g with ⟨kvs,k,e,ey,l⟩ | ⟨kvs,k,b,e,ey,eb,l⟩
 ·subst ey
  obtain ⟨z,hd,vs,rel,dd⟩:=dk_rd I.hok e
  refine wpAny_notIn_of (kV_is ry) hd dd.mapOf ?_
  rw [← (rel.val k).isSome_eq,← l]
  exact h _ (I.tok _)
 ·subst ey
  cases (show u=Value.ref b from ry)
  obtain ⟨z,hd,xs,rel,dd⟩:=dt_rd I.hok e
  refine wpAny_notIn_heap (tupleKind_room_in1 hu) (key_of I.hok eb) hd dd ?_
  have q:=(rel.val k).isSome_eq
  rw [Option.isSome_map] at q
  rw [← q,← l]
  exact h _ (I.tok _)
theorem d_write {h':Heap} {t':Nat} {ob:HO} (I:Inv X pins σ H s) (mu:Mut (H a)) (hs:Heap.SameBut a s.heap h') (he:∃ q,h'.get? a=some q) (new:ObjOk X.prog X.w (upd H a ob) h' a ob) :
  Inv X pins σ (upd H a ob) { s with heap:=h',toks:=t' } :=
 I.write (x:=a) (e:=a) mu (.inl rfl) (fun b q hb z=>(hs.2 b hb).trans z) he new
theorem dk_new {P:Program} {w:World} {H':Hp} {h':Heap} {kvs:List (Key×V)} {vs:List (Key×Value)} (z:kvs.length≤sizeLine) (hd:(a == sysModules)=false) (rel:KV kvs vs) (dd:h'.DictOf (mixKind P w) a vs) :
  ObjOk P w H' h' a (.dK kvs):=⟨z,hd,vs,rel,dd⟩
theorem d_setItem {H':Hp} {Q:Unit→Shared→Prop} (hu:A.units + 1 < cLine) (I:Inv X pins σ H s) (g:DPut H a y v H') (ry:RelV y u) (rv:RelV v r) (h:∀ s',Inv X pins σ H' s'→Q () s') :
  wpAny (model X.prog X.w) A (setItem (.ref a) u r) Q E s:=by
 rcases g with ⟨kvs,k,e,ey,l,eH⟩ | ⟨kvs,k,b,e,ey,eb,l,eH⟩
 ·subst ey eH
  obtain ⟨z,hd,vs,rel,dd⟩:=dk_of I.hok e
  have hz:vs.length≤sizeLine:=by rw [← rel.length];exact z
  have hl:(putK kvs k v).length≤sizeLine:=by have:=yu5 kvs k v;omega
  refine wpAny_setItem_pairs (hsz:=hz) (kV_is ry) dd fun h' dd' hs=>h _ ?_
  have he:∃ q,h'.get? a=some q:=let ⟨q,_,_,hq,_⟩:=dd';⟨q,hq⟩
  exact d_write I (by rw [e];exact True.intro) hs he (dk_new hl hd (rel.put k rv) dd')
 ·subst ey eH
  cases (show u=Value.ref b from ry)
  obtain ⟨z,hd,xs,rel,dd⟩:=dt_of I.hok e
  have hz:xs.length≤sizeLine:=by rw [← Paired.length rel];exact z
  have hl:(putK kvs k v).length≤sizeLine:=by have:=yu5 kvs k v;omega
  refine wpAny_setItem_heap (hsz:=hz) (tupleKind_room_in1 hu) (key_of I.hok eb) dd fun h' dd' hs=>h _ ?_
  obtain ⟨q,es,ep,hq,h2,h3,h4,_,h5⟩:=dd'
  refine d_write I (by rw [e];exact True.intro) hs ⟨q,hq⟩ ⟨hl,hd,_,(rel.put k eb rv).keeps fun c ys ec=>?_,q,es,ep,hq,h2,h3,h4,h5⟩
  rw [zb5 (ne_of ec e (fun z=>nomatch z))]
  exact ec
end
section
variable {X:Cx} {pins:List (Addr×Obj)} {σ:St} {H:Hp} {s:Shared} {a:Addr} {kvs:List (Key×V)} {k:Key} {u:Value} {A:Around} {E:Value→Shared→Prop}
end
def NoSl (i:Expr):Prop:=∀ ov iv,subscripted i false ov iv=operate [ov,iv] (getItem ov iv)
theorem subD_of {prog:Program} {w:World} {A:Around} {E:Value→Shared→Prop} {s:Shared} {env:Env} {value slice:Expr} {pos:Pos} {T id:String} {Q:Value→Shared→Prop}
  (hl:typeLookup (.type T) "__getitem__" = pure (some (.builtin id))) (hs:NoSl slice)
  (h:wpAny (model prog w) A (eval value env) (fun o s₁=>wpAny (model prog w) A (eval slice env) (fun i s₂=>s₂.TypeIs o T∧wpAny (model prog w) A (getItem o i) Q E s₂) E s₁) E s) :
  wpAny (model prog w) A (eval (.Subscript value slice pos) env) Q E s:=by
 refine Subscript_ (wpAny_mono h (fun o s₁ h₁=>wpAny_mono h₁ (fun i s₂ h₂=>?_) fun _ _ x=>x) fun _ _ x=>x)
 obtain ⟨hT,h₂⟩:=h₂
 unfold subscriptTail
 refine wpAny_bind ?_
 rw [getitemInPython_of_ne hT.not_modules]
 refine wpAny_bind (wpAny_specialOf hT hl ?_)
 have fin:wpAny (model prog w) A (subscripted slice false o i) (fun r s₃=>wpAny (model prog w) A (letTemporaryGo value o r >>= fun _=>pure r) Q E s₃) E s₂:=by
  rw [hs o i]
  exact wpAny_operating (wpAny_mono h₂ (fun r s₃ h₃=>wpAny_bind (wpAny_letTemporaryGo (wpAny_pure h₃))) fun _ _ x=>x)
 first
  | exact wpAny_pure (wpAny_bind fin)
  | exact wpAny_bind (wpAny_pure (wpAny_bind fin))
  | exact wpAny_bind fin
theorem dict_typeIs {X:Cx} {pins:List (Addr×Obj)} {σ:St} {H:Hp} {s:Shared} {a:Addr} {y:V} {o:Option V} (I:Inv X pins σ H s) (g:DGet H a y o):s.TypeIs (.ref a) "dict" := by
 rcases g with ⟨kvs,k,e,_,_⟩ | ⟨kvs,k,b,e,_,_,_⟩
 ·obtain ⟨_,_,vs,_,dd⟩:=dk_rd I.hok e
  exact dd.typeIs
 ·obtain ⟨_,_,xs,_,dd⟩:=dt_rd I.hok e
  exact dd.typeIs
def tDGet (td ty:TE):TE:=fun σ H Q=>td σ H fun x H1=>ty σ H1 fun y H2=>∃ a v,x = .ref a∧DGet H2 a y (some v)∧Q v H2
def tDNotIn (ty td:TE):TE:=fun σ H Q=>ty σ H fun y H1=>td σ H1 fun x H2=>∃ a o,x = .ref a∧DGet H2 a y o∧Q (.bl (!o.isSome)) H2
def sDPut (td ty tv:TE):TS:=fun D σ H=>tv σ H fun v H1=>td σ H1 fun x H2=>ty σ H2 fun y H3=>∃ a H4,x = .ref a∧DPut H3 a y v H4∧D.nx σ H4
section
variable {X:Cx} {o i e value:Expr} {pos pos' tpos:Pos} {td ty tv:TE}
theorem pe_dget (hu:X.A.units + 1 < cLine) (ho:PE X o td) (hi:PE X i ty) (hs:NoSl i):PE X (.Subscript o i pos) (tDGet td ty):=by
 intro pins s σ H Q I h
 refine subD_of PySem.F.slot_dict_getitem.lookup hs (thn (ho pins s σ H _ I h) fun u s1 ⟨x,H1,I1,rx,q1⟩=>thn (hi pins s1 σ H1 _ I1 q1) fun iv s2 ⟨y,H2,I2,ry,a,v,ex,g,q2⟩=>?_)
 subst ex
 obtain rfl:u=Value.ref a:=rx
 exact ⟨dict_typeIs I2 g,d_getItem hu I2 g ry fun w' s3 I3 rw'=>⟨v,H2,I3,rw',q2⟩⟩
theorem pc_dnotin (hu:X.A.units + 1 < cLine) (hi:PE X i ty) (ho:PE X o td):PC X .NotIn i o (tDNotIn ty td):=by
 intro pins s σ H Q I h
 refine thn (hi pins s σ H _ I h) fun iv s1 ⟨y,H1,I1,ry,q1⟩=>thn (ho pins s1 σ H1 _ I1 q1) fun u s2 ⟨x,H2,I2,rx,a,ov,ex,g,q2⟩=>?_
 subst ex
 obtain rfl:u=Value.ref a:=rx
 exact d_notIn hu I2 g ry fun s3 I3=>⟨.bl (!ov.isSome),H2,I3,rfl,q2⟩
theorem ps_dput (hu:X.A.units + 1 < cLine) (ho:PE X o td) (hi:PE X i ty) (hv:PE X value tv) (hs:swapsWith value (some (.Subscript o i pos')) pos.line X.env=pure false) :
  PS X (.Assign [.Subscript o i pos'] value pos) (sDPut td ty tv):=by
 intro pins s σ H D I h
 refine wpAny_Assign_Subscript (thn (hv pins s σ H _ I h) fun r s1 ⟨v,H1,I1,rv,q1⟩=>thn (ho pins s1 σ H1 _ I1 q1) fun u s2 ⟨x,H2,I2,rx,q2⟩=>thn (hi pins s2 σ H2 _ I2 q2) fun iv s3 ⟨y,H3,I3,ry,a,H4,ex,g,q3⟩=>?_) hs
 subst ex
 obtain rfl:u=Value.ref a:=rx
 exact d_setItem hu I3 g ry rv fun s4 I4=>⟨σ,H4,I4,q3⟩
end
theorem dt_empty {P:Program} {w:World} {H:Hp} (h:Heap) (hb:sysModules < h.objs.size):ObjOk P w H (h.push { cls := .type "dict",data := .dict #[] }) h.objs.size (.dT []) :=
 ⟨Nat.zero_le _,beq_eq_false_iff_ne.mpr (Ne.symm (Nat.ne_of_lt hb)),[],.nil,_,#[],0,Heap.get?_push_size _ rfl,⟨rfl,rfl,rfl⟩,rfl,rfl,List.nodup_nil⟩
def tDNewT:TE:=fun _ H Q=>∀ p,H p=none→Q (.ref p) (upd H p (.dT []))
section
variable {X:Cx} {pos:Pos}
theorem pe_dnewT:PE X (.Dict [] [] pos) tDNewT:=fun pins s σ H Q I h =>
 wpAny_Dict_empty ⟨.ref s.heap.objs.size,_,I.laid (a:=s.heap.objs.size) (o := .dT []) (t':=s.toks) (fun _ _ q=>Heap.get?_push_of_some _ q) (Nat.le_refl _) (dt_empty s.heap I.big),rfl,h _ (I.hok.fresh (Nat.le_refl _))⟩
end
section
variable {X:Cx} {pins:List (Addr×Obj)} {σ:St} {H:Hp} {s:Shared} {a:Addr} {y d:V} {u r:Value} {o:Option V} {A:Around} {E:Value→Shared→Prop}
end
section
variable {X:Cx} {o e f:Expr} {apos cpos:Pos} {td ty tx:TE}
end
section
variable {X:Cx} {pins:List (Addr×Obj)} {σ:St} {H:Hp} {s:Shared} {a:Addr} {kvs:List (Key×V)} {A:Around} {E:Value→Shared→Prop}
end
section
variable {X:Cx} {pins:List (Addr×Obj)} {σ:St} {H:Hp} {s:Shared} {a:Addr} {y:V} {u:Value} {A:Around} {E:Value→Shared→Prop}
end
end L2
namespace L2
open PySem PySem.Spec PyProof.Rows
section
variable {prog:Program} {w:World} {A:Around} {E:Value→Shared→Prop}
end
section
variable {X:Cx}
end
end L2
namespace L2
open PySem PySem.Spec PyProof.Rows
section
variable {X:Cx} {pins:List (Addr×Obj)} {σ:St} {H:Hp} {s:Shared} {h':Heap}
theorem Inv.turnedL {t':Nat} {ch:List Addr} (I:Inv X pins σ H s) (k:∀ b o,b ∉ ch→s.heap.get? b=some o→h'.get? b=some o) (hf:∀ b∈ch,FpOk X pins H b):Inv X pins σ H { s with heap:=h',toks:=t' }:=by
 have nit:∀ b u,H b=some u→b ∉ ch:=fun b u e z=>by
  have q:=(hf b z).1
  rw [q] at e;cases e
 refine I.step (g':=s.gens) (d':=s.drawn) (ch:=ch) (fun b hb=>⟨(hf b hb).2.2.2.1,(hf b hb).2.1,(hf b hb).2.2.2.2.1,(hf b hb).2.2.2.2.2⟩) (fun b o _ _ hc e _=>k b o hc e) (fun b o _ _ hc e _=>⟨o.slots,k b o hc e⟩)
  (fun _ _ _ _ n=>n) (fun b o hc e=>⟨o,k b o hc e⟩) (fun _ _ e=>e) (fun _ _ _ e=>e) (fun b ps e=>⟨#[],by rw [e];simp⟩) (fun m hm=>?_) (fun b u e=>?_) I.bare
 ·obtain ⟨o,es,ep,ho,r⟩:=hm
  exact ⟨o,es,ep,k _ o (fun z=>(hf _ z).2.1 rfl) ho,r⟩
 ·refine (I.hok b u e).stay (fun c v hc q=>k c v ?_ q) (fun _ q=>q) fun _ _ q=>q
  rcases hc with z | z
  ·rw [z];exact nit b u e
  ·exact nit c _ z
theorem Inv.turnedNew {t':Nat} {ch:List Addr} {T:Addr} {ob:HO} (I:Inv X pins σ H s) (k:∀ b o,b ∉ ch→s.heap.get? b=some o→h'.get? b=some o) (hf:∀ b∈ch,FpOk X pins H b) (hT:s.heap.objs.size≤T)
  (new:ObjOk X.prog X.w (upd H T ob) h' T ob):Inv X pins σ (upd H T ob) { s with heap:=h',toks:=t' }:=by
 have hn:H T=none:=I.hok.fresh hT
 have nit:∀ b u,H b=some u→b ∉ ch:=fun b u e z=>by
  have q:=(hf b z).1
  rw [q] at e;cases e
 refine I.step (g':=s.gens) (d':=s.drawn) (ch:=ch) (fun b hb=>⟨(hf b hb).2.2.2.1,(hf b hb).2.1,(hf b hb).2.2.2.2.1,(hf b hb).2.2.2.2.2⟩) (fun b o _ _ hc e _=>k b o hc e) (fun b o _ _ hc e _=>⟨o.slots,k b o hc e⟩)
  (fun b o _ e n=>?_) (fun b o hc e=>⟨o,k b o hc e⟩) (fun b xs e=>?_) (fun b o u e=>?_) (fun b ps e=>⟨#[],?_⟩) (fun m hm=>?_) (fun b u e=>?_) I.bare
 ·rw [zb5 (Nat.ne_of_lt (Nat.lt_of_lt_of_le (Heap.lt_size e) hT))];exact n
 ·rw [zb5 (zb9 e hn)];exact e
 ·rw [zb5 (zb9 e hn)];exact e
 ·rw [zb5 (zb9 e hn),e];simp
 ·obtain ⟨o,es,ep,ho,r⟩:=hm
  exact ⟨o,es,ep,k _ o (fun z=>(hf _ z).2.1 rfl) ho,r⟩
 ·by_cases hb:b=T
  ·subst hb
   rw [za2] at e
   cases e
   exact new
  ·rw [zb5 hb] at e
   refine (I.hok b u e).stay (fun c v hc q=>k c v ?_ q) (fun c q=>by rw [zb5 (zb9 q hn)];exact q) fun c xs q=>by rw [zb5 (zb9 q hn)];exact q
   rcases hc with z | z
   ·rw [z];exact nit b u e
   ·exact nit c _ z
end
section
variable {X:Cx}
theorem pi_one {tg:Expr} {pins:List (Addr×Obj)} {σ:St} {H:Hp} {s:Shared} {R:It→Hp→Prop} {J:It} {tn:Nat→Heap→Prop} {tk:Nat} (I:Inv X pins σ H s) (o:Obj)
  (T:Turn X.prog X.w X.K tg J [s.heap.objs.size] s.heap.objs.size tn) (st:tn 0 (s.heap.push o)) (q:R J H):PIE X pins σ tg R (.ref s.heap.objs.size) { s with heap:=s.heap.push o,toks:=tk }:=by
 refine ⟨s.heap.objs.size,[s.heap.objs.size],tn,J,H,rfl,I.kept fun b ob e=>Heap.get?_push_of_some _ e,T,st,fun b hb=>?_,q⟩
 have e:b=s.heap.objs.size:=by simpa using hb
 subst e
 exact I.fpOk (Nat.le_refl _) (I.hok.fresh (Nat.le_refl _))
end
def Itc (lo c:Int) (n:Nat):It:=⟨fun i _=>i < n,fun i H x H'=>H'=H∧x = .int (lo + (i:Nat) * c),fun i _=>n≤i⟩
theorem turn_rangeC {P:Program} {w:World} {K:PySem.W.Frag} {tg:Expr} (it:Addr) (lo c:Int) (n:Nat):Turn P w K tg (Itc lo c n) [it] it (fun i h=>IsRangeIter h it (lo + (i:Nat) * c) ((n:Int) - (i:Nat)) c) where
 mem:=by simp
 obj:=fun i h st b hb=>by
  have e:b=it:=by simpa using hb
  subst e
  exact ⟨_,st,fun v z=>nomatch z⟩
 keep:=fun i h h' st k=>k it (by simp) _ st
 item:=by
  intro X hP hw hK hc i pins s σ H E I hf st hg
  subst hP hw hK
  obtain ⟨f0,f1,f2,f3,f4,f5⟩:=hf it (by simp)
  have W:=Walks.range (prog:=X.prog) (w:=X.w) (I.ok.hd hc) it lo c n
  refine W.item i s _ _ hg st fun v h' tk hv st' kk=>?_
  obtain ⟨t,rfl⟩:=hv
  have I1:Inv X pins σ H { s with heap:=h',toks:=tk }:=I.turned (fun b o hb e=>kk b o (by simpa using hb) e) f0 f1 f3 f4 f5
  exact ⟨_,rfl,go_of (s:={ s with heap:=h',toks:=tk }) (n := "range_iterator") st' rfl rfl (by decide) ⟨.int (lo + (i:Nat) * c),H,I1,⟨t,rfl⟩,⟨rfl,rfl⟩,st',fun b hb=>(hf b hb).1⟩⟩
 done:=by
  intro X hP hw hK hc i pins s σ H E I hf st hg
  subst hP hw hK
  obtain ⟨f0,f1,f2,f3,f4,f5⟩:=hf it (by simp)
  exact wpAny_pyNext_range_end (I.ok.hd hc) st (by have:n≤i:=hg;omega) fun h' eb=>⟨rfl,I.turned (t':=s.toks) (fun b o hb e=>eb b o hb e) f0 f1 f3 f4 f5⟩
 self:=fun A i s Q E st h=>wpAny_pyIter_rangeiter st h
def RgC (i j c:Int) (n:Nat):Prop:=c≠0∧c.natAbs < 1073741824∧Builtin.Range.small i j c=true∧Builtin.Range.rangeSize i j c=n
theorem RgC.neg {i j:Int} (ha : -(2 ^ 62)≤i) (ha':i < 2 ^ 62) (hb : -(2 ^ 62)≤j) (hb':j < 2 ^ 62):RgC i j (-1) (i - j).toNat :=
 ⟨by decide,by decide,PySem.W.small_down ha ha' hb hb',PySem.W.rangeSize_downNat i j⟩
def iRng3 (ta:TA):TI:=fun σ H R=>ta σ H fun vs H1=>∃ (i j c:Int) (n:Nat),vs=[.int i,.int j,.int c]∧RgC i j c n∧R (Itc i c n) H1
section
variable {X:Cx} {tg:Expr}
theorem pi_range3 {a b c:Expr} {ta:TA} {p pos:Pos} (hg:Gl X "range") (hm:X.mg "range" = none) (ha:PA X [a,b,c] ta)
  (hs:starEach [a,b,c] X.env=(false,eval a X.env) :: starEach [b,c] X.env:=by rfl) (hpl:(backTo pos (starEach [b,c] X.env)).any (·.1)=false:=by rfl) :
  PI X tg (.Call (.Name "range" p) [a,b,c] [] pos) (iRng3 ta):=by
 intro pins s σ H R I h
 refine Call_ (yo6 I hg hm boot_range (PyProof.Rows.callWith_type1 (thn (ha pos pins s σ H _ I h) fun us s1 ⟨vs,H1,I1,r1,q1⟩=>?_) hs hpl))
 obtain ⟨i,j,k,n,e,⟨c0,c1,c2,c3⟩,q⟩:=q1
 subst e
 cases r1 with
 | cons r rr =>
  cases rr with
  | cons r' rr =>
   cases rr with
   | cons r'' rr =>
    cases rr
    obtain ⟨t,rfl⟩:=r
    obtain ⟨t',rfl⟩:=r'
    obtain ⟨t'',rfl⟩:=r''
    refine call_range_3 c0 ?_ (.inl (PyProof.noPylong_small c1))
    refine wpAny_pyIter_range (IsRange.new ..) c2 ?_
    have I2:Inv X pins σ H1 { s1 with heap:=s1.heap.push { cls := .type "range",data := .fields #[.int i t,.int j t',.int k t''] } }:=I1.kept (t':=s1.toks) fun b o e=>Heap.get?_push_of_some _ e
    refine pi_one (tk:=s1.toks) I2 _ (turn_rangeC _ i k n) ?_ q
    have e1:i + ((0:Nat):Int) * k=i:=by simp
    have e2:(n:Int) - ((0:Nat):Int)=Builtin.Range.rangeSize i j k:=by rw [c3];simp
    show IsRangeIter _ _ (i + ((0:Nat):Int) * k) ((n:Int) - ((0:Nat):Int)) k
    rw [e1,e2]
    exact Heap.get?_push_size _ rfl
end
theorem for_rangeC {lo c:Int} {n:Nat} {g:TG} {tb:TS} {D:Ends} {σ:St} {H:Hp} (Pv:Nat→St→Hp→Prop) (h0:Pv 0 σ H)
  (hs:∀ i σ H,i < n→Pv i σ H→g (.int (lo + (i:Nat) * c)) σ H fun σ2 H2=>tb { D with nx:=Pv (i + 1),ct:=Pv (i + 1),bk:=D.nx } σ2 H2) (hd:∀ σ H,Pv n σ H→D.nx σ H) :
  ∃ W:Nat→Nat→St→Hp→Prop,(∃ m,W 0 m σ H)∧∀ i m σ H,W i m σ H →
   ((Itc lo c n).stop i H∧D.nx σ H)∨((Itc lo c n).go i H∧∃ N:St→Hp→Prop,(∀ σ' H',N σ' H'→∃ m',m' < m∧W (i + 1) m' σ' H')∧∀ x H',(Itc lo c n).yld i H x H'→g x σ H' fun σ2 H2=>tb { D with nx:=N,ct:=N,bk:=D.nx } σ2 H2):=by
 refine ⟨fun i m σ H=>m=n - i∧i≤n∧Pv i σ H,⟨n,by simp,Nat.zero_le _,h0⟩,?_⟩
 rintro i m σ H ⟨rfl,hi,p⟩
 by_cases hlt:i < n
 ·refine .inr ⟨hlt,Pv (i + 1),fun σ' H' p'=>⟨n - (i + 1),by omega,rfl,hlt,p'⟩,fun x H' y=>?_⟩
  obtain ⟨e,y⟩:=y
  subst e y
  exact hs i σ _ hlt p
 ·have e:i=n:=by omega
  subst e
  exact .inl ⟨Nat.le_refl _,hd σ H p⟩
section
variable {X:Cx} {tg:Expr}
end
section
variable {prog:Program} {w:World} {A:Around} {E:Value→Shared→Prop} {s:Shared}
end
section
variable {X:Cx} {pins:List (Addr×Obj)} {σ:St} {H:Hp} {s:Shared} {d:Addr} {o:Obj}
end
section
variable {P:Program} {w:World} {K:PySem.W.Frag} {tg:Expr} {d:Addr} {o:Obj} {es:Array DictEntry} {ep:Nat}
end
section
variable {X:Cx} {tg e:Expr} {td:TE} {apos cpos:Pos}
end
def Ite (K:PySem.W.Frag) (a:Addr):It :=
 ⟨fun i H=>∃ (xs:List V) (x:V),SqL K H a xs∧xs[i]?=some x,fun i H v H'=>∃ T x,v = .ref T∧H T=none∧H'=upd H T (.tup [.int (i:Nat),x])∧∀ xs,SqL K H a xs→xs[i]?=some x,fun i H=>∃ xs:List V,SqL K H a xs∧xs.length≤i⟩
theorem turn_enum {P:Program} {w:World} {K:PySem.W.Frag} {elts:List Expr} {kk:Nat} {tpos:Pos} (a e it:Addr) :
  Turn P w K (.Tuple elts kk tpos) (Ite K a) [e,it] e (fun i h=>(∃ old,IsEnum h e it ((i:Nat):Int) old)∧h.IsListIter it a i∧e≠it) where
 mem:=by simp
 obj:=fun i h st b hb=>by
  obtain ⟨⟨old,he⟩,⟨o,ho,hc,hd⟩,_⟩:=st
  have e':b=e∨b=it:=by simpa using hb
  rcases e' with z | z
  ·rw [z];exact ⟨_,he,fun v q=>nomatch q⟩
  ·rw [z];exact ⟨o,ho,fun v q=>by rw [hd] at q;cases q⟩
 keep:=fun i h h' st k=>let ⟨⟨old,he⟩,hi,hne⟩:=st;⟨⟨old,k e (by simp) _ he⟩,hi.at fun o q=>k it (by simp) o q,hne⟩
 item:=by
  intro X hP hw hK hc i pins s σ H E I hf st hg
  subst hP hw hK
  obtain ⟨⟨old,he⟩,hit,hne⟩:=st
  obtain ⟨xs,x,hq,hx⟩:=hg
  obtain ⟨its,rv,p,hz⟩:=I.list hq
  obtain ⟨u,hu,ru⟩:=rv.get hx
  have hel:e < s.heap.objs.size:=Heap.lt_size he
  have hil:it < s.heap.objs.size:=by obtain ⟨_,q,_⟩:=hit;exact Heap.lt_size q
  refine wpAny_pyNext_enum_item he hit p.isList (x:=u) (by simpa using hu) hne fun h' ho hit' hT hsz hk=>?_
  refine ⟨_,rfl,wpAny_letOwnedTupleGo_enum (s:={ s with heap:=h',toks:=s.toks + 1 }) ho fun h'' he' sb=>?_⟩
  have hT2:h''.get? s.heap.objs.size=some { cls := .type "tuple",data := .seq #[.int i s.toks,u] }:=(sb.2 _ (Nat.ne_of_gt hel)).trans hT
  have new:ObjOk X.prog X.w (upd H s.heap.objs.size (.tup [.int (i:Nat),x])) h'' s.heap.objs.size (.tup [.int (i:Nat),x]) :=
   ⟨by show 2≤sizeLine;decide,[.int i s.toks,u],.cons ⟨_,rfl⟩ (.cons ru .nil),⟨_,hT2,rfl,_,rfl⟩⟩
  have I1:Inv X pins σ (upd H s.heap.objs.size (.tup [.int (i:Nat),x])) { s with heap:=h'',toks:=s.toks + 1 } :=
   I.turnedNew (ch:=[e,it]) (fun b ob hb q=>(sb.2 b (fun z=>hb (by simp [z]))).trans (hk b ob (fun z=>hb (by simp [z])) (fun z=>hb (by simp [z])) q)) hf (Nat.le_refl _) new
  refine ⟨.ref s.heap.objs.size,_,I1,rfl,⟨_,x,rfl,I.hok.fresh (Nat.le_refl _),rfl,fun ys hy=>by rw [I.list_inj hy hq];exact hx⟩,⟨⟨u,?_⟩,hit'.at fun o q=>(sb.2 it (Ne.symm hne)).trans q,hne⟩,fun b hb=>?_⟩
  ·have e1:((i + 1:Nat):Int)=(i:Int) + 1:=by omega
   rw [e1];exact he'
  ·have hb':b < s.heap.objs.size:=by
    have e':b=e∨b=it:=by simpa using hb
    rcases e' with z | z
    ·rw [z];exact hel
    ·rw [z];exact hil
   rw [zb5 (Nat.ne_of_lt hb')]
   exact (hf b hb).1
 done:=by
  intro X hP hw hK hc i pins s σ H E I hf st hg
  subst hP hw hK
  obtain ⟨⟨old,he⟩,hit,hne⟩:=st
  obtain ⟨xs,hq,hx⟩:=hg
  obtain ⟨its,rv,p,hz⟩:=I.list hq
  obtain ⟨f0,f1,f2,f3,f4,f5⟩:=hf it (by simp)
  have hl:=rv.length
  exact wpAny_pyNext_enum_end (I.ok.hd hc) he hit p.isList (by simp;omega) fun h' eb=>⟨rfl,I.turned (t':=s.toks) (fun b o hb q=>eb b o hb q) f0 f1 f3 f4 f5⟩
 self:=fun A i s Q E st h=>let ⟨⟨_,he⟩,_⟩:=st;wpAny_pyIter_enum he h
def iEnum (K:PySem.W.Frag) (ta:TA):TI:=fun σ H R=>ta σ H fun vs H1=>∃ a xs,vs=[.ref a]∧SqL K H1 a xs∧R (Ite K a) H1
theorem xa9 {X:Cx} {e:Expr} {ta:TA} {p pos tpos:Pos} {elts:List Expr} {kk:Nat} (hg:Gl X "enumerate") (hm:X.mg "enumerate" = none) (ha:PA X [e] ta) (hs:starEach [e] X.env=[(false,eval e X.env)]:=by rfl) :
  PI X (.Tuple elts kk tpos) (.Call (.Name "enumerate" p) [e] [] pos) (iEnum X.K ta):=by
 intro pins s σ H R I h
 refine Call_ (yo6 I hg hm boot_enumerate (PyProof.Rows.callWith_type1 (thn (ha pos pins s σ H _ I h) fun us s1 ⟨vs,H1,I1,r1,q1⟩=>?_) hs rfl))
 obtain ⟨a,xs,ex,hq,q⟩:=q1
 subst ex
 cases r1 with
 | cons r rr =>
  cases rr
  cases r
  obtain ⟨its,rv,p',hz⟩:=I1.list hq
  refine call_enumerate_list p'.isList fun h' he hit hsz hk=>wpAny_pyIter_enum he ?_
  have I2:Inv X pins σ H1 { s1 with heap:=h' }:=I1.kept (t':=s1.toks) hk
  refine ⟨s1.heap.objs.size + 1,[s1.heap.objs.size + 1,s1.heap.objs.size],_,_,H1,rfl,I2,turn_enum a (s1.heap.objs.size + 1) s1.heap.objs.size,⟨⟨.none,he⟩,hit,Nat.succ_ne_self _⟩,fun b hb=>?_,q⟩
  have e':b=s1.heap.objs.size + 1∨b=s1.heap.objs.size:=by simpa using hb
  have hle:s1.heap.objs.size≤b:=by
   rcases e' with z | z
   ·rw [z];exact Nat.le_add_right _ _
   ·rw [z];exact Nat.le_refl _
  exact I1.fpOk hle (I1.hok.fresh hle)
theorem boot_zip5:bootBuiltins "zip" = some (.type "zip"):=by decide +kernel
def Itz (K:PySem.W.Frag) (a b:Addr):It :=
 ⟨fun i H=>∃ (xs ys:List V) (x y:V),SqL K H a xs∧SqL K H b ys∧xs[i]?=some x∧ys[i]?=some y,
  fun i H v H'=>∃ T x y,v = .ref T∧H T=none∧H'=upd H T (.tup [x,y])∧(∀ xs,SqL K H a xs→xs[i]?=some x)∧∀ ys,SqL K H b ys→ys[i]?=some y,
  fun i H=>∃ xs ys:List V,SqL K H a xs∧SqL K H b ys∧(xs.length≤i∨ys.length≤i)⟩
theorem turn_zip {P:Program} {w:World} {K:PySem.W.Frag} {elts:List Expr} {kk:Nat} {tpos:Pos} {a b z TI TO i1 i2:Addr} (D:ZipApart z TI TO i1 i2 a b) :
  Turn P w K (.Tuple elts kk tpos) (Itz K a b) [z,TI,TO,i1,i2] z (fun i h=>IsZip h z TI TO .none∧IsPair h TI (.ref i1) (.ref i2)∧(∃ x y,IsPair h TO x y)∧h.IsListIter i1 a i∧h.IsListIter i2 b i) where
 mem:=by simp
 obj:=fun i h st c hc=>by
  obtain ⟨hz,hTI,⟨x,y,hTO⟩,⟨o1,e1,_,d1⟩,⟨o2,e2,_,d2⟩⟩:=st
  have e':c=z∨c=TI∨c=TO∨c=i1∨c=i2:=by simpa using hc
  rcases e' with q | q | q | q | q
  ·rw [q];exact ⟨_,hz,fun v q=>nomatch q⟩
  ·rw [q];exact ⟨_,hTI,fun v q=>nomatch q⟩
  ·rw [q];exact ⟨_,hTO,fun v q=>nomatch q⟩
  ·rw [q];exact ⟨o1,e1,fun v q=>by rw [d1] at q;cases q⟩
  ·rw [q];exact ⟨o2,e2,fun v q=>by rw [d2] at q;cases q⟩
 keep:=fun i h h' st k=>by
  obtain ⟨hz,hTI,⟨x,y,hTO⟩,h1,h2⟩:=st
  exact ⟨k z (by simp) _ hz,k TI (by simp) _ hTI,⟨x,y,k TO (by simp) _ hTO⟩,h1.at fun o q=>k i1 (by simp) o q,h2.at fun o q=>k i2 (by simp) o q⟩
 item:=by
  intro X hP hw hK hc i pins s σ H E I hf st hg
  subst hP hw hK
  obtain ⟨hz,hTI,⟨x0,y0,hTO⟩,h1,h2⟩:=st
  obtain ⟨xs,ys,x,y,hqx,hqy,hx,hy⟩:=hg
  obtain ⟨its,rv,p,_⟩:=I.list hqx
  obtain ⟨its2,rv2,p2,_⟩:=I.list hqy
  obtain ⟨u,hu,ru⟩:=rv.get hx
  obtain ⟨u2,hu2,ru2⟩:=rv2.get hy
  have hzl:z < s.heap.objs.size:=Heap.lt_size hz
  refine wpAny_pyNext_zip_item D hz hTI hTO h1 h2 p.isList p2.isList (x:=u) (y:=u2) (by simpa using hu) (by simpa using hu2) fun h' z' TO' h1' h2' hT hsz hk=>?_
  refine ⟨_,rfl,wpAny_letOwnedTupleGo_zip (s:={ s with heap:=h' }) z' fun h'' z'' sb=>?_⟩
  have hT2:h''.get? s.heap.objs.size=some { cls := .type "tuple",data := .seq #[u,u2] }:=(sb.2 _ (Nat.ne_of_gt hzl)).trans hT
  have new:ObjOk X.prog X.w (upd H s.heap.objs.size (.tup [x,y])) h'' s.heap.objs.size (.tup [x,y]) :=
   ⟨by show 2≤sizeLine;decide,[u,u2],.cons ru (.cons ru2 .nil),⟨_,hT2,rfl,_,rfl⟩⟩
  have I1:Inv X pins σ (upd H s.heap.objs.size (.tup [x,y])) { s with heap:=h'' } :=
   I.turnedNew (t':=s.toks) (ch:=[z,TI,TO,i1,i2]) (fun c o hb q=>(sb.2 c (fun q'=>hb (by simp [q']))).trans (hk c o (fun q'=>hb (by simp [q'])) (fun q'=>hb (by simp [q'])) (fun q'=>hb (by simp [q'])) (fun q'=>hb (by simp [q'])) q)) hf (Nat.le_refl _) new
  refine ⟨.ref s.heap.objs.size,_,I1,rfl,⟨_,x,y,rfl,I.hok.fresh (Nat.le_refl _),rfl,fun l hl=>by rw [I.list_inj hl hqx];exact hx,fun l hl=>by rw [I.list_inj hl hqy];exact hy⟩,⟨z'',?_,⟨u,u2,?_⟩,?_,?_⟩,fun c hcm=>?_⟩
  ·exact (sb.2 _ D.TIz).trans (hk _ _ D.TIz D.TITO D.TIi1 D.TIi2 hTI)
  ·exact (sb.2 _ D.TOz).trans TO'
  ·exact h1'.at fun o q=>(sb.2 _ D.i1z).trans q
  ·exact h2'.at fun o q=>(sb.2 _ D.i2z).trans q
  ·have hlt:c < s.heap.objs.size:=by
    have e':c=z∨c=TI∨c=TO∨c=i1∨c=i2:=by simpa using hcm
    rcases e' with q | q | q | q | q
    ·rw [q];exact hzl
    ·rw [q];exact Heap.lt_size hTI
    ·rw [q];exact Heap.lt_size hTO
    ·rw [q];obtain ⟨_,e1,_⟩:=h1;exact Heap.lt_size e1
    ·rw [q];obtain ⟨_,e2,_⟩:=h2;exact Heap.lt_size e2
   rw [zb5 (Nat.ne_of_lt hlt)]
   exact (hf c hcm).1
 done:=by
  intro X hP hw hK hc i pins s σ H E I hf st hg
  subst hP hw hK
  obtain ⟨hz,hTI,⟨x0,y0,hTO⟩,h1,h2⟩:=st
  obtain ⟨xs,ys,hqx,hqy,hend⟩:=hg
  obtain ⟨its,rv,p,_⟩:=I.list hqx
  obtain ⟨its2,rv2,p2,_⟩:=I.list hqy
  have l1:=rv.length
  have l2:=rv2.length
  have he:its.toArray[i]?=none∨its2.toArray[i]?=none:=by
   rcases hend with q | q
   ·exact .inl (by simp;omega)
   ·exact .inr (by simp;omega)
  exact wpAny_pyNext_zip_end (I.ok.hd hc) D hz hTI hTO h1 h2 p.isList p2.isList he fun h' hk=>⟨rfl,I.turnedL (t':=s.toks) (ch:=[z,TI,TO,i1,i2]) (fun c o hb q =>
   hk c o (fun q'=>hb (by simp [q'])) (fun q'=>hb (by simp [q'])) (fun q'=>hb (by simp [q'])) (fun q'=>hb (by simp [q'])) q) hf⟩
 self:=fun A i s Q E st h=>wpAny_pyIter_zip st.1 h
def iZip (K:PySem.W.Frag) (ta:TA):TI:=fun σ H R=>ta σ H fun vs H1=>∃ a b xs ys,vs=[.ref a,.ref b]∧SqL K H1 a xs∧SqL K H1 b ys∧R (Itz K a b) H1
theorem pi_zip {X:Cx} {e e2:Expr} {ta:TA} {p pos tpos:Pos} {elts:List Expr} {kk:Nat} (hg:Gl X "zip") (hm:X.mg "zip" = none) (ha:PA X [e,e2] ta)
  (hs:starEach [e,e2] X.env=(false,eval e X.env) :: starEach [e2] X.env:=by rfl) (hpl:(backTo pos (starEach [e2] X.env)).any (·.1)=false:=by rfl) :
  PI X (.Tuple elts kk tpos) (.Call (.Name "zip" p) [e,e2] [] pos) (iZip X.K ta):=by
 intro pins s σ H R I h
 refine Call_ (yo6 I hg hm boot_zip5 (PyProof.Rows.callWith_type1 (thn (ha pos pins s σ H _ I h) fun us s1 ⟨vs,H1,I1,r1,q1⟩=>?_) hs hpl))
 obtain ⟨a,b,xs,ys,ex,hqx,hqy,q⟩:=q1
 subst ex
 cases r1 with
 | cons r rr =>
  cases rr with
  | cons r' rr =>
   cases rr
   cases r
   cases r'
   obtain ⟨its,rv,p1,_⟩:=I1.list hqx
   obtain ⟨its2,rv2,p2,_⟩:=I1.list hqy
   have la:a < s1.heap.objs.size:=p1.lt
   have lb:b < s1.heap.objs.size:=p2.lt
   refine call_zip_2 p1.isList p2.isList fun h' hz hTI hTO h1 h2 hsz hk=>wpAny_pyIter_zip hz ?_
   have I2:Inv X pins σ H1 { s1 with heap:=h' }:=I1.kept (t':=s1.toks) hk
   refine ⟨s1.heap.objs.size + 4,[s1.heap.objs.size + 4,s1.heap.objs.size + 2,s1.heap.objs.size + 3,s1.heap.objs.size,s1.heap.objs.size + 1],_,_,H1,rfl,I2,turn_zip (PySem.W.ktu_apart s1.heap.objs.size a b la lb),⟨hz,hTI,⟨_,_,hTO⟩,h1,h2⟩,fun c hcm=>?_,q⟩
   have e':c=s1.heap.objs.size + 4∨c=s1.heap.objs.size + 2∨c=s1.heap.objs.size + 3∨c=s1.heap.objs.size∨c=s1.heap.objs.size + 1:=by simpa using hcm
   have hle:s1.heap.objs.size≤c:=by
    rcases e' with z | z | z | z | z
    ·rw [z];exact Nat.le_add_right _ _
    ·rw [z];exact Nat.le_add_right _ _
    ·rw [z];exact Nat.le_add_right _ _
    ·rw [z];exact Nat.le_refl _
    ·rw [z];exact Nat.le_add_right _ _
   exact I1.fpOk hle (I1.hok.fresh hle)
end L2
section
namespace Bits
open PySem PyProof.Rows
end Bits
end
section
namespace TL
open PySem PySem.Builtin PySem.Builtin.Str PySem.StrLaws
end TL
end
namespace L2
open PySem PySem.Spec PyProof.Rows
section
variable {X:Cx} {pins:List (Addr×Obj)} {σ:St} {H:Hp} {s:Shared} {Q:VK}
end
section
variable {X:Cx}
end
section
variable {X:Cx} {o e:Expr} {to te:TE}
end
end L2
namespace L2
open PySem PySem.Spec PyProof.Rows
section
variable {X:Cx}
end
end L2
namespace Att
open PySem PySem.W PySem.Calls PyProof.Rows
section
variable {prog:Program} {w:World} {A:Around} {E:Value→Shared→Prop} {s:Shared} {K:Frag}
end
end Att
namespace L2
open PySem PySem.Spec PyProof.Rows
end L2
namespace L2
open PySem PySem.Spec PyProof.Rows
end L2
namespace L2
open PySem PySem.Spec PyProof.Rows
def inClass (s:Stmt) (j:Nat):Stmt:=match s with
 | .ClassDef _ _ _ body _ _ _ _ _ _ _=>body.getD j (.Pass ⟨0,0,0,0⟩)
 | _ => .Pass ⟨0,0,0,0⟩
def defArgs (s:Stmt):Arguments:=match s with
 | .FunctionDef _ a _ _ _ _ _ _ _ _=>a
 | _=>{ posonlyargs:=[],args:=[],vararg:=none,kwonlyargs:=[],kw_defaults:=[],kwarg:=none,defaults:=[] }
def defBody (s:Stmt):List Stmt:=match s with
 | .FunctionDef _ _ b _ _ _ _ _ _ _=>b
 | _=>[]
def defScope (s:Stmt):Scope:=match s with
 | .FunctionDef _ _ _ _ _ _ sc _ _ _=>sc
 | _=>{ kind := .function,names:=[],isGenerator:=false,isCoroutine:=false }
abbrev CX0:CXT:=fun _ _ _ _ _ _=>False
abbrev E0:XK:=fun _ _ _=>False
theorem pass0 {X:Cx}:Passes CX0 X E0:=fun _ _ _ _ _ _ _ h=>h.elim
structure Fun (K:PySem.W.Frag) (x qual:Str) (st:Stmt) (f:Addr) (fd:FuncData):Prop where
 ex:∃ (oc:Value) (od:Option Addr) (kV doc pm:Value) (an:Option Addr) (cdv ct:Value) (osl:Array (Option Value)),
  fd=PySem.W.fnOf x qual (defArgs st) (defBody st) (defScope st) .none kV doc pm an cdv ct∧K.lookup f=some ⟨oc,od,.func fd,osl⟩∧PySem.W.codeIn K cdv qual=true
 kp:PySem.W.keepIn K (.ref f)=true
section
variable {P:Program} {w:World} {K:PySem.W.Frag} {mg:Str→Option Value} {base:Heap}
theorem Fun.ok {x qual:Str} {st:Stmt} {f:Addr} {fd:FuncData} {N ps:List Str} {k:Nat} {sp:Sp} (F:Fun K x qual st f fd) (S:FnScope N ps (defScope st)) (len:∀ vs H Q E,sp vs H Q E→vs.length=ps.length)
  (hbody:∀ (cdv:Value) (A:Around) (outer:List Env) (s:Shared) (H:Hp) (vs:List V) (Q:VK) (E:XK),Room k (A.deeper (envOfC qual (defScope st) s.heap.objs.size f cdv))→sp vs H Q E →
   ∃ t,PSs (cxOf CX0 P w K mg base N qual (defScope st) f cdv A outer s H E).nox (defBody st) t∧t { nx:=fun _ H'=>Q .non H',rt:=Q } (start N vs) H):FnOk P w K mg base CX0 (k + 1) f fd ps sp:=by
 obtain ⟨oc,od,kV,doc,pm,an,cdv,ct,osl,rfl,lk,hcd⟩:=F.ex
 refine fn_of lk hcd S len fun A outer s H vs Q E hr hsp=>?_
 obtain ⟨t,h,q⟩:=hbody cdv A outer s H vs Q E hr hsp
 exact ⟨t,h.nox,q⟩
theorem Fun.binds {x qual:Str} {st:Stmt} {f:Addr} {fd:FuncData} {ps:List Str} (F:Fun K x qual st f fd)
  (h:∀ (kV doc pm:Value) (an:Option Addr) (cdv ct:Value) (us:List Value),us.length=ps.length→bindArgs (PySem.W.fnOf x qual (defArgs st) (defBody st) (defScope st) .none kV doc pm an cdv ct) ⟨us,[]⟩=pure (ps.zip us)):Binds K fd ps []:=by
 obtain ⟨oc,od,kV,doc,pm,an,cdv,ct,osl,rfl,lk,hcd⟩:=F.ex
 exact .all (h kV doc pm an cdv ct)
theorem yz5 {x qual:Str} {st:Stmt} {f:Addr} {oc:Value} {od an:Option Addr} {osl:Array (Option Value)} {kV doc pm cdv ct:Value} (l:K.lookup f=some ⟨oc,od,.func (PySem.W.fnOf x qual (defArgs st) (defBody st) (defScope st) .none kV doc pm an cdv ct),osl⟩)
  (c:PySem.W.codeIn K cdv qual=true) (k:PySem.W.keepIn K (.ref f)=true):Fun K x qual st f (PySem.W.fnOf x qual (defArgs st) (defBody st) (defScope st) .none kV doc pm an cdv ct):=⟨⟨oc,od,kV,doc,pm,an,cdv,ct,osl,rfl,l,c⟩,k⟩
end
theorem hu_of {A:Around} {k:Nat} (hr:Room k A):A.units + 1 < cLine:=Nat.lt_of_le_of_lt (Nat.add_le_add_left (by decide:1≤64) _) hr.units
theorem small1000 {n:Nat} (h:n≤1000):n < sizeLine:=Nat.lt_of_le_of_lt h (by decide)
section
variable {X:Cx}
theorem pv (i:Nat) {x:Str} {pos:Pos} (hN:X.N[i]?=some x:=by rfl) (hv:Vis X.env.scope x:=by first | exact Or.inl rfl | exact Or.inr (Or.inl rfl) | exact Or.inr (Or.inr rfl)) (hd:(x == ("__debug__" : Str))=false:=by decide)
  (hcd:(x == ("__classdict__" : Str))=false:=by decide):PE X (.Name x pos) (tVar i):=pe_var hN hv hd hcd
end
theorem iteF {A B:Prop} (h:B):if false=true then A else B:=by
 rw [if_neg Bool.false_ne_true]
 exact h
theorem iteT {A B:Prop} (h:A):if true=true then A else B:=by
 rw [if_pos rfl]
 exact h
def Same (H H':Hp):Prop:=∀ b o,H b=some o→H' b=some o
theorem Same.refl (H:Hp):Same H H:=fun _ _ h=>h
theorem Same.trans {H H1 H2:Hp} (a:Same H H1) (b:Same H1 H2):Same H H2:=fun c o h=>b c o (a c o h)
theorem Same.free {H H':Hp} (e:Same H H') {l:Addr} (h:H' l=Option.none):H l=Option.none:=by
 cases q:H l with
 | none=>rfl
 | some o =>
  rw [e l o q] at h
  cases h
theorem Same.seq {K:PySem.W.Frag} {H H':Hp} {a:Addr} {xs:List V} (e:Same H H') (h:SqL K H a xs):SqL K H' a xs:=by
 rcases h with (h | ⟨o,h⟩) | h
 ·exact .inl (.inl (e _ _ h))
 ·exact .inl (.inr ⟨o,e _ _ h⟩)
 ·exact .inr h
section
variable {κ:Type} [DecidableEq κ]
theorem ym1:∀ {l:List κ} {k:κ},l.Nodup→¬ k∈l→(l++[k]).Nodup
 | [],k,_,_=>by simp
 | a :: r,k,h,hk=>by
  obtain ⟨h1,h2⟩:=List.nodup_cons.mp h
  show (a :: (r++[k])).Nodup
  refine List.nodup_cons.mpr ⟨fun m=>?_,ym1 h2 fun m=>hk (List.mem_cons.mpr (Or.inr m))⟩
  rcases List.mem_append.mp m with q | q
  ·exact h1 q
  ·exact hk (List.mem_cons.mpr (Or.inl (List.mem_singleton.mp q).symm))
end
theorem at_of {xs:List V} {z:Int} {j:Nat} {v:V} (e:z=(j:Int)) (h:xs[j]?=some v):atI xs z=some v:=by
 rw [e]
 exact za8 h
theorem nd_ix {α:Type} {l:List α} (hN:l.Nodup) {i j:Nat} {x:α} (a:l[i]?=some x) (b:l[j]?=some x):i=j:=by
 obtain ⟨h1,e1⟩:=List.getElem?_eq_some_iff.mp a
 obtain ⟨h2,e2⟩:=List.getElem?_eq_some_iff.mp b
 exact (List.getElem_inj hN).mp (e1.trans e2.symm)
theorem Same.made {H H1:Hp} {x dx C:Addr} (nx:H x=Option.none) (nd:H dx=Option.none) (k:∀ b o,(upd (upd H dx (.own x)) x (.ins C dx [])) b=some o→b≠x→H1 b=some o):Same H H1:=fun b o e =>
 k b o (by rw [zb5 (zb9 e nx),zb5 (zb9 e nd)];exact e) (zb9 e nx)
end L2
end
section
namespace L2
open PySem PySem.Spec PyProof.Rows
open PySem.W (WData Codec OpenSpec Well WellAll ReadsW ReadsAllW)
mutual
inductive Dw (K:PySem.W.Frag) (H:Hp):V→WData→Prop
 | non:Dw K H .non .none
 | bl (b:Bool):Dw K H (.bl b) (.bool b)
 | int (i:Int):Dw K H (.int i) (.int i)
 | str (x:Str):Dw K H (.str x) (.str x)
 | byt (b:Array UInt8):Dw K H (.byt b) (.bytes b.toList)
 | lst {a:Addr} {xs:List V} {ds:List WData}:SqL K H a xs→DwAll K H xs ds→Dw K H (.ref a) (.list ds)
 | tup {a:Addr} {xs:List V} {ds:List WData}:SqT K H a xs→DwAll K H xs ds→Dw K H (.ref a) (.tuple ds)
inductive DwAll (K:PySem.W.Frag) (H:Hp):List V→List WData→Prop
 | nil:DwAll K H [] []
 | cons {v:V} {vs:List V} {d:WData} {ds:List WData}:Dw K H v d→DwAll K H vs ds→DwAll K H (v :: vs) (d :: ds)
end
theorem dw_ints {K:PySem.W.Frag} {H:Hp}:∀ ns:List Int,DwAll K H (ns.map V.int) (ns.map WData.int)
 | [] => .nil
 | n :: r => .cons (.int n) (dw_ints r)
theorem ints_dw {K:PySem.W.Frag} {H:Hp}:∀ (ns:List Int) (xs:List V),DwAll K H xs (ns.map WData.int)→xs=ns.map V.int
 | [],xs,h=>by
  cases h
  rfl
 | n :: r,xs,h=>by
  cases h with
  | cons h1 h2 =>
   cases h1
   rw [ints_dw r _ h2] <;> rfl
section
variable {P:Program} {w:World} {K:PySem.W.Frag} {H:Hp} {h:Heap} {R:PySem.W.WRecords} {cl:Str→Option Addr}
theorem sqL_at {a:Addr} {xs:List V} (hok:HOk P w H h) (KX:K.In h) (q:SqL K H a xs):∃ (its:List Value) (o:Obj) (n:Nat),Vals xs its∧h.get? a=some o∧o.cls = .type "list" ∧ o.data = .seq its.toArray n:=by
 rcases q with q | ⟨o,its,n,e,hc,_,hd,_,hv⟩
 ·obtain ⟨_,its,n,hv,e⟩:=(show ObjOk P w H h a (.lst xs) from q.ok hok)
  exact ⟨its,_,n,hv,e,rfl,rfl⟩
 ·exact ⟨its.toList,o,n,hv,KX _ _ e,hc,by simp [hd]⟩
theorem sqT_at {a:Addr} {xs:List V} (hok:HOk P w H h) (KX:K.In h) (q:SqT K H a xs):∃ (its:List Value) (o:Obj) (n:Nat),Vals xs its∧h.get? a=some o∧o.cls = .type "tuple" ∧ o.data = .seq its.toArray n:=by
 rcases q with q | ⟨o,its,n,e,hc,hd,_,hv⟩
 ·obtain ⟨_,its,hv,o,e,hc,n,hd⟩:=(show ObjOk P w H h a (.tup xs) from q.ok hok)
  exact ⟨its,o,n,hv,e,hc,hd⟩
 ·exact ⟨its.toList,o,n,hv,KX _ _ e,hc,by simp [hd]⟩
mutual
theorem Dw.reads (hok:HOk P w H h) (KX:K.In h):∀ (d:WData) (v:V) (u:Value),Dw K H v d→RelV v u→∃ as,ReadsW R cl h u d as
 | .none,_,_,x,r=>by
  cases x
  cases r
  exact ⟨_,ReadsW.none⟩
 | .bool b,_,_,x,r=>by
  cases x
  cases r
  exact ⟨_,ReadsW.bool b⟩
 | .int i,_,_,x,r=>by
  cases x
  obtain ⟨t,rfl⟩:=r
  exact ⟨_,ReadsW.int i t⟩
 | .str s,_,_,x,r=>by
  cases x
  obtain ⟨t,rfl⟩:=r
  exact ⟨_,ReadsW.str s t⟩
 | .bytes b,_,_,x,r=>by
  cases x
  obtain ⟨t,rfl⟩:=r
  exact ⟨_,ReadsW.bytes _ t⟩
 | .list ds,_,_,x,r=>by
  cases x with
  | lst hs ha =>
   cases r
   obtain ⟨its,o,n,rv,ho,hc,hd⟩:=sqL_at hok KX hs
   obtain ⟨as,hr⟩:=Dw.readsAll hok KX ds _ its ha rv
   exact ⟨_,ReadsW.list ho hc hd hr⟩
 | .tuple ds,_,_,x,r=>by
  cases x with
  | tup hs ha =>
   cases r
   obtain ⟨its,o,n,rv,ho,hc,hd⟩:=sqT_at hok KX hs
   obtain ⟨as,hr⟩:=Dw.readsAll hok KX ds _ its ha rv
   exact ⟨_,ReadsW.tuple ho hc hd hr⟩
 | .float _,_,_,x,_=>by cases x
 | .dict _,_,_,x,_=>by cases x
 | .bytearray _,_,_,x,_=>by cases x
 | .set _,_,_,x,_=>by cases x
 | .frozenset _,_,_,x,_=>by cases x
 | .obj _ _,_,_,x,_=>by cases x
theorem Dw.readsAll (hok:HOk P w H h) (KX:K.In h):∀ (ds:List WData) (vs:List V) (us:List Value),DwAll K H vs ds→Vals vs us→∃ as,ReadsAllW R cl h us ds as
 | [],_,_,x,r=>by
  cases x
  cases r
  exact ⟨_,ReadsAllW.nil⟩
 | d :: ds,_,_,x,r=>by
  cases x with
  | cons h1 h2 =>
   cases r with
   | cons r1 r2 =>
    obtain ⟨as,q1⟩:=Dw.reads hok KX d _ _ h1 r1
    obtain ⟨bs,q2⟩:=Dw.readsAll hok KX ds _ _ h2 r2
    exact ⟨_,ReadsAllW.cons q1 q2⟩
end
end
mutual
def plW:WData→Bool
 | .none=>true
 | .bool _=>true
 | .int _=>true
 | .str _=>true
 | .bytes _=>true
 | .list xs=>plWs xs
 | .tuple xs=>plWs xs
 | _=>false
def plWs:List WData→Bool
 | []=>true
 | x :: r=>plW x && plWs r
end
theorem plWs_map {α:Type} {f:α→WData} (h:∀ a,plW (f a)=true):∀ l:List α,plWs (l.map f)=true
 | []=>rfl
 | x :: r=>by
  show (plW (f x) && plWs (r.map f))=true
  rw [h x,plWs_map h r] <;> rfl
theorem yo4:∀ (c:Codec) (a:c.denote),plW (c.enc a)=true
 | .unit,_=>rfl
 | .bool,_=>rfl
 | .int _ _,_=>rfl
 | .nat _ _,_=>rfl
 | .u8,_=>rfl
 | .bytes _ _,_=>rfl
 | .text _ _ _ _,_=>rfl
 | .list _ _ c,a=>plWs_map (fun x=>yo4 c x) a
 | .pair c d,a=>by
  show (plW (c.enc a.1) && (plW (d.enc a.2) && true))=true
  rw [yo4 c a.1,yo4 d a.2] <;> rfl
 | .triple c d e,a=>by
  show (plW (c.enc a.1) && (plW (d.enc a.2.1) && (plW (e.enc a.2.2) && true)))=true
  rw [yo4 c a.1,yo4 d a.2.1,yo4 e a.2.2] <;> rfl
 | .option c,none=>rfl
 | .option c,some x=>yo4 c x
theorem pl_encAll:∀ (cs:List Codec) (a:Codec.denoteAll cs),plWs (Codec.encAll cs a)=true
 | [],_=>rfl
 | c :: cs,a=>by
  show (plW (c.enc a.1) && plWs (Codec.encAll cs a.2))=true
  rw [yo4 c a.1,pl_encAll cs a.2] <;> rfl
theorem yl3:∀ {xs:List WData} {d:WData},d∈xs→d.weight≤WData.weightAll xs
 | [],d,h=>absurd h (by simp)
 | x :: r,d,h=>by
  show d.weight≤x.weight + 1 + WData.weightAll r
  rcases List.mem_cons.mp h with e | m
  ·rw [e]
   omega
  ·have z:=yl3 m
   omega
def toV:Value→V
 | .none => .non
 | .bool b => .bl b
 | .int i _ => .int i
 | .str x _ => .str x
 | .bytes b _ => .byt b
 | .ref a => .ref a
 | _ => .non
def OkU (A:List Addr):Value→Prop
 | .none=>True
 | .bool _=>True
 | .int _ _=>True
 | .str _ _=>True
 | .bytes _ _=>True
 | .ref a=>a∈A
 | _=>False
theorem OkU.mono {A B:List Addr} (h:∀ a∈A,a∈B):∀ {u:Value},OkU A u→OkU B u:=fun {u} x=>by
 cases u with
 | ref a=>exact h a x
 | none=>trivial
 | bool b=>trivial
 | int i t=>trivial
 | str s t=>trivial
 | bytes b t=>trivial
 | _=>exact False.elim x
theorem relV_toV {A:List Addr} {u:Value} (x:OkU A u):RelV (toV u) u:=by
 cases u with
 | ref a=>rfl
 | none=>rfl
 | bool b=>rfl
 | int i t=>exact ⟨t,rfl⟩
 | str s t=>exact ⟨t,rfl⟩
 | bytes b t=>exact ⟨t,rfl⟩
 | _=>exact False.elim x
theorem yc3 {A:List Addr}:∀ {vs:List Value},(∀ u∈vs,OkU A u)→Vals (vs.map toV) vs
 | [],_ => .nil
 | u :: r,h => .cons (relV_toV (h u (List.mem_cons_self ..))) (yc3 fun x hx=>h x (List.mem_cons_of_mem _ hx))
def ArgOb (h:Heap) (A:List Addr) (a:Addr):Prop:=∃ vs:List Value,vs.length≤sizeLine∧(∀ u∈vs,OkU A u) ∧
 (h.get? a=some { cls := .type "list",data := .seq vs.toArray }∨h.get? a=some { cls := .type "tuple",data := .seq vs.toArray })
theorem ArgOb.mono {h:Heap} {A B:List Addr} {a:Addr} (k:∀ a∈A,a∈B) (x:ArgOb h A a):ArgOb h B a:=by
 obtain ⟨vs,h1,h2,h3⟩:=x
 exact ⟨vs,h1,fun u hu=>(h2 u hu).mono k,h3⟩
theorem zx8 {P:Params} {h:Heap}:∀ {vs:List Value} {ds:List WData},WellAll P h vs ds→vs.length=ds.length
 | _,_,.nil=>rfl
 | _,_,.cons _ b=>by
  show _ + 1=_ + 1
  rw [zx8 b]
theorem well_list {P:Params} {h:Heap} {v:Value} {ds:List WData} (x:Well P h v (.list ds)):∃ (a:Addr) (vs:List Value),v = .ref a∧h.get? a=some { cls := .type "list",data := .seq vs.toArray }∧WellAll P h vs ds:=by
 cases x with
 | list ho hall=>exact ⟨_,_,rfl,ho,hall⟩
theorem yx6 {P:Params} {h:Heap} {v:Value} {ds:List WData} (x:Well P h v (.tuple ds)):∃ (a:Addr) (vs:List Value),v = .ref a∧h.get? a=some { cls := .type "tuple",data := .seq vs.toArray }∧WellAll P h vs ds:=by
 cases x with
 | tuple ho hall=>exact ⟨_,_,rfl,ho,hall⟩
theorem well_cons {P:Params} {h:Heap} {us:List Value} {d:WData} {ds:List WData} (x:WellAll P h us (d :: ds)):∃ (v:Value) (vs:List Value),us=v :: vs∧Well P h v d∧WellAll P h vs ds:=by
 cases x with
 | cons a b=>exact ⟨_,_,rfl,a,b⟩
theorem line_of {n:Nat} (h:n≤1048576):n≤sizeLine:=Nat.le_trans h (by decide)
section
variable {P:Params} {h:Heap}
mutual
theorem area_one:∀ (d:WData) (v:Value),Well P h v d→plW d=true→d.weight≤1048576→∃ A:List Addr,OkU A v∧∀ a∈A,ArgOb h A a
 | .none,_,x,_,_=>by
  cases x
  exact ⟨[],trivial,fun a m=>absurd m (by simp)⟩
 | .bool b,_,x,_,_=>by
  cases x
  exact ⟨[],trivial,fun a m=>absurd m (by simp)⟩
 | .int i,_,x,_,_=>by
  cases x
  exact ⟨[],trivial,fun a m=>absurd m (by simp)⟩
 | .str s,_,x,_,_=>by
  cases x
  exact ⟨[],trivial,fun a m=>absurd m (by simp)⟩
 | .bytes b,_,x,_,_=>by
  cases x
  exact ⟨[],trivial,fun a m=>absurd m (by simp)⟩
 | .list ds,_,x,p,z=>by
  obtain ⟨a,vs,rfl,ho,hall⟩:=well_list x
  have z2:WData.weightAll ds≤1048576:=z
  obtain ⟨A,h1,h2⟩:=yr3 ds _ hall p fun d hd=>Nat.le_trans (yl3 hd) z2
  have k:∀ b∈A,b∈a :: A:=fun b hb=>List.mem_cons_of_mem _ hb
  refine ⟨a :: A,List.mem_cons_self ..,fun b hb=>?_⟩
  rcases List.mem_cons.mp hb with e | m
  ·rw [e]
   exact ⟨vs,line_of (by rw [zx8 hall];exact Nat.le_trans (PySem.W.length_le_weightAllW ds) z2),fun u hu=>(h1 u hu).mono k,.inl ho⟩
  ·exact (h2 b m).mono k
 | .tuple ds,_,x,p,z=>by
  obtain ⟨a,vs,rfl,ho,hall⟩:=yx6 x
  have z2:WData.weightAll ds≤1048576:=z
  obtain ⟨A,h1,h2⟩:=yr3 ds _ hall p fun d hd=>Nat.le_trans (yl3 hd) z2
  have k:∀ b∈A,b∈a :: A:=fun b hb=>List.mem_cons_of_mem _ hb
  refine ⟨a :: A,List.mem_cons_self ..,fun b hb=>?_⟩
  rcases List.mem_cons.mp hb with e | m
  ·rw [e]
   exact ⟨vs,line_of (by rw [zx8 hall];exact Nat.le_trans (PySem.W.length_le_weightAllW ds) z2),fun u hu=>(h1 u hu).mono k,.inr ho⟩
  ·exact (h2 b m).mono k
 | .float _,_,_,p,_=>Bool.noConfusion (show false=true from p)
 | .dict _,_,_,p,_=>Bool.noConfusion (show false=true from p)
 | .bytearray _,_,_,p,_=>Bool.noConfusion (show false=true from p)
 | .set _,_,_,p,_=>Bool.noConfusion (show false=true from p)
 | .frozenset _,_,_,p,_=>Bool.noConfusion (show false=true from p)
 | .obj _ _,_,_,p,_=>Bool.noConfusion (show false=true from p)
theorem yr3:∀ (ds:List WData) (vs:List Value),WellAll P h vs ds→plWs ds=true→(∀ d∈ds,d.weight≤1048576)→∃ A:List Addr,(∀ u∈vs,OkU A u)∧∀ a∈A,ArgOb h A a
 | [],_,x,_,_=>by
  cases x
  exact ⟨[],fun u m=>absurd m (by simp),fun a m=>absurd m (by simp)⟩
 | d :: ds,_,x,p,z=>by
  obtain ⟨v,vs,rfl,x1,x2⟩:=well_cons x
  have q:plW d=true∧plWs ds=true:=Bool.and_eq_true_iff.mp p
  obtain ⟨A,a1,a2⟩:=area_one d v x1 q.1 (z d (List.mem_cons_self ..))
  obtain ⟨B,b1,b2⟩:=yr3 ds vs x2 q.2 fun e he=>z e (List.mem_cons_of_mem _ he)
  have kA:∀ b∈A,b∈A++B:=fun b hb=>List.mem_append.mpr (.inl hb)
  have kB:∀ b∈B,b∈A++B:=fun b hb=>List.mem_append.mpr (.inr hb)
  refine ⟨A++B,fun u hu=>?_,fun b hb=>?_⟩
  ·rcases List.mem_cons.mp hu with e | m
   ·rw [e]
    exact a1.mono kA
   ·exact (b1 u m).mono kB
  ·rcases List.mem_append.mp hb with m | m
   ·exact (a2 b m).mono kA
   ·exact (b2 b m).mono kB
end
end
def hoOf (o:Obj):Option HO:=match o.data with
 | .seq vs _=>if (o.cls == Value.type "list")=true then some (.frz o (.lst (vs.toList.map toV))) else some (.frz o (.tup (vs.toList.map toV)))
 | _=>none
def argH (K:PySem.W.Frag) (h:Heap) (A:List Addr):Hp:=fun b=>if b∈A then (if (K.lookup b).isNone=true then (h.get? b).bind hoOf else none) else none
def OnlyF (H:Hp):Prop:=∀ b,H b=none∨∃ o u,H b=some (.frz o u)
theorem hoOf_lst (vs:List Value):hoOf { cls := .type "list",data := .seq vs.toArray } = some (.frz { cls := .type "list",data := .seq vs.toArray } (.lst (vs.map toV))):=by
 show (if (Value.type "list" == Value.type "list")=true then some (HO.frz { cls := .type "list",data := .seq vs.toArray } (.lst (vs.toArray.toList.map toV))) else some (HO.frz { cls := .type "list",data := .seq vs.toArray } (.tup (vs.toArray.toList.map toV))))=_
 rw [if_pos (beq_self_eq_true _)]
theorem hoOf_tup (vs:List Value):hoOf { cls := .type "tuple",data := .seq vs.toArray } = some (.frz { cls := .type "tuple",data := .seq vs.toArray } (.tup (vs.map toV))):=by
 show (if (Value.type "tuple" == Value.type "list")=true then some (HO.frz { cls := .type "tuple",data := .seq vs.toArray } (.lst (vs.toArray.toList.map toV))) else some (HO.frz { cls := .type "tuple",data := .seq vs.toArray } (.tup (vs.toArray.toList.map toV))))=_
 rw [if_neg (by decide)]
section
variable {P:Program} {w:World} {K:PySem.W.Frag} {h:Heap} {A:List Addr}
theorem xe7 {b:Addr} {o:Obj} (hb:b∈A) (hk:K.lookup b=none) (e:h.get? b=some o):argH K h A b=hoOf o:=by
 unfold argH
 rw [if_pos hb,hk,if_pos (show (none:Option Obj).isNone=true from rfl),e] <;> rfl
theorem of_argH {b:Addr} {u:HO} (q:argH K h A b=some u):b∈A∧K.lookup b=none:=by
 unfold argH at q
 by_cases hb:b∈A
 ·rw [if_pos hb] at q
  cases hk:K.lookup b with
  | none=>exact ⟨hb,rfl⟩
  | some o =>
   rw [hk,if_neg (by simp)] at q
   cases q
 ·rw [if_neg hb] at q
  cases q
theorem xe6 (ar:∀ a∈A,ArgOb h A a) {b:Addr} {u:HO} (q:argH K h A b=some u):K.lookup b=none∧∃ vs:List Value,vs.length≤sizeLine∧(∀ u∈vs,OkU A u) ∧
  ((h.get? b=some { cls := .type "list",data := .seq vs.toArray }∧u = .frz { cls := .type "list",data := .seq vs.toArray } (.lst (vs.map toV))) ∨
    (h.get? b=some { cls := .type "tuple",data := .seq vs.toArray }∧u = .frz { cls := .type "tuple",data := .seq vs.toArray } (.tup (vs.map toV)))):=by
 obtain ⟨hb,hk⟩:=of_argH q
 obtain ⟨vs,h1,h2,h3⟩:=ar b hb
 refine ⟨hk,vs,h1,h2,?_⟩
 rcases h3 with e | e
 ·rw [xe7 hb hk e,hoOf_lst] at q
  exact .inl ⟨e,(Option.some.inj q).symm⟩
 ·rw [xe7 hb hk e,hoOf_tup] at q
  exact .inr ⟨e,(Option.some.inj q).symm⟩
theorem argH_only (ar:∀ a∈A,ArgOb h A a):OnlyF (argH K h A):=fun b=>by
 cases q:argH K h A b with
 | none=>exact .inl rfl
 | some u =>
  obtain ⟨_,vs,_,_,⟨_,e⟩ | ⟨_,e⟩⟩:=xe6 ar q
  ·exact .inr ⟨_,_,by rw [e]⟩
  ·exact .inr ⟨_,_,by rw [e]⟩
theorem argH_ok (ar:∀ a∈A,ArgOb h A a):HOk P w (argH K h A) h:=fun b u q=>by
 obtain ⟨_,vs,h1,h2,⟨e,rfl⟩ | ⟨e,rfl⟩⟩:=xe6 ar q
 ·exact ⟨e,by rw [List.length_map];exact h1,vs,_,yc3 h2,e⟩
 ·exact ⟨e,by rw [List.length_map];exact h1,vs,yc3 h2,_,e,rfl,_,rfl⟩
theorem xa6 {c c':Value} {vs us:List Value} (e:(some { cls:=c,data := .seq vs.toArray }:Option Obj)=some { cls:=c',data := .seq us.toArray }):c=c'∧vs=us:=by
 have e1:=Option.some.inj e
 have e2:c=c':=congrArg Obj.cls e1
 have e3:Data.seq vs.toArray=Data.seq us.toArray:=congrArg Obj.data e1
 injection e3 with e4
 refine ⟨e2,?_⟩
 have e5:=congrArg Array.toList e4
 simpa using e5
theorem argL (KX:K.In h) (ar:∀ a∈A,ArgOb h A a) {a:Addr} {vs:List Value} (ha:a∈A) (e:h.get? a=some { cls := .type "list",data := .seq vs.toArray }):(∀ u∈vs,OkU A u)∧SqL K (argH K h A) a (vs.map toV):=by
 obtain ⟨us,h1,h2,h3⟩:=ar a ha
 have hu:us=vs:=by
  rcases h3 with q | q
  ·rw [e] at q
   exact (xa6 q).2.symm
  ·rw [e] at q
   exact absurd (Value.type.inj (xa6 q).1) (by decide)
 subst hu
 refine ⟨h2,?_⟩
 cases hk:K.lookup a with
 | none=>exact .inl (.inr ⟨_,by rw [xe7 ha hk e,hoOf_lst]⟩)
 | some o =>
  have e2:=KX a o hk
  rw [e] at e2
  obtain rfl:=Option.some.inj e2
  exact .inr ⟨_,us.toArray,_,hk,rfl,rfl,rfl,by rw [List.size_toArray];exact h1,by simpa using yc3 h2⟩
theorem argT (KX:K.In h) (ar:∀ a∈A,ArgOb h A a) {a:Addr} {vs:List Value} (ha:a∈A) (e:h.get? a=some { cls := .type "tuple",data := .seq vs.toArray }):(∀ u∈vs,OkU A u)∧SqT K (argH K h A) a (vs.map toV):=by
 obtain ⟨us,h1,h2,h3⟩:=ar a ha
 have hu:us=vs:=by
  rcases h3 with q | q
  ·rw [e] at q
   exact absurd (Value.type.inj (xa6 q).1) (by decide)
  ·rw [e] at q
   exact (xa6 q).2.symm
 subst hu
 refine ⟨h2,?_⟩
 cases hk:K.lookup a with
 | none=>exact .inl (.inr ⟨_,by rw [xe7 ha hk e,hoOf_tup]⟩)
 | some o =>
  have e2:=KX a o hk
  rw [e] at e2
  obtain rfl:=Option.some.inj e2
  exact .inr ⟨_,us.toArray,_,hk,rfl,rfl,by rw [List.size_toArray];exact h1,by simpa using yc3 h2⟩
mutual
theorem dw_one {Pm:Params} (KX:K.In h) (ar:∀ a∈A,ArgOb h A a):∀ (d:WData) (v:Value),Well Pm h v d→plW d=true→OkU A v→Dw K (argH K h A) (toV v) d
 | .none,_,x,_,_=>by
  cases x
  exact .non
 | .bool b,_,x,_,_=>by
  cases x
  exact .bl b
 | .int i,_,x,_,_=>by
  cases x
  exact .int i
 | .str s,_,x,_,_=>by
  cases x
  exact .str s
 | .bytes b,_,x,_,_=>by
  cases x
  have z:=Dw.byt (K:=K) (H:=argH K h A) b.toArray
  exact z
 | .list ds,_,x,p,hu=>by
  obtain ⟨a,vs,rfl,ho,hall⟩:=well_list x
  obtain ⟨h2,hs⟩:=argL KX ar hu ho
  exact .lst hs (dw_all KX ar ds _ hall p h2)
 | .tuple ds,_,x,p,hu=>by
  obtain ⟨a,vs,rfl,ho,hall⟩:=yx6 x
  obtain ⟨h2,hs⟩:=argT KX ar hu ho
  exact .tup hs (dw_all KX ar ds _ hall p h2)
 | .float _,_,_,p,_=>Bool.noConfusion (show false=true from p)
 | .dict _,_,_,p,_=>Bool.noConfusion (show false=true from p)
 | .bytearray _,_,_,p,_=>Bool.noConfusion (show false=true from p)
 | .set _,_,_,p,_=>Bool.noConfusion (show false=true from p)
 | .frozenset _,_,_,p,_=>Bool.noConfusion (show false=true from p)
 | .obj _ _,_,_,p,_=>Bool.noConfusion (show false=true from p)
theorem dw_all {Pm:Params} (KX:K.In h) (ar:∀ a∈A,ArgOb h A a):∀ (ds:List WData) (vs:List Value),WellAll Pm h vs ds→plWs ds=true→(∀ u∈vs,OkU A u)→DwAll K (argH K h A) (vs.map toV) ds
 | [],_,x,_,_=>by
  cases x
  exact .nil
 | d :: ds,_,x,p,hu=>by
  obtain ⟨v,vs,rfl,x1,x2⟩:=well_cons x
  have q:plW d=true∧plWs ds=true:=Bool.and_eq_true_iff.mp p
  exact .cons (dw_one KX ar d v x1 q.1 (hu _ (List.mem_cons_self ..))) (dw_all KX ar ds vs x2 q.2 fun u m=>hu u (List.mem_cons_of_mem _ m))
end
end
theorem spec_call {P:Program} {w:World} {K:PySem.W.Frag} {mg mb:Str→Option Value} {CX:CXT} {k:Nat} {fa:Addr} {fd:FuncData} {ps:List Str} {sp:Sp} {s₁:Shared} {vals:List Value} {ds:List WData} {R:PySem.W.WRecords} {cl:Str→Option Addr} {d0:WData}
  (KX:K.In s₁.heap) (hns:s₁.heap.Ns mainGlobals mg) (hb:s₁.heap.Ns builtinsNs mb) (hbb:∀ x:Str,x ≠ "__name__" → mb x=bootBuiltins x) (hlim:s₁.heap.NoLimit) (hg:s₁.gens=#[])
  (hwl:WellAll w.params s₁.heap vals ds) (hpl:plWs ds=true) (hwt:∀ d∈ds,d.weight≤1048576) (hr:Room k callerA)
  (F:∀ base:Heap,K.In base→base.Ns mainGlobals mg→FnOk P w K mg base CX k fa fd ps sp) (hbind:∀ (s:Shared) (us:List Value),us.length=ps.length→BindsTo s fd ⟨us,[]⟩ (ps.zip us)) (hlen:ds.length=ps.length)
  (hsp:∀ (H:Hp) (xs:List V),OnlyF H→DwAll K H xs ds→sp xs H (fun v H'=>Dw K H' v d0) fun _ _ _=>False)
  (hCX:∀ H e s',CX [] H s₁ (fun _ _ _=>False) e s'→False) :
  codeAny (model P w) callerA (.call (.ref fa) ⟨vals,[]⟩) (fun r s'=>∃ u as,r = .ok (.ret u)∧ReadsW R cl s'.heap u d0 as∧OldK s₁.heap s'.heap∧s'.os=s₁.os∧AllBare s'.gens) s₁:=by
 obtain ⟨A,ho,ar⟩:=yr3 ds vals hwl hpl hwt
 have hO:OnlyF (argH K s₁.heap A):=argH_only ar
 have hok:HOk P w (argH K s₁.heap A) s₁.heap:=argH_ok ar
 have hS:=dw_all KX ar ds vals hwl hpl ho
 have hV:=yc3 ho
 have hK:∀ b u,argH K s₁.heap A b=some u→K.lookup b=none:=fun b u q=>(xe6 ar q).1
 have noA:∀ {b:Addr} {o:Obj} {es:Array DictEntry} {ep:Nat},s₁.heap.get? b=some o→o.data = .dict es ep→argH K s₁.heap A b=none:=fun {b o es ep} e d=>by
  cases q:argH K s₁.heap A b with
  | none=>rfl
  | some u =>
   obtain ⟨_,vs,_,_,⟨e2,_⟩ | ⟨e2,_⟩⟩:=xe6 ar q
   ·rw [e2] at e
    cases e
    have d':Data.seq vs.toArray _=Data.dict es ep:=d
    cases d'
   ·rw [e2] at e
    cases e
    have d':Data.seq vs.toArray _=Data.dict es ep:=d
    cases d'
 generalize argH K s₁.heap A=H at hO hok hS hK noA
 have base_of:∀ {b:Addr} {o:Obj},s₁.heap.get? b=some o→H b=none→(hidT s₁.heap H).get? b=some o:=fun e n=>hidT_get e n
 have nsK:∀ {b:Addr} {m:Str→Option Value},s₁.heap.Ns b m→(hidT s₁.heap H).Ns b m:=fun {b m} ⟨o,es,ep,e,d,r⟩=>⟨o,es,ep,base_of e (noA e d),d,r⟩
 have nK:∀ b o,K.lookup b=some o→H b=none:=fun b o e=>by
  cases q:H b with
  | none=>rfl
  | some u =>
   rw [hK b u q] at e
   cases e
 have hKb:K.In (hidT s₁.heap H):=fun b o e=>base_of (KX b o e) (nK b o e)
 have hM:Mod K mg (hidT s₁.heap H):=⟨hKb,nsK hns,⟨mb,nsK hb,hbb⟩,let ⟨mc,h1,h2⟩:=hlim;⟨mc,nsK h1,h2⟩⟩
 have e0:Env0 P w K mg (hidT s₁.heap H) callerA [] s₁ H:=⟨rfl,hM,fun b o e=>of_hidT e,Nat.le_of_eq (hidT_size _ _),trivial,fun b hb=>absurd (show b∈([]:List Addr) from hb) (by simp),hok,.of_eq hg⟩
 have hl:vals.length=ps.length:=by rw [zx8 hwl];exact hlen
 refine codeAny_mono ((F _ hKb (nsK hns)).run callerA [] s₁ H ⟨vals,[]⟩ vals (vals.map toV) _ _ hr e0 (hbind s₁ vals hl) hV (hsp H _ hO hS)) fun r s' x=>?_
 cases r with
 | error e=>exact (hCX H e s' x).elim
 | ok fl =>
  cases fl with
  | next=>exact False.elim x
  | brk=>exact False.elim x
  | cont=>exact False.elim x
  | ret u =>
   obtain ⟨v,H',os,bare,un,hok',r',q⟩:=x
   have kept:∀ b o,s₁.heap.get? b=some o→s'.heap.get? b=some o:=fun b o e=>by
    cases q2:H b with
    | none=>exact un.keep b o e q2 (by intro z;exact absurd (show b∈([]:List Addr) from z) (by simp)) (by simp)
    | some u2 =>
     rcases hO b with z | ⟨ob,u3,z⟩
     ·rw [q2] at z
      cases z
     ·have z2:=un.frzs b ob _ z
      obtain ⟨e1,_⟩:=hok b _ z
      obtain ⟨e2,_⟩:=hok' b _ z2
      rw [e] at e1
      cases e1
      exact e2
   have KX':K.In s'.heap:=fun b o e=>kept b o (KX b o e)
   obtain ⟨as,hrd⟩:=Dw.reads (R:=R) (cl:=cl) hok' KX' d0 v u q r'
   exact ⟨u,as,rfl,hrd,OldK.of_keep kept,os,bare⟩
theorem yx3 {ds:List WData} (h:WData.layableAll ds=true):∀ d∈ds,d.weight≤1048576:=fun d hd =>
 (PySem.W.layableW_iff.mp (List.all_eq_true.mp h d hd)).2.2
theorem yz7:∀ (cs:List Codec) (a:Codec.denoteAll cs),(Codec.encAll cs a).length=cs.length
 | [],_=>rfl
 | c :: cs,a=>by
  show (Codec.encAll cs a.2).length + 1=cs.length + 1
  rw [yz7 cs a.2]
theorem walk_spec {r:OpenSpec} {k:Nat} {q:Program} {loose:List Str} {XP:(Str→Option Value)→Heap→Prop} {YP:World→Heap→Prop} {d:DefRec} {K:Params→PySem.W.Frag} {CX:World→CXT} {ps:List Str} {sp:World→Sp}
  (hwell:r.wellSaid=true) (hdf:d.params.defaults=[]) (hlen:r.args.length=ps.length) (hr:Room k callerA)
  (hY:∀ (w:World) (h:Heap),YP w h→(K w.params).In h)
  (F:∀ (w:World) (mg:Str→Option Value) (fa:Addr) (h:Heap),YP w h→(K w.params).In h→h.Ns mainGlobals mg→mg d.name=some (.ref fa) →
   ∃ fd:FuncData,(∀ (s:Shared) (us:List Value),us.length=ps.length→BindsTo s fd ⟨us,[]⟩ (ps.zip us)) ∧
    ∀ base:Heap,(K w.params).In base→base.Ns mainGlobals mg→FnOk r.prog w (K w.params) mg base (CX w) k fa fd ps (sp w))
  (hsp:∀ (w:World) (H:Hp) (xs:List V) (a:Codec.denoteAll r.args),OnlyF H→Codec.withinAll r.args a=true→Codec.app r.args r.asked a=true→DwAll (K w.params) H xs (Codec.encAll r.args a) →
   sp w xs H (fun v H'=>Dw (K w.params) H' v (r.ret.enc (Codec.app r.args r.f a))) fun _ _ _=>False)
  (hCX:∀ (w:World) (H:Hp) (s:Shared) (e:Value) (s':Shared),CX w [] H s (fun _ _ _=>False) e s'→False) :
  PySem.W.WalkOS q loose XP YP r d [] (fun f vs=>PySem.call f vs):=by
 intro w s_0 s₁ mg mb G Y fa o pm cd doc dV kV ho hd hcd hD hmg hg args vals as hpre hlay hrd hwl hlo
 obtain ⟨a,e1,e2⟩:=PySem.W.os_pre_some hpre
 obtain ⟨e3,hwi⟩:=Codec.encAll_of_decAll r.args args a e1
 subst e3
 have KX:=hY w _ Y
 obtain ⟨fd,hb,hF⟩:=F w mg fa _ Y KX G.T.g hmg
 refine PySem.W.enter_call (codeAny_mono (spec_call (R:=[]) (cl:=classAt s_0.heap) (d0:=r.ret.enc (Codec.app r.args r.f a)) KX G.T.g G.T.b G.T.builtins G.T.nolimit hg hwl (pl_encAll _ _) (yx3 hlay) hr hF hb (by rw [yz7];exact hlen)
  (fun H xs hO hS=>hsp w H xs a hO hwi e2 hS) fun H e s'=>hCX w H s₁ e s') fun r' s' hq=>?_)
 obtain ⟨u,as',rfl,h1,h2,h3,h4⟩:=hq
 exact ⟨.inl ⟨u,_,as',rfl,fun _=>rfl,h1,(OpenSpec.post_iff hwell hwi _ _).mpr rfl,fun z=>Bool.noConfusion (show false=true from z)⟩,h2,h3,h4⟩
theorem walk_specK {r:OpenSpec} {k:Nat} {q:Program} {loose:List Str} {XP:(Str→Option Value)→Heap→Prop} {YP:World→Heap→Prop} {d:DefRec} {K:Params→PySem.W.Frag} {CX:CXT} {ps:List Str} {sp:PySem.W.Frag→Sp}
  (hwell:r.wellSaid=true) (hdf:d.params.defaults=[]) (hlen:r.args.length=ps.length) (hr:Room k callerA)
  (hY:∀ (w:World) (h:Heap),YP w h→(K w.params).In h)
  (F:∀ (w:World) (mg:Str→Option Value) (fa:Addr) (h:Heap),YP w h→(K w.params).In h→h.Ns mainGlobals mg→mg d.name=some (.ref fa) →
   ∃ fd:FuncData,(∀ (s:Shared) (us:List Value),us.length=ps.length→BindsTo s fd ⟨us,[]⟩ (ps.zip us)) ∧
    ∀ base:Heap,(K w.params).In base→base.Ns mainGlobals mg→FnOk r.prog w (K w.params) mg base CX k fa fd ps (sp (K w.params)))
  (hsp:∀ (K:PySem.W.Frag) (H:Hp) (xs:List V) (a:Codec.denoteAll r.args),OnlyF H→Codec.withinAll r.args a=true→Codec.app r.args r.asked a=true→DwAll K H xs (Codec.encAll r.args a) →
   sp K xs H (fun v H'=>Dw K H' v (r.ret.enc (Codec.app r.args r.f a))) fun _ _ _=>False)
  (hCX:∀ (H:Hp) (s:Shared) (e:Value) (s':Shared),CX [] H s (fun _ _ _=>False) e s'→False) :
  PySem.W.WalkOS q loose XP YP r d [] (fun f vs=>PySem.call f vs) :=
 walk_spec (K:=K) (CX:=fun _=>CX) (sp:=fun w=>sp (K w.params)) hwell hdf hlen hr hY F (fun w H xs a h1 h2 h3 h4=>hsp (K w.params) H xs a h1 h2 h3 h4) fun _ H s e s'=>hCX H s e s'
end L2
end
namespace L2
open PySem PySem.Spec PyProof.Rows
structure CallOk (P:Program) (w:World) (K:PySem.W.Frag) (mg:Str→Option Value) (base:Heap) (x:Str) (k:Nat) (ps:List Str) (sp:Sp):Prop where
 ex:∃ (f:Addr) (fd:FuncData),mg x=some (.ref f)∧PySem.W.keepIn K (.ref f)=true∧Binds K fd ps []∧FnOk P w K mg base CX0 k f fd ps sp
structure MethOk (P:Program) (w:World) (K:PySem.W.Frag) (mg:Str→Option Value) (base:Heap) (C:Addr) (m:Str) (k:Nat) (ps:List Str) (sp:Sp):Prop where
 cl:Cls K C
 ex:∃ (f:Addr) (fd:FuncData),Meth K C m f∧Binds K fd ps []∧FnOk P w K mg base CX0 k f fd ps sp
structure MakeOk (P:Program) (w:World) (K:PySem.W.Frag) (mg:Str→Option Value) (base:Heap) (x:Str) (C:Addr) (k:Nat) (ps:List Str) (sp:Sp):Prop where
 ex:∃ (f:Addr) (fd:FuncData),mg x=some (.ref C)∧Mk K C f∧Binds K fd ps []∧FnOk P w K mg base CX0 k f fd ps sp
section
variable {X:Cx} {k j:Nat} {x m:Str} {ps:List Str} {sp:Sp} {C:Addr} {p pos apos:Pos} {e o:Expr} {es:List Expr} {t:TA} {ta:TE}
theorem zb6 (F:CallOk X.prog X.w X.K X.mg X.base x k ps sp) (ha:PA X (e :: es) t) (hr:Room j X.A) (hg:Gl X x:=by rfl) (hj:k≤j:=by decide) (hdb:(x == ("__debug__" : Str))=false:=by decide)
  (he:starEach (e :: es) X.env=(false,eval e X.env) :: starEach es X.env:=by rfl) (hpl:(backTo pos (starEach es X.env)).any (·.1)=false:=by rfl) :
  PE X (.Call (.Name x p) (e :: es) [] pos) (tCall sp [] E0 t):=by
 obtain ⟨f,fd,h1,h2,h3,h4⟩:=F.ex
 exact pe_call h4 (hr.mono hj) hg h1 h2 h3 .nil pass0 ha hdb he hpl
theorem zh5 (F:MakeOk X.prog X.w X.K X.mg X.base x C k ps sp) (ha:PA X (e :: es) t) (hr:Room j X.A) (hg:Gl X x:=by rfl) (hj:k + 1≤j:=by decide) (hdb:(x == ("__debug__" : Str))=false:=by decide)
  (he:starEach (e :: es) X.env=(false,eval e X.env) :: starEach es X.env:=by rfl) (hpl:(backTo pos (starEach es X.env)).any (·.1)=false:=by rfl) :
  PE X (.Call (.Name x p) (e :: es) [] pos) (tMake C sp [] E0 t):=by
 obtain ⟨f,fd,h1,h2,h3,h4⟩:=F.ex
 exact pe_make h2 h4 (hr.mono hj) hg h1 h3 .nil pass0 ha hdb he hpl
theorem pe_mkn0 (F:MakeOk X.prog X.w X.K X.mg X.base x C k ps sp) (hr:Room j X.A) (hg:Gl X x:=by rfl) (hj:k + 1≤j:=by decide) (hdb:(x == ("__debug__" : Str))=false:=by decide) :
  PE X (.Call (.Name x p) [] [] pos) (tMake C sp [] E0 tNil):=by
 obtain ⟨f,fd,h1,h2,h3,h4⟩:=F.ex
 exact pe_make0 h2 h4 (hr.mono hj) hg h1 h3 .nil pass0 hdb
theorem zd4 {pl:Sem Bool} (F:MethOk X.prog X.w X.K X.mg X.base C m k ps sp) (ho:PE X o ta) (ha:PA X (e :: es) t) (hr:Room j X.A) (hj:k≤j:=by decide)
  (hst:starEach (e :: es) X.env=(false,eval e X.env) :: starEach es X.env:=by rfl) (hpl:(backTo pos (starEach es X.env)).any (·.1)=false:=by rfl)
  (ht:eval (.Call (.Attribute o m apos) (e :: es) [] pos) X.env=(do
   let ov ← eval o X.env
   standAt apos.atName
   let (f,first) ← holding [ov] (getMethod ov m pl)
   callWith pos f first (backTo pos (starEach (e :: es) X.env)) (backToKw pos (keywordEach [] X.env))):=by rfl) :
  PE X (.Call (.Attribute o m apos) (e :: es) [] pos) (tMeth C m sp [] E0 ta t):=by
 obtain ⟨f,fd,h1,h2,h3⟩:=F.ex
 exact pe_meth (pl:=pl) ho F.cl h1 h3 (hr.mono hj) h2 .nil pass0 ha hst hpl ht
theorem zn5 {pl:Sem Bool} (F:MethOk X.prog X.w X.K X.mg X.base C m k ps sp) (ho:PE X o ta) (hr:Room j X.A) (hj:k≤j:=by decide)
  (ht:eval (.Call (.Attribute o m apos) [] [] pos) X.env=(do
   let ov ← eval o X.env
   standAt apos.atName
   let (f,first) ← holding [ov] (getMethod ov m pl)
   callWith pos f first (backTo pos (starEach [] X.env)) (backToKw pos (keywordEach [] X.env))):=by rfl) :
  PE X (.Call (.Attribute o m apos) [] [] pos) (tMeth C m sp [] E0 ta tNil):=by
 obtain ⟨f,fd,h1,h2,h3⟩:=F.ex
 exact pe_meth0 (pl:=pl) ho F.cl h1 h3 (hr.mono hj) h2 .nil pass0 ht
end
theorem pe_at {X:Cx} {e:Expr} {ta:TE} {f:Str} {pos:Pos} (he:PE X e ta) (hb:attributeBase e f X.env (eval e X.env)=eval e X.env:=by rfl):PE X (.Attribute e f pos) (tFld X.K ta f):=pe_fld he hb
theorem zb3 {X:Cx} {a b:Expr} {ta tb:TE} {pos:Pos} {r:R2} (hr:IxR X r) (ha:PE X a ta) (hb:PE X b tb) (hs:PlainIx b:=by exact (fun _ _=>rfl)):PE X (.Subscript a b pos) (tOp r ta tb):=pe_ix hr ha hb hs
theorem yy3 {K:PySem.W.Frag} {X:Cx} {e:Expr} {ta:TE} {f:Str} {pos:Pos} (he:PE X e ta) (hK:X.K=K:=by rfl) (hb:attributeBase e f X.env (eval e X.env)=eval e X.env:=by rfl):PE X (.Attribute e f pos) (tFld K ta f):=by
 subst hK
 exact pe_fld he hb
theorem xd8 {K:PySem.W.Frag} {X:Cx} (hK:X.K=K:=by rfl):IxR X (rIxL K):=by
 subst hK
 exact zb0
structure GVal (mg:Str→Option Value) (x:Str) (v:V):Prop where
 ex:∃ u,mg x=some u∧RelV v u
theorem pe_gval {X:Cx} {x:Str} {v:V} {pos:Pos} (hg:Gl X x) (h:GVal X.mg x v) (hd:(x == ("__debug__" : Str))=false:=by decide):PE X (.Name x pos) (tC v):=by
 obtain ⟨u,h1,h2⟩:=h.ex
 exact pe_glob hg h1 h2 hd
theorem pe_gv {X:Cx} {x:Str} {v:V} {pos:Pos} (h:GVal X.mg x v) (hg:Gl X x:=by rfl) (hd:(x == ("__debug__" : Str))=false:=by decide):PE X (.Name x pos) (tC v):=pe_gval hg h hd
theorem call_isinst {X:Cx}:CallR X (.builtin "isinstance") (fun xs H Q=>∃ (x:V) (c:Addr) (t:Value) (b:Bool),xs=[x,.ref c]∧TyOf X.K H x t∧PySem.W.kitOne X.K t (.ref c)=some b∧Q (.bl b) H):=by
 intro pins s σ H xs us Q I r h
 obtain ⟨x,c,t,b,rfl,h1,h2,h3⟩:=h
 cases r with
 | cons r1 rr =>
  cases rr with
  | cons r2 rr =>
   cases rr
   cases r2
   exact isinst_ok I r1 h1 h2 fun tk=>⟨.bl b,H,I.tok _,rfl,h3⟩
def ov:Option Int→V
 | none => .non
 | some i => .int i
def ovs (t:List (Option Int)):List V:=t.map ov
theorem zh4 {t:List (Option Int)} {i:Nat} (h:i < t.length):(ovs t)[i]?=some (ov (Vbqzab.at_ t i)):=by
 unfold ovs Vbqzab.at_
 rw [List.getElem?_map,List.getD_eq_getElem?_getD,List.getElem?_eq_getElem h]
 rfl
theorem zf9 (t:List (Option Int)):(ovs t).length=t.length:=List.length_map _
theorem ovs_set (t:List (Option Int)) (i:Nat) (o:Option Int):(ovs t).set i (ov o)=ovs (t.set i o):=by
 unfold ovs
 rw [List.map_set]
theorem yv0 {n j:Nat} (h:j < n):ixN n (j:Int)=some j:=by
 unfold ixN
 rw [if_pos (by omega),if_pos (by omega)]
 simp
theorem Same.laid {H:Hp} {a:Addr} {o:HO} (h:H a=none):Same H (upd H a o):=fun b u e=>by
 rw [zb5 (zb9 e h)]
 exact e
theorem Same.over {H H':Hp} {a:Addr} {o:HO} (s:Same H H') (h:H a=none):Same H (upd H' a o):=fun b u e=>by
 rw [zb5 (zb9 e h)]
 exact s b u e
theorem iteD {c A B:Prop} [Decidable c] (h1:c→A) (h2:¬ c→B):if decide c=true then A else B:=by
 by_cases h:c
 ·rw [if_pos (decide_eq_true h)]
  exact h1 h
 ·rw [if_neg (by rw [decide_eq_false h];exact Bool.false_ne_true)]
  exact h2 h
theorem iteND {c A B:Prop} [Decidable c] (h1:¬ c→A) (h2:c→B):if (!decide c)=true then A else B:=by
 by_cases h:c
 ·rw [decide_eq_true h]
  exact iteF (h2 h)
 ·rw [decide_eq_false h]
  exact iteT (h1 h)
theorem iteB {b:Bool} {A B:Prop} (h1:b=true→A) (h2:b=false→B):if b=true then A else B:=by
 cases b with
 | true=>exact iteT (h1 rfl)
 | false=>exact iteF (h2 rfl)
theorem for_zip {K:PySem.W.Frag} {a b:Addr} {xs ys:List V} {g:TG} {tb:TS} {D:Ends} {σ:St} {H:Hp} {n:Nat} (hx:xs.length=n) (hy:ys.length=n) (Pv:Nat→St→Hp→Prop) (h0:Pv 0 σ H) (hl:∀ i σ H,i≤n→Pv i σ H→SqL K H a xs∧SqL K H b ys)
  (hs:∀ i x y σ H T,xs[i]?=some x→ys[i]?=some y→Pv i σ H→H T=none→g (.ref T) σ (upd H T (.tup [x,y])) fun σ2 H2=>tb { D with nx:=Pv (i + 1),ct:=Pv (i + 1),bk:=D.nx } σ2 H2) (hd:∀ σ H,Pv n σ H→D.nx σ H) :
  ∃ W:Nat→Nat→St→Hp→Prop,(∃ m,W 0 m σ H)∧∀ i m σ H,W i m σ H →
   ((Itz K a b).stop i H∧D.nx σ H)∨((Itz K a b).go i H∧∃ N:St→Hp→Prop,(∀ σ' H',N σ' H'→∃ m',m' < m∧W (i + 1) m' σ' H')∧∀ x H',(Itz K a b).yld i H x H'→g x σ H' fun σ2 H2=>tb { D with nx:=N,ct:=N,bk:=D.nx } σ2 H2):=by
 refine ⟨fun i m σ H=>m=n - i∧i≤n∧Pv i σ H,⟨n,by simp,Nat.zero_le _,h0⟩,?_⟩
 rintro i m σ H ⟨rfl,hi,p⟩
 have q:=hl i σ H hi p
 by_cases hlt:i < n
 ·refine .inr ⟨⟨xs,ys,xs[i],ys[i],q.1,q.2,List.getElem?_eq_getElem (by omega),List.getElem?_eq_getElem (by omega)⟩,Pv (i + 1),fun σ' H' p'=>⟨n - (i + 1),by omega,rfl,hlt,p'⟩,fun x H' y=>?_⟩
  obtain ⟨T,x1,y1,rfl,hT,rfl,e1,e2⟩:=y
  exact hs i x1 y1 σ H T (e1 xs q.1) (e2 ys q.2) p hT
 ·have e:i=n:=by omega
  subst e
  exact .inl ⟨⟨xs,ys,q.1,q.2,.inl (by omega)⟩,hd σ H p⟩
theorem Same.tup {K:PySem.W.Frag} {H H':Hp} {a:Addr} {xs:List V} (e:Same H H') (h:SqT K H a xs):SqT K H' a xs:=by
 rcases h with (h | ⟨o,h⟩) | h
 ·exact .inl (.inl (e _ _ h))
 ·exact .inl (.inr ⟨o,e _ _ h⟩)
 ·exact .inr h
def blkOkB (N:List Str) (sc scope:Scope) (own:List (Str×Nat)):Bool :=
 decide (scope.kind = .function) && (scope.names.all (fun y=>decide (scope.names.lookup y.1=some y.2)) && (own.all (fun p=>decide (N[p.2]?=some p.1)) &&
  (scope.names.all (fun y => !decide (y.2 = .free) || (decide (sc.names.lookup y.1=some .cell) || decide (sc.names.lookup y.1=some .free))) && scope.names.all (fun y => !(decide (y.2 = .local) || decide (y.2 = .cell)) || (decide (y.1∈own.map (·.1)) || !decide (y.1∈N))))))
theorem zt0 {N:List Str} {sc scope:Scope} {own:List (Str×Nat)} (h:blkOkB N sc scope own=true):BlkOk N sc scope own:=by
 unfold blkOkB at h
 simp only [Bool.and_eq_true] at h
 obtain ⟨h1,h2,h3,h4,h5⟩:=h
 refine ⟨of_decide_eq_true h1,fun y hy=>of_decide_eq_true (List.all_eq_true.mp h2 y hy),fun p hp=>of_decide_eq_true (List.all_eq_true.mp h3 p hp),fun y hy e=>?_,fun y hy e=>?_⟩
 ·have q:=List.all_eq_true.mp h4 y hy
  rw [decide_eq_true e] at q
  simp only [Bool.not_true,Bool.false_or,Bool.or_eq_true] at q
  rcases q with q | q
  ·exact .inl (of_decide_eq_true q)
  ·exact .inr (of_decide_eq_true q)
 ·have q:=List.all_eq_true.mp h5 y hy
  have e':(decide (y.2 = .local) || decide (y.2 = .cell))=true:=by
   rcases e with e | e
   ·rw [decide_eq_true e,Bool.true_or]
   ·rw [decide_eq_true e,Bool.or_true]
  rw [e',Bool.not_true,Bool.false_or,Bool.or_eq_true] at q
  rcases q with q | q
  ·exact .inl (of_decide_eq_true q)
  ·rw [Bool.not_eq_true'] at q
   exact .inr (of_decide_eq_false q)
theorem pg_tupK {K:PySem.W.Frag} {X:Cx} {es:List Expr} {k:Nat} {t:TGs} {n:Nat} {pos:Pos} (hc:X.calm=true) (h:PGs X es t) (hK:X.K=K:=by rfl) (hn:(assignEach es X.env).length=n:=by rfl) (hst:(assignEach es X.env).findIdx? (·.1)=none:=by rfl):PG X (.Tuple es k pos) (gTup K n t):=by
 subst hK
 exact yt3 hc h hn hst
theorem zd5 {n:Nat} (h:n≤100000):n≤sizeLine:=Nat.le_trans h (by decide)
end L2
namespace TZ
open PySem PySem.Spec PyProof.Rows L2
section
variable {prog:Program} {w:World} {A:Around} {E:Value→Shared→Prop} {s:Shared}
theorem step_item {it t:Addr} {i:Nat} {items:Array Value} {x:Value} {Q:Value→Shared→Prop} (hi:s.heap.IsTupleIter it t i) (ht:s.heap.IsTuple t items) (hx:items[i]?=some x)
  (k:∀ h',h'.IsTupleIter it t (i + 1)→Heap.SameBut it s.heap h'→Q x { s with heap:=h' }):wpAny (model prog w) A (Builtin.SmallTypes.nextOf (.ref it)) Q E s:=by
 obtain ⟨oi,e1,e2,e3⟩:=id hi;obtain ⟨ot,e4,_,nt,e5⟩:=ht;unfold Builtin.SmallTypes.nextOf
 refine wpAny_bind (wpAny_callSpecial?_slot (name:=Str.ofString "__next__") hi.typeIs F.slot_tuple_iterator_next (wpAny_call_entry F.slot_tuple_iterator_next hi.typeIs F.entry_tuple_iterator_next ?_ (F.args_tuple_iterator_next_1 _)))
 show wpAny _ _ (field (.ref it) 0 >>= _) _ _ s;refine wpAny_bind (wpAny_field e1 e3 (x := .ref t) rfl ?_);show wpAny _ _ (if (Value.ref t == Value.none)=true then _ else _) _ _ s
 rw [if_neg (show ¬ ((Value.ref t == Value.none)=true) from Bool.false_ne_true)];show wpAny _ _ (field (.ref it) 1 >>= _) _ _ s;refine wpAny_bind (wpAny_field e1 e3 (x := .int i 0) rfl ?_)
 show wpAny _ _ (seqItems? (.ref t) >>= _) _ _ s;refine wpAny_bind (wpAny_seqItems e4 e5 ?_);simp only [Int.toNat_natCast,hx]
 refine wpAny_bind (wpAny_setField e1 e3 (by simp) (wpAny_pure ⟨x,rfl,wpAny_pure (k _ ?_ (Heap.SameBut.update ..))⟩))
 exact ⟨_,Heap.get?_update_self _ e1 (Obj.isFreed_of_fields (Obj.data_mapFields e3 _)),(Obj.cls_mapFields ..).trans e2,by rw [Obj.data_mapFields e3];simp [rawInt]⟩
theorem step_end {it t:Addr} {i:Nat} {items:Array Value} {Q:Value→Shared→Prop} (hh:A.handled=none) (hi:s.heap.IsTupleIter it t i) (ht:s.heap.IsTuple t items) (hx:items[i]?=none)
  (k:∀ h' e,Heap.ExtBut it s.heap h'→(∃ o,h'.get? e=some o∧o.cls = .type "StopIteration")→E (.ref e) { s with heap:=h' }):wpAny (model prog w) A (Builtin.SmallTypes.nextOf (.ref it)) Q E s:=by
 obtain ⟨oi,e1,e2,e3⟩:=id hi;obtain ⟨ot,e4,_,nt,e5⟩:=ht;unfold Builtin.SmallTypes.nextOf
 refine wpAny_bind (wpAny_callSpecial?_slot (name:=Str.ofString "__next__") hi.typeIs F.slot_tuple_iterator_next (wpAny_call_entry F.slot_tuple_iterator_next hi.typeIs F.entry_tuple_iterator_next ?_ (F.args_tuple_iterator_next_1 _)))
 show wpAny _ _ (field (.ref it) 0 >>= _) _ _ s;refine wpAny_bind (wpAny_field e1 e3 (x := .ref t) rfl ?_);show wpAny _ _ (if (Value.ref t == Value.none)=true then _ else _) _ _ s
 rw [if_neg (show ¬ ((Value.ref t == Value.none)=true) from Bool.false_ne_true)];show wpAny _ _ (field (.ref it) 1 >>= _) _ _ s;refine wpAny_bind (wpAny_field e1 e3 (x := .int i 0) rfl ?_)
 show wpAny _ _ (seqItems? (.ref t) >>= _) _ _ s;refine wpAny_bind (wpAny_seqItems e4 e5 ?_);simp only [Int.toNat_natCast,hx];refine wpAny_bind (wpAny_rule (wpAny_bind (wpAny_setField e1 e3 (by simp) ?_)))
 show wpAny _ _ (newExc (.type "StopIteration") [] >>= _) _ _ _;refine wpAny_bind ?_;simp only [newExc,newTuple];refine wpAny_bind (wpAny_newObj_type ?_ (by size_fits))
 refine wpAny_bind (m:=firstArgMember _ _) (wpAny_of_eq (a:=Value.none) (by first | rfl | (simp only [firstArgMember];rfl)) ?_);refine wpAny_newObj_type ?_ (by size_fits)
 simp only [raiseNew];refine wpAny_bind (wpAny_handled ?_);(first | rw [show A.in1.handled=none from hh] | rw [hh]);refine wpAny_bind (wpAny_pure (wpAny_throw ?_))
 exact k _ _ (((Heap.SameBut.update ..).extBut.push _).push _) ⟨_,Heap.get?_push_size _ rfl,rfl⟩
abbrev Rest (z TO i1 i2:Addr) (h h':Heap):Prop:=∀ c o,c≠z→c≠TO→c≠i1→c≠i2→h.get? c=some o→h'.get? c=some o
theorem next_item {z TI TO i1 i2 t l:Addr} {k1 k2:Nat} {xs ys:Array Value} {x y a b:Value} {Q:Value→Shared→Prop} (D:ZipApart z TI TO i1 i2 t l) (hz:IsZip s.heap z TI TO .none) (hTI:IsPair s.heap TI (.ref i1) (.ref i2)) (hTO:IsPair s.heap TO a b)
  (h1:s.heap.IsTupleIter i1 t k1) (h2:s.heap.IsListIter i2 l k2) (ht:s.heap.IsTuple t xs) (hl:s.heap.IsList l ys) (hx:xs[k1]?=some x) (hy:ys[k2]?=some y)
  (k:∀ h',IsZip h' z TI TO (rawInt s.heap.objs.size)→IsPair h' TO x y→h'.IsTupleIter i1 t (k1 + 1)→h'.IsListIter i2 l (k2 + 1)→IsPair h' s.heap.objs.size x y→h'.objs.size=s.heap.objs.size + 1→Rest z TO i1 i2 s.heap h'→Q (.ref s.heap.objs.size) { s with heap:=h' }) :
  wpAny (model prog w) A (Builtin.«zip.__next__» ⟨[.ref z],[]⟩) (fun fin s'=>∃ v,fin = .done (.ret v)∧Q v s') E s:=by
 show wpAny _ _ (field (.ref z) 2 >>= _) _ _ _;refine wpAny_bind (wpAny_field hz rfl (x := .bool false) rfl ?_);show wpAny _ _ (field (.ref z) 3 >>= _) _ _ _
 refine wpAny_bind (wpAny_field hz rfl (x := .ref TI) rfl ?_);refine wpAny_bind (wpAny_seqItems hTI rfl ?_);show wpAny _ _ (Builtin.SmallTypes.ownedTupleIsFree (.ref z) >>= _) _ _ _
 refine wpAny_bind ?_;unfold Builtin.SmallTypes.ownedTupleIsFree;refine wpAny_bind (wpAny_field hz rfl (x := .none) rfl (wpAny_pure ?_));simp only [if_true]
 refine wpAny_bind (wpAny_rule ?_);refine wpAny_bind (wpAny_field hz rfl (x := .ref TO) rfl ?_);refine wpAny_bind (wpAny_setField_rec hz (by simp) fun g1 z1 b1=>?_)
 replace z1:IsZip g1 z TI TO .ellipsis:=z1;refine wpAny_bind ?_;simp only [List.zipIdx_cons,List.zipIdx_nil,List.forIn_cons,List.forIn_nil]
 refine wpAny_bind (wpAny_bind (wpAny_onRaise ?_));show wpAny _ _ (Builtin.SmallTypes.nextOf (.ref i1) >>= _) _ _ _
 refine wpAny_bind (step_item (h1.extBut b1.extBut D.i1z) (ht.extBut b1.extBut D.l1z) hx fun g2 u2 b2=>wpAny_pure ?_)
 have p2:IsPair g2 TO a b:=b2.extBut _ _ D.TOi1 (b1.extBut _ _ D.TOz hTO)
 refine wpAny_bind (wpAny_seqItems p2 rfl ?_);refine wpAny_bind (wpAny_updateSeq_pair p2 fun g3 p3 b3=>?_);replace p3:IsPair g3 TO x b:=p3;refine wpAny_bind (wpAny_letGo (wpAny_pure ?_))
 refine wpAny_bind (wpAny_bind (wpAny_onRaise ?_));show wpAny _ _ (Builtin.SmallTypes.nextOf (.ref i2) >>= _) _ _ _
 refine wpAny_bind (wpAny_nextOf_list_item (((h2.extBut b1.extBut D.i2z).extBut b2.extBut D.i12.symm).extBut b3.extBut D.TOi2.symm) (((hl.extBut b1.extBut D.l2z).extBut b2.extBut D.l2i1).extBut b3.extBut D.l2TO) hy fun g4 u4 b4=>wpAny_pure ?_)
 have p4:IsPair g4 TO x b:=b4.extBut _ _ D.TOi2 p3
 refine wpAny_bind (wpAny_seqItems p4 rfl ?_);refine wpAny_bind (wpAny_updateSeq_pair p4 fun g5 p5 b5=>?_);replace p5:IsPair g5 TO x y:=p5;refine wpAny_bind (wpAny_letGo (wpAny_pure (wpAny_pure ?_)))
 refine wpAny_bind (wpAny_seqItems p5 rfl ?_);refine wpAny_bind (wpAny_newTuple ?_)
 have sz:g5.objs.size=s.heap.objs.size:=by rw [b5.1,b4.1,b3.1,b2.1,b1.1]
 have z5:IsZip g5 z TI TO .ellipsis:=b5.extBut _ _ D.TOz.symm (b4.extBut _ _ D.i2z.symm (b3.extBut _ _ D.TOz.symm (b2.extBut _ _ D.i1z.symm z1)))
 have r5:Rest z TO i1 i2 s.heap g5:=fun c o c1 c2 c3 c4 e=>b5.extBut _ _ c2 (b4.extBut _ _ c4 (b3.extBut _ _ c2 (b2.extBut _ _ c3 (b1.extBut _ _ c1 e))))
 have u1:g5.IsTupleIter i1 t (k1 + 1):=((u2.extBut b3.extBut D.TOi1.symm).extBut b4.extBut D.i12).extBut b5.extBut D.TOi1.symm
 have u5:g5.IsListIter i2 l (k2 + 1):=u4.extBut b5.extBut D.TOi2.symm
 have lz:z < g5.objs.size:=Heap.lt_size z5
 show wpAny _ _ (Builtin.SmallTypes.ownedTupleHandOut (.ref z) (.ref g5.objs.size) >>= _) _ _ _;refine wpAny_bind ?_;unfold Builtin.SmallTypes.ownedTupleHandOut
 have z6:IsZip (g5.push { cls := .type "tuple",data := .seq #[x,y] }) z TI TO .ellipsis:=Heap.get?_push_of_some _ z5
 refine wpAny_bind (wpAny_setField_rec z6 (by simp) fun g7 z7 b7=>?_);replace z7:IsZip g7 z TI TO (rawInt g5.objs.size):=z7
 refine wpAny_setField_rec z7 (by simp) fun g8 z8 b8=>?_;replace z8:IsZip g8 z TI TO (rawInt g5.objs.size):=z8
 have up:∀ c o,c≠z→g5.get? c=some o→g8.get? c=some o:=fun c o c1 e=>b8.extBut _ _ c1 (b7.extBut _ _ c1 (Heap.get?_push_of_some _ e))
 have n8:IsPair g8 g5.objs.size x y:=b8.extBut _ _ (Nat.ne_of_gt lz) (b7.extBut _ _ (Nat.ne_of_gt lz) (Heap.get?_push_size _ rfl))
 have m8:g8.objs.size=g5.objs.size + 1:=by rw [b8.1,b7.1,Heap.size_push]
 rw [sz] at z8 n8 m8;refine wpAny_pure ⟨_,rfl,?_⟩;show Q (.ref g5.objs.size) _;rw [sz]
 exact k g8 z8 (up _ _ D.TOz p5) (u1.at fun o e=>up _ o D.i1z e) (u5.at fun o e=>up _ o D.i2z e) n8 m8 fun c o c1 c2 c3 c4 e=>up c o c1 (r5 c o c1 c2 c3 c4 e)
theorem next_end {z TI TO i1 i2 t l:Addr} {k1 k2:Nat} {xs ys:Array Value} {a b:Value} {Q:Fin→Shared→Prop} (hh:A.handled=none) (D:ZipApart z TI TO i1 i2 t l) (hz:IsZip s.heap z TI TO .none) (hTI:IsPair s.heap TI (.ref i1) (.ref i2)) (hTO:IsPair s.heap TO a b)
  (h1:s.heap.IsTupleIter i1 t k1) (h2:s.heap.IsListIter i2 l k2) (ht:s.heap.IsTuple t xs) (hl:s.heap.IsList l ys) (hend:xs[k1]?=none∨ys[k2]?=none)
  (k:∀ h' e,Rest z TO i1 i2 s.heap h'→(∃ o,h'.get? e=some o∧o.cls = .type "StopIteration")→E (.ref e) { s with heap:=h' }) :
  wpAny (model prog w) A (Builtin.«zip.__next__» ⟨[.ref z],[]⟩) Q E s:=by
 show wpAny _ _ (field (.ref z) 2 >>= _) _ _ _;refine wpAny_bind (wpAny_field hz rfl (x := .bool false) rfl ?_);show wpAny _ _ (field (.ref z) 3 >>= _) _ _ _
 refine wpAny_bind (wpAny_field hz rfl (x := .ref TI) rfl ?_);refine wpAny_bind (wpAny_seqItems hTI rfl ?_);show wpAny _ _ (Builtin.SmallTypes.ownedTupleIsFree (.ref z) >>= _) _ _ _
 refine wpAny_bind ?_;unfold Builtin.SmallTypes.ownedTupleIsFree;refine wpAny_bind (wpAny_field hz rfl (x := .none) rfl (wpAny_pure ?_));simp only [if_true]
 refine wpAny_bind (wpAny_rule ?_);refine wpAny_bind (wpAny_field hz rfl (x := .ref TO) rfl ?_);refine wpAny_bind (wpAny_setField_rec hz (by simp) fun g1 z1 b1=>?_)
 replace z1:IsZip g1 z TI TO .ellipsis:=z1;refine wpAny_bind ?_;simp only [List.zipIdx_cons,List.zipIdx_nil,List.forIn_cons,List.forIn_nil]
 refine wpAny_bind (wpAny_bind (wpAny_onRaise ?_));show wpAny _ _ (Builtin.SmallTypes.nextOf (.ref i1) >>= _) _ _ _
 cases hx:xs[k1]? with
 | none =>
  refine wpAny_bind (step_end hh (h1.extBut b1.extBut D.i1z) (ht.extBut b1.extBut D.l1z) hx fun g2 e b2 he=>?_);obtain ⟨oe,q1,q2⟩:=he
  have z2:IsZip g2 z TI TO .ellipsis:=b2 _ _ D.i1z.symm z1
  have ne:e≠z:=fun q=>by subst q;rw [z2] at q1;cases q1;simp at q2
  refine wpAny_setField_rec z2 (by simp) fun g3 _ b3=>k g3 e (fun c o c1 _ c3 _ q=>b3.extBut _ _ c1 (b2 _ _ c3 (b1.extBut _ _ c1 q))) ⟨oe,b3.extBut _ _ ne q1,q2⟩
 | some x =>
  have hy:ys[k2]?=none:=hend.resolve_left (by rw [hx];simp)
  refine wpAny_bind (step_item (h1.extBut b1.extBut D.i1z) (ht.extBut b1.extBut D.l1z) hx fun g2 u2 b2=>wpAny_pure ?_)
  have p2:IsPair g2 TO a b:=b2.extBut _ _ D.TOi1 (b1.extBut _ _ D.TOz hTO)
  refine wpAny_bind (wpAny_seqItems p2 rfl ?_);refine wpAny_bind (wpAny_updateSeq_pair p2 fun g3 p3 b3=>?_);refine wpAny_bind (wpAny_letGo (wpAny_pure ?_))
  refine wpAny_bind (wpAny_bind (wpAny_onRaise ?_));show wpAny _ _ (Builtin.SmallTypes.nextOf (.ref i2) >>= _) _ _ _
  refine wpAny_bind (wpAny_nextOf_list_end hh (((h2.extBut b1.extBut D.i2z).extBut b2.extBut D.i12.symm).extBut b3.extBut D.TOi2.symm) (((hl.extBut b1.extBut D.l2z).extBut b2.extBut D.l2i1).extBut b3.extBut D.l2TO) hy fun g4 e b4 he=>?_);obtain ⟨oe,q1,q2⟩:=he
  have z4:IsZip g4 z TI TO .ellipsis:=b4 _ _ D.i2z.symm (b3.extBut _ _ D.TOz.symm (b2.extBut _ _ D.i1z.symm z1))
  have ne:e≠z:=fun q=>by subst q;rw [z4] at q1;cases q1;simp at q2
  refine wpAny_setField_rec z4 (by simp) fun g5 _ b5=>k g5 e (fun c o c1 c2 c3 c4 q=>b5.extBut _ _ c1 (b4 _ _ c4 (b3.extBut _ _ c2 (b2.extBut _ _ c3 (b1.extBut _ _ c1 q))))) ⟨oe,b5.extBut _ _ ne q1,q2⟩
theorem py_item {z TI TO i1 i2 t l:Addr} {k1 k2:Nat} {xs ys:Array Value} {x y a b:Value} {Q:Option Value→Shared→Prop} (D:ZipApart z TI TO i1 i2 t l) (hz:IsZip s.heap z TI TO .none) (hTI:IsPair s.heap TI (.ref i1) (.ref i2)) (hTO:IsPair s.heap TO a b)
  (h1:s.heap.IsTupleIter i1 t k1) (h2:s.heap.IsListIter i2 l k2) (ht:s.heap.IsTuple t xs) (hl:s.heap.IsList l ys) (hx:xs[k1]?=some x) (hy:ys[k2]?=some y)
  (k:∀ h',IsZip h' z TI TO (rawInt s.heap.objs.size)→IsPair h' TO x y→h'.IsTupleIter i1 t (k1 + 1)→h'.IsListIter i2 l (k2 + 1)→IsPair h' s.heap.objs.size x y→h'.objs.size=s.heap.objs.size + 1→Rest z TO i1 i2 s.heap h'→Q (some (.ref s.heap.objs.size)) { s with heap:=h' }) :
  wpAny (model prog w) A (pyNext (.ref z)) Q E s:=by
 have ty:s.TypeIs (.ref z) "zip" := ⟨_,hz,rfl⟩
 unfold pyNext;exact wpAny_bind (wpAny_attempt (wpAny_callSpecial?_slot (name:=Str.ofString "__next__") ty F.slot_zip_next (wpAny_call_entry F.slot_zip_next ty F.entry_zip_next (next_item D hz hTI hTO h1 h2 ht hl hx hy fun h' a1 a2 a3 a4 a5 a6 a7=>wpAny_pure (k h' a1 a2 a3 a4 a5 a6 a7)) (F.args_zip_next_1 _))))
theorem py_end {z TI TO i1 i2 t l:Addr} {k1 k2:Nat} {xs ys:Array Value} {a b:Value} {Q:Option Value→Shared→Prop} (hh:A.handled=none) (D:ZipApart z TI TO i1 i2 t l) (hz:IsZip s.heap z TI TO .none) (hTI:IsPair s.heap TI (.ref i1) (.ref i2)) (hTO:IsPair s.heap TO a b)
  (h1:s.heap.IsTupleIter i1 t k1) (h2:s.heap.IsListIter i2 l k2) (ht:s.heap.IsTuple t xs) (hl:s.heap.IsList l ys) (hend:xs[k1]?=none∨ys[k2]?=none)
  (k:∀ h',Rest z TO i1 i2 s.heap h'→Q none { s with heap:=h' }):wpAny (model prog w) A (pyNext (.ref z)) Q E s:=by
 have ty:s.TypeIs (.ref z) "zip" := ⟨_,hz,rfl⟩
 unfold pyNext;refine wpAny_bind (wpAny_attempt (wpAny_callSpecial?_slot (name:=Str.ofString "__next__") ty F.slot_zip_next (wpAny_call_entry F.slot_zip_next ty F.entry_zip_next (next_end hh D hz hTI hTO h1 h2 ht hl hend fun h' e r he=>?_) (F.args_zip_next_1 _))))
 obtain ⟨o,q1,q2⟩:=he;refine wpAny_bind (wpAny_isInstance (T := "StopIteration") (b:=true) ⟨o,q1,q2⟩ isSubtype_stop ?_);exact wpAny_pure (k _ r)
end
abbrev hp1 (h:Heap) (t:Addr):Heap:=h.push { cls := .type "tuple_iterator",data := .fields #[.ref t,.int 0 0] }
abbrev hp2 (h:Heap) (t l:Addr):Heap:=(hp1 h t).push { cls := .type "list_iterator",data := .fields #[.ref l,.int 0 0] }
abbrev hp3 (h:Heap) (t l:Addr):Heap:=(hp2 h t l).push { cls := .type "tuple",data := .seq #[.ref h.objs.size,.ref (hp1 h t).objs.size] }
abbrev hp4 (h:Heap) (t l:Addr):Heap:=(hp3 h t l).push { cls := .type "tuple",data := .seq #[.none,.none] }
abbrev hp5 (h:Heap) (t l:Addr):Heap:=(hp4 h t l).push { cls := .type "zip",data := .fields #[.none,.bool false,.bool false,.ref (hp2 h t l).objs.size,.ref (hp3 h t l).objs.size] }
theorem meets_new (t l:Addr) (xs ys:Array Value):Meets (Builtin.«zip.__new__» ⟨[.type "zip",.ref t,.ref l],[]⟩) (fun _ R s=>s.heap.IsTuple t xs∧s.heap.IsList l ys∧R (.ok (.ret (.ref (hp4 s.heap t l).objs.size))) { s with heap:=hp5 s.heap t l }) :=
 .of_wp fun prog w A R s h=>by
  obtain ⟨hp,g,d,tk,os⟩:=s;obtain ⟨q1,q2,h⟩:=h
  have hsub:=sub_zip
  have a1:Heap.IsTuple (Shared.heap ⟨hp,g,d,tk,os⟩) t xs:=q1
  have a2:Heap.IsList (Shared.heap ⟨hp.push { cls := .type "tuple_iterator",data := .fields #[.ref t,.int 0 0] },g,d,tk,os⟩) l ys:=Heap.IsList.push q2 _
  wp_walk using wpAny_pyIter_tuple a1,wpAny_pyIter_list a2
  exact ⟨_,rfl,h⟩
end TZ
namespace TZ
open PySem PySem.Spec PyProof.Rows L2
section
variable {prog:Program} {w:World} {A:Around} {E:Value→Shared→Prop} {s:Shared}
theorem call_tl {t l:Addr} {xs ys:Array Value} {Q:Value→Shared→Prop} (ht:s.heap.IsTuple t xs) (hl:s.heap.IsList l ys)
  (k:∀ h' N,N=s.heap.objs.size→IsZip h' (N + 4) (N + 2) (N + 3) .none→IsPair h' (N + 2) (.ref N) (.ref (N + 1))→IsPair h' (N + 3) .none .none→h'.IsTupleIter N t 0→h'.IsListIter (N + 1) l 0→h'.objs.size=N + 5→(∀ c o,s.heap.get? c=some o→h'.get? c=some o)→Q (.ref (N + 4)) { s with heap:=h' }) :
  wpAny (model prog w) A (call (.type "zip") [.ref t,.ref l]) Q E s:=by
 refine callType_new F.called_zip (by decide) (F.typeCall_zip_2 _ _) (F.newCall_zip_2 _ _) (fun obj=>F.args_object_init_3 obj _ _) F.entry_zip_new (meets_new t l xs ys) ⟨ht,hl,?_⟩
 have w1:(hp1 s.heap t).objs.size=s.heap.objs.size + 1:=Heap.size_push ..
 have w2:(hp2 s.heap t l).objs.size=s.heap.objs.size + 2:=by rw [Heap.size_push,w1]
 have w3:(hp3 s.heap t l).objs.size=s.heap.objs.size + 3:=by rw [Heap.size_push,w2]
 have w4:(hp4 s.heap t l).objs.size=s.heap.objs.size + 4:=by rw [Heap.size_push,w3]
 have w5:(hp5 s.heap t l).objs.size=s.heap.objs.size + 5:=by rw [Heap.size_push,w4]
 have v5:(hp5 s.heap t l).get? (hp4 s.heap t l).objs.size=some _:=Heap.get?_push_size _ rfl
 have v4:(hp5 s.heap t l).get? (hp3 s.heap t l).objs.size=some _:=Heap.get?_push_of_some _ (Heap.get?_push_size _ rfl)
 have v3:(hp5 s.heap t l).get? (hp2 s.heap t l).objs.size=some _:=Heap.get?_push_of_some _ (Heap.get?_push_of_some _ (Heap.get?_push_size _ rfl))
 have v2:(hp5 s.heap t l).get? (hp1 s.heap t).objs.size=some _:=Heap.get?_push_of_some _ (Heap.get?_push_of_some _ (Heap.get?_push_of_some _ (Heap.get?_push_size _ rfl)))
 have v1:(hp5 s.heap t l).get? s.heap.objs.size=some _:=Heap.get?_push_of_some _ (Heap.get?_push_of_some _ (Heap.get?_push_of_some _ (Heap.get?_push_of_some _ (Heap.get?_push_size _ rfl))))
 show _∧_
 rw [w2,w3,w4] at v5;rw [w1,w2] at v3;rw [w3] at v4;rw [w1] at v2;rw [w4]
 exact ⟨⟨_,v5,rfl⟩,k _ _ rfl v5 v3 v4 ⟨_,v1,rfl,rfl⟩ ⟨_,v2,rfl,rfl⟩ w5 fun c o x=>Heap.get?_push_of_some _ (Heap.get?_push_of_some _ (Heap.get?_push_of_some _ (Heap.get?_push_of_some _ (Heap.get?_push_of_some _ x))))⟩
end
def ItTL (K:PySem.W.Frag) (a b:Addr):It :=
 ⟨fun i H=>∃ (xs ys:List V) (x y:V),SqT K H a xs∧SqL K H b ys∧xs[i]?=some x∧ys[i]?=some y,
  fun i H v H'=>∃ T x y,v = .ref T∧H T=none∧H'=upd H T (.tup [x,y])∧(∀ xs,SqT K H a xs→xs[i]?=some x)∧∀ ys,SqL K H b ys→ys[i]?=some y,
  fun i H=>∃ xs ys:List V,SqT K H a xs∧SqL K H b ys∧(xs.length≤i∨ys.length≤i)⟩
theorem turn_tl {P:Program} {w:World} {K:PySem.W.Frag} {elts:List Expr} {kk:Nat} {tpos:Pos} {a b z TI TO i1 i2:Addr} (D:ZipApart z TI TO i1 i2 a b) :
  Turn P w K (.Tuple elts kk tpos) (ItTL K a b) [z,TI,TO,i1,i2] z (fun i h=>IsZip h z TI TO .none∧IsPair h TI (.ref i1) (.ref i2)∧(∃ x y,IsPair h TO x y)∧h.IsTupleIter i1 a i∧h.IsListIter i2 b i) where
 mem:=by simp
 obj:=fun i h st c hc=>by
  obtain ⟨hz,hTI,⟨x,y,hTO⟩,⟨o1,e1,_,d1⟩,⟨o2,e2,_,d2⟩⟩:=st
  have e':c=z∨c=TI∨c=TO∨c=i1∨c=i2:=by simpa using hc
  rcases e' with q | q | q | q | q <;> subst q
  ·exact ⟨_,hz,fun v q=>nomatch q⟩
  ·exact ⟨_,hTI,fun v q=>nomatch q⟩
  ·exact ⟨_,hTO,fun v q=>nomatch q⟩
  ·exact ⟨o1,e1,fun v q=>by rw [d1] at q;cases q⟩
  ·exact ⟨o2,e2,fun v q=>by rw [d2] at q;cases q⟩
 keep:=fun i h h' st k=>by
  obtain ⟨hz,hTI,⟨x,y,hTO⟩,h1,h2⟩:=st
  exact ⟨k z (by simp) _ hz,k TI (by simp) _ hTI,⟨x,y,k TO (by simp) _ hTO⟩,h1.at fun o q=>k i1 (by simp) o q,h2.at fun o q=>k i2 (by simp) o q⟩
 item:=by
  intro X hP hw hK hc i pins s σ H E I hf st hg
  subst hP hw hK
  obtain ⟨hz,hTI,⟨x0,y0,hTO⟩,h1,h2⟩:=st;obtain ⟨xs,ys,x,y,hqx,hqy,hx,hy⟩:=hg
  obtain ⟨its,rv,p,_⟩:=I.tuple hqx;obtain ⟨its2,rv2,p2,_⟩:=I.list hqy
  obtain ⟨u,hu,ru⟩:=rv.get hx;obtain ⟨u2,hu2,ru2⟩:=rv2.get hy
  have hzl:z < s.heap.objs.size:=Heap.lt_size hz
  refine py_item D hz hTI hTO h1 h2 (show s.heap.IsTuple a its.toArray from p) p2.isList (x:=u) (y:=u2) (by simpa using hu) (by simpa using hu2) fun h' z' TO' h1' h2' hT hsz hk=>?_
  refine ⟨_,rfl,wpAny_letOwnedTupleGo_zip (s:={ s with heap:=h' }) z' fun h'' z'' sb=>?_⟩
  have hT2:h''.get? s.heap.objs.size=some { cls := .type "tuple",data := .seq #[u,u2] }:=(sb.2 _ (Nat.ne_of_gt hzl)).trans hT
  have new:ObjOk X.prog X.w (upd H s.heap.objs.size (.tup [x,y])) h'' s.heap.objs.size (.tup [x,y]):=⟨by show 2≤sizeLine;decide,[u,u2],.cons ru (.cons ru2 .nil),⟨_,hT2,rfl,_,rfl⟩⟩
  have I1:Inv X pins σ (upd H s.heap.objs.size (.tup [x,y])) { s with heap:=h'' } :=
   I.turnedNew (t':=s.toks) (ch:=[z,TI,TO,i1,i2]) (fun c o hb q=>(sb.2 c (fun q'=>hb (by simp [q']))).trans (hk c o (fun q'=>hb (by simp [q'])) (fun q'=>hb (by simp [q'])) (fun q'=>hb (by simp [q'])) (fun q'=>hb (by simp [q'])) q)) hf (Nat.le_refl _) new
  refine ⟨.ref s.heap.objs.size,_,I1,rfl,⟨_,x,y,rfl,I.hok.fresh (Nat.le_refl _),rfl,fun l hl=>by rw [I.tuple_inj hl hqx];exact hx,fun l hl=>by rw [I.list_inj hl hqy];exact hy⟩,⟨z'',?_,⟨u,u2,?_⟩,?_,?_⟩,fun c hcm=>?_⟩
  ·exact (sb.2 _ D.TIz).trans (hk _ _ D.TIz D.TITO D.TIi1 D.TIi2 hTI)
  ·exact (sb.2 _ D.TOz).trans TO'
  ·exact h1'.at fun o q=>(sb.2 _ D.i1z).trans q
  ·exact h2'.at fun o q=>(sb.2 _ D.i2z).trans q
  ·have e':c=z∨c=TI∨c=TO∨c=i1∨c=i2:=by simpa using hcm
   have hlt:c < s.heap.objs.size:=by
    rcases e' with q | q | q | q | q <;> subst q
    ·exact hzl
    ·exact Heap.lt_size hTI
    ·exact Heap.lt_size hTO
    ·obtain ⟨_,e1,_⟩:=h1;exact Heap.lt_size e1
    ·obtain ⟨_,e2,_⟩:=h2;exact Heap.lt_size e2
   rw [zb5 (Nat.ne_of_lt hlt)];exact (hf c hcm).1
 done:=by
  intro X hP hw hK hc i pins s σ H E I hf st hg
  subst hP hw hK
  obtain ⟨hz,hTI,⟨x0,y0,hTO⟩,h1,h2⟩:=st;obtain ⟨xs,ys,hqx,hqy,hend⟩:=hg
  obtain ⟨its,rv,p,_⟩:=I.tuple hqx;obtain ⟨its2,rv2,p2,_⟩:=I.list hqy
  have l1:=rv.length;have l2:=rv2.length
  have he:its.toArray[i]?=none∨its2.toArray[i]?=none:=hend.elim (fun q => .inl (by simp;omega)) (fun q => .inr (by simp;omega))
  exact py_end (I.ok.hd hc) D hz hTI hTO h1 h2 (show s.heap.IsTuple a its.toArray from p) p2.isList he fun h' hk=>⟨rfl,I.turnedL (t':=s.toks) (ch:=[z,TI,TO,i1,i2]) (fun c o hb q=>hk c o (fun q'=>hb (by simp [q'])) (fun q'=>hb (by simp [q'])) (fun q'=>hb (by simp [q'])) (fun q'=>hb (by simp [q'])) q) hf⟩
 self:=fun A i s Q E st h=>wpAny_pyIter_zip st.1 h
def iZipTL (K:PySem.W.Frag) (ta:TA):TI:=fun σ H R=>ta σ H fun vs H1=>∃ a b xs ys,vs=[.ref a,.ref b]∧SqT K H1 a xs∧SqL K H1 b ys∧R (ItTL K a b) H1
theorem pi_zipTL {X:Cx} {e e2:Expr} {ta:TA} {p pos tpos:Pos} {elts:List Expr} {kk:Nat} (hg:Gl X "zip") (hm:X.mg "zip" = none) (ha:PA X [e,e2] ta)
  (hs:starEach [e,e2] X.env=(false,eval e X.env) :: starEach [e2] X.env:=by rfl) (hpl:(backTo pos (starEach [e2] X.env)).any (·.1)=false:=by rfl) :
  PI X (.Tuple elts kk tpos) (.Call (.Name "zip" p) [e,e2] [] pos) (iZipTL X.K ta):=by
 intro pins s σ H R I h
 refine Call_ (yo6 I hg hm boot_zip5 (PyProof.Rows.callWith_type1 (thn (ha pos pins s σ H _ I h) fun us s1 ⟨vs,H1,I1,r1,q1⟩=>?_) hs hpl))
 obtain ⟨a,b,xs,ys,ex,hqx,hqy,q⟩:=q1
 subst ex
 cases r1 with
 | cons r rr =>
  cases rr with
  | cons r' rr =>
   cases rr;cases r;cases r'
   obtain ⟨its,rv,p1,_⟩:=I1.tuple hqx;obtain ⟨its2,rv2,p2,_⟩:=I1.list hqy
   have la:a < s1.heap.objs.size:=p1.lt
   have lb:b < s1.heap.objs.size:=p2.lt
   refine call_tl (show s1.heap.IsTuple a its.toArray from p1) p2.isList fun h' N hN hz hTI hTO h1 h2 hsz hk=>wpAny_pyIter_zip hz ?_
   subst hN
   have I2:Inv X pins σ H1 { s1 with heap:=h' }:=I1.kept (t':=s1.toks) hk
   refine ⟨s1.heap.objs.size + 4,[s1.heap.objs.size + 4,s1.heap.objs.size + 2,s1.heap.objs.size + 3,s1.heap.objs.size,s1.heap.objs.size + 1],_,_,H1,rfl,I2,turn_tl (PySem.W.ktu_apart s1.heap.objs.size a b la lb),⟨hz,hTI,⟨_,_,hTO⟩,h1,h2⟩,fun c hcm=>?_,q⟩
   have hle:s1.heap.objs.size≤c:=by
    have e':c=s1.heap.objs.size + 4∨c=s1.heap.objs.size + 2∨c=s1.heap.objs.size + 3∨c=s1.heap.objs.size∨c=s1.heap.objs.size + 1:=by simpa using hcm
    rcases e' with z | z | z | z | z <;> (rw [z];first | exact Nat.le_refl _ | exact Nat.le_add_right _ _)
   exact I1.fpOk hle (I1.hok.fresh hle)
theorem for_zipTL {K:PySem.W.Frag} {a b:Addr} {xs ys:List V} {g:TG} {tb:TS} {D:Ends} {σ:L2.St} {H:Hp} {n:Nat} (hx:xs.length=n) (hy:ys.length=n) (Pv:Nat→L2.St→Hp→Prop) (h0:Pv 0 σ H) (hl:∀ i σ H,i≤n→Pv i σ H→SqT K H a xs∧SqL K H b ys)
  (hs:∀ i x y σ H T,xs[i]?=some x→ys[i]?=some y→Pv i σ H→H T=none→g (.ref T) σ (upd H T (.tup [x,y])) fun σ2 H2=>tb { D with nx:=Pv (i + 1),ct:=Pv (i + 1),bk:=D.nx } σ2 H2) (hd:∀ σ H,Pv n σ H→D.nx σ H) :
  ∃ W:Nat→Nat→L2.St→Hp→Prop,(∃ m,W 0 m σ H)∧∀ i m σ H,W i m σ H →
   ((ItTL K a b).stop i H∧D.nx σ H)∨((ItTL K a b).go i H∧∃ N:L2.St→Hp→Prop,(∀ σ' H',N σ' H'→∃ m',m' < m∧W (i + 1) m' σ' H')∧∀ x H',(ItTL K a b).yld i H x H'→g x σ H' fun σ2 H2=>tb { D with nx:=N,ct:=N,bk:=D.nx } σ2 H2):=by
 refine ⟨fun i m σ H=>m=n - i∧i≤n∧Pv i σ H,⟨n,by simp,Nat.zero_le _,h0⟩,?_⟩
 rintro i m σ H ⟨rfl,hi,p⟩
 have q:=hl i σ H hi p
 by_cases hlt:i < n
 ·refine .inr ⟨⟨xs,ys,xs[i],ys[i],q.1,q.2,List.getElem?_eq_getElem (by omega),List.getElem?_eq_getElem (by omega)⟩,Pv (i + 1),fun σ' H' p'=>⟨n - (i + 1),by omega,rfl,hlt,p'⟩,fun x H' y=>?_⟩
  obtain ⟨T,x1,y1,rfl,hT,rfl,e1,e2⟩:=y
  exact hs i x1 y1 σ H T (e1 xs q.1) (e2 ys q.2) p hT
 ·have e:i=n:=by omega
  subst e
  exact .inl ⟨⟨xs,ys,q.1,q.2,.inl (by omega)⟩,hd σ H p⟩
end TZ
namespace L2
open PySem PySem.Spec PyProof.Rows
structure KDict (P:Program) (w:World) (K:PySem.W.Frag) (a:Addr) (f:Key→Option Value):Prop where
 ex:∃ (o:Obj) (es:Array DictEntry) (ep:Nat),K.lookup a=some o∧o.ExactDict∧o.data = .dict es ep∧KeysOf (mixKind P w) es∧∀ k,findBy (mixKind P w).is es k=f k
theorem KDict.map {P:Program} {w:World} {K:PySem.W.Frag} {a:Addr} {f:Key→Option Value} {h:Heap} (d:KDict P w K a f) (X:K.In h):h.MapOf (mixKind P w) a f:=by
 obtain ⟨o,es,ep,h1,h2⟩:=d.ex
 exact ⟨o,es,ep,X a o h1,h2⟩
def tKGet (P:Program) (w:World) (K:PySem.W.Frag) (td ty:TE):TE:=fun σ H Q=>td σ H fun x H1=>ty σ H1 fun y H2=>∃ (a:Addr) (f:Key→Option Value) (k:Key) (u:Value) (v:V),x = .ref a∧y=kV k∧KDict P w K a f∧f k=some u∧RelV v u∧Q v H2
theorem yt4 {X:Cx} {o i:Expr} {pos:Pos} {td ty:TE} (ho:PE X o td) (hi:PE X i ty) (hs:NoSl i:=by exact (fun _ _=>rfl)):PE X (.Subscript o i pos) (tKGet X.prog X.w X.K td ty):=by
 intro pins s σ H Q I h
 refine subD_of PySem.F.slot_dict_getitem.lookup hs (thn (ho pins s σ H _ I h) fun u s1 ⟨x,H1,I1,rx,q1⟩=>thn (hi pins s1 σ H1 _ I1 q1) fun iv s2 ⟨y,H2,I2,ry,a,f,k,uv,v,ex,ey,d,e,rv,q2⟩=>?_)
 subst ex ey
 obtain rfl:u=Value.ref a:=rx
 have m:=d.map I2.kIn
 obtain ⟨od,es,ep,h1,h2,h3⟩:=id m
 exact ⟨⟨od,h1,h2.1⟩,wpAny_getItem_of (kV_is ry) m e ⟨v,H2,I2.tok _,rv,q2⟩⟩
def strEntry (w:World) (t:Str×Tok×Value):DictEntry:={ hash:=PyData.keyHash w.params t.1,key := .str t.1 t.2.1,val:=t.2.2 }
def strAt (l:List (Str×Tok×Value)):Key→Option Value
 | .inl _=>none
 | .inr x=>(l.find? fun t=>decide (t.1=x)).map (·.2.2)
theorem kdict_strs {P:Program} {w:World} {K:PySem.W.Frag} {a:Addr} {ep:Nat} (l:List (Str×Tok×Value)) (h:K.lookup a=some { cls := .type "dict",data := .dict (l.map (strEntry w)).toArray ep }):KDict P w K a (strAt l):=by
 refine ⟨_,_,ep,h,⟨rfl,rfl,rfl⟩,rfl,fun e he=>?_,fun k=>?_⟩
 ·obtain ⟨t,_,rfl⟩:=List.mem_map.mp (List.mem_toArray.mp he)
  exact ⟨.inr t.1,yu8 t.1 t.2.1,rfl⟩
 ·unfold findBy
  rw [List.find?_toArray,List.find?_map]
  cases k with
  | inl i =>
   have e:l.find? ((fun e:DictEntry=>(mixKind P w).is (.inl i) e.key) ∘ strEntry w)=none:=List.find?_eq_none.mpr fun t _=>by
    show ¬ keyIs (.inl i) (Value.str t.1 t.2.1)=true
    intro q
    rcases ze7 q with ⟨j,u,_,e⟩ | ⟨y,u,e,_⟩
    ·exact nomatch e
    ·exact nomatch e
   rw [e]
   rfl
  | inr x =>
   have e:((fun e:DictEntry=>(mixKind P w).is (.inr x) e.key) ∘ strEntry w)=fun t=>decide (t.1=x):=by
    funext t
    show keyIs (.inr x) (Value.str t.1 t.2.1)=decide (t.1=x)
    by_cases q:t.1=x
    ·rw [decide_eq_true q,← q]
     exact yu8 t.1 t.2.1
    ·rw [decide_eq_false q]
     refine Bool.eq_false_iff.mpr fun z=>?_
     rcases ze7 z with ⟨j,u,e,_⟩ | ⟨y,u,e1,e2⟩
     ·exact nomatch e
     ·have e3:x=y:=Sum.inr.inj e1
      have e4:t.1=y:=(Value.str.inj e2).1
      exact q (e4.trans e3.symm)
   rw [e]
   show ((l.find? fun t=>decide (t.1=x)).map (strEntry w)).map (·.val)=_
   rw [Option.map_map]
   rfl
end L2
namespace FPP
open PySem
theorem sz1:1≤sizeLine:=by decide
theorem sz2:2≤sizeLine:=by decide
theorem sz3:3≤sizeLine:=by decide
theorem sz4:4≤sizeLine:=by decide
end FPP
namespace FPP
open PySem PySem.Spec PyProof.Rows L2
def top (i:Nat):Stmt:=PySem.Challenge.pw_firstpress_s01_answers.main.body.getD i (.Pass ⟨0,0,0,0⟩)
section
variable {P:Program} {w:World} {K:PySem.W.Frag} {mg:Str→Option Value} {base:Heap}
abbrev yq1:Stmt:=top 40
abbrev n_lesser:List Str:=["known", "found"]
abbrev zz1:List Str:=["known", "found"]
theorem sc_lesser:FnScope n_lesser zz1 (defScope yq1):=⟨rfl,rfl,rfl,by decide +kernel,rfl,by decide +kernel,by decide +kernel⟩
def spLesser:Sp:=fun vs H Q _=>∃ (a:Option Int) (f:Int),vs=[ov a,.int f]∧Q (ov (FP.lesserP a f)) H
theorem ok_lesser {f:Addr} {fd:FuncData} (F:Fun K "lesser" "lesser" yq1 f fd):FnOk P w K mg base CX0 1 f fd zz1 spLesser:=by
 refine F.ok sc_lesser (fun vs H Q E h=>?_) (fun cdv A outer s H vs Q E hr h=>?_)
 ·obtain ⟨a,g,rfl,_⟩:=h
  rfl
 ·obtain ⟨a,g,rfl,h⟩:=h
  have nd:=sc_lesser.nd
  refine ⟨_,(za1 (ps_if ((pw_or (zb2 yy4 (pv 0) zg0 (nomark _)) (pw_or1 (zb2 op_lt (pv 1) (pv 0) (nomark _))))).pt (za4 (za6 (pv 1))) zb1) (za4 (za6 (pv 0)))),?_⟩
  cases a with
  | none=>exact ⟨_,rfl,rfl,_,rfl,iteT (iteT ⟨_,rfl,h⟩)⟩
  | some i =>
   refine ⟨_,rfl,rfl,_,rfl,iteF ⟨_,rfl,_,rfl,_,_,rfl,rfl,_,rfl,?_⟩⟩
   refine iteD (fun q=>⟨_,rfl,?_⟩) (fun q=>⟨_,rfl,?_⟩)
   ·have e:FP.lesserP (some i) g=some g:=if_pos q
    rw [e] at h
    exact h
   ·have e:FP.lesserP (some i) g=some i:=if_neg q
    rw [e] at h
    exact h
abbrev zj8:Stmt:=top 39
abbrev yp3:List Str:=["size", "x", "sums"]
abbrev ze0:List Str:=["size", "x"]
theorem zv5:FnScope yp3 ze0 (defScope zj8):=⟨rfl,rfl,rfl,by decide +kernel,rfl,by decide +kernel,by decide +kernel⟩
def NewTab (H:Hp) (t:Vbqzab.Table) (Q:VK):Prop:=∀ (H':Hp) (p:Addr),Same H H'→H p=none→H' p=some (.lst (ovs t))→Q (.ref p) H'
def spNoBounds:Sp:=fun vs H Q _=>∃ (n x:Nat),vs=[.int n,.int x]∧x < n∧n≤1000∧NewTab H (Vbqzab.only n x) Q
theorem only_eq {n x:Nat} (h:x < n):(List.replicate n (none:Option Int)).set x (some 0)=Vbqzab.only n x:=by
 refine FP.at_ext (n:=n) (by rw [List.length_set,List.length_replicate]) (by unfold Vbqzab.only;rw [List.length_map,List.length_range]) fun y hy=>?_
 rw [FP.at_set (by rw [List.length_replicate];exact h)]
 unfold Vbqzab.only
 rw [FP.yz8 n _ hy]
 by_cases e:y=x
 ·rw [if_pos e,if_pos e]
 ·rw [if_neg e,if_neg e]
  unfold Vbqzab.at_
  rw [List.getD_eq_getElem?_getD,List.getElem?_replicate,if_pos hy]
  rfl
theorem rep_non (n:Nat):(List.replicate n [V.non]).flatten=ovs (List.replicate n none):=by
 unfold ovs
 rw [List.map_replicate]
 show (List.replicate n [V.non]).flatten=List.replicate n V.non
 induction n with
 | zero=>rfl
 | succ n ih =>
  rw [List.replicate_succ,List.flatten_cons,ih,List.replicate_succ]
  rfl
theorem yl9 {f:Addr} {fd:FuncData} (F:Fun K "no_bounds_sums" "no_bounds_sums" zj8 f fd):FnOk P w K mg base CX0 1 f fd ze0 spNoBounds:=by
 refine F.ok zv5 (fun vs H Q E h=>?_) (fun cdv A outer s H vs Q E hr h=>?_)
 ·obtain ⟨a,g,rfl,_⟩:=h
  rfl
 ·obtain ⟨n,x,rfl,hx,hn,k⟩:=h
  have nd:=zv5.nd
  refine ⟨_,(za1 (zb8 (i:=2) nd rfl (Or.inl rfl) (pe_op op_rep (zb7 (za0 zg0 za3)) (pv 0))) (za1 (ps_asg za9 (pg_sub (pv 2) (pv 1) yq0)) (za4 (za6 (pv 2))))),?_⟩
  refine ⟨(sz1),fun l hl=>?_⟩
  refine ⟨_,rfl,l,(n:Int),[V.non],rfl,rfl,za2,by omega,by omega,?_,fun p hp=>?_⟩
  ·show 1 * _≤_
   rw [Nat.one_mul]
   exact zd5 (by omega)
  ·have hpl:p≠l:=fun e=>by rw [e,za2] at hp;cases hp
   refine ⟨_,rfl,_,rfl,p,_,(x:Int),x,rfl,rfl,za2,?_,?_⟩
   ·rw [rep_non,zf9,List.length_replicate]
    exact yv0 (by omega)
   ·refine ⟨_,rfl,k _ p ?_ ?_ ?_⟩
    ·exact (((Same.laid hl).over (a:=p) (by rw [zb5 hpl] at hp;exact hp)).over (by rw [zb5 hpl] at hp;exact hp))
    ·rw [zb5 hpl] at hp
     exact hp
    ·rw [za2,rep_non,Int.toNat_natCast,show V.int 0=ov (some 0) from rfl,ovs_set,only_eq hx]
abbrev zp9:Stmt:=top 41
abbrev xd2:List Str:=["direct", "ahead", "behind", "best", "known", "rest"]
abbrev zm2:List Str:=["direct", "ahead", "behind"]
theorem ye5:FnScope xd2 zm2 (defScope zp9):=⟨rfl,rfl,rfl,by decide +kernel,rfl,by decide +kernel,by decide +kernel⟩
theorem led_take {d e:Vbqzab.Table} {a:Int} {n i:Nat} (hd:d.length=n) (he:e.length=n) (hi:i < n):FP.led (d.take (i + 1)) a (e.take (i + 1))=FP.led (d.take i) a (e.take i)++[FP.comb (Vbqzab.at_ d i) a (Vbqzab.at_ e i)]:=by
 have h1:d[i]?=some (Vbqzab.at_ d i):=by unfold Vbqzab.at_;rw [List.getD_eq_getElem?_getD,List.getElem?_eq_getElem (by omega)];rfl
 have h2:e[i]?=some (Vbqzab.at_ e i):=by unfold Vbqzab.at_;rw [List.getD_eq_getElem?_getD,List.getElem?_eq_getElem (by omega)];rfl
 unfold FP.led
 rw [List.take_succ,List.take_succ,h1,h2]
 show List.zipWith _ (d.take i++[Vbqzab.at_ d i]) (e.take i++[Vbqzab.at_ e i])=_
 rw [List.zipWith_append (by rw [List.length_take,List.length_take];omega)]
 rfl
def spLed (K:PySem.W.Frag):Sp:=fun vs H Q _=>∃ (a b:Addr) (d e:Vbqzab.Table) (z:Int) (n:Nat),vs=[.ref a,.int z,.ref b]∧SqL K H a (ovs d)∧SqL K H b (ovs e)∧d.length=n∧e.length=n∧n≤1000∧NewTab H (FP.led d z e) Q
theorem yw4 {f:Addr} {fd:FuncData} (F:Fun K "led_through" "led_through" zp9 f fd) (c_lesser:CallOk P w K mg base "lesser" 1 zz1 spLesser) (g_zip:mg "zip" = none):FnOk P w K mg base CX0 2 f fd zm2 (spLed K):=by
 refine F.ok ye5 (fun vs H Q E h=>?_) (fun cdv A outer s H vs Q E hr h=>?_)
 ·obtain ⟨a,b,d,e,z,n,rfl,_⟩:=h
  rfl
 ·obtain ⟨a,b,d,e,z,n,rfl,ha,hb,hd,he,hn,k⟩:=h
  have nd:=ye5.nd
  refine ⟨_,(za1 (zb8 (i:=3) nd rfl (Or.inl rfl) (zb7 za3)) (za1 (zj3 PassesOwn.never rfl (pi_zip rfl g_zip (za0 (pv 0) (za0 (pv 2) za3))) (yt3 rfl (ze8 (zc3 (i:=4) nd rfl (Or.inl rfl)) (ze8 (zc3 (i:=5) nd rfl (Or.inl rfl)) zz0))) (za4 (zl7 (pe_bm PySem.F.plainAttrs_list PySem.F.slot_list_append PySem.F.type_list_append zs4 (pv 3) (za0 (pe_ifExp (zb2 yy4 (pv 5) zg0 (nomark _)) (pv 4) (zb6 c_lesser (za0 (pv 4) (za0 (pe_op zx2 (pv 1) (pv 5)) za3)) hr)) za3))))) (za4 (za6 (pv 3))))),?_⟩
  refine ⟨Nat.zero_le _,fun l hl=>?_⟩
  have s1:Same H (upd H l (.lst [])):=Same.laid hl
  refine ⟨_,rfl,_,rfl,a,b,_,_,rfl,s1.seq ha,s1.seq hb,for_zip (n:=n) (K:=K) (xs:=ovs d) (ys:=ovs e) (by rw [zf9,hd]) (by rw [zf9,he])
   (fun i σ H'=>∃ v4 v5:Option V,σ=[some (.ref a),some (.int z),some (.ref b),some (.ref l),v4,v5]∧Same H H'∧H' l=some (.lst (ovs (FP.led (d.take i) z (e.take i)))))
   ⟨none,none,rfl,s1,za2⟩ (fun i σ H' _ ⟨_,_,_,s2,_⟩=>⟨s2.seq ha,s2.seq hb⟩) ?_ ?_⟩
  ·rintro i x y σ H2 T hx hy ⟨v4,v5,rfl,s2,hl2⟩ hT
   have hi:i < n:=by
    have:=(List.getElem?_eq_some_iff.mp hx).1
    rw [zf9,hd] at this
    exact this
   rw [zh4 (by omega)] at hx hy
   cases hx
   cases hy
   refine ⟨T,_,rfl,SqT.of za2,rfl,_,_,rfl,_,_,rfl,rfl,?_⟩
   have hlT:l≠T:=zb9 hl2 hT
   have hl3:(upd H2 T (.tup [ov (Vbqzab.at_ d i),ov (Vbqzab.at_ e i)])) l=some (.lst (ovs (FP.led (d.take i) z (e.take i)))):=by rw [zb5 hlT];exact hl2
   have s3:Same H (upd H2 T (.tup [ov (Vbqzab.at_ d i),ov (Vbqzab.at_ e i)])):=s2.trans (Same.laid hT)
   have hsz:(ovs (FP.led (d.take i) z (e.take i))).length < sizeLine:=by
    rw [zf9]
    unfold FP.led
    rw [List.length_zipWith,List.length_take,List.length_take]
    exact small1000 (by omega)
   have fin:∀ o,o=FP.comb (Vbqzab.at_ d i) z (Vbqzab.at_ e i)→∃ v4 v5:Option V,[some (V.ref a),some (.int z),some (.ref b),some (.ref l),some (ov (Vbqzab.at_ d i)),some (ov (Vbqzab.at_ e i))]=[some (.ref a),some (.int z),some (.ref b),some (.ref l),v4,v5]∧Same H (upd (upd H2 T (.tup [ov (Vbqzab.at_ d i),ov (Vbqzab.at_ e i)])) l (.lst (ovs (FP.led (d.take i) z (e.take i))++[ov o])))∧(upd (upd H2 T (.tup [ov (Vbqzab.at_ d i),ov (Vbqzab.at_ e i)])) l (.lst (ovs (FP.led (d.take i) z (e.take i))++[ov o]))) l=some (.lst (ovs (FP.led (d.take (i + 1)) z (e.take (i + 1))))):=by
    rintro o rfl
    refine ⟨_,_,rfl,s3.over hl,?_⟩
    rw [za2,led_take hd he hi]
    unfold ovs
    rw [List.map_append]
    rfl
   refine ⟨_,rfl,.inl ⟨rfl,_,SqL.of hl3⟩,?_⟩
   cases q:Vbqzab.at_ e i with
   | none =>
    rw [q] at fin hl3
    refine ⟨_,rfl,rfl,_,rfl,iteT ⟨_,rfl,l,_,_,rfl,rfl,hl3,hsz,?_⟩⟩
    exact fin _ rfl
   | some r =>
    rw [q] at fin hl3
    refine ⟨_,rfl,rfl,_,rfl,iteF ⟨_,rfl,_,rfl,_,rfl,_,_,rfl,rfl,_,_,rfl,l,_,_,rfl,rfl,hl3,hsz,?_⟩⟩
    exact fin _ rfl
  ·rintro σ H2 ⟨v4,v5,rfl,s2,hl2⟩
   rw [List.take_of_length_le (by omega),List.take_of_length_le (by omega)] at hl2
   exact ⟨_,rfl,k H2 l s2 hl hl2⟩
end
end FPP
namespace FPP
open PySem PySem.Spec PyProof.Rows L2
open Vbqzab (Bound Table at_)
structure BCls (K:PySem.W.Frag) (C:Addr):Prop where
 cl:Cls K C
 nS:NoAttr K C "start"
 nE:NoAttr K C "end"
 nW:NoAttr K C "weight"
def bfs (b:Bound):List (Str×V):=putF "weight" (.int b.w) (putF "end" (.int b.dst) (putF "start" (.int b.src) []))
theorem zm7 (b:Bound):(bfs b).lookup ("start" : Str)=some (.int b.src):=by
 unfold bfs
 rw [za5,if_neg (by decide +kernel),za5,if_neg (by decide +kernel),za5,if_pos rfl]
theorem zz9 (b:Bound):(bfs b).lookup ("end" : Str)=some (.int b.dst):=by
 unfold bfs
 rw [za5,if_neg (by decide +kernel),za5,if_pos rfl]
theorem zq8 (b:Bound):(bfs b).lookup ("weight" : Str)=some (.int b.w):=by
 unfold bfs
 rw [za5,if_pos rfl]
def BndAt (C:Addr) (H:Hp) (a:Addr) (b:Bound):Prop:=∃ dx,H a=some (.ins C dx (bfs b))
structure BsAt (C:Addr) (H:Hp) (l:Addr) (as:List Addr) (bs:List Bound):Prop where
 lst:H l=some (.lst (as.map V.ref))
 len:as.length=bs.length
 at_:∀ (i:Nat) (b:Bound),bs[i]?=some b→∃ a,as[i]?=some a∧BndAt C H a b
theorem BndAt.same {C:Addr} {H H':Hp} {a:Addr} {b:Bound} (h:BndAt C H a b) (s:Same H H'):BndAt C H' a b:=by
 obtain ⟨dx,h⟩:=h
 exact ⟨dx,s _ _ h⟩
theorem BsAt.same {C:Addr} {H H':Hp} {l:Addr} {as:List Addr} {bs:List Bound} (h:BsAt C H l as bs) (s:Same H H'):BsAt C H' l as bs :=
 ⟨s _ _ h.lst,h.len,fun i b hb=>by
  obtain ⟨a,h1,h2⟩:=h.at_ i b hb
  exact ⟨a,h1,h2.same s⟩⟩
theorem BsAt.item {C:Addr} {H:Hp} {l:Addr} {as:List Addr} {bs:List Bound} (h:BsAt C H l as bs) {i:Nat} {y:V} (hy:(as.map V.ref)[i]?=some y):∃ a b,y=V.ref a∧bs[i]?=some b∧BndAt C H a b:=by
 rw [List.getElem?_map] at hy
 cases e:as[i]? with
 | none=>rw [e] at hy;cases hy
 | some a =>
  rw [e] at hy
  cases hy
  have hi:=(List.getElem?_eq_some_iff.mp e).1
  obtain ⟨b,hb⟩:=FP.zc2 (l:=bs) (i:=i) (by rw [← h.len];exact hi)
  obtain ⟨a',h1,h2⟩:=h.at_ i b hb
  rw [e] at h1
  cases h1
  exact ⟨a,b,rfl,hb,h2⟩
def om (t L:Table) (b:Bound):Table:=match at_ t b.dst with
 | none=>L
 | some r=>L.set b.src (FP.lesserP (at_ L b.src) (b.w + r))
theorem om_length (t L:Table) (b:Bound):(om t L b).length=L.length:=by
 unfold om
 split
 ·rfl
 ·rw [List.length_set]
theorem lesser_none (a:Option Int):Vbqzab.lesser a none=a:=by cases a <;> rfl
theorem om_fold {n:Nat} {t:Table} {x:Nat} (hx:x < n):∀ (bs:List Bound) (L:Table),L.length=n→(∀ b∈bs,b.src < n)→at_ (bs.foldl (om t) L) x=((bs.map Vbqzab.back).filter fun b=>b.dst == x).foldl (fun a b=>Vbqzab.lesser a (Vbqzab.plus (at_ t b.src) b.w)) (at_ L x)
 | [],L,_,_=>rfl
 | b :: bs,L,hL,hb=>by
  have ih:=om_fold (t:=t) hx bs (om t L b) ((om_length t L b).trans hL) fun c hc=>hb c (List.mem_cons_of_mem _ hc)
  rw [List.foldl_cons,ih,List.map_cons,List.filter_cons]
  have hs:=hb b List.mem_cons_self
  by_cases e:b.src=x
  ·rw [if_pos (by show (b.src == x)=true;rw [e];exact beq_self_eq_true x),List.foldl_cons]
   congr 1
   show at_ (om t L b) x=Vbqzab.lesser (at_ L x) (Vbqzab.plus (at_ t b.dst) b.w)
   unfold om
   cases q:at_ t b.dst with
   | none=>exact (lesser_none _).symm
   | some r =>
    show at_ (L.set b.src (FP.lesserP (at_ L b.src) (b.w + r))) x=Vbqzab.lesser (at_ L x) (some (r + b.w))
    rw [FP.at_set (by omega),if_pos e.symm,FP.lesserP_eq,e,Int.add_comm]
  ·rw [if_neg (by show ¬ (b.src == x)=true;intro q;exact e (eq_of_beq q))]
   congr 1
   unfold om
   split
   ·rfl
   ·rw [FP.at_set (by omega),if_neg (fun q=>e q.symm)]
theorem zs8 (t:Table):∀ (bs:List Bound) (L:Table),(bs.foldl (om t) L).length=L.length
 | [],_=>rfl
 | b :: bs,L=>by rw [List.foldl_cons,zs8 t bs,om_length]
theorem om_step {n:Nat} {t:Table} {bs:List Bound} (hb:FP.Inn bs n):bs.foldl (om t) (List.replicate n none)=Vbqzab.stepOn (bs.map Vbqzab.back) n t:=by
 refine FP.at_ext (n:=n) (by rw [zs8,List.length_replicate]) (by unfold Vbqzab.stepOn;rw [List.length_map,List.length_range]) fun x hx=>?_
 rw [om_fold hx bs _ List.length_replicate fun b h=>(hb b h).1]
 unfold Vbqzab.stepOn
 rw [FP.yz8 n _ hx]
 congr 1
 unfold at_
 rw [List.getD_eq_getElem?_getD,List.getElem?_replicate,if_pos hx]
 rfl
section
variable {P:Program} {w:World} {K:PySem.W.Frag} {mg:Str→Option Value} {base:Heap}
abbrev zj7:Stmt:=top 42
abbrev yp2:List Str:=["bounds", "sums", "longer", "bound", "rest"]
abbrev ze9:List Str:=["bounds", "sums"]
theorem zv4:FnScope yp2 ze9 (defScope zj7):=⟨rfl,rfl,rfl,by decide +kernel,rfl,by decide +kernel,by decide +kernel⟩
def spMore (C:Addr) (K:PySem.W.Frag):Sp:=fun vs H Q _=>∃ (l a:Addr) (as:List Addr) (bs:List Bound) (t:Table) (n:Nat),vs=[.ref l,.ref a]∧BsAt C H l as bs∧FP.Inn bs n∧SqL K H a (ovs t)∧t.length=n∧n≤1000∧NewTab H (Vbqzab.stepOn (bs.map Vbqzab.back) n t) Q
theorem take_fold {α β:Type} {f:β→α→β} {l:List α} {i:Nat} {x:α} {z:β} (h:l[i]?=some x):(l.take (i + 1)).foldl f z=f ((l.take i).foldl f z) x:=by
 rw [List.take_add_one,h]
 show (l.take i++[x]).foldl f z=_
 rw [List.foldl_append]
 rfl
theorem yl8 {f C:Addr} {fd:FuncData} (F:Fun K "one_bound_more" "one_bound_more" zj7 f fd) (c_lesser:CallOk P w K mg base "lesser" 1 zz1 spLesser) (g_len:mg "len" = none) (B:BCls K C):FnOk P w K mg base CX0 2 f fd ze9 (spMore C K):=by
 refine F.ok zv4 (fun vs H Q E h=>?_) (fun cdv A outer s H vs Q E hr h=>?_)
 ·obtain ⟨l,a,as,bs,t,n,rfl,_⟩:=h
  rfl
 ·obtain ⟨l,a,as,bs,t,n,rfl,hB,hI,ha,ht,hn,k⟩:=h
  have nd:=zv4.nd
  refine ⟨_,(za1 (zb8 (i:=2) nd rfl (Or.inl rfl) (pe_op op_rep (zb7 (za0 zg0 za3)) (zc0 zb4 (by rfl) g_len PySem.boot_len (za0 (pv 1) za3)))) (za1 (zj3 PassesOwn.never rfl (zj0 (pv 0)) (zc3 (i:=3) nd rfl (Or.inl rfl)) (za1 (zb8 (i:=4) nd rfl (Or.inl rfl) (zb3 zb0 (pv 1) (pe_at (pv 3)))) (za4 (ps_if (zb2 zp4 (pv 4) zg0 (nomark _)) (za4 (ps_asg (zb6 c_lesser (za0 (zb3 zb0 (pv 2) (pe_at (pv 3))) (za0 (pe_op zx2 (pe_at (pv 3)) (pv 4)) za3)) hr) (pg_sub (pv 2) (pe_at (pv 3)) yq0))) zb1)))) (za4 (za6 (pv 2))))),?_⟩
  refine ⟨(sz1),fun l0 hl0=>?_⟩
  have s0:Same H (upd H l0 (.lst [.non])):=Same.laid hl0
  refine ⟨_,rfl,a,_,rfl,.inl (s0.seq ha),l0,_,[V.non],rfl,rfl,za2,by rw [zf9];omega,by rw [zf9];omega,?_,fun p hp=>?_⟩
  ·show 1 * _≤_
   rw [Nat.one_mul,zf9]
   exact zd5 (by omega)
  have hp0:H p=none:=s0.free hp
  have s1:Same H (upd (upd H l0 (.lst [.non])) p (.lst (ovs (List.replicate n none)))):=s0.over hp0
  rw [rep_non,zf9,ht,Int.toNat_natCast]
  refine ⟨_,rfl,l,rfl,⟨_,SqL.of (s1 _ _ hB.lst)⟩,zu9 (K:=K) (a:=l) (xs:=as.map V.ref) (fun i σ H'=>∃ v3 v4:Option V,σ=[some (.ref l),some (.ref a),some (.ref p),v3,v4]∧Same H H'∧H' p=some (.lst (ovs ((bs.take i).foldl (om t) (List.replicate n none)))))
   ⟨none,none,rfl,s1,za2⟩ (fun i σ H' _ ⟨_,_,_,s2,_⟩=>SqL.of (s2 _ _ hB.lst)) ?_ ?_⟩
  ·rintro i y σ H2 hy ⟨v3,v4,rfl,s2,hp2⟩
   obtain ⟨c,b,rfl,hb,hc⟩:=hB.item hy
   obtain ⟨dx,hc⟩:=hc.same s2
   have hbn:=hI b (List.mem_of_getElem? hb)
   refine ⟨_,rfl,_,rfl,c,C,dx,_,_,rfl,hc,B.cl,B.nE,zz9 b,a,_,_,_,rfl,rfl,s2.seq ha,za8 (zh4 (by omega)),?_⟩
   have hLen:((bs.take i).foldl (om t) (List.replicate n none)).length=n:=by rw [zs8,List.length_replicate]
   have fin:∀ L,L=om t ((bs.take i).foldl (om t) (List.replicate n none)) b→L=(bs.take (i + 1)).foldl (om t) (List.replicate n none):=by
    rintro L rfl
    rw [take_fold hb]
   cases q:at_ t b.dst with
   | none =>
    refine ⟨_,rfl,rfl,_,rfl,iteF ⟨_,_,rfl,s2,?_⟩⟩
    rw [hp2,← fin _ rfl]
    unfold om
    rw [q]
   | some r =>
    refine ⟨_,rfl,rfl,_,rfl,iteT ?_⟩
    refine ⟨_,rfl,_,rfl,c,C,dx,_,_,rfl,hc,B.cl,B.nS,zm7 b,p,_,_,_,rfl,rfl,SqL.of hp2,za8 (zh4 (by omega)),_,rfl,c,C,dx,_,_,rfl,hc,B.cl,B.nW,zq8 b,_,rfl,_,_,rfl,rfl,_,_,rfl,
     _,rfl,_,rfl,c,C,dx,_,_,rfl,hc,B.cl,B.nS,zm7 b,p,_,_,b.src,rfl,rfl,hp2,yv0 (by rw [zf9];omega),?_⟩
    refine ⟨_,_,rfl,s2.over hp0,?_⟩
    rw [za2,ovs_set,← fin _ rfl]
    unfold om
    rw [q]
  ·rintro σ H2 ⟨v3,v4,rfl,s2,hp2⟩
   rw [List.length_map,hB.len,List.take_length,om_step hI] at hp2
   exact ⟨_,rfl,k H2 p s2 hp0 hp2⟩
end
end FPP
namespace FPP
open PySem PySem.Spec PyProof.Rows L2
open Vbqzab (Bound Table at_)
section
variable {P:Program} {w:World} {K:PySem.W.Frag} {mg:Str→Option Value} {base:Heap}
abbrev yd0:Stmt:=top 45
abbrev n_leads_on:List Str:=["bound", "here", "wanted", "rests", "rest"]
abbrev zw7:List Str:=["bound", "here", "wanted", "rests"]
theorem ys6:FnScope n_leads_on zw7 (defScope yd0):=⟨rfl,rfl,rfl,by decide +kernel,rfl,by decide +kernel,by decide +kernel⟩
def spLeads (C:Addr) (K:PySem.W.Frag):Sp:=fun vs H Q _=>∃ (c a:Addr) (b:Bound) (h:Nat) (z:Int) (t:Table),vs=[.ref c,.int h,.int z,.ref a]∧BndAt C H c b∧SqL K H a (ovs t)∧b.dst < t.length∧Q (.bl (FP.leads b h (some z) t)) H
theorem ok_leads_on {f C:Addr} {fd:FuncData} (F:Fun K "leads_on" "leads_on" yd0 f fd) (B:BCls K C):FnOk P w K mg base CX0 1 f fd zw7 (spLeads C K):=by
 refine F.ok ys6 (fun vs H Q E h=>?_) (fun cdv A outer s H vs Q E hr h=>?_)
 ·obtain ⟨c,a,b,h,z,t,rfl,_⟩:=h
  rfl
 ·obtain ⟨c,a,b,h,z,t,rfl,⟨dx,hc⟩,ha,hd,k⟩:=h
  have nd:=ys6.nd
  refine ⟨_,(za1 (zb8 (i:=4) nd rfl (Or.inl rfl) (zb3 zb0 (pv 3) (pe_at (pv 0)))) (za4 (za6 (pe_and (zv1 op_eq (pe_at (pv 0)) (pv 1) (nomark _)) (pe_and (zv1 zp4 (pv 4) zg0 (nomark _)) (pe_one (zv1 op_eq (pe_op zx2 (pe_at (pv 0)) (pv 4)) (pv 2) (nomark _)))))))),?_⟩
  refine ⟨_,rfl,_,rfl,c,C,dx,_,_,rfl,hc,B.cl,B.nE,zz9 b,a,_,_,_,rfl,rfl,ha,za8 (zh4 hd),?_⟩
  refine ⟨_,rfl,c,C,dx,_,_,rfl,hc,B.cl,B.nS,zm7 b,_,rfl,rfl,_,rfl,iteD (fun q=>?_) (fun q=>?_)⟩
  ·have e:b.src=h:=by
    have q':((b.src:Nat):Int)=(h:Int):=V.int.inj q
    omega
   unfold FP.leads at k
   rw [e,beq_self_eq_true,Bool.true_and] at k
   cases r:at_ t b.dst with
   | none =>
    rw [r] at k
    exact ⟨_,rfl,rfl,_,rfl,iteF k⟩
   | some r' =>
    rw [r] at k
    refine ⟨_,rfl,rfl,_,rfl,iteT ⟨_,rfl,c,C,dx,_,_,rfl,hc,B.cl,B.nW,zq8 b,_,rfl,_,_,rfl,rfl,_,rfl,rfl,?_⟩⟩
    have e2:decide (V.int (b.w + r')=V.int z)=(some (b.w + r') == some z):=by
     by_cases q2:b.w + r'=z
     ·rw [q2,decide_eq_true rfl,beq_self_eq_true]
     ·rw [decide_eq_false (fun u=>q2 (V.int.inj u)),beq_eq_false_iff_ne.mpr (fun u=>q2 (Option.some.inj u))]
    rw [e2]
    exact k
  ·have e:(b.src == h)=false:=beq_eq_false_iff_ne.mpr fun u=>q (by rw [u])
   unfold FP.leads at k
   rw [e,Bool.false_and] at k
   exact k
abbrev zn1:Stmt:=top 44
abbrev yx0:List Str:=["bounds", "here", "wanted", "rests", "number"]
abbrev zj4:List Str:=["bounds", "here", "wanted", "rests"]
theorem yb0:FnScope yx0 zj4 (defScope zn1):=⟨rfl,rfl,rfl,by decide +kernel,rfl,by decide +kernel,by decide +kernel⟩
def spLeastNumber (C:Addr) (K:PySem.W.Frag):Sp:=fun vs H Q _=>∃ (l a:Addr) (as:List Addr) (bs:List Bound) (h:Nat) (z:Int) (t:Table) (i:Nat) (b:Bound),vs=[.ref l,.int h,.int z,.ref a]∧BsAt C H l as bs∧FP.Inn bs t.length∧SqL K H a (ovs t) ∧
 FP.FirstAt bs (fun b=>FP.leads b h (some z) t) i b∧Q (.int i) H
theorem yt8 {f C:Addr} {fd:FuncData} (F:Fun K "least_number" "least_number" zn1 f fd) (c_leads_on:CallOk P w K mg base "leads_on" 1 zw7 (spLeads C K)):FnOk P w K mg base CX0 2 f fd zj4 (spLeastNumber C K):=by
 refine F.ok yb0 (fun vs H Q E h=>?_) (fun cdv A outer s H vs Q E hr h=>?_)
 ·obtain ⟨l,a,as,bs,h,z,t,i,b,rfl,_⟩:=h
  rfl
 ·obtain ⟨l,a,as,bs,h,z,t,i,b,rfl,hB,hI,ha,hF,k⟩:=h
  have nd:=yb0.nd
  refine ⟨_,(za1 (zb8 (i:=4) nd rfl (Or.inl rfl) za9) (za1 (yq3 PassesOwn.never (zr4 (zd0 (zb6 c_leads_on (za0 (zb3 zb0 (pv 0) (pv 4)) (za0 (pv 1) (za0 (pv 2) (za0 (pv 3) za3)))) hr) (fun _=>rfl))) (za4 (ps_aug (i:=4) nd rfl (Or.inl rfl) za9 ip_add))) (za4 (za6 (pv 4))))),?_⟩
  refine ⟨fun m σ H'=>∃ j:Nat,j + m=i∧H'=H∧σ=[some (.ref l),some (.int h),some (.int z),some (.ref a),some (.int j)],⟨i,0,Nat.zero_add _,rfl,rfl⟩,?_⟩
  rintro m σ H' ⟨j,hj,rfl,rfl⟩
  have hjl:j < bs.length:=Nat.lt_of_le_of_lt (by omega) (List.getElem?_eq_some_iff.mp hF.get).1
  obtain ⟨c,hc⟩:=FP.zc2 hjl
  obtain ⟨d,hd1,hd2⟩:=hB.at_ j c hc
  refine ⟨_,rfl,_,rfl,l,_,_,_,rfl,rfl,SqL.of hB.lst,za8 (v:=V.ref d) (by rw [List.getElem?_map,hd1];rfl),_,rfl,_,rfl,_,rfl,d,a,c,h,z,t,rfl,hd2,ha,(hI c (List.mem_of_getElem? hc)).2,_,rfl,?_⟩
  by_cases e:j=i
  ·subst e
   have ec:c=b:=Option.some.inj (hc.symm.trans hF.get)
   subst ec
   rw [hF.yes]
   exact iteF ⟨_,rfl,k⟩
  ·rw [hF.no j c (by omega) hc]
   refine iteT ⟨fun σ' H1=>∃ m',m' < m∧∃ j:Nat,j + m'=i∧H1=H'∧σ'=[some (.ref l),some (.int h),some (.int z),some (.ref a),some (.int j)],fun _ _ q=>q,?_⟩
   exact ⟨_,rfl,_,_,rfl,rfl,m - 1,by omega,j + 1,by omega,rfl,rfl⟩
end
end FPP
namespace FPP
open PySem PySem.Spec PyProof.Rows L2
open Vbqzab (Bound Table at_)
structure TsAt (H:Hp) (l:Addr) (ls:List Addr) (ts:List Table):Prop where
 lst:H l=some (.lst (ls.map V.ref))
 len:ls.length=ts.length
 at_:∀ (i:Nat) (t:Table),ts[i]?=some t→∃ a,ls[i]?=some a∧H a=some (.lst (ovs t))
theorem TsAt.same {H H':Hp} {l:Addr} {ls:List Addr} {ts:List Table} (h:TsAt H l ls ts) (s:Same H H'):TsAt H' l ls ts :=
 ⟨s _ _ h.lst,h.len,fun i b hb=>by
  obtain ⟨a,h1,h2⟩:=h.at_ i b hb
  exact ⟨a,h1,s _ _ h2⟩⟩
theorem zc8 {ls:List Addr} {i:Nat} {a:Addr} (h:ls[i]?=some a):(ls.map V.ref)[i]?=some (V.ref a):=by
 rw [List.getElem?_map,h]
 rfl
def nvs (l:List Nat):List V:=l.map fun (k:Nat)=>V.int (k:Int)
def NewInts (H:Hp) (l:List Nat) (Q:VK):Prop:=∀ (H':Hp) (p:Addr),Same H H'→H p=none→H' p=some (.lst (nvs l))→Q (.ref p) H'
def lvls (bs:List Bound) (n y k:Nat):List Table:=(List.range (k + 1)).map fun j=>FP.ups bs n j (Vbqzab.only n y)
theorem yq6 {bs:List Bound} {n y k j:Nat} (h:j≤k):(lvls bs n y k)[j]?=some (FP.ups bs n j (Vbqzab.only n y)):=by
 unfold lvls
 rw [List.getElem?_map,List.getElem?_range (by omega)]
 rfl
theorem zz4 (bs:List Bound) (n y k:Nat):(lvls bs n y k).length=k + 1:=by
 unfold lvls
 rw [List.length_map,List.length_range]
theorem lvls_succ (bs:List Bound) (n y k:Nat):lvls bs n y (k + 1)=lvls bs n y k++[FP.ups bs n (k + 1) (Vbqzab.only n y)]:=by
 unfold lvls
 rw [List.range_succ,List.map_append]
 rfl
theorem zq4 (bs:List Bound) (n y:Nat):∀ k,(FP.ups bs n k (Vbqzab.only n y)).length=n
 | 0=>by unfold FP.ups Vbqzab.only;rw [List.length_map,List.length_range]
 | k + 1=>by rw [FP.yc4];unfold Vbqzab.stepOn;rw [List.length_map,List.length_range]
section
variable {P:Program} {w:World} {K:PySem.W.Frag} {mg:Str→Option Value} {base:Heap}
abbrev zl3:Stmt:=top 43
abbrev yu3:List Str:=["bounds", "levels", "start", "numbers", "here", "left", "number"]
abbrev zf5:List Str:=["bounds", "levels", "start"]
theorem ya2:FnScope yu3 zf5 (defScope zl3):=⟨rfl,rfl,rfl,by decide +kernel,rfl,by decide +kernel,by decide +kernel⟩
def spLeastNumbers (C:Addr):Sp:=fun vs H Q _=>∃ (l v:Addr) (as ls:List Addr) (bs:List Bound) (n x y k:Nat) (r:List Nat),vs=[.ref l,.ref v,.int x]∧BsAt C H l as bs∧FP.Inn bs n∧n≤1000∧k≤1000∧x < n∧TsAt H v ls (lvls bs n y k)∧FP.Told bs n y k x r∧NewInts H r Q
theorem yo9 {f C:Addr} {fd:FuncData} (F:Fun K "least_numbers" "least_numbers" zl3 f fd) (B:BCls K C) (c_least_number:CallOk P w K mg base "least_number" 2 zj4 (spLeastNumber C K)) (g_len:mg "len" = none) (g_range:mg "range" = none):FnOk P w K mg base CX0 3 f fd zf5 (spLeastNumbers C):=by
 refine F.ok ya2 (fun vs H Q E h=>?_) (fun cdv A outer s H vs Q E hr h=>?_)
 ·obtain ⟨l,v,as,ls,bs,n,x,y,k,r,rfl,_⟩:=h
  rfl
 ·obtain ⟨l,v,as,ls,bs,n,x,y,k,r,rfl,hB,hI,hn,hk,hx,hT,hr0,kk⟩:=h
  have nd:=ya2.nd
  refine ⟨_,(za1 (zb8 (i:=3) nd rfl (Or.inl rfl) (zb7 za3)) (za1 (zb8 (i:=4) nd rfl (Or.inl rfl) (pv 2)) (za1 (zj3 PassesOwn.never rfl (pi_range3 rfl g_range (za0 (pe_op yt5 (zc0 zb4 (by rfl) g_len PySem.boot_len (za0 (pv 1) za3)) za9) (za0 za9 (za0 (pe_un ye1 za9) za3)))) (zc3 (i:=5) nd rfl (Or.inl rfl)) (za1 (zb8 (i:=6) nd rfl (Or.inl rfl) (zb6 c_least_number (za0 (pv 0) (za0 (pv 4) (za0 (zb3 zb0 (zb3 zb0 (pv 1) (pv 5)) (pv 4)) (za0 (zb3 zb0 (pv 1) (pe_op yt5 (pv 5) za9)) za3)))) hr)) (za1 (zl7 (pe_bm PySem.F.plainAttrs_list PySem.F.slot_list_append PySem.F.type_list_append zs4 (pv 3) (za0 (pv 6) za3))) (za4 (zb8 (i:=4) nd rfl (Or.inl rfl) (pe_at (zb3 zb0 (pv 0) (pv 6)))))))) (za4 (za6 (pv 3)))))),?_⟩
  refine ⟨Nat.zero_le _,fun q hq=>?_⟩
  have s1:Same H (upd H q (.lst [])):=Same.laid hq
  refine ⟨_,rfl,_,rfl,v,_,rfl,.inl (SqL.of (s1 _ _ hT.lst)),_,_,rfl,rfl,_,rfl,(k:Int),0,-1,k,?_,?_,?_⟩
  ·rw [List.length_map,hT.len,zz4]
   show [V.int (((k + 1:Nat):Int) - 1),V.int 0,V.int (-1)]=_
   rw [show ((k + 1:Nat):Int) - 1=(k:Int) by omega]
  ·have:=RgC.neg (i:=(k:Int)) (j:=0) (by omega) (by omega) (by omega) (by omega)
   rw [Int.sub_zero,Int.toNat_natCast] at this
   exact this
  refine for_rangeC (fun i σ H'=>∃ (v5 v6:Option V) (h:Nat) (pre rest:List Nat),σ=[some (.ref l),some (.ref v),some (.int x),some (.ref q),some (.int h),v5,v6]∧Same H H'∧i≤k∧r=pre++rest∧pre.length=i∧H' q=some (.lst (nvs pre))∧h < n∧FP.Told bs n y (k - i) h rest)
   ⟨none,none,x,[],r,rfl,s1,Nat.zero_le _,rfl,rfl,za2,hx,hr0⟩ ?_ ?_
  ·rintro i σ H2 hi ⟨v5,v6,h,pre,rest,rfl,s2,_,er,el,hq2,hh,ht⟩
   obtain ⟨m,em⟩:∃ m,k - i=m + 1:=⟨k - i - 1,by omega⟩
   rw [em] at ht
   cases ht with
   | @cons _ _ j b rest' hF ht' =>
    have hB2:=hB.same s2
    have hT2:=hT.same s2
    obtain ⟨z,hz⟩:∃ z,at_ (FP.ups bs n (m + 1) (Vbqzab.only n y)) h=some z:=by
     have hy:=hF.yes
     unfold FP.leads at hy
     cases e3:at_ (FP.ups bs n m (Vbqzab.only n y)) b.dst with
     | none =>
      simp only [e3,Bool.and_false] at hy
      cases hy
     | some u =>
      simp only [e3,Bool.and_eq_true] at hy
      exact ⟨_,(eq_of_beq hy.2).symm⟩
    rw [hz] at hF
    obtain ⟨a1,h11,h12⟩:=hT2.at_ (m + 1) _ (yq6 (by omega))
    obtain ⟨a0,h01,h02⟩:=hT2.at_ m _ (yq6 (by omega))
    obtain ⟨c,hc1,hc2⟩:=hB2.at_ j b hF.get
    obtain ⟨dx,hc2⟩:=hc2
    have hb:=hI b (List.mem_of_getElem? hF.get)
    have eleft:(k:Int) + (i:Nat) * (-1)=((m + 1:Nat):Int):=by omega
    rw [eleft]
    refine ⟨_,rfl,_,rfl,_,rfl,_,rfl,v,_,_,_,rfl,rfl,SqL.of hT2.lst,za8 (zc8 h11),_,rfl,a1,_,_,_,rfl,rfl,SqL.of h12,za8 (zh4 (by rw [zq4];exact hh)),_,rfl,_,rfl,_,_,rfl,rfl,v,_,_,_,rfl,rfl,SqL.of hT2.lst,
     at_of (j:=m) (by omega) (zc8 h01),l,a0,as,bs,h,z,FP.ups bs n m (Vbqzab.only n y),j,b,?_,hB2,by rw [zq4];exact hI,SqL.of h02,hF,?_⟩
    ·rw [hz]
     rfl
    ·refine ⟨_,rfl,.inl ⟨rfl,_,SqL.of hq2⟩,_,rfl,q,_,_,rfl,rfl,hq2,?_,?_⟩
     ·unfold nvs
      rw [List.length_map]
      exact small1000 (by omega)
     have hql:l≠q:=zb9 hB.lst hq
     have hqc:c≠q:=fun e=>by
      rw [e,hq2] at hc2
      cases hc2
     refine ⟨_,rfl,_,rfl,l,_,_,_,rfl,rfl,SqL.of (by rw [zb5 hql];exact hB2.lst),za8 (zc8 hc1),c,C,dx,_,_,rfl,(by rw [zb5 hqc];exact hc2),B.cl,B.nE,zz9 b,?_⟩
     refine ⟨_,_,b.dst,pre++[j],rest',rfl,s2.over hq,by omega,by rw [er,List.append_assoc];rfl,by rw [List.length_append,el];rfl,?_,hb.2,by rw [show k - (i + 1)=m by omega];exact ht'⟩
     rw [za2]
     unfold nvs
     rw [List.map_append]
     rfl
  ·rintro σ H2 ⟨v5,v6,h,pre,rest,rfl,s2,_,er,el,hq2,hh,ht⟩
   rw [Nat.sub_self] at ht
   cases ht
   rw [List.append_nil] at er
   subst er
   exact ⟨_,rfl,kk H2 q s2 hq hq2⟩
end
end FPP
namespace FPP
open PySem PySem.Spec PyProof.Rows L2
open Vbqzab (Bound Table at_)
structure SCls (K:PySem.W.Frag) (C:Addr):Prop where
 cl:Cls K C
 nS:NoAttr K C "size"
 nB:NoAttr K C "bounds"
 nM:NoAttr K C "sums"
def sfs (n:Nat) (l m:Addr):List (Str×V):=putF "sums" (.ref m) (putF "bounds" (.ref l) (putF "size" (.int n) []))
theorem yc5 (n:Nat) (l m:Addr):(sfs n l m).lookup ("size" : Str)=some (.int n):=by
 unfold sfs
 rw [za5,if_neg (by decide +kernel),za5,if_neg (by decide +kernel),za5,if_pos rfl]
theorem yc6 (n:Nat) (l m:Addr):(sfs n l m).lookup ("bounds" : Str)=some (.ref l):=by
 unfold sfs
 rw [za5,if_neg (by decide +kernel),za5,if_pos rfl]
theorem zt1 (n:Nat) (l m:Addr):(sfs n l m).lookup ("sums" : Str)=some (.ref m):=by
 unfold sfs
 rw [za5,if_pos rfl]
theorem ya0 {n:Nat} {l m:Addr} {x:Str} (h1:¬ x = "size" := by decide +kernel) (h2:¬ x = "bounds" := by decide +kernel) (h3:¬ x = "sums" := by decide +kernel):(sfs n l m).lookup x=none:=by
 unfold sfs
 rw [za5,if_neg h3,za5,if_neg h2,za5,if_neg h1]
 rfl
structure SvAt (CS C:Addr) (H:Hp) (a:Addr) (bs:List Bound) (n:Nat) (S:List Table):Prop where
 ex:∃ (dx l m:Addr) (as ls:List Addr),H a=some (.ins CS dx (sfs n l m))∧BsAt C H l as bs∧TsAt H m ls S
theorem SvAt.same {CS C:Addr} {H H':Hp} {a:Addr} {bs:List Bound} {n:Nat} {S:List Table} (h:SvAt CS C H a bs n S) (s:Same H H'):SvAt CS C H' a bs n S:=by
 obtain ⟨dx,l,m,as,ls,h1,h2,h3⟩:=h.ex
 exact ⟨dx,l,m,as,ls,s _ _ h1,h2.same s,h3.same s⟩
theorem zx9 {bs:List Bound} {n:Nat} (hb:FP.Inn bs n) {y:Nat}:∀ (k:Nat) {x:Nat} {w:Int},x < n→at_ (FP.ups bs n k (Vbqzab.only n y)) x=some w→∃ r,FP.Told bs n y k x r
 | 0,x,_,_,_=>⟨[],.nil x⟩
 | k + 1,x,w,hx,h=>by
  obtain ⟨i,b,hF,u,hu⟩:=FP.leads_some hb hx h
  obtain ⟨r,hr⟩:=zx9 hb k (hb b (List.mem_of_getElem? hF.get)).2 hu
  exact ⟨i :: r,.cons hF hr⟩
theorem zm6 {p:Nat→Prop}:∀ m,p m→∃ k,k≤m∧p k∧∀ j,j < k→¬ p j
 | 0,h=>⟨0,Nat.le_refl _,h,fun j hj=>by omega⟩
 | m + 1,h=>by
  by_cases q:∃ j,j≤m∧p j
  ·obtain ⟨j,hj,hp⟩:=q
   obtain ⟨k,h1,h2,h3⟩:=zm6 (p:=fun i=>p i) j hp
   exact ⟨k,by omega,h2,h3⟩
  ·exact ⟨m + 1,Nat.le_refl _,h,fun j hj hp=>q ⟨j,by omega,hp⟩⟩
termination_by m=>m
decreasing_by omega
theorem xe5 {xs:List V} {j:Nat} {v:V} (hl:xs.length=j + 1) (h:xs[j]?=some v):atI xs (-1)=some v:=by
 have e:ixN xs.length (-1)=some j:=by
  unfold ixN
  rw [hl,if_neg (by decide),if_pos (by omega)]
  congr 1
  omega
 unfold atI
 rw [e]
 exact h
theorem ov_inj {a b:Option Int} (h:ov a=ov b):a=b:=by
 cases a with
 | none =>
  cases b with
  | none=>rfl
  | some j=>cases h
 | some i =>
  cases b with
  | none=>cases h
  | some j =>
   have e:i=j:=V.int.inj h
   rw [e]
theorem scal_ov (a b:Option Int):scal (ov a) (ov b)=true:=by
 cases a <;> cases b <;> rfl
theorem TsAt.snoc {H H1:Hp} {l a:Addr} {ls:List Addr} {ts:List Table} {t:Table} (h:TsAt H l ls ts) (s:Same H H1) (hl:H1 l=some (.lst (ls.map V.ref))) (ha:H1 a=some (.lst (ovs t))) (hne:a≠l) (hno:∀ (i:Nat) (c:Addr),ls[i]?=some c→c≠l):TsAt (upd H1 l (.lst (ls.map V.ref++[V.ref a]))) l (ls++[a]) (ts++[t]):=by
 refine ⟨by rw [za2,List.map_append];rfl,by rw [List.length_append,List.length_append,h.len];rfl,fun i u hu=>?_⟩
 rcases FP.zk2 hu with hu | ⟨rfl,rfl⟩
 ·obtain ⟨c,h1,h2⟩:=h.at_ i u hu
  have hi:=(List.getElem?_eq_some_iff.mp h1).1
  exact ⟨c,by rw [FP.zg4 hi];exact h1,by rw [zb5 (hno i c h1)];exact s _ _ h2⟩
 ·exact ⟨a,by rw [← h.len,List.getElem?_append_right (Nat.le_refl _),Nat.sub_self];rfl,by rw [zb5 hne];exact ha⟩
section
variable {P:Program} {w:World} {K:PySem.W.Frag} {mg:Str→Option Value} {base:Heap}
abbrev yc7:Stmt:=top 46
abbrev n_told_way:List Str:=["survey", "x", "y", "levels"]
abbrev zw3:List Str:=["survey", "x", "y"]
theorem ys2:FnScope n_told_way zw3 (defScope yc7):=⟨rfl,rfl,rfl,by decide +kernel,rfl,by decide +kernel,by decide +kernel⟩
def spToldWay (CS C:Addr):Sp:=fun vs H Q _=>∃ (a:Addr) (bs:List Bound) (n x y:Nat) (r:List Nat),vs=[.ref a,.int x,.int y]∧SvAt CS C H a bs n (FP.fw bs n)∧FP.Inn bs n∧FP.NoNeg bs∧n≤100∧x < n∧y < n∧Vbqzab.way bs n x y=some r∧NewInts H r Q
theorem ok_told_way {f CS C:Addr} {fd:FuncData} (F:Fun K "told_way" "told_way" yc7 f fd) (T:SCls K CS) (c_no_bounds_sums:CallOk P w K mg base "no_bounds_sums" 1 ze0 spNoBounds) (c_one_bound_more:CallOk P w K mg base "one_bound_more" 2 ze9 (spMore C K)) (c_least_numbers:CallOk P w K mg base "least_numbers" 3 zf5 (spLeastNumbers C)):FnOk P w K mg base CX0 4 f fd zw3 (spToldWay CS C):=by
 refine F.ok ys2 (fun vs H Q E h=>?_) (fun cdv A outer s H vs Q E hr h=>?_)
 ·obtain ⟨a,bs,n,x,y,r,rfl,_⟩:=h
  rfl
 ·obtain ⟨a,bs,n,x,y,r,rfl,hS,hI,hN,hn,hx,hy,hw,kk⟩:=h
  have nd:=ys2.nd
  obtain ⟨w0,hm⟩:∃ w0,Vbqzab.most bs n x y=some w0:=by
   cases e:Vbqzab.most bs n x y with
   | none =>
    rw [FP.way_none e] at hw
    cases hw
   | some w0=>exact ⟨w0,rfl⟩
  obtain ⟨m0,hm1,hm2⟩:=FP.way_level hI hN hx hy hm
  obtain ⟨k0,hk1,hk2,hk3⟩:=zm6 (p:=fun k=>at_ (FP.ups bs n k (Vbqzab.only n y)) x=some w0) m0 hm2
  obtain ⟨r',hr'⟩:=zx9 hI k0 hx hk2
  have er:r=r':=Option.some.inj (hw.symm.trans (FP.way_of hm (by omega) hk2 hk3 hr'))
  subst er
  obtain ⟨dx,l,sm,as,ls,ha,hB,hM⟩:=hS.ex
  have hfm:at_ ((FP.fw bs n).getD x []) y=some w0:=(FP.ym7 hI hN hx hy).trans hm
  have hsh:=(FP.zs7 hI).sh
  refine ⟨_,(za1 (zb8 (i:=3) nd rfl (Or.inl rfl) (zb7 (za0 (zb6 c_no_bounds_sums (za0 (pe_at (pv 0)) (za0 (pv 2) za3)) hr) za3))) (za1 (yq3 PassesOwn.never (zb2 op_ne (zb3 zb0 (zb3 zb0 (pv 3) (pe_un ye1 za9)) (pv 1)) (zb3 zb0 (zb3 zb0 (pe_at (pv 0)) (pv 1)) (pv 2)) (nomark _)) (za4 (zl7 (pe_bm PySem.F.plainAttrs_list PySem.F.slot_list_append PySem.F.type_list_append zs4 (pv 3) (za0 (zb6 c_one_bound_more (za0 (pe_at (pv 0)) (za0 (zb3 zb0 (pv 3) (pe_un ye1 za9)) za3)) hr) za3))))) (za4 (za6 (zb6 c_least_numbers (za0 (pe_at (pv 0)) (za0 (pv 3) (za0 (pv 1) za3))) hr))))),?_⟩
  refine ⟨_,rfl,a,CS,dx,_,_,rfl,ha,T.cl,T.nS,yc5 n l sm,_,rfl,n,y,rfl,hy,by omega,fun H1 p s1 hp0 hp=>?_⟩
  refine ⟨(sz1),fun v hv=>?_⟩
  have hv0:H v=none:=s1.free hv
  have hpv:p≠v:=zb9 hp hv
  have t0:TsAt (upd H1 v (.lst [V.ref p])) v [p] (lvls bs n y 0):=by
   refine ⟨za2,rfl,fun i t ht=>?_⟩
   match i,ht with
   | 0,ht =>
    cases ht
    exact ⟨p,rfl,by rw [zb5 hpv];exact hp⟩
   | i + 1,ht=>simp [lvls] at ht
  refine ⟨fun m σ H'=>∃ (j:Nat) (lv:List Addr),j + m=k0∧σ=[some (.ref a),some (.int x),some (.int y),some (.ref v)]∧Same H H'∧TsAt H' v lv (lvls bs n y j)∧(∀ (i:Nat) (c:Addr),lv[i]?=some c→c≠v),⟨k0,0,[p],by omega,rfl,(s1.trans (Same.laid hv)),t0,?_⟩,?_⟩
  ·intro i c hc
   match i,hc with
   | 0,hc=>cases hc;exact hpv
   | i + 1,hc=>simp at hc
  ·rintro m σ H2 ⟨j,lv,hj,rfl,s2,t2,hno⟩
   have ha2:=s2 _ _ ha
   have hM2:=hM.same s2
   have hB2:=hB.same s2
   obtain ⟨c,hc1,hc2⟩:=t2.at_ j _ (yq6 (Nat.le_refl j))
   have hrow:(FP.fw bs n)[x]?=some ((FP.fw bs n).getD x []):=by
    rw [List.getD_eq_getElem?_getD,List.getElem?_eq_getElem (by rw [hsh.len];exact hx)]
    rfl
   obtain ⟨d,hd1,hd2⟩:=hM2.at_ x _ hrow
   have lenv:(lv.map V.ref).length=j + 1:=by rw [List.length_map,t2.len,zz4]
   refine ⟨_,rfl,_,rfl,v,_,_,_,rfl,rfl,SqL.of t2.lst,xe5 lenv (zc8 hc1),_,rfl,c,_,_,_,rfl,rfl,SqL.of hc2,za8 (zh4 (by rw [zq4];exact hx)),
    _,rfl,a,CS,dx,_,_,rfl,ha2,T.cl,T.nM,zt1 n l sm,_,rfl,sm,_,_,_,rfl,rfl,SqL.of hM2.lst,za8 (zc8 hd1),_,rfl,d,_,_,_,rfl,rfl,SqL.of hd2,za8 (zh4 (by rw [hsh.row x hx];exact hy)),scal_ov _ _,_,rfl,?_⟩
   rw [hfm]
   refine iteND (fun q=>?_) (fun q=>?_)
   ·have hjk:j≠k0:=fun e=>q (by rw [e,hk2])
    refine ⟨fun σ' H'=>∃ m',m' < m∧∃ (j:Nat) (lv:List Addr),j + m'=k0∧σ'=[some (.ref a),some (.int x),some (.int y),some (.ref v)]∧Same H H'∧TsAt H' v lv (lvls bs n y j)∧(∀ (i:Nat) (c:Addr),lv[i]?=some c→c≠v),fun _ _ q=>q,?_⟩
    refine ⟨_,rfl,.inl ⟨rfl,_,SqL.of t2.lst⟩,_,rfl,a,CS,dx,_,_,rfl,ha2,T.cl,T.nB,yc6 n l sm,_,rfl,_,rfl,v,_,_,_,rfl,rfl,SqL.of t2.lst,xe5 lenv (zc8 hc1),
     l,c,as,bs,_,n,rfl,hB2,hI,SqL.of hc2,zq4 bs n y j,by omega,fun H3 p3 s3 hp30 hp3=>?_⟩
    have hv3:=s3 _ _ t2.lst
    refine ⟨v,_,_,rfl,rfl,hv3,by rw [lenv];exact small1000 (by omega),?_⟩
    have hne:p3≠v:=fun e=>by rw [e,t2.lst] at hp30;cases hp30
    refine ⟨m - 1,by omega,j + 1,lv++[p3],by omega,rfl,(s2.trans s3).over hv0,?_,?_⟩
    ·rw [lvls_succ,FP.yc4]
     exact t2.snoc s3 hv3 hp3 hne hno
    ·intro i c' hc'
     rcases FP.zk2 hc' with hc' | ⟨_,rfl⟩
     ·exact hno i c' hc'
     ·exact hne
   ·have hjk:j=k0:=by
     apply Classical.byContradiction
     intro hne
     exact hk3 j (by omega) (ov_inj q)
    subst hjk
    refine ⟨_,rfl,a,CS,dx,_,_,rfl,ha2,T.cl,T.nB,yc6 n l sm,_,rfl,_,rfl,l,v,as,lv,bs,n,x,y,j,r,rfl,hB2,hI,by omega,by omega,hx,t2,hr',fun H3 p3 s3 hp30 hp3=>?_⟩
    exact kk H3 p3 (s2.trans s3) (s2.free hp30) hp3
end
end FPP
namespace FPP
open PySem PySem.Spec PyProof.Rows L2
open Vbqzab (Bound Table at_)
structure MtAt (H0 H:Hp) (m:Addr) (ls:List Addr) (S:List Table):Prop where
 ts:TsAt H m ls S
 nd:ls.Nodup
 nm:∀ (i:Nat) (a:Addr),ls[i]?=some a→a≠m
 fr:∀ (i:Nat) (a:Addr),ls[i]?=some a→H0 a=none
 fm:H0 m=none
 same:Same H0 H
theorem zr3 {n x:Nat} {S:List Table} (h:FP.Sh n S) (hx:x < n):S[x]?=some (S.getD x []):=by
 rw [List.getD_eq_getElem?_getD,List.getElem?_eq_getElem (by rw [h.len];exact hx)]
 rfl
theorem MtAt.snoc {H0 H H1:Hp} {m p:Addr} {ls:List Addr} {S:List Table} {t:Table} (h:MtAt H0 H m ls S) (s:Same H H1) (hp0:H p=none) (hp:H1 p=some (.lst (ovs t))):MtAt H0 (upd H1 m (.lst (ls.map V.ref++[V.ref p]))) m (ls++[p]) (S++[t]):=by
 have hpm:p≠m:=fun e=>by rw [e,h.ts.lst] at hp0;cases hp0
 have hpl:∀ (i:Nat) (a:Addr),ls[i]?=some a→a≠p:=fun i a hi e=>by
  obtain ⟨u,hu⟩:=FP.zc2 (l:=S) (i:=i) (by rw [← h.ts.len];exact (List.getElem?_eq_some_iff.mp hi).1)
  obtain ⟨c,h1,h2⟩:=h.ts.at_ i u hu
  rw [hi] at h1
  cases h1
  rw [e,hp0] at h2
  cases h2
 refine ⟨h.ts.snoc s (s _ _ h.ts.lst) hp hpm h.nm,?_,?_,?_,h.fm,(h.same.trans s).over h.fm⟩
 ·refine ym1 h.nd fun q=>?_
  obtain ⟨i,hi⟩:=List.getElem?_of_mem q
  exact hpl i p hi rfl
 ·intro i a hi
  rcases FP.zk2 hi with hi | ⟨_,rfl⟩
  ·exact h.nm i a hi
  ·exact hpm
 ·intro i a hi
  rcases FP.zk2 hi with hi | ⟨_,rfl⟩
  ·exact h.fr i a hi
  ·exact h.same.free hp0
theorem MtAt.cell {H0 H:Hp} {m a:Addr} {ls:List Addr} {S:List Table} {x:Nat} {t u:Table} (h:MtAt H0 H m ls S) (hx:S[x]?=some t) (ha:ls[x]?=some a):MtAt H0 (upd H a (.lst (ovs u))) m ls (S.set x u):=by
 have ham:=h.nm x a ha
 refine ⟨⟨by rw [zb5 (Ne.symm ham)];exact h.ts.lst,by rw [List.length_set];exact h.ts.len,fun i v hv=>?_⟩,h.nd,h.nm,h.fr,h.fm,h.same.over (h.fr x a ha)⟩
 by_cases e:i=x
 ·subst e
  rw [List.getElem?_set_self (List.getElem?_eq_some_iff.mp hx).1] at hv
  cases hv
  exact ⟨a,ha,za2⟩
 ·rw [List.getElem?_set_ne (Ne.symm e)] at hv
  obtain ⟨c,h1,h2⟩:=h.ts.at_ i v hv
  refine ⟨c,h1,?_⟩
  rw [zb5 (fun q=>e (nd_ix h.nd h1 (by rw [q];exact ha)))]
  exact h2
theorem MtAt.row {H0 H H1:Hp} {m p:Addr} {ls:List Addr} {S:List Table} {x:Nat} {u:Table} (h:MtAt H0 H m ls S) (hx:x < ls.length) (s:Same H H1) (hp0:H p=none) (hp:H1 p=some (.lst (ovs u))):MtAt H0 (upd H1 m (.lst ((ls.map V.ref).set x (V.ref p)))) m (ls.set x p) (S.set x u):=by
 have hpm:p≠m:=fun e=>by rw [e,h.ts.lst] at hp0;cases hp0
 have hpl:∀ (i:Nat) (a:Addr),ls[i]?=some a→a≠p:=fun i a hi e=>by
  obtain ⟨u,hu⟩:=FP.zc2 (l:=S) (i:=i) (by rw [← h.ts.len];exact (List.getElem?_eq_some_iff.mp hi).1)
  obtain ⟨c,h1,h2⟩:=h.ts.at_ i u hu
  rw [hi] at h1
  cases h1
  rw [e,hp0] at h2
  cases h2
 have hget:∀ (i:Nat) (a:Addr),(ls.set x p)[i]?=some a→(i=x∧a=p)∨(i≠x∧ls[i]?=some a):=by
  intro i a hi
  by_cases e:i=x
  ·subst e
   rw [List.getElem?_set_self hx] at hi
   exact .inl ⟨rfl,(Option.some.inj hi).symm⟩
  ·rw [List.getElem?_set_ne (Ne.symm e)] at hi
   exact .inr ⟨e,hi⟩
 refine ⟨⟨by rw [za2,List.map_set],by rw [List.length_set,List.length_set];exact h.ts.len,fun i v hv=>?_⟩,?_,?_,?_,h.fm,(h.same.trans s).over h.fm⟩
 ·by_cases e:i=x
  ·subst e
   rw [List.getElem?_set_self (by rw [← h.ts.len];exact hx)] at hv
   cases hv
   exact ⟨p,List.getElem?_set_self hx,by rw [zb5 hpm];exact hp⟩
  ·rw [List.getElem?_set_ne (Ne.symm e)] at hv
   obtain ⟨c,h1,h2⟩:=h.ts.at_ i v hv
   exact ⟨c,by rw [List.getElem?_set_ne (Ne.symm e)];exact h1,by rw [zb5 (h.nm i c h1)];exact s _ _ h2⟩
 ·refine List.nodup_iff_pairwise_ne.mpr (List.pairwise_iff_getElem.mpr fun i j hi hj hij q=>?_)
  have e1:=List.getElem?_eq_getElem hi
  have e2:=List.getElem?_eq_getElem hj
  rw [q] at e1
  rcases hget i _ e1 with ⟨r1,r2⟩ | ⟨r1,r2⟩ <;> rcases hget j _ e2 with ⟨r3,r4⟩ | ⟨r3,r4⟩
  ·omega
  ·exact hpl j _ r4 r2
  ·exact hpl i _ r2 r4
  ·exact absurd (nd_ix h.nd r2 r4) (by omega)
 ·intro i a hi
  rcases hget i a hi with ⟨_,rfl⟩ | ⟨_,hi⟩
  ·exact hpm
  ·exact h.nm i a hi
 ·intro i a hi
  rcases hget i a hi with ⟨_,rfl⟩ | ⟨_,hi⟩
  ·exact h.same.free hp0
  ·exact h.fr i a hi
theorem yh1 {σ:L2.St} {H:Hp} {Q:Bool→Hp→Prop} (h:Q true H):tYes σ H Q:=h
section
variable {P:Program} {w:World} {K:PySem.W.Frag} {mg:Str→Option Value} {base:Heap}
abbrev zn9:Stmt:=top 38
abbrev yo5:List Str:=["size", "bounds", "sums", "bound", "middle", "x"]
abbrev zo8:List Str:=["size", "bounds"]
theorem yi2:FnScope yo5 zo8 (defScope zn9):=⟨rfl,rfl,rfl,by decide +kernel,rfl,by decide +kernel,by decide +kernel⟩
def spLeastSums (C:Addr):Sp:=fun vs H Q _=>∃ (l:Addr) (as:List Addr) (bs:List Bound) (n:Nat),vs=[.int n,.ref l]∧BsAt C H l as bs∧FP.Inn bs n∧n≤100∧∀ (H':Hp) (m:Addr) (ls:List Addr),Same H H'→H m=none→TsAt H' m ls (FP.fw bs n)→Q (.ref m) H'
theorem yv1 {β:Type} {f:β→Nat→β} {z:β} (i:Nat):(List.range (i + 1)).foldl f z=f ((List.range i).foldl f z) i:=by
 rw [List.range_succ,List.foldl_append]
 rfl
theorem xc0 {f C:Addr} {fd:FuncData} (F:Fun K "least_sums" "least_sums" zn9 f fd) (B:BCls K C) (c_no_bounds_sums:CallOk P w K mg base "no_bounds_sums" 1 ze0 spNoBounds) (c_lesser:CallOk P w K mg base "lesser" 1 zz1 spLesser) (c_led_through:CallOk P w K mg base "led_through" 2 zm2 (spLed K)) (g_range:mg "range" = none):FnOk P w K mg base CX0 3 f fd zo8 (spLeastSums C):=by
 refine F.ok yi2 (fun vs H Q E h=>?_) (fun cdv A outer s H vs Q E hr h=>?_)
 ·obtain ⟨l,as,bs,n,rfl,_⟩:=h
  rfl
 ·obtain ⟨l,as,bs,n,rfl,hB,hI,hn,kk⟩:=h
  have nd:=yi2.nd
  refine ⟨_,(za1 (yq4 (i:=2) (own:=[("x",5)]) rfl nd rfl rfl (xa3 rfl rfl rfl rfl) (zl8 rfl g_range (za0 (pv 0) za3)) (zt0 (by show blkOkB yo5 (defScope zn9) _ _=true;decide +kernel)) (fun _ _ _ _ _=>(zc3 (i:=5) nd rfl (Or.inl rfl))) (fun _ _ _ _ _=>zy9) (fun _ _ _ _ _=>(zb6 c_no_bounds_sums (za0 (pv 0) (za0 (pv 5) za3)) hr))) (za1 (zj3 PassesOwn.never rfl (zj0 (pv 1)) (zc3 (i:=3) nd rfl (Or.inl rfl)) (za4 (ps_asg (zb6 c_lesser (za0 (zb3 zb0 (zb3 zb0 (pv 2) (pe_at (pv 3))) (pe_at (pv 3))) (za0 (pe_at (pv 3)) za3)) hr) (pg_sub (zb3 zb0 (pv 2) (pe_at (pv 3))) (pe_at (pv 3)) yq0)))) (za1 (zj3 PassesOwn.never rfl (zl8 rfl g_range (za0 (pv 0) za3)) (zc3 (i:=4) nd rfl (Or.inl rfl)) (za4 (zj3 PassesOwn.never rfl (zl8 rfl g_range (za0 (pv 0) za3)) (zc3 (i:=5) nd rfl (Or.inl rfl)) (za4 (ps_if (zb2 zp4 (zb3 zb0 (zb3 zb0 (pv 2) (pv 5)) (pv 4)) zg0 (nomark _)) (za4 (ps_asg (zb6 c_led_through (za0 (zb3 zb0 (pv 2) (pv 5)) (za0 (zb3 zb0 (zb3 zb0 (pv 2) (pv 5)) (pv 4)) (za0 (zb3 zb0 (pv 2) (pv 4)) za3))) hr) (pg_sub (pv 2) (pv 5) yq0))) zb1))))) (za4 (za6 (pv 2)))))),?_⟩
  refine ⟨_,rfl,(n:Int),rfl,by omega,by omega,fun D hD=>yq7 (fun i H'=>∃ ls,MtAt H H' D ls ((List.range i).map (Vbqzab.only n))) ?_ ?_ ?_⟩
  ·exact ⟨[],⟨za2,rfl,fun i t ht=>by simp at ht⟩,List.nodup_nil,fun i a hi=>by simp at hi,fun i a hi=>by simp at hi,hD,Same.laid hD⟩
  ·rintro i H2 hi ⟨ls,hM⟩
   rw [Int.toNat_natCast] at hi
   refine ⟨rfl,yh1 ?_⟩
   refine iteT ⟨_,rfl,_,rfl,n,i,by rw [Int.zero_add];rfl,hi,by omega,fun H3 p s3 hp0 hp=>?_⟩
   refine ⟨_,s3 _ _ hM.ts.lst,?_,ls++[p],?_⟩
   ·rw [List.length_map,hM.ts.len,List.length_map,List.length_range]
    exact small1000 (by omega)
   ·rw [List.range_succ,List.map_append]
    exact hM.snoc s3 hp0 hp
  rintro H1 ⟨ls1,hM1⟩
  rw [Int.toNat_natCast] at hM1
  have sh1:FP.Sh n ((List.range n).map (Vbqzab.only n)):=(FP.init_keep bs n).sh
  refine ⟨_,rfl,l,rfl,⟨_,SqL.of (hM1.same _ _ hB.lst)⟩,zu9 (K:=K) (a:=l) (xs:=as.map V.ref) (fun i σ H'=>∃ (v3:Option V) (ls:List Addr),σ=[some (.int n),some (.ref l),some (.ref D),v3,none,none]∧MtAt H H' D ls ((bs.take i).foldl FP.putB ((List.range n).map (Vbqzab.only n)))∧FP.Sh n ((bs.take i).foldl FP.putB ((List.range n).map (Vbqzab.only n))))
   ⟨none,ls1,rfl,hM1,sh1⟩ (fun i σ H' _ ⟨_,_,_,h,_⟩=>SqL.of (h.same _ _ hB.lst)) ?_ ?_⟩
  ·rintro i y σ H2 hy ⟨v3,ls,rfl,hM,hSh⟩
   obtain ⟨c,b,rfl,hb,hc⟩:=hB.item hy
   obtain ⟨dx,hc⟩:=hc.same hM.same
   have hbn:=hI b (List.mem_of_getElem? hb)
   rw [take_fold hb]
   generalize hS:(bs.take i).foldl FP.putB ((List.range n).map (Vbqzab.only n))=S at hM hSh
   have hrow:=zr3 hSh hbn.1
   obtain ⟨a,ha1,ha2⟩:=hM.ts.at_ _ _ hrow
   have hlen:=hSh.row b.src hbn.1
   refine ⟨_,rfl,_,rfl,c,C,dx,_,_,rfl,hc,B.cl,B.nS,zm7 b,D,_,_,_,rfl,rfl,SqL.of hM.ts.lst,za8 (zc8 ha1),_,rfl,c,C,dx,_,_,rfl,hc,B.cl,B.nE,zz9 b,a,_,_,_,rfl,rfl,SqL.of ha2,za8 (zh4 (by omega)),
    _,rfl,c,C,dx,_,_,rfl,hc,B.cl,B.nW,zq8 b,_,_,rfl,
    _,rfl,_,rfl,c,C,dx,_,_,rfl,hc,B.cl,B.nS,zm7 b,D,_,_,_,rfl,rfl,SqL.of hM.ts.lst,za8 (zc8 ha1),_,rfl,c,C,dx,_,_,rfl,hc,B.cl,B.nE,zz9 b,a,_,_,b.dst,rfl,rfl,ha2,yv0 (by rw [zf9];omega),?_⟩
   refine ⟨_,ls,rfl,?_,FP.putB_sh hSh hbn.1⟩
   rw [ovs_set]
   exact hM.cell hrow ha1
  rintro σ H2 ⟨v3,ls2,rfl,hM2,hSh2⟩
  rw [List.length_map,hB.len,List.take_length] at hM2 hSh2
  refine ⟨_,rfl,(n:Int),rfl,by omega,by omega,zx6 (fun i σ H'=>∃ (v4 v5:Option V) (ls:List Addr),σ=[some (.int n),some (.ref l),some (.ref D),v3,v4,v5]∧MtAt H H' D ls ((List.range i).foldl (FP.fwMid n) (FP.fw0 bs n))∧FP.Sh n ((List.range i).foldl (FP.fwMid n) (FP.fw0 bs n)))
   ⟨none,none,ls2,rfl,hM2,hSh2⟩ ?_ ?_⟩
  ·rintro i σ H3 hi ⟨v4,v5,ls3,rfl,hM3,hSh3⟩
   rw [Int.toNat_natCast] at hi
   rw [yv1,Int.zero_add]
   generalize hS:(List.range i).foldl (FP.fwMid n) (FP.fw0 bs n)=S at hM3 hSh3
   refine ⟨_,rfl,(n:Int),rfl,by omega,by omega,zx6 (fun j σ H'=>∃ (v5:Option V) (ls:List Addr),σ=[some (.int n),some (.ref l),some (.ref D),v3,some (.int i),v5]∧MtAt H H' D ls ((List.range j).foldl (FP.fwRow i) S)∧FP.Sh n ((List.range j).foldl (FP.fwRow i) S))
    ⟨v5,ls3,rfl,hM3,hSh3⟩ ?_ ?_⟩
   ·rintro j σ H4 hj ⟨v5',ls4,rfl,hM4,hSh4⟩
    rw [Int.toNat_natCast] at hj
    rw [yv1,Int.zero_add]
    generalize hS':(List.range j).foldl (FP.fwRow i) S=S' at hM4 hSh4
    have hrj:=zr3 hSh4 hj
    have hri:=zr3 hSh4 hi
    obtain ⟨a,ha1,ha2⟩:=hM4.ts.at_ _ _ hrj
    obtain ⟨b,hb1,hb2⟩:=hM4.ts.at_ _ _ hri
    have hlj:=hSh4.row j hj
    have hli:=hSh4.row i hi
    have sh5:=FP.xe3 hSh4 hj hi
    refine ⟨_,rfl,_,rfl,D,_,_,_,rfl,rfl,SqL.of hM4.ts.lst,za8 (zc8 ha1),_,rfl,a,_,_,_,rfl,rfl,SqL.of ha2,za8 (zh4 (by omega)),rfl,_,rfl,?_⟩
    cases q:at_ (S'.getD j []) i with
    | none =>
     have e:FP.fwRow i S' j=S':=by
      unfold FP.fwRow
      rw [q]
     rw [e]
     exact iteF ⟨_,ls4,rfl,hM4,hSh4⟩
    | some z =>
     have e:FP.fwRow i S' j=S'.set j (FP.led (S'.getD j []) z (S'.getD i [])):=by
      unfold FP.fwRow
      rw [q]
     refine iteT ⟨_,rfl,_,rfl,D,_,_,_,rfl,rfl,SqL.of hM4.ts.lst,za8 (zc8 ha1),_,rfl,_,rfl,D,_,_,_,rfl,rfl,SqL.of hM4.ts.lst,za8 (zc8 ha1),_,rfl,a,_,_,_,rfl,rfl,SqL.of ha2,za8 (zh4 (by omega)),
      _,rfl,_,rfl,D,_,_,_,rfl,rfl,SqL.of hM4.ts.lst,za8 (zc8 hb1),a,b,_,_,z,n,by rw [q];rfl,SqL.of ha2,SqL.of hb2,hlj,hli,by omega,fun H5 p s5 hp0 hp=>?_⟩
     have hjl:j < ls4.length:=(List.getElem?_eq_some_iff.mp ha1).1
     refine ⟨_,rfl,_,rfl,D,_,_,j,rfl,rfl,s5 _ _ hM4.ts.lst,yv0 (by rw [List.length_map];exact hjl),?_⟩
     refine ⟨_,ls4.set j p,rfl,?_,sh5⟩
     rw [e]
     exact hM4.row hjl s5 hp0 hp
   ·rintro σ H4 ⟨v5',ls4,rfl,hM4,hSh4⟩
    rw [Int.toNat_natCast] at hM4 hSh4
    exact ⟨_,v5',ls4,rfl,hM4,hSh4⟩
  ·rintro σ H3 ⟨v4,v5,ls3,rfl,hM3,hSh3⟩
   rw [Int.toNat_natCast] at hM3
   exact ⟨_,rfl,kk H3 D ls3 hM3.same hD hM3.ts⟩
end
end FPP
namespace FPP
open PySem PySem.Spec PyProof.Rows L2
open Vbqzab (Bound Table at_ below)
theorem ovs_ne {t:Table} {ms:List Addr} (h:ms≠[]):ovs t≠ms.map V.ref:=by
 intro e
 cases ms with
 | nil=>exact h rfl
 | cons a ms =>
  cases t with
  | nil=>cases e
  | cons o t =>
   have e1:ov o=V.ref a:=(List.cons.inj e).1
   cases o <;> cases e1
theorem TsAt.upd {H:Hp} {l w:Addr} {ls ms:List Addr} {ts:List Table} {o:HO} (h:TsAt H l ls ts) (hw:H w=some (.lst (ms.map V.ref))) (hms:ms≠[]) (hne:l≠w):TsAt (L2.upd H w o) l ls ts:=by
 refine ⟨by rw [zb5 hne];exact h.lst,h.len,fun i t ht=>?_⟩
 obtain ⟨c,h1,h2⟩:=h.at_ i t ht
 refine ⟨c,h1,?_⟩
 rw [zb5 (ne_of h2 hw (fun e=>ovs_ne hms (HO.lst.inj e)))]
 exact h2
structure LtAt (H0 H:Hp) (v:Addr) (ws:List Addr) (bs:List Bound) (n m:Nat) (ks:Nat→Nat):Prop where
 lst:H v=some (.lst (ws.map V.ref))
 len:ws.length=m
 nd:ws.Nodup
 nv:∀ (i:Nat) (a:Addr),ws[i]?=some a→a≠v
 at_:∀ (x:Nat) (a:Addr),ws[x]?=some a→∃ ls,TsAt H a ls (lvls bs n x (ks x))
 fr:∀ (i:Nat) (a:Addr),ws[i]?=some a→H0 a=none
theorem LtAt.same {H0 H H':Hp} {v:Addr} {ws:List Addr} {bs:List Bound} {n m:Nat} {ks:Nat→Nat} (h:LtAt H0 H v ws bs n m ks) (s:Same H H'):LtAt H0 H' v ws bs n m ks :=
 ⟨s _ _ h.lst,h.len,h.nd,h.nv,fun x a ha=>by
  obtain ⟨ls,h1⟩:=h.at_ x a ha
  exact ⟨ls,h1.same s⟩,h.fr⟩
theorem LtAt.congr {H0 H:Hp} {v:Addr} {ws:List Addr} {bs:List Bound} {n m:Nat} {ks ks':Nat→Nat} (h:LtAt H0 H v ws bs n m ks) (e:∀ x,x < m→ks x=ks' x):LtAt H0 H v ws bs n m ks' :=
 ⟨h.lst,h.len,h.nd,h.nv,fun x a ha=>by
  obtain ⟨ls,h1⟩:=h.at_ x a ha
  have hx:x < m:=by
   have:=(List.getElem?_eq_some_iff.mp ha).1
   rw [h.len] at this
   exact this
  exact ⟨ls,by rw [← e x hx];exact h1⟩,h.fr⟩
theorem tsAt_ne {H:Hp} {l:Addr} {ls:List Addr} {bs:List Bound} {n y k:Nat} (h:TsAt H l ls (lvls bs n y k)):ls≠[]:=by
 intro e
 have:=h.len
 rw [e,zz4] at this
 simp at this
section
variable {P:Program} {w:World} {K:PySem.W.Frag} {mg:Str→Option Value} {base:Heap}
abbrev zr1:Stmt:=top 47
abbrev yu2:List Str:=["survey", "levels_to", "x", "levels", "around"]
abbrev zr5:List Str:=["survey"]
theorem yn5:FnScope yu2 zr5 (defScope zr1):=⟨rfl,rfl,rfl,by decide +kernel,rfl,by decide +kernel,by decide +kernel⟩
def spToldRing (CS C:Addr):Sp:=fun vs H Q _=>∃ (a:Addr) (bs:List Bound) (n:Nat) (S:List Table),vs=[.ref a]∧SvAt CS C H a bs n S∧FP.Inn bs n∧¬ FP.NoNeg bs∧n≤100∧NewInts H (Vbqzab.ring bs n) Q
theorem ok_told_ring {f CS C:Addr} {fd:FuncData} (F:Fun K "told_ring" "told_ring" zr1 f fd) (T:SCls K CS) (c_no_bounds_sums:CallOk P w K mg base "no_bounds_sums" 1 ze0 spNoBounds) (c_one_bound_more:CallOk P w K mg base "one_bound_more" 2 ze9 (spMore C K)) (c_least_numbers:CallOk P w K mg base "least_numbers" 3 zf5 (spLeastNumbers C)) (g_range:mg "range" = none):FnOk P w K mg base CX0 4 f fd zr5 (spToldRing CS C):=by
 refine F.ok yn5 (fun vs H Q E h=>?_) (fun cdv A outer s H vs Q E hr h=>?_)
 ·obtain ⟨a,bs,n,S,rfl,_⟩:=h
  rfl
 ·obtain ⟨a,bs,n,S,rfl,hS,hI,hN,hn,kk⟩:=h
  have nd:=yn5.nd
  obtain ⟨k1,x1,q1,q2,q3,q4⟩:=FP.ring_level hI hN
  obtain ⟨k0,hk1,⟨hk0,x2,hx2,hb2⟩,hk3⟩:=zm6 (p:=fun k=>0 < k∧∃ x,x < n∧below (at_ (FP.ups bs n k (Vbqzab.only n x)) x)=true) k1 ⟨q1,x1,q3,q4⟩
  obtain ⟨x0,hx1,⟨hx0,hb0⟩,hx3⟩:=zm6 (p:=fun x=>x < n∧below (at_ (FP.ups bs n k0 (Vbqzab.only n x)) x)=true) x2 ⟨hx2,hb2⟩
  have hnotk:∀ j z,0 < j→j < k0→z < n→below (at_ (FP.ups bs n j (Vbqzab.only n z)) z)=false:=by
   intro j z hj hjk hz
   cases e:below (at_ (FP.ups bs n j (Vbqzab.only n z)) z) with
   | false=>rfl
   | true=>exact absurd ⟨hj,z,hz,e⟩ (hk3 j hjk)
  have hnotx:∀ z,z < x0→below (at_ (FP.ups bs n k0 (Vbqzab.only n z)) z)=false:=by
   intro z hz
   cases e:below (at_ (FP.ups bs n k0 (Vbqzab.only n z)) z) with
   | false=>rfl
   | true=>exact absurd ⟨by omega,e⟩ (hx3 z hz)
  obtain ⟨w0,hw0⟩:∃ w0,at_ (FP.ups bs n k0 (Vbqzab.only n x0)) x0=some w0:=by
   cases e:at_ (FP.ups bs n k0 (Vbqzab.only n x0)) x0 with
   | none =>
    rw [e] at hb0
    cases hb0
   | some w0=>exact ⟨w0,rfl⟩
  obtain ⟨r,hr'⟩:=zx9 hI k0 hx0 hw0
  rw [FP.ring_of hx0 hk0 (by omega) hb0 hnotk hnotx hr'] at kk
  obtain ⟨dx,l,sm,as,lsm,ha,hB,hM⟩:=hS.ex
  refine ⟨_,(za1 (yq4 (i:=1) (own:=[("x",2)]) rfl nd rfl rfl (xa3 rfl rfl rfl rfl) (zl8 rfl g_range (za0 (pe_at (pv 0)) za3)) (zt0 (by show blkOkB yu2 (defScope zr1) _ _=true;decide +kernel)) (fun _ _ _ _ _=>(zc3 (i:=2) nd rfl (Or.inl rfl))) (fun _ _ _ _ _=>zy9) (fun _ _ _ _ _=>(zb7 (za0 (zb6 c_no_bounds_sums (za0 (yy3 (K:=K) (pv 0)) (za0 (pv 2) za3)) hr) za3)))) (za4 (yq3 PassesOwn.never (zd0 pe_bl (fun _=>rfl)) (za4 (zj3 PassesOwn.never rfl (zl8 rfl g_range (za0 (pe_at (pv 0)) za3)) (zc3 (i:=2) nd rfl (Or.inl rfl)) (za1 (zb8 (i:=3) nd rfl (Or.inl rfl) (zb3 zb0 (pv 1) (pv 2))) (za1 (zl7 (pe_bm PySem.F.plainAttrs_list PySem.F.slot_list_append PySem.F.type_list_append zs4 (pv 3) (za0 (zb6 c_one_bound_more (za0 (pe_at (pv 0)) (za0 (zb3 zb0 (pv 3) (pe_un ye1 za9)) za3)) hr) za3))) (za1 (zb8 (i:=4) nd rfl (Or.inl rfl) (zb3 zb0 (zb3 zb0 (pv 3) (pe_un ye1 za9)) (pv 2))) (za4 (ps_if ((pw_and (zb2 zp4 (pv 4) zg0 (nomark _)) (pw_and1 (zb2 op_lt (pv 4) za9 (nomark _))))).pt (za4 (za6 (zb6 c_least_numbers (za0 (pe_at (pv 0)) (za0 (pv 3) (za0 (pv 2) za3))) hr))) zb1)))))))))),?_⟩
  refine ⟨_,rfl,a,CS,dx,_,_,rfl,ha,T.cl,T.nS,yc5 n l sm,(n:Int),rfl,by omega,by omega,fun D hD=>yq7 (fun i H'=>∃ ws,Same H H'∧LtAt H H' D ws bs n i (fun _=>0)) ?_ ?_ ?_⟩
  ·exact ⟨[],Same.laid hD,za2,rfl,List.nodup_nil,fun i a hi=>by simp at hi,fun i a hi=>by simp at hi,fun i a hi=>by simp at hi⟩
  ·rintro i H2 hi ⟨ws,s2,hL⟩
   rw [Int.toNat_natCast] at hi
   refine ⟨rfl,yh1 ?_⟩
   refine iteT ⟨_,rfl,a,CS,dx,_,_,rfl,s2 _ _ ha,T.cl,T.nS,yc5 n l sm,_,rfl,n,i,by rw [Int.zero_add];rfl,hi,by omega,fun H3 p s3 hp0 hp=>?_⟩
   refine ⟨(sz1),fun v hv=>?_⟩
   have hL3:=hL.same s3
   have hpv:p≠v:=zb9 hp hv
   have hDv:D≠v:=zb9 hL3.lst hv
   refine ⟨_,by rw [zb5 hDv];exact hL3.lst,?_,ws++[v],?_,?_⟩
   ·rw [List.length_map,hL.len]
    exact small1000 (by omega)
   ·exact ((s2.trans s3).trans (Same.laid hv)).over hD
   have hno:∀ (j:Nat) (c:Addr),ws[j]?=some c→c≠v:=fun j c hc e=>by
    obtain ⟨ls,h1⟩:=hL3.at_ j c hc
    rw [e,] at h1
    have:=h1.lst
    rw [hv] at this
    cases this
   refine ⟨by rw [za2,List.map_append];rfl,by rw [List.length_append,hL.len];rfl,?_,?_,?_,?_⟩
   ·refine ym1 hL.nd fun q=>?_
    obtain ⟨j,hj⟩:=List.getElem?_of_mem q
    exact hno j v hj rfl
   ·intro j c hc
    rcases FP.zk2 hc with hc | ⟨_,rfl⟩
    ·exact hL.nv j c hc
    ·exact Ne.symm hDv
   ·intro j c hc
    have hDlst:(L2.upd H3 v (.lst [V.ref p])) D=some (.lst (ws.map V.ref)):=by rw [zb5 hDv];exact hL3.lst
    rcases FP.zk2 hc with hc | ⟨rfl,rfl⟩
    ·obtain ⟨ls,h1⟩:=hL3.at_ j c hc
     have hws:ws≠[]:=fun e=>by rw [e] at hc;simp at hc
     exact ⟨ls,(h1.same (Same.laid hv)).upd hDlst hws (hL.nv j c hc)⟩
    ·refine ⟨[p],⟨by rw [zb5 (Ne.symm hDv),za2];rfl,rfl,fun k t ht=>?_⟩⟩
     match k,ht with
     | 0,ht =>
      cases ht
      have hDp:D≠p:=fun e=>by rw [← e,hL.lst] at hp0;cases hp0
      rw [hL.len]
      exact ⟨p,rfl,by rw [zb5 (Ne.symm hDp),zb5 hpv];exact hp⟩
     | k + 1,ht=>simp [lvls] at ht
   ·intro j c hc
    rcases FP.zk2 hc with hc | ⟨_,rfl⟩
    ·exact hL.fr j c hc
    ·exact (s2.trans s3).free hv
  rintro H1 ⟨ws,s1,hL1⟩
  rw [Int.toNat_natCast] at hL1
  refine ⟨fun m σ H'=>∃ (k:Nat) (v2 v3 v4:Option V),k + 1 + m=k0∧σ=[some (.ref a),some (.ref D),v2,v3,v4]∧Same H H'∧LtAt H H' D ws bs n n (fun _=>k),⟨k0 - 1,0,none,none,none,by omega,rfl,s1,hL1⟩,?_⟩
  rintro m σ H2 ⟨k,v2,v3,v4,hkm,rfl,s2,hL2⟩
  refine ⟨_,rfl,?_⟩
  refine iteT ⟨fun σ' H'=>∃ m',m' < m∧∃ (k:Nat) (v2 v3 v4:Option V),k + 1 + m'=k0∧σ'=[some (.ref a),some (.ref D),v2,v3,v4]∧Same H H'∧LtAt H H' D ws bs n n (fun _=>k),fun _ _ q=>q,?_⟩
  refine ⟨_,rfl,a,CS,dx,_,_,rfl,s2 _ _ ha,T.cl,T.nS,yc5 n l sm,(n:Int),rfl,by omega,by omega,zx6 (fun i σ' H'=>∃ (v2 v3 v4:Option V),σ'=[some (.ref a),some (.ref D),v2,v3,v4]∧Same H H'∧LtAt H H' D ws bs n n (fun x=>if x < i then k + 1 else k)∧∀ z,z < i→below (at_ (FP.ups bs n (k + 1) (Vbqzab.only n z)) z)=false)
   ⟨v2,v3,v4,rfl,s2,hL2.congr (fun x _=>by simp),fun z hz=>by omega⟩ ?_ ?_⟩
  ·rintro i σ' H3 hi ⟨u2,u3,u4,rfl,s3,hL3,hno⟩
   rw [Int.toNat_natCast] at hi
   rw [Int.zero_add]
   obtain ⟨v,hv⟩:=FP.zc2 (l:=ws) (i:=i) (by rw [hL3.len];exact hi)
   obtain ⟨lv,hT⟩:=hL3.at_ i v hv
   rw [if_neg (Nat.lt_irrefl i)] at hT
   have hB3:=hB.same s3
   obtain ⟨c,hc1,hc2⟩:=hT.at_ k _ (yq6 (Nat.le_refl k))
   have lenv:(lv.map V.ref).length=k + 1:=by rw [List.length_map,hT.len,zz4]
   refine ⟨_,rfl,_,rfl,D,_,_,_,rfl,rfl,SqL.of hL3.lst,za8 (zc8 hv),?_⟩
   refine ⟨_,rfl,.inl ⟨rfl,_,SqL.of hT.lst⟩,_,rfl,a,CS,dx,_,_,rfl,s3 _ _ ha,T.cl,T.nB,yc6 n l sm,_,rfl,_,rfl,v,_,_,_,rfl,rfl,SqL.of hT.lst,xe5 lenv (zc8 hc1),
    l,c,as,bs,_,n,rfl,hB3,hI,SqL.of hc2,zq4 bs n i k,by omega,fun H4 p s4 hp0 hp=>?_⟩
   have hT4:=hT.same s4
   refine ⟨v,_,_,rfl,rfl,hT4.lst,by rw [lenv];exact small1000 (by omega),?_⟩
   have hpv:p≠v:=fun e=>by rw [e,hT.lst] at hp0;cases hp0
   have hv0:H v=none:=hL3.fr i v hv
   have hms:lv≠[]:=tsAt_ne hT
   have hnov:∀ (j:Nat) (c:Addr),lv[j]?=some c→c≠v:=fun j c' hc'=>by
    obtain ⟨t,ht⟩:=FP.zc2 (l:=lvls bs n i k) (i:=j) (by rw [← hT.len];exact (List.getElem?_eq_some_iff.mp hc').1)
    obtain ⟨c2,h1,h2⟩:=hT.at_ j t ht
    rw [hc'] at h1
    cases h1
    exact ne_of h2 hT.lst (fun e=>ovs_ne hms (HO.lst.inj e))
   have hT5:=hT.snoc s4 hT4.lst hp hpv hnov
   rw [← FP.yc4,← lvls_succ] at hT5
   have s5:Same H (L2.upd H4 v (.lst (lv.map V.ref++[V.ref p]))):=(s3.trans s4).over hv0
   have hL5:LtAt H (L2.upd H4 v (.lst (lv.map V.ref++[V.ref p]))) D ws bs n n (fun x=>if x < i + 1 then k + 1 else k):=by
    have hL4:=hL3.same s4
    refine ⟨by rw [zb5 (Ne.symm (hL3.nv i v hv))];exact hL4.lst,hL3.len,hL3.nd,hL3.nv,fun x c' hc'=>?_,hL3.fr⟩
    by_cases e:x=i
    ·subst e
     have e2:c'=v:=Option.some.inj (hc'.symm.trans hv)
     subst e2
     exact ⟨lv++[p],by rw [if_pos (Nat.lt_succ_self x)];exact hT5⟩
    ·obtain ⟨ls',h1⟩:=hL4.at_ x c' hc'
     refine ⟨ls',?_⟩
     have e3:(if x < i + 1 then k + 1 else k)=if x < i then k + 1 else k:=by
      by_cases q:x < i
      ·rw [if_pos q,if_pos (by omega)]
      ·rw [if_neg q,if_neg (by omega)]
     rw [e3]
     exact h1.upd hT4.lst hms (fun q=>e (nd_ix hL3.nd hc' (by rw [q];exact hv)))
   have hp5:(L2.upd H4 v (.lst (lv.map V.ref++[V.ref p]))) p=some (.lst (ovs (FP.ups bs n (k + 1) (Vbqzab.only n i)))):=by
    rw [zb5 hpv,FP.yc4]
    exact hp
   have nxt:below (at_ (FP.ups bs n (k + 1) (Vbqzab.only n i)) i)=false→∀ z,z < i + 1→below (at_ (FP.ups bs n (k + 1) (Vbqzab.only n z)) z)=false:=by
    intro h z hz
    by_cases e:z=i
    ·rw [e];exact h
    ·exact hno z (by omega)
   refine ⟨_,rfl,_,rfl,v,_,_,_,rfl,rfl,SqL.of za2,atI_last _ _,_,rfl,p,_,_,_,rfl,rfl,SqL.of hp5,za8 (zh4 (by rw [zq4];exact hi)),?_⟩
   cases q:at_ (FP.ups bs n (k + 1) (Vbqzab.only n i)) i with
   | none =>
    rw [q] at nxt
    refine ⟨_,rfl,rfl,_,rfl,iteF (iteF ⟨_,_,_,rfl,s5,hL5,nxt rfl⟩)⟩
   | some z =>
    rw [q] at nxt
    refine ⟨_,rfl,rfl,_,rfl,iteT ⟨_,rfl,_,_,rfl,rfl,_,rfl,iteD (fun hz=>?_) (fun hz=>⟨_,_,_,rfl,s5,hL5,nxt (decide_eq_false hz)⟩)⟩⟩
    have hbel:below (at_ (FP.ups bs n (k + 1) (Vbqzab.only n i)) i)=true:=by
     rw [q]
     exact decide_eq_true hz
    have ek:k + 1=k0:=by
     apply Classical.byContradiction
     intro hne
     have:=hnotk (k + 1) i (by omega) (by omega) hi
     rw [hbel] at this
     cases this
    have ei:i=x0:=by
     apply Classical.byContradiction
     intro hne
     rcases Nat.lt_or_gt_of_ne hne with h1 | h1
     ·have:=hnotx i h1
      rw [← ek,hbel] at this
      cases this
     ·have:=hno x0 h1
      rw [ek,hb0] at this
      cases this
    subst ei
    subst ek
    refine ⟨_,rfl,a,CS,dx,_,_,rfl,s5 _ _ ha,T.cl,T.nB,yc6 n l sm,_,rfl,_,rfl,l,v,as,lv++[p],bs,n,i,i,k + 1,r,rfl,hB.same s5,hI,by omega,by omega,hi,hT5,hr',fun H6 q6 s6 hq0 hq6=>?_⟩
    exact kk H6 q6 (s5.trans s6) (s5.free hq0) hq6
  ·rintro σ' H3 ⟨u2,u3,u4,rfl,s3,hL3,hno⟩
   rw [Int.toNat_natCast] at hL3 hno
   have hlt:k + 1≠k0:=fun e=>by
    have:=hno x0 hx0
    rw [e,hb0] at this
    cases this
   refine ⟨m - 1,by omega,k + 1,u2,u3,u4,by omega,rfl,s3,hL3.congr (fun x hx=>by rw [if_pos hx])⟩
end
end FPP
namespace FPP
open PySem PySem.Spec PyProof.Rows L2
open Vbqzab (Bound Table at_ State Box Wire Evidence)
structure ObsAt {α:Type} (R:Hp→Addr→α→Prop) (H:Hp) (l:Addr) (as:List Addr) (xs:List α):Prop where
 lst:H l=some (.lst (as.map V.ref))
 len:as.length=xs.length
 at_:∀ (i:Nat) (x:α),xs[i]?=some x→∃ a,as[i]?=some a∧R H a x
theorem ObsAt.item {α:Type} {R:Hp→Addr→α→Prop} {H:Hp} {l:Addr} {as:List Addr} {xs:List α} (h:ObsAt R H l as xs) {i:Nat} {y:V} (hy:(as.map V.ref)[i]?=some y):∃ a x,y=V.ref a∧xs[i]?=some x∧R H a x:=by
 rw [List.getElem?_map] at hy
 cases e:as[i]? with
 | none=>rw [e] at hy;cases hy
 | some a =>
  rw [e] at hy
  cases hy
  obtain ⟨x,hx⟩:=FP.zc2 (l:=xs) (i:=i) (by rw [← h.len];exact (List.getElem?_eq_some_iff.mp e).1)
  obtain ⟨a',h1,h2⟩:=h.at_ i x hx
  rw [e] at h1
  cases h1
  exact ⟨a,x,rfl,hx,h2⟩
def bxfs (b:Box) (wk:Bool):List (Str×V):=putF "woken" (.bl wk) (putF "team" (.int b.team) (putF "grain" (.int b.grain) (putF "fast" (.int b.fast) (putF "slow" (.int b.slow) []))))
def evfs (e:Vbqzab.Event):List (Str×V):=putF "kind" (.int e.kind) (putF "stamp" (.int e.stamp) (putF "box" (.int e.box) []))
def wifs (v:Wire):List (Str×V):=putF "greatest" (ov (v.most.map fun (n:Nat)=>(n:Int))) (putF "least" (.int v.least) [])
def hrfs (m y:Nat):List (Str×V):=putF "event" (.int y) (putF "message" (.int m) [])
def lifs (x y:Nat) (lo hi:Int):List (Str×V):=putF "most" (.int hi) (putF "least" (.int lo) (putF "end" (.int y) (putF "start" (.int x) [])))
def rcfs (lb le lm lv dw:Addr):List (Str×V):=putF "wires" (.ref dw) (putF "evidence" (.ref lv) (putF "messages" (.ref lm) (putF "events" (.ref le) (putF "boxes" (.ref lb) []))))
structure Clss where
 box:Addr
 event:Addr
 wire:Addr
 hearing:Addr
 limit:Addr
 record:Addr
 bound:Addr
 survey:Addr
 call:Addr
def BoxAt (C:Clss) (wk:Bool) (H:Hp) (a:Addr) (b:Box):Prop:=∃ dx,H a=some (.ins C.box dx (bxfs b wk))
def EvtAt (C:Clss) (H:Hp) (a:Addr) (e:Vbqzab.Event):Prop:=∃ dx,H a=some (.ins C.event dx (evfs e))
def WirAt (C:Clss) (H:Hp) (a:Addr) (v:Wire):Prop:=∃ dx,H a=some (.ins C.wire dx (wifs v))
def EvdAt (C:Clss) (H:Hp) (a:Addr):Evidence→Prop
 | .hearing m y=>∃ dx,H a=some (.ins C.hearing dx (hrfs m y))
 | .limit x y lo hi=>∃ dx,H a=some (.ins C.limit dx (lifs x y lo hi))
def wkey (i j:Nat):List Key:=[.inl i,.inl j]
structure WirsAt (C:Clss) (H:Hp) (d:Addr) (kvs:List (List Key×V)) (s:State):Prop where
 dict:H d=some (.dT kvs)
 none_:∀ i j,Vbqzab.wireOf s i j=none→valV kvs (wkey i j)=none
 some_:∀ i j v,Vbqzab.wireOf s i j=some v→∃ a,valV kvs (wkey i j)=some (V.ref a)∧WirAt C H a v
 nd:(kvs.map (·.1)).Nodup
 rg:∀ k∈kvs.map (·.1),∃ i j,i < 8∧j < 8∧k=wkey i j
structure RecAt (C:Clss) (H:Hp) (p:Addr) (s:State):Prop where
 ex:∃ (dx lb le lm lv dw:Addr) (ab ae av:List Addr) (kvs:List (List Key×V)),H p=some (.ins C.record dx (rcfs lb le lm lv dw))∧H lm=some (.lst (nvs s.sent)) ∧
  ObsAt (fun H a (b:Box×Bool)=>BoxAt C b.2 H a b.1) H lb ab (s.boxes.zipIdx.map fun t=>(t.1,Vbqzab.isOld s t.2))∧ObsAt (EvtAt C) H le ae s.events∧ObsAt (EvdAt C) H lv av s.evidence∧WirsAt C H dw kvs s
structure ClssOk (K:PySem.W.Frag) (C:Clss):Prop where
 box:Cls K C.box
 event:Cls K C.event
 wire:Cls K C.wire
 hearing:Cls K C.hearing
 limit:Cls K C.limit
 record:Cls K C.record
 bSlow:NoAttr K C.box "slow"
 bFast:NoAttr K C.box "fast"
 bGrain:NoAttr K C.box "grain"
 bTeam:NoAttr K C.box "team"
 bWoken:NoAttr K C.box "woken"
 eBox:NoAttr K C.event "box"
 eStamp:NoAttr K C.event "stamp"
 eKind:NoAttr K C.event "kind"
 wLeast:NoAttr K C.wire "least"
 wGreatest:NoAttr K C.wire "greatest"
 hMessage:NoAttr K C.hearing "message"
 hEvent:NoAttr K C.hearing "event"
 lStart:NoAttr K C.limit "start"
 lEnd:NoAttr K C.limit "end"
 lLeast:NoAttr K C.limit "least"
 lMost:NoAttr K C.limit "most"
 rBoxes:NoAttr K C.record "boxes"
 rEvents:NoAttr K C.record "events"
 rMessages:NoAttr K C.record "messages"
 rEvidence:NoAttr K C.record "evidence"
 rWires:NoAttr K C.record "wires"
 bound:BCls K C.bound
 survey:SCls K C.survey
theorem EvdAt.same {C:Clss} {H H':Hp} {a:Addr} {v:Evidence} (h:EvdAt C H a v) (s:Same H H'):EvdAt C H' a v:=by
 cases v with
 | hearing m y =>
  obtain ⟨dx,h⟩:=h
  exact ⟨dx,s _ _ h⟩
 | limit x y lo hi =>
  obtain ⟨dx,h⟩:=h
  exact ⟨dx,s _ _ h⟩
theorem ObsAt.same {α:Type} {R:Hp→Addr→α→Prop} {H H':Hp} {l:Addr} {as:List Addr} {xs:List α} (h:ObsAt R H l as xs) (s:Same H H') (hR:∀ a x,R H a x→R H' a x):ObsAt R H' l as xs :=
 ⟨s _ _ h.lst,h.len,fun i x hx=>by
  obtain ⟨a,h1,h2⟩:=h.at_ i x hx
  exact ⟨a,h1,hR _ _ h2⟩⟩
theorem WirsAt.same {C:Clss} {H H':Hp} {d:Addr} {kvs:List (List Key×V)} {t:State} (h:WirsAt C H d kvs t) (s:Same H H'):WirsAt C H' d kvs t :=
 ⟨s _ _ h.dict,h.none_,fun i j v e=>by
  obtain ⟨a,h1,dx,h2⟩:=h.some_ i j v e
  exact ⟨a,h1,dx,s _ _ h2⟩,h.nd,h.rg⟩
theorem RecAt.same {C:Clss} {H H':Hp} {p:Addr} {t:State} (h:RecAt C H p t) (s:Same H H'):RecAt C H' p t:=by
 obtain ⟨dx,lb,le,lm,lv,dw,ab,ae,av,kvs,h1,h2,h3,h4,h5,h6⟩:=h.ex
 refine ⟨dx,lb,le,lm,lv,dw,ab,ae,av,kvs,s _ _ h1,s _ _ h2,h3.same s ?_,h4.same s ?_,h5.same s ?_,h6.same s⟩
 ·rintro a x ⟨d,h⟩
  exact ⟨d,s _ _ h⟩
 ·rintro a x ⟨d,h⟩
  exact ⟨d,s _ _ h⟩
 ·exact fun a x h=>h.same s
theorem zj6 {s:State} {i:Nat} {b:Box} (h:s.boxes[i]?=some b):(s.boxes.zipIdx.map fun t=>(t.1,Vbqzab.isOld s t.2))[i]?=some (b,Vbqzab.isOld s i):=by
 rw [List.getElem?_map,List.getElem?_zipIdx,h]
 show some _=_
 rw [Nat.zero_add]
section
theorem zf1 (a b c d e:Addr):(rcfs a b c d e).lookup ("boxes" : Str)=some (.ref a):=by
 unfold rcfs
 rw [za5,if_neg (by decide +kernel),za5,if_neg (by decide +kernel),za5,if_neg (by decide +kernel),za5,if_neg (by decide +kernel),za5,if_pos rfl]
theorem zd3 (a b c d e:Addr):(rcfs a b c d e).lookup ("events" : Str)=some (.ref b):=by
 unfold rcfs
 rw [za5,if_neg (by decide +kernel),za5,if_neg (by decide +kernel),za5,if_neg (by decide +kernel),za5,if_pos rfl]
theorem zk5 (a b c d e:Addr):(rcfs a b c d e).lookup ("messages" : Str)=some (.ref c):=by
 unfold rcfs
 rw [za5,if_neg (by decide +kernel),za5,if_neg (by decide +kernel),za5,if_pos rfl]
theorem zc7 (a b c d e:Addr):(rcfs a b c d e).lookup ("evidence" : Str)=some (.ref d):=by
 unfold rcfs
 rw [za5,if_neg (by decide +kernel),za5,if_pos rfl]
theorem zy8 (a b c d e:Addr):(rcfs a b c d e).lookup ("wires" : Str)=some (.ref e):=by
 unfold rcfs
 rw [za5,if_pos rfl]
theorem rc_no {a b c d e:Addr} {x:Str} (h1:¬ x = "boxes" := by decide +kernel) (h2:¬ x = "events" := by decide +kernel) (h3:¬ x = "messages" := by decide +kernel) (h4:¬ x = "evidence" := by decide +kernel) (h5:¬ x = "wires" := by decide +kernel):(rcfs a b c d e).lookup x=none:=by
 unfold rcfs
 rw [za5,if_neg h5,za5,if_neg h4,za5,if_neg h3,za5,if_neg h2,za5,if_neg h1]
 rfl
theorem yz6 (e:Vbqzab.Event):(evfs e).lookup ("box" : Str)=some (.int e.box):=by
 unfold evfs
 rw [za5,if_neg (by decide +kernel),za5,if_neg (by decide +kernel),za5,if_pos rfl]
theorem yr1 (e:Vbqzab.Event):(evfs e).lookup ("stamp" : Str)=some (.int e.stamp):=by
 unfold evfs
 rw [za5,if_neg (by decide +kernel),za5,if_pos rfl]
theorem yg9 (b:Box) (k:Bool):(bxfs b k).lookup ("team" : Str)=some (.int b.team):=by
 unfold bxfs
 rw [za5,if_neg (by decide +kernel),za5,if_pos rfl]
theorem yr2 (b:Box) (k:Bool):(bxfs b k).lookup ("grain" : Str)=some (.int b.grain):=by
 unfold bxfs
 rw [za5,if_neg (by decide +kernel),za5,if_neg (by decide +kernel),za5,if_pos rfl]
theorem bx_fast (b:Box) (k:Bool):(bxfs b k).lookup ("fast" : Str)=some (.int b.fast):=by
 unfold bxfs
 rw [za5,if_neg (by decide +kernel),za5,if_neg (by decide +kernel),za5,if_neg (by decide +kernel),za5,if_pos rfl]
theorem bx_slow (b:Box) (k:Bool):(bxfs b k).lookup ("slow" : Str)=some (.int b.slow):=by
 unfold bxfs
 rw [za5,if_neg (by decide +kernel),za5,if_neg (by decide +kernel),za5,if_neg (by decide +kernel),za5,if_neg (by decide +kernel),za5,if_pos rfl]
theorem wi_least (v:Wire):(wifs v).lookup ("least" : Str)=some (.int v.least):=by
 unfold wifs
 rw [za5,if_neg (by decide +kernel),za5,if_pos rfl]
theorem yr5 (v:Wire):(wifs v).lookup ("greatest" : Str)=some (ov (v.most.map fun (n:Nat)=>(n:Int))):=by
 unfold wifs
 rw [za5,if_pos rfl]
end
section
variable {P:Program} {w:World} {K:PySem.W.Frag} {mg:Str→Option Value} {base:Heap}
abbrev zp1:Stmt:=inClass (top 28) 4
abbrev yp5:List Str:=["self", "x"]
abbrev zd1:List Str:=["self", "x"]
theorem zv8:FnScope yp5 zd1 (defScope zp1):=⟨rfl,rfl,rfl,by decide +kernel,rfl,by decide +kernel,by decide +kernel⟩
def spTeamOf (C:Clss):Sp:=fun vs H Q _=>∃ (p:Addr) (s:State) (x:Nat),vs=[.ref p,.int x]∧RecAt C H p s∧FP.Wf s∧x < s.events.length∧Q (.int (Vbqzab.teamAt s x)) H
theorem ok_team_of {f:Addr} {fd:FuncData} {C:Clss} (F:Fun K "team_of" "Record.team_of" zp1 f fd) (T:ClssOk K C):FnOk P w K mg base CX0 1 f fd zd1 (spTeamOf C):=by
 refine F.ok zv8 (fun vs H Q E h=>?_) (fun cdv A outer s H vs Q E hr h=>?_)
 ·obtain ⟨p,t,x,rfl,_⟩:=h
  rfl
 ·obtain ⟨p,t,x,rfl,hR,hW,hx,k⟩:=h
  have nd:=zv8.nd
  obtain ⟨dx,lb,le,lm,lv,dw,ab,ae,av,kvs,h1,h2,h3,h4,h5,h6⟩:=hR.ex
  obtain ⟨e,he⟩:=FP.zc2 hx
  obtain ⟨a,ha1,de,ha2⟩:=h4.at_ x e he
  have hb:e.box < t.boxes.length:=(hW.ev e (List.mem_of_getElem? he)).1
  obtain ⟨b,hb'⟩:=FP.zc2 hb
  obtain ⟨c,hc1,db,hc2⟩:=h3.at_ e.box _ (zj6 hb')
  refine ⟨_,(za4 (za6 (pe_at (zb3 zb0 (pe_at (pv 0)) (pe_at (zb3 zb0 (pe_at (pv 0)) (pv 1))))))),?_⟩
  refine ⟨_,rfl,p,C.record,dx,_,_,rfl,h1,T.record,T.rBoxes,zf1 ..,_,rfl,p,C.record,dx,_,_,rfl,h1,T.record,T.rEvents,zd3 ..,_,rfl,le,_,_,_,rfl,rfl,SqL.of h4.lst,za8 (zc8 ha1),a,C.event,de,_,_,rfl,ha2,T.event,T.eBox,yz6 e,
   lb,_,_,_,rfl,rfl,SqL.of h3.lst,za8 (zc8 hc1),c,C.box,db,_,_,rfl,hc2,T.box,T.bTeam,yg9 _ _,?_⟩
  have e1:Vbqzab.teamAt t x=b.team:=by
   unfold Vbqzab.teamAt
   rw [FP.yl1 he,FP.zh0 hb']
  rw [← e1]
  exact k
end
end FPP
namespace FPP
open PySem PySem.Spec PyProof.Rows L2
open Vbqzab (Bound Table at_ State Box Wire Evidence)
theorem hr_message (m y:Nat):(hrfs m y).lookup ("message" : Str)=some (.int m):=by
 unfold hrfs
 rw [za5,if_neg (by decide +kernel),za5,if_pos rfl]
theorem hr_event (m y:Nat):(hrfs m y).lookup ("event" : Str)=some (.int y):=by
 unfold hrfs
 rw [za5,if_pos rfl]
theorem li_start (x y:Nat) (lo hi:Int):(lifs x y lo hi).lookup ("start" : Str)=some (.int x):=by
 unfold lifs
 rw [za5,if_neg (by decide +kernel),za5,if_neg (by decide +kernel),za5,if_neg (by decide +kernel),za5,if_pos rfl]
theorem li_end (x y:Nat) (lo hi:Int):(lifs x y lo hi).lookup ("end" : Str)=some (.int y):=by
 unfold lifs
 rw [za5,if_neg (by decide +kernel),za5,if_neg (by decide +kernel),za5,if_pos rfl]
theorem li_least (x y:Nat) (lo hi:Int):(lifs x y lo hi).lookup ("least" : Str)=some (.int lo):=by
 unfold lifs
 rw [za5,if_neg (by decide +kernel),za5,if_pos rfl]
theorem li_most (x y:Nat) (lo hi:Int):(lifs x y lo hi).lookup ("most" : Str)=some (.int hi):=by
 unfold lifs
 rw [za5,if_pos rfl]
theorem Same.new {H:Hp} {x dx:Addr} {o u:HO} (hx:H x=none) (hd:H dx=none):Same H (upd (upd H dx o) x u):=(Same.laid hd).over hx
def NewBs (C:Addr) (H:Hp) (bs:List Bound) (Q:VK):Prop:=∀ (H':Hp) (l:Addr) (as:List Addr),Same H H'→H l=none→BsAt C H' l as bs→Q (.ref l) H'
section
variable {P:Program} {w:World} {K:PySem.W.Frag} {mg:Str→Option Value} {base:Heap}
abbrev zu8:Stmt:=inClass (top 30) 0
abbrev n_Bound_init:List Str:=["self", "start", "end", "weight"]
abbrev zh9:List Str:=["self", "start", "end", "weight"]
theorem yi6:FnScope n_Bound_init zh9 (defScope zu8):=⟨rfl,rfl,rfl,by decide +kernel,rfl,by decide +kernel,by decide +kernel⟩
def spBoundInit (C:Addr):Sp:=fun vs H Q _=>∃ (p dx:Addr) (b:Bound),vs=[.ref p,.int b.src,.int b.dst,.int b.w]∧H p=some (.ins C dx [])∧Q .non (upd H p (.ins C dx (bfs b)))
theorem xc4 {f C:Addr} {fd:FuncData} (F:Fun K "__init__" "Bound.__init__" zu8 f fd) (T:BCls K C):FnOk P w K mg base CX0 1 f fd zh9 (spBoundInit C):=by
 refine F.ok yi6 (fun vs H Q E h=>?_) (fun cdv A outer s H vs Q E hr h=>?_)
 ·obtain ⟨p,dx,b,rfl,_⟩:=h
  rfl
 ·obtain ⟨p,dx,b,rfl,hp,k⟩:=h
  have nd:=yi6.nd
  refine ⟨_,(za1 (zd6 (pv 0) (pv 1) rfl) (za1 (zd6 (pv 0) (pv 2) rfl) (za4 (zd6 (pv 0) (pv 3) rfl)))),?_⟩
  refine ⟨_,rfl,_,rfl,p,C,dx,_,rfl,hp,T.cl,T.nS,(by show 0 < 1000;decide),_,rfl,_,rfl,p,C,dx,_,rfl,za2,T.cl,T.nE,(by show 1 < 1000;decide),_,rfl,_,rfl,p,C,dx,_,rfl,za2,T.cl,T.nW,(by show 2 < 1000;decide),?_⟩
  rw [zc6,zc6]
  exact k
theorem bs_one {C:Addr} {H:Hp} {l a:Addr} {b:Bound} (ha:BndAt C H a b) (hl:H l=none):BsAt C (upd H l (.lst [V.ref a])) l [a] [b]:=by
 refine ⟨za2,rfl,fun i c hc=>?_⟩
 match i,hc with
 | 0,hc =>
  cases hc
  exact ⟨a,rfl,ha.same (Same.laid hl)⟩
 | i + 1,hc=>simp at hc
theorem bs_two {C:Addr} {H:Hp} {l a a':Addr} {b b':Bound} (ha:BndAt C H a b) (ha':BndAt C H a' b') (hl:H l=none):BsAt C (upd H l (.lst [V.ref a,V.ref a'])) l [a,a'] [b,b']:=by
 refine ⟨za2,rfl,fun i c hc=>?_⟩
 match i,hc with
 | 0,hc =>
  cases hc
  exact ⟨a,rfl,ha.same (Same.laid hl)⟩
 | 1,hc =>
  cases hc
  exact ⟨a',rfl,ha'.same (Same.laid hl)⟩
 | i + 2,hc=>simp at hc
abbrev zh6:Stmt:=inClass (top 28) 5
abbrev yb6:List Str:=["self", "x", "y"]
abbrev zf2:List Str:=["self", "x", "y"]
theorem zm8:FnScope yb6 zf2 (defScope zh6):=⟨rfl,rfl,rfl,by decide +kernel,rfl,by decide +kernel,by decide +kernel⟩
def spWireBetween (C:Clss):Sp:=fun vs H Q _=>∃ (p:Addr) (s:State) (x y:Nat) (v:Wire),vs=[.ref p,.int x,.int y]∧RecAt C H p s∧FP.Wf s∧x < s.events.length∧y < s.events.length ∧
 Vbqzab.wireOf s (Vbqzab.teamAt s x) (Vbqzab.teamAt s y)=some v∧∀ H' a,Same H H'→WirAt C H' a v→Q (.ref a) H'
theorem yt6 {f:Addr} {fd:FuncData} {C:Clss} (F:Fun K "wire_between" "Record.wire_between" zh6 f fd) (T:ClssOk K C) (mt_team_of:MethOk P w K mg base C.record "team_of" 1 zd1 (spTeamOf C)):FnOk P w K mg base CX0 2 f fd zf2 (spWireBetween C):=by
 refine F.ok zm8 (fun vs H Q E h=>?_) (fun cdv A outer s H vs Q E hr h=>?_)
 ·obtain ⟨p,t,x,y,v,rfl,_⟩:=h
  rfl
 ·obtain ⟨p,t,x,y,v,rfl,hR,hW,hx,hy,e,k⟩:=h
  have nd:=zm8.nd
  obtain ⟨dx,lb,le,lm,lv,dw,ab,ae,av,kvs,h1,h2,h3,h4,h5,h6⟩:=hR.ex
  have hno:∀ m:Str,m = "team_of" → (rcfs lb le lm lv dw).lookup m=none:=by
   rintro m rfl
   exact rc_no
  obtain ⟨a,ha1,dv,ha2⟩:=h6.some_ _ _ v e
  refine ⟨_,(za4 (za6 (pe_dget (hu_of hr) (pe_at (pv 0)) (pe_tup (za0 (zd4 mt_team_of (pv 0) (za0 (pv 1) za3) hr) (za0 (zd4 mt_team_of (pv 0) (za0 (pv 2) za3) hr) za3))) (fun _ _=>rfl)))),?_⟩
  refine ⟨_,rfl,p,C.record,dx,_,_,rfl,h1,T.record,T.rWires,zy8 ..,_,rfl,p,dx,_,rfl,h1,hno _ rfl,_,rfl,p,t,x,rfl,hR,hW,hx,_,rfl,p,dx,_,rfl,h1,hno _ rfl,_,rfl,p,t,y,rfl,hR,hW,hy,
   (sz2),fun q hq=>?_⟩
  have s1:Same H (upd H q (.tup [V.int (Vbqzab.teamAt t x),V.int (Vbqzab.teamAt t y)])):=Same.laid hq
  refine ⟨dw,V.ref a,rfl,?_,k _ a s1 ⟨dv,s1 _ _ ha2⟩⟩
  have g:=DGet.t (k:=wkey (Vbqzab.teamAt t x) (Vbqzab.teamAt t y)) (s1 _ _ h6.dict) za2
  rw [ha1] at g
  exact g
abbrev zj9:Stmt:=top 35
abbrev yp4:List Str:=["record", "hearing", "x", "y", "wire", "back"]
abbrev zg8:List Str:=["record", "hearing"]
theorem zv6:FnScope yp4 zg8 (defScope zj9):=⟨rfl,rfl,rfl,by decide +kernel,rfl,by decide +kernel,by decide +kernel⟩
def spHearingBounds (C:Clss):Sp:=fun vs H Q _=>∃ (p a:Addr) (s:State) (m y:Nat),vs=[.ref p,.ref a]∧RecAt C H p s∧FP.Wf s∧EvdAt C H a (.hearing m y)∧FP.EvOk s (.hearing m y)∧NewBs C.bound H (Vbqzab.boundsOf s (.hearing m y)) Q
theorem nvs_get {l:List Nat} {i:Nat} (h:i < l.length):(nvs l)[i]?=some (V.int ((l.getD i 0:Nat):Int)):=by
 unfold nvs
 rw [List.getElem?_map,List.getD_eq_getElem?_getD,List.getElem?_eq_getElem h]
 rfl
theorem ym0 {f:Addr} {fd:FuncData} {C:Clss} (F:Fun K "hearing_bounds" "hearing_bounds" zj9 f fd) (T:ClssOk K C) (mt_wire_between:MethOk P w K mg base C.record "wire_between" 2 zf2 (spWireBetween C)) (m_Bound:MakeOk P w K mg base "Bound" C.bound 1 zh9 (spBoundInit C.bound)):FnOk P w K mg base CX0 3 f fd zg8 (spHearingBounds C):=by
 refine F.ok zv6 (fun vs H Q E h=>?_) (fun cdv A outer s H vs Q E hr h=>?_)
 ·obtain ⟨p,a,t,m,y,rfl,_⟩:=h
  rfl
 ·obtain ⟨p,a,t,m,y,rfl,hR,hW,⟨da,ha⟩,hE,k⟩:=h
  have nd:=zv6.nd
  obtain ⟨dx,lb,le,lm,lv,dw,ab,ae,av,kvs,h1,h2,h3,h4,h5,h6⟩:=hR.ex
  obtain ⟨e1,e2,e3,v,e4⟩:=hE
  have hx:t.sent.getD m 0 < t.events.length:=by
   obtain ⟨x,hx⟩:=FP.zc2 e1
   rw [List.getD_eq_getElem?_getD,hx]
   exact hW.ms x (List.mem_of_getElem? hx)
  refine ⟨_,(za1 (zb8 (i:=2) nd rfl (Or.inl rfl) (zb3 zb0 (pe_at (pv 0)) (pe_at (pv 1)))) (za1 (zb8 (i:=3) nd rfl (Or.inl rfl) (pe_at (pv 1))) (za1 (zb8 (i:=4) nd rfl (Or.inl rfl) (zd4 mt_wire_between (pv 0) (za0 (pv 2) (za0 (pv 3) za3)) hr)) (za1 (zb8 (i:=5) nd rfl (Or.inl rfl) (zh5 m_Bound (za0 (pv 3) (za0 (pv 2) (za0 (pe_un ye1 (pe_at (pv 4))) za3))) hr)) (za1 (ps_if (zb2 yy4 (pe_at (pv 4)) zg0 (nomark _)) (za4 (za6 (zb7 (za0 (pv 5) za3)))) zb1) (za4 (za6 (zb7 (za0 (zh5 m_Bound (za0 (pv 2) (za0 (pv 3) (za0 (pe_at (pv 4)) za3))) hr) (za0 (pv 5) za3)))))))))),?_⟩
  refine ⟨_,rfl,p,C.record,dx,_,_,rfl,h1,T.record,T.rMessages,zk5 ..,_,rfl,a,C.hearing,da,_,_,rfl,ha,T.hearing,T.hMessage,hr_message m y,lm,_,_,_,rfl,rfl,SqL.of h2,za8 (nvs_get e1),?_⟩
  refine ⟨_,rfl,a,C.hearing,da,_,_,rfl,ha,T.hearing,T.hEvent,hr_event m y,?_⟩
  refine ⟨_,rfl,p,dx,_,rfl,h1,rc_no,_,rfl,_,rfl,p,t,t.sent.getD m 0,y,v,rfl,hR,hW,hx,e2,e4,fun H1 b s1 hb=>?_⟩
  obtain ⟨db,hb⟩:=hb
  have eb:Vbqzab.boundsOf t (.hearing m y)=(match v.most with | none=>[] | some h=>[Bound.mk (t.sent.getD m 0) y (Vbqzab.whole h)])++[Bound.mk y (t.sent.getD m 0) (-(Vbqzab.whole v.least))]:=by
   show (match Vbqzab.wireOf t (Vbqzab.teamAt t (t.sent.getD m 0)) (Vbqzab.teamAt t y) with | none=>[] | some v=>_)=_
   rw [e4]
   rfl
  rw [eb] at k
  refine ⟨_,rfl,_,rfl,_,rfl,b,C.wire,db,_,_,rfl,hb,T.wire,T.wLeast,wi_least v,_,rfl,fun c dc hc0 hdc _=>⟨c,dc,Bound.mk y (t.sent.getD m 0) (-(Vbqzab.whole v.least)),rfl,za2,?_⟩⟩
  rw [zc6]
  obtain ⟨H2,hH2⟩:∃ H2,H2=upd (upd H1 dc (.own c)) c (.ins C.bound dc (bfs (Bound.mk y (t.sent.getD m 0) (-(Vbqzab.whole v.least))))):=⟨_,rfl⟩
  have s2:Same H1 H2:=by rw [hH2];exact Same.new hc0 hdc
  have hc:BndAt C.bound H2 c (Bound.mk y (t.sent.getD m 0) (-(Vbqzab.whole v.least))):=⟨dc,by rw [hH2];exact za2⟩
  rw [← hH2]
  refine ⟨rfl,_,rfl,b,C.wire,db,_,_,rfl,s2 _ _ hb,T.wire,T.wGreatest,yr5 v,rfl,_,rfl,?_⟩
  cases q:v.most with
  | none =>
   rw [q] at k
   refine iteT ⟨_,rfl,(sz1),fun l hl=>?_⟩
   exact k _ l [c] ((s1.trans s2).trans (Same.laid hl)) ((s1.trans s2).free hl) (bs_one hc hl)
  | some h =>
   rw [q] at k
   refine iteF ⟨_,rfl,_,rfl,_,rfl,b,C.wire,db,_,_,rfl,s2 _ _ hb,T.wire,T.wGreatest,yr5 v,fun d dd hd0 hdd _=>⟨d,dd,Bound.mk (t.sent.getD m 0) y (Vbqzab.whole h),by rw [q];rfl,za2,?_⟩⟩
   rw [zc6]
   obtain ⟨H3,hH3⟩:∃ H3,H3=upd (upd H2 dd (.own d)) d (.ins C.bound dd (bfs (Bound.mk (t.sent.getD m 0) y (Vbqzab.whole h)))):=⟨_,rfl⟩
   have s3:Same H2 H3:=by rw [hH3];exact Same.new hd0 hdd
   have hd:BndAt C.bound H3 d (Bound.mk (t.sent.getD m 0) y (Vbqzab.whole h)):=⟨dd,by rw [hH3];exact za2⟩
   rw [← hH3]
   refine ⟨rfl,_,rfl,(sz2),fun l hl=>?_⟩
   exact k _ l [d,c] (((s1.trans s2).trans s3).trans (Same.laid hl)) (((s1.trans s2).trans s3).free hl) (bs_two hd (hc.same s3) hl)
end
end FPP
namespace FPP
open PySem PySem.Spec PyProof.Rows L2
open Vbqzab (Bound Table at_ State Box Wire Evidence)
def pairB (s:State) (t:Nat×Nat):List Bound:=match s.boxes[Vbqzab.boxOf s t.1]? with
 | some b=>if Vbqzab.boxOf s t.1=Vbqzab.boxOf s t.2 then let w:=Vbqzab.byClock b (Vbqzab.stampOf s t.2 - Vbqzab.stampOf s t.1);[⟨t.1,t.2,w.1⟩,⟨t.2,t.1,w.2⟩] else if Vbqzab.teamAt s t.1=Vbqzab.teamAt s t.2 then [⟨t.2,t.1,0⟩] else []
 | none=>[]
theorem yv4 (s:State):Vbqzab.clockBounds s=(Vbqzab.pairs (Vbqzab.places s)).flatMap (pairB s):=rfl
theorem pairB_len (s:State) (t:Nat×Nat):(pairB s t).length≤2:=by
 unfold pairB
 split
 ·split
  ·exact Nat.le_refl 2
  ·split
   ·exact Nat.le_succ 1
   ·exact Nat.zero_le 2
 ·exact Nat.zero_le 2
theorem pairB_out {s:State} (hW:FP.Wf s) {x y:Nat} (hx:x < s.events.length) (hy:y < s.events.length) (h:¬ Vbqzab.teamAt s x=Vbqzab.teamAt s y):pairB s (x,y)=[]:=by
 unfold pairB
 split
 ·rw [if_neg (fun e=>h (by unfold Vbqzab.teamAt;rw [show Vbqzab.boxOf s x=Vbqzab.boxOf s y from e])),if_neg h]
 ·rfl
section
variable {P:Program} {w:World} {K:PySem.W.Frag} {mg:Str→Option Value} {base:Heap}
abbrev zp8:Stmt:=top 33
abbrev xd1:List Str:=["record", "x", "y", "earlier", "later", "box", "gone", "most", "least"]
abbrev zm1:List Str:=["record", "x", "y"]
theorem ye4:FnScope xd1 zm1 (defScope zp8):=⟨rfl,rfl,rfl,by decide +kernel,rfl,by decide +kernel,by decide +kernel⟩
def spPairBounds (C:Clss):Sp:=fun vs H Q _=>∃ (p:Addr) (s:State) (x y:Nat),vs=[.ref p,.int x,.int y]∧RecAt C H p s∧FP.Wf s∧x < y∧y < s.events.length∧Vbqzab.teamAt s x=Vbqzab.teamAt s y∧NewBs C.bound H (pairB s (x,y)) Q
theorem yw3 {f:Addr} {fd:FuncData} {C:Clss} (F:Fun K "pair_bounds" "pair_bounds" zp8 f fd) (T:ClssOk K C) (m_Bound:MakeOk P w K mg base "Bound" C.bound 1 zh9 (spBoundInit C.bound)) (g_max:mg "max" = none):FnOk P w K mg base CX0 3 f fd zm1 (spPairBounds C):=by
 refine F.ok ye4 (fun vs H Q E h=>?_) (fun cdv A outer s H vs Q E hr h=>?_)
 ·obtain ⟨p,t,x,y,rfl,_⟩:=h
  rfl
 ·obtain ⟨p,t,x,y,rfl,hR,hW,hxy,hy,hteam,k⟩:=h
  have nd:=ye4.nd
  obtain ⟨dx,lb,le,lm,lv,dw,ab,ae,av,kvs,h1,h2,h3,h4,h5,h6⟩:=hR.ex
  obtain ⟨ex,hex⟩:=FP.zc2 (show x < t.events.length by omega)
  obtain ⟨ey,hey⟩:=FP.zc2 hy
  obtain ⟨a,ha1,da,ha2⟩:=h4.at_ x ex hex
  obtain ⟨b,hb1,db,hb2⟩:=h4.at_ y ey hey
  obtain ⟨hbx,hsx,_⟩:=hW.ev ex (List.mem_of_getElem? hex)
  obtain ⟨hby,hsy,_⟩:=hW.ev ey (List.mem_of_getElem? hey)
  obtain ⟨bb,hbb⟩:=FP.zc2 hby
  obtain ⟨c,hc1,dc,hc2⟩:=h3.at_ ey.box _ (zj6 hbb)
  have hc2:H c=some (.ins C.box dc (bxfs bb (Vbqzab.isOld t ey.box))):=hc2
  obtain ⟨r1,r2,r3⟩:=hW.bx bb (List.mem_of_getElem? hbb)
  have eb1:=FP.yl1 hex
  have eb2:=FP.yl1 hey
  refine ⟨_,(za1 (zb8 (i:=3) nd rfl (Or.inl rfl) (zb3 zb0 (pe_at (pv 0)) (pv 1))) (za1 (zb8 (i:=4) nd rfl (Or.inl rfl) (zb3 zb0 (pe_at (pv 0)) (pv 2))) (za1 (ps_if (zb2 op_ne (pe_at (pv 3)) (pe_at (pv 4)) (nomark _)) (za4 (za6 (zb7 (za0 (zh5 m_Bound (za0 (pv 2) (za0 (pv 1) (za0 za9 za3))) hr) za3)))) zb1) (za1 (zb8 (i:=5) nd rfl (Or.inl rfl) (zb3 zb0 (pe_at (pv 0)) (pe_at (pv 4)))) (za1 (zb8 (i:=6) nd rfl (Or.inl rfl) (pe_op yt5 (pe_at (pv 4)) (pe_at (pv 3)))) (za1 (zb8 (i:=7) nd rfl (Or.inl rfl) (pe_op op_mul (pe_op zx2 (pv 6) (pe_at (pv 5))) (pe_at (pv 5)))) (za1 (zb8 (i:=8) nd rfl (Or.inl rfl) (pe_op op_mul (zc0 (call_max2 rfl) (by rfl) g_max boot_max (za0 (pe_op yt5 (pv 6) (pe_at (pv 5))) (za0 za9 za3))) (pe_at (pv 5)))) (za4 (za6 (zb7 (za0 (zh5 m_Bound (za0 (pv 1) (za0 (pv 2) (za0 (pv 7) za3))) hr) (za0 (zh5 m_Bound (za0 (pv 2) (za0 (pv 1) (za0 (pe_un ye1 (pv 8)) za3))) hr) za3)))))))))))),?_⟩
  refine ⟨_,rfl,p,C.record,dx,_,_,rfl,h1,T.record,T.rEvents,zd3 ..,_,rfl,le,_,_,_,rfl,rfl,SqL.of h4.lst,za8 (zc8 ha1),?_⟩
  refine ⟨_,rfl,p,C.record,dx,_,_,rfl,h1,T.record,T.rEvents,zd3 ..,_,rfl,le,_,_,_,rfl,rfl,SqL.of h4.lst,za8 (zc8 hb1),?_⟩
  refine ⟨_,rfl,a,C.event,da,_,_,rfl,ha2,T.event,T.eBox,yz6 ex,_,rfl,b,C.event,db,_,_,rfl,hb2,T.event,T.eBox,yz6 ey,rfl,_,rfl,iteND (fun hne=>?_) (fun heq=>?_)⟩
  ·have hne':¬ ex.box=ey.box:=fun e=>hne (by rw [e])
   have ek:pairB t (x,y)=[Bound.mk y x 0]:=by
    unfold pairB
    show (match t.boxes[Vbqzab.boxOf t x]? with | some b=>_ | none=>_)=_
    obtain ⟨bx,hbx'⟩:=FP.zc2 hbx
    rw [eb1,hbx']
    show (if ex.box=Vbqzab.boxOf t y then _ else _)=_
    rw [eb2,if_neg hne',if_pos hteam]
   rw [ek] at k
   refine ⟨_,rfl,_,rfl,fun d dd hd0 hdd _=>⟨d,dd,Bound.mk y x 0,rfl,za2,?_⟩⟩
   rw [zc6]
   obtain ⟨H3,hH3⟩:∃ H3,H3=upd (upd H dd (.own d)) d (.ins C.bound dd (bfs (Bound.mk y x 0))):=⟨_,rfl⟩
   have s3:Same H H3:=by rw [hH3];exact Same.new hd0 hdd
   have hd:BndAt C.bound H3 d (Bound.mk y x 0):=⟨dd,by rw [hH3];exact za2⟩
   rw [← hH3]
   refine ⟨rfl,(sz1),fun l hl=>?_⟩
   exact k _ l [d] (s3.trans (Same.laid hl)) (s3.free hl) (bs_one hd hl)
  ·have heq':ex.box=ey.box:=by
    have q':((ex.box:Nat):Int)=(ey.box:Int):=V.int.inj heq
    omega
   have hst:ex.stamp≤ey.stamp:=hW.st x y ex ey hxy hex hey heq'
   have ek:pairB t (x,y)=[Bound.mk x y (Vbqzab.whole ((ey.stamp - ex.stamp + bb.grain) * bb.fast)),Bound.mk y x (-(Vbqzab.whole ((ey.stamp - ex.stamp - bb.grain) * bb.slow)))]:=by
    unfold pairB
    show (match t.boxes[Vbqzab.boxOf t x]? with | some b=>_ | none=>_)=_
    rw [eb1,heq',hbb]
    show (if ey.box=Vbqzab.boxOf t y then _ else _)=_
    rw [eb2,if_pos rfl,FP.ys0 hex,FP.ys0 hey]
    rfl
   rw [ek] at k
   have w1:((ey.stamp:Int) - ex.stamp + bb.grain) * bb.fast=Vbqzab.whole ((ey.stamp - ex.stamp + bb.grain) * bb.fast):=by
    unfold Vbqzab.whole
    rw [Int.natCast_mul,Int.natCast_add,Int.natCast_sub hst]
   have w2:(if (0:Int) > (ey.stamp:Int) - ex.stamp - bb.grain then 0 else (ey.stamp:Int) - ex.stamp - bb.grain)=((ey.stamp - ex.stamp - bb.grain:Nat):Int):=by
    by_cases q:(0:Int) > (ey.stamp:Int) - ex.stamp - bb.grain
    ·rw [if_pos q];omega
    ·rw [if_neg q];omega
   refine ⟨_,rfl,p,C.record,dx,_,_,rfl,h1,T.record,T.rBoxes,zf1 ..,_,rfl,b,C.event,db,_,_,rfl,hb2,T.event,T.eBox,yz6 ey,lb,_,_,_,rfl,rfl,SqL.of h3.lst,za8 (zc8 hc1),?_⟩
   refine ⟨_,rfl,b,C.event,db,_,_,rfl,hb2,T.event,T.eStamp,yr1 ey,_,rfl,a,C.event,da,_,_,rfl,ha2,T.event,T.eStamp,yr1 ex,_,_,rfl,rfl,?_⟩
   refine ⟨_,rfl,_,rfl,c,C.box,dc,_,_,rfl,hc2,T.box,T.bGrain,yr2 _ _,_,_,rfl,rfl,_,rfl,c,C.box,dc,_,_,rfl,hc2,T.box,T.bFast,bx_fast _ _,_,_,rfl,rfl,.inl ⟨by omega,by omega⟩,?_⟩
   refine ⟨_,rfl,_,rfl,c,C.box,dc,_,_,rfl,hc2,T.box,T.bGrain,yr2 _ _,_,_,rfl,rfl,_,_,rfl,_,rfl,c,C.box,dc,_,_,rfl,hc2,T.box,T.bSlow,bx_slow _ _,_,_,rfl,rfl,?_,?_⟩
   ·rw [w2]
    exact .inl ⟨by omega,by omega⟩
   rw [w2]
   refine ⟨_,rfl,_,rfl,_,rfl,fun d dd hd0 hdd _=>⟨d,dd,Bound.mk x y (Vbqzab.whole ((ey.stamp - ex.stamp + bb.grain) * bb.fast)),?_,za2,?_⟩⟩
   ·show [V.ref d,V.int x,V.int y,V.int (((ey.stamp:Int) - ex.stamp + bb.grain) * bb.fast)]=_
    rw [w1]
   rw [zc6]
   obtain ⟨H3,hH3⟩:∃ H3,H3=upd (upd H dd (.own d)) d (.ins C.bound dd (bfs (Bound.mk x y (Vbqzab.whole ((ey.stamp - ex.stamp + bb.grain) * bb.fast))))):=⟨_,rfl⟩
   have s3:Same H H3:=by rw [hH3];exact Same.new hd0 hdd
   have hd:BndAt C.bound H3 d (Bound.mk x y (Vbqzab.whole ((ey.stamp - ex.stamp + bb.grain) * bb.fast))):=⟨dd,by rw [hH3];exact za2⟩
   rw [← hH3]
   refine ⟨rfl,_,rfl,_,rfl,_,rfl,_,rfl,fun g dg hg0 hdg _=>⟨g,dg,Bound.mk y x (-(Vbqzab.whole ((ey.stamp - ex.stamp - bb.grain) * bb.slow))),?_,za2,?_⟩⟩
   ·unfold Vbqzab.whole
    rw [Int.natCast_mul]
    rfl
   rw [zc6]
   obtain ⟨H4,hH4⟩:∃ H4,H4=upd (upd H3 dg (.own g)) g (.ins C.bound dg (bfs (Bound.mk y x (-(Vbqzab.whole ((ey.stamp - ex.stamp - bb.grain) * bb.slow)))))):=⟨_,rfl⟩
   have s4:Same H3 H4:=by rw [hH4];exact Same.new hg0 hdg
   have hg:BndAt C.bound H4 g (Bound.mk y x (-(Vbqzab.whole ((ey.stamp - ex.stamp - bb.grain) * bb.slow)))):=⟨dg,by rw [hH4];exact za2⟩
   rw [← hH4]
   refine ⟨rfl,(sz2),fun l hl=>?_⟩
   exact k _ l [d,g] ((s3.trans s4).trans (Same.laid hl)) ((s3.trans s4).free hl) (bs_two (hd.same s4) hg hl)
abbrev zi4:Stmt:=top 34
abbrev ym3:List Str:=["record", "evidence", "x", "y"]
abbrev zf6:List Str:=["record", "evidence"]
theorem zt4:FnScope ym3 zf6 (defScope zi4):=⟨rfl,rfl,rfl,by decide +kernel,rfl,by decide +kernel,by decide +kernel⟩
structure TyCls (K:PySem.W.Frag) (C:Addr):Prop where
 ha:PySem.W.findIn K (.ref C) "__class__" = some (some (.builtin "object.__class__"))
 hn:PySem.W.specialIn K (.builtin "object.__class__") "__get__" = some (some (.builtin "getset_descriptor.__get__"))
 htk:PySem.W.takesIn K (.builtin "object.__class__")=some true
 hm:PySem.W.mroIn K C (.type "object")=some true
structure IsHearing (K:PySem.W.Frag) (C:Clss):Prop where
 th:TyCls K C.hearing
 tl:TyCls K C.limit
 hh:PySem.W.kitOne K (.ref C.hearing) (.ref C.hearing)=some true
 lh:PySem.W.kitOne K (.ref C.limit) (.ref C.hearing)=some false
def spEvidenceBounds (C:Clss):Sp:=fun vs H Q _=>∃ (p a:Addr) (s:State) (v:Evidence),vs=[.ref p,.ref a]∧RecAt C H p s∧FP.Wf s∧EvdAt C H a v∧FP.EvOk s v∧NewBs C.bound H (Vbqzab.boundsOf s v) Q
theorem yj9 {f:Addr} {fd:FuncData} {C:Clss} (F:Fun K "evidence_bounds" "evidence_bounds" zi4 f fd) (T:ClssOk K C) (I:IsHearing K C) (g_Hearing:GVal mg "Hearing" (.ref C.hearing)) (g_isinstance:mg "isinstance" = none) (c_hearing_bounds:CallOk P w K mg base "hearing_bounds" 3 zg8 (spHearingBounds C)) (m_Bound:MakeOk P w K mg base "Bound" C.bound 1 zh9 (spBoundInit C.bound)):FnOk P w K mg base CX0 4 f fd zf6 (spEvidenceBounds C):=by
 refine F.ok zt4 (fun vs H Q E h=>?_) (fun cdv A outer s H vs Q E hr h=>?_)
 ·obtain ⟨p,a,t,v,rfl,_⟩:=h
  rfl
 ·obtain ⟨p,a,t,v,rfl,hR,hW,ha,hE,k⟩:=h
  have nd:=zt4.nd
  refine ⟨_,(za1 (ps_if (zd0 (zc0 call_isinst (by rfl) g_isinstance boot_isinstance (za0 (pv 1) (za0 (pe_gv g_Hearing) za3))) (fun _=>rfl)) (za4 (za6 (zb6 c_hearing_bounds (za0 (pv 0) (za0 (pv 1) za3)) hr))) zb1) (za1 (zb8 (i:=2) nd rfl (Or.inl rfl) (pe_at (pv 1))) (za1 (zb8 (i:=3) nd rfl (Or.inl rfl) (pe_at (pv 1))) (za4 (za6 (zb7 (za0 (zh5 m_Bound (za0 (pv 2) (za0 (pv 3) (za0 (pe_at (pv 1)) za3))) hr) (za0 (zh5 m_Bound (za0 (pv 3) (za0 (pv 2) (za0 (pe_un ye1 (pe_at (pv 1))) za3))) hr) za3)))))))),?_⟩
  cases v with
  | hearing m y =>
   obtain ⟨da,ha'⟩:=id ha
   refine ⟨_,rfl,_,_,_,true,rfl,.ins ha' T.hearing I.th.ha I.th.hn I.th.htk I.th.hm,I.hh,_,rfl,iteT ?_⟩
   exact ⟨_,rfl,_,rfl,p,a,t,m,y,rfl,hR,hW,ha,hE,k⟩
  | limit x y lo hi =>
   obtain ⟨da,ha'⟩:=id ha
   refine ⟨_,rfl,_,_,_,false,rfl,.ins ha' T.limit I.tl.ha I.tl.hn I.tl.htk I.tl.hm,I.lh,_,rfl,iteF ?_⟩
   refine ⟨_,rfl,a,C.limit,da,_,_,rfl,ha',T.limit,T.lStart,li_start x y lo hi,?_⟩
   refine ⟨_,rfl,a,C.limit,da,_,_,rfl,ha',T.limit,T.lEnd,li_end x y lo hi,?_⟩
   refine ⟨_,rfl,_,rfl,_,rfl,a,C.limit,da,_,_,rfl,ha',T.limit,T.lMost,li_most x y lo hi,fun d dd hd0 hdd _=>⟨d,dd,Bound.mk x y hi,rfl,za2,?_⟩⟩
   rw [zc6]
   obtain ⟨H3,hH3⟩:∃ H3,H3=upd (upd H dd (.own d)) d (.ins C.bound dd (bfs (Bound.mk x y hi))):=⟨_,rfl⟩
   have s3:Same H H3:=by rw [hH3];exact Same.new hd0 hdd
   have hd:BndAt C.bound H3 d (Bound.mk x y hi):=⟨dd,by rw [hH3];exact za2⟩
   rw [← hH3]
   refine ⟨rfl,_,rfl,_,rfl,_,rfl,a,C.limit,da,_,_,rfl,s3 _ _ ha',T.limit,T.lLeast,li_least x y lo hi,_,rfl,fun g dg hg0 hdg _=>⟨g,dg,Bound.mk y x (-lo),rfl,za2,?_⟩⟩
   rw [zc6]
   obtain ⟨H4,hH4⟩:∃ H4,H4=upd (upd H3 dg (.own g)) g (.ins C.bound dg (bfs (Bound.mk y x (-lo)))):=⟨_,rfl⟩
   have s4:Same H3 H4:=by rw [hH4];exact Same.new hg0 hdg
   have hg:BndAt C.bound H4 g (Bound.mk y x (-lo)):=⟨dg,by rw [hH4];exact za2⟩
   rw [← hH4]
   refine ⟨rfl,(sz2),fun l hl=>?_⟩
   exact k _ l [d,g] ((s3.trans s4).trans (Same.laid hl)) ((s3.trans s4).free hl) (bs_two (hd.same s4) hg hl)
end
end FPP
namespace FPP
open PySem PySem.Spec PyProof.Rows L2
open Vbqzab (Bound Table at_ State Box Wire Evidence)
theorem BsAt.extend {C:Addr} {H:Hp} {l l':Addr} {as as':List Addr} {bs bs':List Bound} (h:BsAt C H l as bs) (h':BsAt C H l' as' bs'):BsAt C (upd H l (.lst (as.map V.ref++as'.map V.ref))) l (as++as') (bs++bs'):=by
 have hu:∀ a b,BndAt C H a b→BndAt C (upd H l (.lst (as.map V.ref++as'.map V.ref))) a b:=by
  rintro a b ⟨dx,e⟩
  exact ⟨dx,by rw [zb5 (ne_of e h.lst (fun q=>nomatch q))];exact e⟩
 refine ⟨by rw [za2,List.map_append],by rw [List.length_append,List.length_append,h.len,h'.len],fun i b hb=>?_⟩
 by_cases hi:i < bs.length
 ·rw [FP.zg4 hi] at hb
  obtain ⟨a,h1,h2⟩:=h.at_ i b hb
  exact ⟨a,by rw [FP.zg4 (by rw [h.len];exact hi)];exact h1,hu _ _ h2⟩
 ·rw [List.getElem?_append_right (by omega)] at hb
  obtain ⟨a,h1,h2⟩:=h'.at_ _ b hb
  exact ⟨a,by rw [List.getElem?_append_right (by rw [h.len];omega),h.len];exact h1,hu _ _ h2⟩
theorem zz7 {α β:Type} {f:α→List β} {k:Nat} (h:∀ a,(f a).length≤k):∀ l:List α,(l.flatMap f).length≤k * l.length
 | []=>Nat.zero_le _
 | a :: l=>by
  rw [List.flatMap_cons,List.length_append,List.length_cons,Nat.mul_succ]
  have:=zz7 h l
  have:=h a
  omega
theorem pairs_len:∀ l:List Nat,(Vbqzab.pairs l).length≤l.length * l.length
 | []=>Nat.zero_le _
 | x :: l=>by
  have ih:=pairs_len l
  show ((l.map fun y=>(x,y))++Vbqzab.pairs l).length≤_
  rw [List.length_append,List.length_map,List.length_cons,Nat.succ_mul,Nat.mul_succ]
  omega
theorem clock_len {s:State} (h:FP.Wf s):(Vbqzab.clockBounds s).length≤512:=by
 rw [yv4]
 have h1:=zz7 (pairB_len s) (Vbqzab.pairs (Vbqzab.places s))
 have h2:=pairs_len (Vbqzab.places s)
 have h3:(Vbqzab.places s).length≤16:=by
  unfold Vbqzab.places
  rw [List.length_range]
  exact h.ne
 have h4:(Vbqzab.places s).length * (Vbqzab.places s).length≤16 * 16:=Nat.mul_le_mul h3 h3
 omega
theorem boundsOf_len (s:State) (v:Evidence):(Vbqzab.boundsOf s v).length≤2:=by
 cases v with
 | hearing m y =>
  show (match Vbqzab.wireOf s (Vbqzab.teamAt s (s.sent.getD m 0)) (Vbqzab.teamAt s y) with | none=>[] | some v=>_).length≤2
  split
  ·exact Nat.zero_le _
  ·rw [List.length_append]
   split
   ·exact Nat.le_succ 1
   ·exact Nat.le_refl 2
 | limit x y lo hi=>exact Nat.le_refl 2
theorem yn2 {s:State} (h:FP.Wf s):(Vbqzab.bounds s).length≤600:=by
 unfold Vbqzab.bounds
 rw [List.length_append]
 have h1:=clock_len h
 have h2:=zz7 (boundsOf_len s) s.evidence
 have h3:=h.nv
 omega
theorem pairs_range (a k:Nat):Vbqzab.pairs (List.range' a (k + 1))=((List.range' (a + 1) k).map fun y=>(a,y))++Vbqzab.pairs (List.range' (a + 1) k):=by
 rw [List.range'_succ]
 rfl
section
variable {P:Program} {w:World} {K:PySem.W.Frag} {mg:Str→Option Value} {base:Heap}
abbrev zn2:Stmt:=top 32
abbrev yx1:List Str:=["record", "found", "x", "y"]
abbrev zj5:List Str:=["record"]
theorem yb1:FnScope yx1 zj5 (defScope zn2):=⟨rfl,rfl,rfl,by decide +kernel,rfl,by decide +kernel,by decide +kernel⟩
def spClockBounds (C:Clss):Sp:=fun vs H Q _=>∃ (p:Addr) (s:State),vs=[.ref p]∧RecAt C H p s∧FP.Wf s∧NewBs C.bound H (Vbqzab.clockBounds s) Q
theorem yu0 {f:Addr} {fd:FuncData} {C:Clss} (F:Fun K "clock_bounds" "clock_bounds" zn2 f fd) (T:ClssOk K C) (mt_team_of:MethOk P w K mg base C.record "team_of" 1 zd1 (spTeamOf C)) (c_pair_bounds:CallOk P w K mg base "pair_bounds" 3 zm1 (spPairBounds C)) (g_len:mg "len" = none) (g_range:mg "range" = none):FnOk P w K mg base CX0 4 f fd zj5 (spClockBounds C):=by
 refine F.ok yb1 (fun vs H Q E h=>?_) (fun cdv A outer s H vs Q E hr h=>?_)
 ·obtain ⟨p,t,rfl,_⟩:=h
  rfl
 ·obtain ⟨p,t,rfl,hR,hW,k⟩:=h
  have nd:=yb1.nd
  have hlenall:=clock_len hW
  rw [yv4] at k hlenall
  generalize hall:(Vbqzab.pairs (Vbqzab.places t)).flatMap (pairB t)=all at k hlenall
  have hn:=hW.ne
  generalize hnn:t.events.length=n at hn
  refine ⟨_,(za1 (zb8 (i:=1) nd rfl (Or.inl rfl) (zb7 za3)) (za1 (zj3 PassesOwn.never rfl (zl8 rfl g_range (za0 (zc0 zb4 (by rfl) g_len PySem.boot_len (za0 (pe_at (pv 0)) za3)) za3)) (zc3 (i:=2) nd rfl (Or.inl rfl)) (za4 (zj3 PassesOwn.never rfl (pi_range2 rfl g_range (za0 (pe_op zx2 (pv 2) za9) (za0 (zc0 zb4 (by rfl) g_len PySem.boot_len (za0 (pe_at (pv 0)) za3)) za3))) (zc3 (i:=3) nd rfl (Or.inl rfl)) (za4 (ps_if (zb2 op_eq (zd4 mt_team_of (pv 0) (za0 (pv 2) za3) hr) (zd4 mt_team_of (pv 0) (za0 (pv 3) za3) hr) (nomark _)) (za4 (zl7 (pe_bm PySem.F.plainAttrs_list PySem.F.slot_list_extend PySem.F.type_list_extend zx3 (pv 1) (za0 (zb6 c_pair_bounds (za0 (pv 0) (za0 (pv 2) (za0 (pv 3) za3))) hr) za3)))) zb1))))) (za4 (za6 (pv 1))))),?_⟩
  refine ⟨Nat.zero_le _,fun q hq=>?_⟩
  have s1:Same H (upd H q (.lst [])):=Same.laid hq
  obtain ⟨dx,lb,le,lm,lv,dw,ab,ae,av,kvs,h1,h2,h3,h4,h5,h6⟩:=hR.ex
  have hae:(ae.map V.ref).length=n:=by rw [List.length_map,h4.len,hnn]
  have hno:∀ m:Str,m = "team_of" → (rcfs lb le lm lv dw).lookup m=none:=by
   rintro m rfl
   exact rc_no
  refine ⟨_,rfl,p,C.record,dx,_,_,rfl,s1 _ _ h1,T.record,T.rEvents,zd3 ..,le,_,rfl,.inl (SqL.of (s1 _ _ h4.lst)),(n:Int),by rw [hae],by omega,by omega,
   zx6 (fun i σ H'=>∃ (v2 v3:Option V) (as:List Addr) (bs:List Bound),σ=[some (.ref p),some (.ref q),v2,v3]∧Same H H'∧i≤n∧BsAt C.bound H' q as bs∧bs++(Vbqzab.pairs (List.range' i (n - i))).flatMap (pairB t)=all)
    ⟨none,none,[],[],rfl,s1,Nat.zero_le _,⟨za2,rfl,fun i b hb=>by simp at hb⟩,?_⟩ ?_ ?_⟩
  ·rw [← hall]
   unfold Vbqzab.places
   rw [hnn,List.range_eq_range']
   rfl
  ·rintro i σ H2 hi ⟨v2,v3,as,bs,rfl,s2,_,hB,hr2⟩
   rw [Int.toNat_natCast] at hi
   rw [Int.zero_add]
   obtain ⟨m,hm⟩:∃ m,n - i=m + 1:=⟨n - i - 1,by omega⟩
   rw [hm,pairs_range,List.flatMap_append,← List.append_assoc] at hr2
   refine ⟨_,rfl,_,_,rfl,rfl,_,rfl,p,C.record,dx,_,_,rfl,s2 _ _ h1,T.record,T.rEvents,zd3 ..,le,_,rfl,.inl (SqL.of (s2 _ _ h4.lst)),(i:Int) + 1,(n:Int),by rw [hae],⟨by omega,by omega,by omega,by omega⟩,?_⟩
   rw [show ((n:Int) - ((i:Int) + 1)).toNat=m by omega]
   refine zx6 (fun j σ H'=>∃ (v3:Option V) (as:List Addr) (bs:List Bound),σ=[some (.ref p),some (.ref q),some (.int i),v3]∧Same H H'∧j≤m∧BsAt C.bound H' q as bs∧bs++((List.range' (i + 1 + j) (m - j)).map fun y=>(i,y)).flatMap (pairB t)++(Vbqzab.pairs (List.range' (i + 1) m)).flatMap (pairB t)=all)
    ⟨v3,as,bs,rfl,s2,Nat.zero_le _,hB,by rw [Nat.add_zero,Nat.sub_zero];exact hr2⟩ ?_ ?_
   ·rintro j σ H3 hj ⟨v3',as3,bs3,rfl,s3,_,hB3,hr3⟩
    have ey:(i:Int) + 1 + (j:Nat)=((i + 1 + j:Nat):Int):=by omega
    rw [ey]
    obtain ⟨m',hm'⟩:∃ m',m - j=m' + 1:=⟨m - j - 1,by omega⟩
    rw [hm',List.range'_succ,List.map_cons,List.flatMap_cons,← List.append_assoc] at hr3
    have hR3:=hR.same s3
    have h13:=s3 _ _ h1
    have hx:i < t.events.length:=by omega
    have hy:i + 1 + j < t.events.length:=by omega
    refine ⟨_,rfl,p,dx,_,rfl,h13,hno _ rfl,_,rfl,p,t,i,rfl,hR3,hW,hx,_,rfl,p,dx,_,rfl,h13,hno _ rfl,_,rfl,p,t,i + 1 + j,rfl,hR3,hW,hy,rfl,_,rfl,iteD (fun he=>?_) (fun he=>?_)⟩
    ·have he':Vbqzab.teamAt t i=Vbqzab.teamAt t (i + 1 + j):=by
      have q':((Vbqzab.teamAt t i:Nat):Int)=(Vbqzab.teamAt t (i + 1 + j):Int):=V.int.inj he
      omega
     refine ⟨_,rfl,.inl ⟨rfl,_,SqL.of hB3.lst⟩,_,rfl,_,rfl,_,rfl,p,t,i,i + 1 + j,rfl,hR3,hW,by omega,hy,he',fun H4 l4 as4 s4 hl4 hB4=>?_⟩
     have hB3':=hB3.same s4
     have hlen:(bs3++pairB t (i,i + 1 + j)).length≤all.length:=by
      rw [← hr3,List.length_append (as:=bs3++pairB t (i,i + 1 + j)++_),List.length_append (as:=bs3++pairB t (i,i + 1 + j))]
      omega
     rw [List.length_append] at hlen
     refine ⟨q,l4,_,_,rfl,rfl,hB3'.lst,hB4.lst,?_,?_⟩
     ·rw [List.length_map,List.length_map,hB3.len,hB4.len]
      exact zd5 (by omega)
     ·refine ⟨_,_,_,rfl,(s3.trans s4).over hq,by omega,hB3'.extend hB4,?_⟩
      rw [show m - (j + 1)=m' by omega,show i + 1 + (j + 1)=i + 1 + j + 1 by omega]
      exact hr3
    ·have he':¬ Vbqzab.teamAt t i=Vbqzab.teamAt t (i + 1 + j):=fun q'=>he (by rw [q'])
     rw [pairB_out hW hx hy he',List.append_nil] at hr3
     refine ⟨_,as3,bs3,rfl,s3,by omega,hB3,?_⟩
     rw [show m - (j + 1)=m' by omega,show i + 1 + (j + 1)=i + 1 + j + 1 by omega]
     exact hr3
   ·rintro σ H3 ⟨v3',as3,bs3,rfl,s3,_,hB3,hr3⟩
    rw [Nat.sub_self] at hr3
    refine ⟨_,_,as3,bs3,rfl,s3,by omega,hB3,?_⟩
    rw [show n - (i + 1)=m by omega]
    have e:bs3++((List.range' (i + 1 + m) 0).map fun y=>(i,y)).flatMap (pairB t)=bs3:=by simp
    rw [e] at hr3
    exact hr3
  ·rintro σ H2 ⟨v2,v3,as,bs,rfl,s2,_,hB,hr2⟩
   rw [Int.toNat_natCast,Nat.sub_self] at hr2
   have e:bs=all:=by rw [← hr2];simp [Vbqzab.pairs]
   subst e
   exact ⟨_,rfl,k H2 q as s2 hq hB⟩
abbrev zu5:Stmt:=top 31
abbrev n_all_bounds:List Str:=["record", "found", "evidence"]
abbrev zg1:List Str:=["record"]
theorem yi3:FnScope n_all_bounds zg1 (defScope zu5):=⟨rfl,rfl,rfl,by decide +kernel,rfl,by decide +kernel,by decide +kernel⟩
def spAllBounds (C:Clss):Sp:=fun vs H Q _=>∃ (p:Addr) (s:State),vs=[.ref p]∧RecAt C H p s∧FP.Wf s∧NewBs C.bound H (Vbqzab.bounds s) Q
theorem xc6 {f:Addr} {fd:FuncData} {C:Clss} (F:Fun K "all_bounds" "all_bounds" zu5 f fd) (T:ClssOk K C) (c_clock_bounds:CallOk P w K mg base "clock_bounds" 4 zj5 (spClockBounds C)) (c_evidence_bounds:CallOk P w K mg base "evidence_bounds" 4 zf6 (spEvidenceBounds C)):FnOk P w K mg base CX0 5 f fd zg1 (spAllBounds C):=by
 refine F.ok yi3 (fun vs H Q E h=>?_) (fun cdv A outer s H vs Q E hr h=>?_)
 ·obtain ⟨p,t,rfl,_⟩:=h
  rfl
 ·obtain ⟨p,t,rfl,hR,hW,k⟩:=h
  have nd:=yi3.nd
  have hlenall:=yn2 hW
  refine ⟨_,(za1 (zb8 (i:=1) nd rfl (Or.inl rfl) (zb6 c_clock_bounds (za0 (pv 0) za3) hr)) (za1 (zj3 PassesOwn.never rfl (zj0 (pe_at (pv 0))) (zc3 (i:=2) nd rfl (Or.inl rfl)) (za4 (zl7 (pe_bm PySem.F.plainAttrs_list PySem.F.slot_list_extend PySem.F.type_list_extend zx3 (pv 1) (za0 (zb6 c_evidence_bounds (za0 (pv 0) (za0 (pv 2) za3)) hr) za3))))) (za4 (za6 (pv 1))))),?_⟩
  refine ⟨_,rfl,p,t,rfl,hR,hW,fun H1 q as s1 hq hB=>?_⟩
  obtain ⟨dx,lb,le,lm,lv,dw,ab,ae,av,kvs,h1,h2,h3,h4,h5,h6⟩:=(hR.same s1).ex
  refine ⟨_,rfl,p,C.record,dx,_,_,rfl,h1,T.record,T.rEvidence,zc7 ..,lv,rfl,⟨_,SqL.of h5.lst⟩,zu9 (K:=K) (a:=lv) (xs:=av.map V.ref)
   (fun i σ H'=>∃ (v2:Option V) (as:List Addr),σ=[some (.ref p),some (.ref q),v2]∧Same H H'∧H' lv=some (.lst (av.map V.ref))∧BsAt C.bound H' q as (Vbqzab.clockBounds t++(t.evidence.take i).flatMap (Vbqzab.boundsOf t)))
   ⟨none,as,rfl,s1,h5.lst,by rw [List.take_zero,List.flatMap_nil,List.append_nil];exact hB⟩ (fun i σ H' _ ⟨_,_,_,_,h,_⟩=>SqL.of h) ?_ ?_⟩
  ·rintro i y σ H2 hy ⟨v2,as2,rfl,s2,hlv,hB2⟩
   obtain ⟨dx',lb',le',lm',lv',dw',ab',ae',av',kvs',g1,g2,g3,g4,g5,g6⟩:=(hR.same s2).ex
   obtain ⟨dx0,lb0,le0,lm0,lv0,dw0,ab0,ae0,av0,kvs0,f1,f2,f3,f4,f5,f6⟩:=hR.ex
   have e1:=s1 _ _ f1
   rw [h1] at e1
   have elv:lv=lv0:=by
    have q1:=zc7 lb le lm lv dw
    have q2:=zc7 lb0 le0 lm0 lv0 dw0
    have q3:rcfs lb le lm lv dw=rcfs lb0 le0 lm0 lv0 dw0:=by
     have:=Option.some.inj e1
     exact (HO.ins.inj this).2.2
    rw [q3,q2] at q1
    exact (V.ref.inj (Option.some.inj q1)).symm
   subst elv
   have e2:=s1 _ _ f5.lst
   rw [h5.lst] at e2
   have eav:av.map V.ref=av0.map V.ref:=HO.lst.inj (Option.some.inj e2)
   rw [eav] at hy
   obtain ⟨a,v,rfl,hv,ha⟩:=f5.item hy
   have hE:=hW.vd v (List.mem_of_getElem? hv)
   have hqlv:q≠lv:=fun e=>by rw [e,f5.lst] at hq;cases hq
   refine ⟨_,rfl,.inl ⟨rfl,_,SqL.of hB2.lst⟩,_,rfl,_,rfl,p,a,t,v,rfl,hR.same s2,hW,ha.same s2,hE,fun H4 l4 as4 s4 hl4 hB4=>?_⟩
   have hB3':=hB2.same s4
   have hlen:(Vbqzab.clockBounds t++(t.evidence.take i).flatMap (Vbqzab.boundsOf t)++Vbqzab.boundsOf t v).length≤600:=by
    have e3:(t.evidence.take (i + 1)).flatMap (Vbqzab.boundsOf t)=(t.evidence.take i).flatMap (Vbqzab.boundsOf t)++Vbqzab.boundsOf t v:=by
     rw [List.take_add_one,hv,List.flatMap_append]
     simp
    rw [List.append_assoc,← e3]
    refine Nat.le_trans ?_ hlenall
    unfold Vbqzab.bounds
    rw [List.length_append,List.length_append]
    have e4:t.evidence.flatMap (Vbqzab.boundsOf t)=(t.evidence.take (i + 1)).flatMap (Vbqzab.boundsOf t)++(t.evidence.drop (i + 1)).flatMap (Vbqzab.boundsOf t):=by
     rw [← List.flatMap_append,List.take_append_drop]
    rw [e4,List.length_append]
    omega
   rw [List.length_append] at hlen
   refine ⟨q,l4,_,_,rfl,rfl,hB3'.lst,hB4.lst,?_,?_⟩
   ·rw [List.length_map,List.length_map,hB2.len,hB4.len]
    exact zd5 (by omega)
   ·refine ⟨_,as2++as4,rfl,(s2.trans s4).over hq,by rw [zb5 (Ne.symm hqlv)];exact s4 _ _ hlv,?_⟩
    rw [List.take_add_one,hv,List.flatMap_append,← List.append_assoc]
    have e5:(Option.toList (some v)).flatMap (Vbqzab.boundsOf t)=Vbqzab.boundsOf t v:=by simp
    rw [e5]
    exact hB3'.extend hB4
  ·rintro σ H2 ⟨v2,as2,rfl,s2,hlv,hB2⟩
   rw [List.length_map,h5.len,List.take_length] at hB2
   exact ⟨_,rfl,k H2 q as2 s2 hq hB2⟩
end
end FPP
namespace FPP
open PySem PySem.Spec PyProof.Rows L2
open Vbqzab (Bound Table at_ State Box Wire Evidence)
section
variable {P:Program} {w:World} {K:PySem.W.Frag} {mg:Str→Option Value} {base:Heap}
abbrev zq2:Stmt:=inClass (top 37) 0
abbrev xd5:List Str:=["self", "record"]
abbrev ze1:List Str:=["self", "record"]
theorem ye9:FnScope xd5 ze1 (defScope zq2):=⟨rfl,rfl,rfl,by decide +kernel,rfl,by decide +kernel,by decide +kernel⟩
def spSurveyInit (C:Clss):Sp:=fun vs H Q _=>∃ (q p dx:Addr) (s:State),vs=[.ref q,.ref p]∧H q=some (.ins C.survey dx [])∧RecAt C H p s∧FP.Wf s ∧
 ∀ H':Hp,(∀ b o,H b=some o→b≠q→H' b=some o)→SvAt C.survey C.bound H' q (Vbqzab.bounds s) s.events.length (FP.fw (Vbqzab.bounds s) s.events.length)→Q .non H'
def SameX (q:Addr) (H H':Hp):Prop:=∀ b o,H b=some o→b≠q→H' b=some o
theorem SameX.of {q:Addr} {H H':Hp} (h:Same H H'):SameX q H H':=fun b o e _=>h b o e
theorem SameX.trans {q:Addr} {H H1 H2:Hp} (a:SameX q H H1) (b:SameX q H1 H2):SameX q H H2:=fun c o e n=>b c o (a c o e n) n
theorem SameX.upd {q:Addr} {H:Hp} {o:HO}:SameX q H (L2.upd H q o):=fun b u e n=>by rw [zb5 n];exact e
theorem ne_lst {H:Hp} {q l:Addr} {C dx:Addr} {fs:List (Str×V)} {xs:List V} (hq:H q=some (.ins C dx fs)) (hl:H l=some (.lst xs)):l≠q:=ne_of hl hq (fun e=>nomatch e)
theorem RecAt.other {C:Clss} {H H':Hp} {p q dx:Addr} {t:State} {fs:List (Str×V)} (h:RecAt C H p t) (hq:H q=some (.ins C.survey dx fs)) (hne:C.survey≠C.record∧C.survey≠C.box∧C.survey≠C.event∧C.survey≠C.wire∧C.survey≠C.hearing∧C.survey≠C.limit) (s:SameX q H H'):RecAt C H' p t:=by
 obtain ⟨dx,lb,le,lm,lv,dw,ab,ae,av,kvs,h1,h2,h3,h4,h5,h6⟩:=h.ex
 have ins:∀ {a C' d':Addr} {f':List (Str×V)},H a=some (.ins C' d' f')→C.survey≠C'→a≠q:=fun e n=>ne_of e hq (fun z=>n (HO.ins.inj z).1.symm)
 have lst:∀ {l:Addr} {xs:List V},H l=some (.lst xs)→H' l=some (.lst xs):=fun e=>s _ _ e (ne_lst hq e)
 refine ⟨dx,lb,le,lm,lv,dw,ab,ae,av,kvs,s _ _ h1 (ins h1 hne.1),lst h2,⟨lst h3.lst,h3.len,fun i x hx=>?_⟩,⟨lst h4.lst,h4.len,fun i x hx=>?_⟩,⟨lst h5.lst,h5.len,fun i x hx=>?_⟩,⟨s _ _ h6.dict (ne_of h6.dict hq (fun e=>nomatch e)),h6.none_,fun i j v e=>?_,h6.nd,h6.rg⟩⟩
 ·obtain ⟨a,e1,d,e2⟩:=h3.at_ i x hx
  exact ⟨a,e1,d,s _ _ e2 (ins e2 hne.2.1)⟩
 ·obtain ⟨a,e1,d,e2⟩:=h4.at_ i x hx
  exact ⟨a,e1,d,s _ _ e2 (ins e2 hne.2.2.1)⟩
 ·obtain ⟨a,e1,e2⟩:=h5.at_ i x hx
  refine ⟨a,e1,?_⟩
  cases x with
  | hearing m y =>
   obtain ⟨d,e2⟩:=e2
   exact ⟨d,s _ _ e2 (ins e2 hne.2.2.2.2.1)⟩
  | limit x y lo hi =>
   obtain ⟨d,e2⟩:=e2
   exact ⟨d,s _ _ e2 (ins e2 hne.2.2.2.2.2)⟩
 ·obtain ⟨a,e1,d,e2⟩:=h6.some_ i j v e
  exact ⟨a,e1,d,s _ _ e2 (ins e2 hne.2.2.2.1)⟩
theorem yv9 {f:Addr} {fd:FuncData} {C:Clss} (F:Fun K "__init__" "Survey.__init__" zq2 f fd) (T:ClssOk K C) (hne:C.survey≠C.record∧C.survey≠C.box∧C.survey≠C.event∧C.survey≠C.wire∧C.survey≠C.hearing∧C.survey≠C.limit) (hnb:C.survey≠C.bound) (c_all_bounds:CallOk P w K mg base "all_bounds" 5 zg1 (spAllBounds C)) (c_least_sums:CallOk P w K mg base "least_sums" 3 zo8 (spLeastSums C.bound)) (g_len:mg "len" = none):FnOk P w K mg base CX0 6 f fd ze1 (spSurveyInit C):=by
 refine F.ok ye9 (fun vs H Q E h=>?_) (fun cdv A outer s H vs Q E hr h=>?_)
 ·obtain ⟨q,p,dx,t,rfl,_⟩:=h
  rfl
 ·obtain ⟨q,p,dx,t,rfl,hq,hR,hW,k⟩:=h
  have nd:=ye9.nd
  have hI:=FP.zi7 hW
  obtain ⟨dr,lb,le,lm,lv,dw,ab,ae,av,kvs,h1,h2,h3,h4,h5,h6⟩:=hR.ex
  have hae:(ae.map V.ref).length=t.events.length:=by rw [List.length_map,h4.len]
  refine ⟨_,(za1 (zd6 (pv 0) (zc0 zb4 (by rfl) g_len PySem.boot_len (za0 (pe_at (pv 1)) za3)) rfl) (za1 (zd6 (pv 0) (zb6 c_all_bounds (za0 (pv 1) za3) hr) rfl) (za4 (zd6 (pv 0) (zb6 c_least_sums (za0 (pe_at (pv 0)) (za0 (pe_at (pv 0)) za3)) hr) rfl)))),?_⟩
  refine ⟨_,rfl,p,C.record,dr,_,_,rfl,h1,T.record,T.rEvents,zd3 ..,le,_,rfl,.inl (SqL.of h4.lst),_,rfl,q,C.survey,dx,_,rfl,hq,T.survey.cl,T.survey.nS,(by show 0 < 1000;decide),?_⟩
  rw [hae]
  obtain ⟨H1,hH1⟩:∃ H1,H1=upd H q (.ins C.survey dx (putF "size" (.int t.events.length) [])):=⟨_,rfl⟩
  have x1:SameX q H H1:=by rw [hH1];exact SameX.upd
  have hq1:H1 q=some (.ins C.survey dx (putF "size" (.int t.events.length) [])):=by rw [hH1];exact za2
  rw [← hH1]
  refine ⟨_,rfl,p,t,rfl,hR.other hq hne x1,hW,fun H2 l as s2 hl hB=>?_⟩
  have hq2:=s2 _ _ hq1
  refine ⟨_,rfl,q,C.survey,dx,_,rfl,hq2,T.survey.cl,T.survey.nB,(by show 1 < 1000;decide),?_⟩
  obtain ⟨H3,hH3⟩:∃ H3,H3=upd H2 q (.ins C.survey dx (putF "bounds" (.ref l) (putF "size" (.int t.events.length) []))):=⟨_,rfl⟩
  have x3:SameX q H2 H3:=by rw [hH3];exact SameX.upd
  have hq3:H3 q=some (.ins C.survey dx (putF "bounds" (.ref l) (putF "size" (.int t.events.length) []))):=by rw [hH3];exact za2
  rw [← hH3]
  have hB3:BsAt C.bound H3 l as (Vbqzab.bounds t):=by
   refine ⟨x3 _ _ hB.lst (ne_lst hq2 hB.lst),hB.len,fun i b hb=>?_⟩
   obtain ⟨a,e1,d,e2⟩:=hB.at_ i b hb
   exact ⟨a,e1,d,x3 _ _ e2 (ne_of e2 hq2 (fun z=>hnb (HO.ins.inj z).1.symm))⟩
  refine ⟨_,rfl,q,C.survey,dx,_,_,rfl,hq3,T.survey.cl,T.survey.nS,?_,_,rfl,q,C.survey,dx,_,_,rfl,hq3,T.survey.cl,T.survey.nB,?_,l,as,Vbqzab.bounds t,t.events.length,rfl,hB3,hI,Nat.le_trans hW.ne (by decide),fun H4 m ls s4 hm hM=>?_⟩
  ·rw [za5,if_neg (by decide +kernel),za5,if_pos rfl]
  ·rw [za5,if_pos rfl]
  have hq4:=s4 _ _ hq3
  refine ⟨_,rfl,q,C.survey,dx,_,rfl,hq4,T.survey.cl,T.survey.nM,(by show 2 < 1000;decide),?_⟩
  obtain ⟨H5,hH5⟩:∃ H5,H5=upd H4 q (.ins C.survey dx (sfs t.events.length l m)):=⟨_,rfl⟩
  have x5:SameX q H4 H5:=by rw [hH5];exact SameX.upd
  have hq5:H5 q=some (.ins C.survey dx (sfs t.events.length l m)):=by rw [hH5];exact za2
  have hB4:=hB3.same s4
  refine k _ ?_ ⟨dx,l,m,as,ls,?_,?_,?_⟩
  ·show SameX q H (upd H4 q (.ins C.survey dx (sfs t.events.length l m)))
   exact (((x1.trans (SameX.of s2)).trans x3).trans (SameX.of s4)).trans SameX.upd
  ·exact za2
  ·show BsAt C.bound (upd H4 q (.ins C.survey dx (sfs t.events.length l m))) l as (Vbqzab.bounds t)
   rw [← hH5]
   refine ⟨x5 _ _ hB4.lst (ne_lst hq4 hB4.lst),hB4.len,fun i b hb=>?_⟩
   obtain ⟨a,e1,d,e2⟩:=hB4.at_ i b hb
   exact ⟨a,e1,d,x5 _ _ e2 (ne_of e2 hq4 (fun z=>hnb (HO.ins.inj z).1.symm))⟩
  ·show TsAt (upd H4 q (.ins C.survey dx (sfs t.events.length l m))) m ls _
   rw [← hH5]
   refine ⟨x5 _ _ hM.lst (ne_lst hq4 hM.lst),hM.len,fun i b hb=>?_⟩
   obtain ⟨a,e1,e2⟩:=hM.at_ i b hb
   exact ⟨a,e1,x5 _ _ e2 (ne_lst hq4 e2)⟩
abbrev zi8:Stmt:=inClass (top 37) 1
abbrev yd9:List Str:=["self", "x"]
abbrev zc5:List Str:=["self"]
theorem zn7:FnScope yd9 zc5 (defScope zi8):=⟨rfl,rfl,rfl,by decide +kernel,rfl,by decide +kernel,by decide +kernel⟩
def spHasHistory (C:Clss):Sp:=fun vs H Q _=>∃ (q:Addr) (bs:List Bound) (n:Nat),vs=[.ref q]∧SvAt C.survey C.bound H q bs n (FP.fw bs n)∧FP.Inn bs n∧n≤100∧Q (.bl (Vbqzab.fits bs n)) H
theorem yw7 {f:Addr} {fd:FuncData} {C:Clss} (F:Fun K "has_history" "Survey.has_history" zi8 f fd) (T:ClssOk K C) (g_range:mg "range" = none):FnOk P w K mg base CX0 1 f fd zc5 (spHasHistory C):=by
 refine F.ok zn7 (fun vs H Q E h=>?_) (fun cdv A outer s H vs Q E hr h=>?_)
 ·obtain ⟨q,bs,n,rfl,_⟩:=h
  rfl
 ·obtain ⟨q,bs,n,rfl,hS,hI,hn,k⟩:=h
  have nd:=zn7.nd
  obtain ⟨dx,l,m,as,ls,hq,hB,hM⟩:=hS.ex
  have hK:=FP.zs7 hI
  have hsh:=hK.sh
  refine ⟨_,(za1 (zj3 PassesOwn.never rfl (zl8 rfl g_range (za0 (pe_at (pv 0)) za3)) (zc3 (i:=1) nd rfl (Or.inl rfl)) (za4 (ps_if (zb2 op_lt (zb3 zb0 (zb3 zb0 (pe_at (pv 0)) (pv 1)) (pv 1)) za9 (nomark _)) (za4 (za6 pe_bl)) zb1))) (za4 (za6 pe_bl))),?_⟩
  refine ⟨_,rfl,q,C.survey,dx,_,_,rfl,hq,T.survey.cl,T.survey.nS,yc5 n l m,(n:Int),rfl,by omega,by omega,zx6 (fun i σ H'=>∃ v1:Option V,σ=[some (.ref q),v1]∧H'=H∧∀ x d,x < i→FP.g (FP.fw bs n) x x=some d→0≤d) ⟨none,rfl,rfl,fun x d hx=>by omega⟩ ?_ ?_⟩
  ·rintro i σ H' hi ⟨v1,rfl,rfl,hno⟩
   rw [Int.toNat_natCast] at hi
   rw [Int.zero_add]
   obtain ⟨a,ha1,ha2⟩:=hM.at_ i _ (zr3 hsh hi)
   obtain ⟨d,hd,_⟩:=hK.diag i hi
   have hd':at_ ((FP.fw bs n).getD i []) i=some d:=hd
   refine ⟨_,rfl,q,C.survey,dx,_,_,rfl,hq,T.survey.cl,T.survey.nM,zt1 n l m,_,rfl,m,_,_,_,rfl,rfl,SqL.of hM.lst,za8 (zc8 ha1),_,rfl,a,_,_,_,rfl,rfl,SqL.of ha2,za8 (zh4 (by rw [hsh.row i hi];exact hi)),?_⟩
   rw [hd']
   refine ⟨_,_,rfl,rfl,_,rfl,iteD (fun hz=>?_) (fun hz=>?_)⟩
   ·have e:Vbqzab.fits bs n=false:=by
     cases q1:Vbqzab.fits bs n with
     | false=>rfl
     | true =>
      have:=(FP.fw_diag hI).mpr ((FP.zv0 hI).mp q1) i d hi hd
      omega
    rw [e] at k
    exact k
   ·refine ⟨_,rfl,rfl,fun x d' hx hd2=>?_⟩
    by_cases e:x=i
    ·subst e
     have e2:d=d':=Option.some.inj (hd.symm.trans hd2)
     omega
    ·exact hno x d' (by omega) hd2
  ·rintro σ H' ⟨v1,rfl,rfl,hno⟩
   rw [Int.toNat_natCast] at hno
   have e:Vbqzab.fits bs n=true:=(FP.zv0 hI).mpr ((FP.fw_diag hI).mp fun x d hx hd=>hno x d hx hd)
   rw [e] at k
   exact k
abbrev zl5:Stmt:=inClass (top 37) 2
abbrev yk2:List Str:=["self", "x", "y", "behind"]
abbrev zd8:List Str:=["self", "x", "y"]
theorem zq9:FnScope yk2 zd8 (defScope zl5):=⟨rfl,rfl,rfl,by decide +kernel,rfl,by decide +kernel,by decide +kernel⟩
def spIsBefore (C:Clss):Sp:=fun vs H Q _=>∃ (q:Addr) (bs:List Bound) (n x y:Nat),vs=[.ref q,.int x,.int y]∧SvAt C.survey C.bound H q bs n (FP.fw bs n)∧FP.Inn bs n∧FP.NoNeg bs∧x < n∧y < n∧Q (.bl (Vbqzab.surelyBefore bs n x y)) H
theorem ok_is_before {f:Addr} {fd:FuncData} {C:Clss} (F:Fun K "is_before" "Survey.is_before" zl5 f fd) (T:ClssOk K C):FnOk P w K mg base CX0 1 f fd zd8 (spIsBefore C):=by
 refine F.ok zq9 (fun vs H Q E h=>?_) (fun cdv A outer s H vs Q E hr h=>?_)
 ·obtain ⟨q,bs,n,x,y,rfl,_⟩:=h
  rfl
 ·obtain ⟨q,bs,n,x,y,rfl,hS,hI,hN,hx,hy,k⟩:=h
  have nd:=zq9.nd
  obtain ⟨dx,l,m,as,ls,hq,hB,hM⟩:=hS.ex
  have hsh:=(FP.zs7 hI).sh
  obtain ⟨a,ha1,ha2⟩:=hM.at_ y _ (zr3 hsh hy)
  have e:at_ ((FP.fw bs n).getD y []) x=Vbqzab.most bs n y x:=FP.ym7 hI hN hy hx
  unfold Vbqzab.surelyBefore at k
  refine ⟨_,(za1 (zb8 (i:=3) nd rfl (Or.inl rfl) (zb3 zb0 (zb3 zb0 (pe_at (pv 0)) (pv 2)) (pv 1))) (za4 (za6 (pe_and (zv1 zp4 (pv 3) zg0 (nomark _)) (pe_one (zv1 op_lt (pv 3) za9 (nomark _))))))),?_⟩
  refine ⟨_,rfl,q,C.survey,dx,_,_,rfl,hq,T.survey.cl,T.survey.nM,zt1 n l m,_,rfl,m,_,_,_,rfl,rfl,SqL.of hM.lst,za8 (zc8 ha1),_,rfl,a,_,_,_,rfl,rfl,SqL.of ha2,za8 (zh4 (by rw [hsh.row y hy];exact hx)),?_⟩
  rw [e]
  cases e2:Vbqzab.most bs n y x with
  | none =>
   rw [e2] at k
   exact ⟨_,rfl,rfl,_,rfl,iteF k⟩
  | some z =>
   rw [e2] at k
   exact ⟨_,rfl,rfl,_,rfl,iteT ⟨_,rfl,_,_,rfl,rfl,k⟩⟩
abbrev zh3:Stmt:=inClass (top 37) 3
abbrev ya8:List Str:=["self", "x", "y", "behind"]
abbrev zd7:List Str:=["self", "x", "y"]
theorem zl0:FnScope ya8 zd7 (defScope zh3):=⟨rfl,rfl,rfl,by decide +kernel,rfl,by decide +kernel,by decide +kernel⟩
def spNotBehind (C:Clss):Sp:=fun vs H Q _=>∃ (q:Addr) (bs:List Bound) (n x y:Nat),vs=[.ref q,.int x,.int y]∧SvAt C.survey C.bound H q bs n (FP.fw bs n)∧FP.Inn bs n∧FP.NoNeg bs∧x < n∧y < n∧Q (.bl (Vbqzab.surelyNotBehind bs n x y)) H
theorem yp0 {f:Addr} {fd:FuncData} {C:Clss} (F:Fun K "is_not_behind" "Survey.is_not_behind" zh3 f fd) (T:ClssOk K C):FnOk P w K mg base CX0 1 f fd zd7 (spNotBehind C):=by
 refine F.ok zl0 (fun vs H Q E h=>?_) (fun cdv A outer s H vs Q E hr h=>?_)
 ·obtain ⟨q,bs,n,x,y,rfl,_⟩:=h
  rfl
 ·obtain ⟨q,bs,n,x,y,rfl,hS,hI,hN,hx,hy,k⟩:=h
  have nd:=zl0.nd
  obtain ⟨dx,l,m,as,ls,hq,hB,hM⟩:=hS.ex
  have hsh:=(FP.zs7 hI).sh
  obtain ⟨a,ha1,ha2⟩:=hM.at_ y _ (zr3 hsh hy)
  have e:at_ ((FP.fw bs n).getD y []) x=Vbqzab.most bs n y x:=FP.ym7 hI hN hy hx
  unfold Vbqzab.surelyNotBehind at k
  refine ⟨_,(za1 (zb8 (i:=3) nd rfl (Or.inl rfl) (zb3 zb0 (zb3 zb0 (pe_at (pv 0)) (pv 2)) (pv 1))) (za4 (za6 (pe_and (zv1 zp4 (pv 3) zg0 (nomark _)) (pe_one (zv1 op_le (pv 3) za9 (nomark _))))))),?_⟩
  refine ⟨_,rfl,q,C.survey,dx,_,_,rfl,hq,T.survey.cl,T.survey.nM,zt1 n l m,_,rfl,m,_,_,_,rfl,rfl,SqL.of hM.lst,za8 (zc8 ha1),_,rfl,a,_,_,_,rfl,rfl,SqL.of ha2,za8 (zh4 (by rw [hsh.row y hy];exact hx)),?_⟩
  rw [e]
  cases e2:Vbqzab.most bs n y x with
  | none =>
   rw [e2] at k
   exact ⟨_,rfl,rfl,_,rfl,iteF k⟩
  | some z =>
   rw [e2] at k
   exact ⟨_,rfl,rfl,_,rfl,iteT ⟨_,rfl,_,_,rfl,rfl,k⟩⟩
end
end FPP
namespace FPP
open PySem PySem.Spec PyProof.Rows L2
open Vbqzab (Bound Table at_ State Box Wire Evidence)
def rngs:List (Str×Int×Int):=[("slow",1,100000),("fast",1,100000),("grain",0,1000),("least",0,1000000000000),("greatest",-1,1000000000000),("stamp",0,1000000000),("span",-1000000000000000,1000000000000000),("time",-1000000000000000,1000000000000000),("box",0,7),("event",0,15),("message",0,11),("evidence",0,23)]
structure RangesOk (P:Program) (w:World) (K:PySem.W.Frag) (mg:Str→Option Value):Prop where
 ex:∃ (a:Addr) (f:Key→Option Value),mg "RANGES" = some (.ref a)∧KDict P w K a f∧∀ k lo hi,rngs.lookup k=some (lo,hi)→∃ t,f (.inr k)=some (.ref t)∧∀ H:Hp,SqT K H t [V.int lo,V.int hi]
def inR (k:Str) (g:Int):Bool:=match rngs.lookup k with
 | some r=>decide (r.1≤g) && decide (g≤r.2)
 | none=>true
def inRs (ks:List Str) (gs:List Int):Bool:=(ks.zip gs).all fun t=>inR t.1 t.2
theorem inRs_take {ks:List Str} {gs:List Int} {i:Nat} {k:Str} {g:Int} (hk:ks[i]?=some k) (hg:gs[i]?=some g):inRs (ks.take (i + 1)) (gs.take (i + 1))=(inRs (ks.take i) (gs.take i) && inR k g):=by
 unfold inRs
 have h1:=(List.getElem?_eq_some_iff.mp hk).1
 have h2:=(List.getElem?_eq_some_iff.mp hg).1
 rw [List.take_add_one,List.take_add_one,hk,hg]
 show ((ks.take i++[k]).zip (gs.take i++[g])).all _=_
 rw [List.zip_append (by rw [List.length_take,List.length_take];omega),List.all_append]
 simp
theorem yd8 {ks:List Str} {gs:List Int} {i:Nat} {k:Str} {g:Int} (hk:ks[i]?=some k) (hg:gs[i]?=some g) (h:inR k g=false):inRs ks gs=false:=by
 unfold inRs
 refine Bool.eq_false_iff.mpr fun q=>?_
 have hz:(ks.zip gs)[i]?=some (k,g):=by rw [List.getElem?_zip_eq_some];exact ⟨hk,hg⟩
 have:=List.all_eq_true.mp q (k,g) (List.mem_of_getElem? hz)
 rw [h] at this
 cases this
section
variable {P:Program} {w:World} {K:PySem.W.Frag} {mg:Str→Option Value} {base:Heap}
abbrev zr2:Stmt:=top 18
abbrev n_in_ranges:List Str:=["kinds", "given", "kind", "number"]
abbrev zk6:List Str:=["kinds", "given"]
theorem zt2:FnScope n_in_ranges zk6 (defScope zr2):=⟨rfl,rfl,rfl,by decide +kernel,rfl,by decide +kernel,by decide +kernel⟩
def spInRanges (K:PySem.W.Frag):Sp:=fun vs H Q _=>∃ (a b:Addr) (ks:List Str) (gs:List Int),vs=[.ref a,.ref b]∧SqT K H a (ks.map V.str)∧SqL K H b (gs.map V.int)∧ks.length=gs.length∧(∀ k∈ks,∃ r,rngs.lookup k=some r)∧∀ H',Same H H'→Q (.bl (inRs ks gs)) H'
theorem ok_in_ranges {f:Addr} {fd:FuncData} (F:Fun K "in_ranges" "in_ranges" zr2 f fd) (R:RangesOk P w K mg) (g_zip:mg "zip" = none):FnOk P w K mg base CX0 1 f fd zk6 (spInRanges K):=by
 refine F.ok zt2 (fun vs H Q E h=>?_) (fun cdv A outer s H vs Q E hr h=>?_)
 ·obtain ⟨a,b,ks,gs,rfl,_⟩:=h
  rfl
 ·obtain ⟨a,b,ks,gs,rfl,ha,hb,hlen,hks,k⟩:=h
  have nd:=zt2.nd
  obtain ⟨ra,fr,r1,r2,r3⟩:=R.ex
  have g_RANGES:GVal mg "RANGES" (.ref ra):=⟨_,r1,rfl⟩
  refine ⟨_,(za1 (zj3 PassesOwn.never rfl (TZ.pi_zipTL rfl g_zip (za0 (pv 0) (za0 (pv 1) za3))) (yt3 rfl (ze8 (zc3 (i:=2) nd rfl (Or.inl rfl)) (ze8 (zc3 (i:=3) nd rfl (Or.inl rfl)) zz0))) (za4 (ps_if ((pw_or (zb2 op_lt (pv 3) (zb3 yu9 (yt4 (pe_gv g_RANGES) (pv 2)) za9) (nomark _)) (pw_or1 (zb2 op_gt (pv 3) (zb3 yu9 (yt4 (pe_gv g_RANGES) (pv 2)) za9) (nomark _))))).pt (za4 (za6 pe_bl)) zb1))) (za4 (za6 pe_bl))),?_⟩
  refine ⟨_,rfl,_,rfl,a,b,_,_,rfl,ha,hb,TZ.for_zipTL (n:=gs.length) (K:=K) (xs:=ks.map V.str) (ys:=gs.map V.int) (by rw [List.length_map,hlen]) (by rw [List.length_map])
   (fun i σ H'=>∃ v2 v3:Option V,σ=[some (.ref a),some (.ref b),v2,v3]∧Same H H'∧inRs (ks.take i) (gs.take i)=true) ⟨none,none,rfl,Same.refl H,rfl⟩ (fun i σ H' _ ⟨_,_,_,s2,_⟩=>⟨s2.tup ha,s2.seq hb⟩) ?_ ?_⟩
  ·rintro i x y σ H2 T hx hy ⟨v2,v3,rfl,s2,hin⟩ hT
   rw [List.getElem?_map] at hx hy
   obtain ⟨kd,hk1,rfl⟩:=Option.map_eq_some_iff.mp hx
   obtain ⟨g,hg1,rfl⟩:=Option.map_eq_some_iff.mp hy
   obtain ⟨⟨lo,hi⟩,hr1⟩:=hks kd (List.mem_of_getElem? hk1)
   obtain ⟨t,ht1,ht2⟩:=r3 kd lo hi hr1
   have s3:Same H (upd H2 T (.tup [V.str kd,V.int g])):=s2.trans (Same.laid hT)
   have hR:inR kd g=(decide (lo≤g) && decide (g≤hi)):=by
    unfold inR
    rw [hr1]
   refine ⟨T,_,rfl,SqT.of za2,rfl,_,_,rfl,_,_,rfl,rfl,?_⟩
   refine ⟨_,rfl,_,rfl,ra,fr,.inr kd,.ref t,.ref t,rfl,rfl,r2,ht1,rfl,t,_,_,_,rfl,rfl,ht2 _,za8 (j:=0) (v:=V.int lo) rfl,_,_,rfl,rfl,_,rfl,iteD (fun q=>?_) (fun q=>?_)⟩
   ·refine iteT ?_
    have e:inRs ks gs=false:=yd8 hk1 hg1 (by rw [hR,decide_eq_false (by omega),Bool.false_and])
    rw [e] at k
    exact k _ s3
   ·refine ⟨_,rfl,_,rfl,ra,fr,.inr kd,.ref t,.ref t,rfl,rfl,r2,ht1,rfl,t,_,_,_,rfl,rfl,ht2 _,za8 (j:=1) (v:=V.int hi) rfl,_,_,rfl,rfl,_,rfl,iteD (fun q2=>?_) (fun q2=>?_)⟩
    ·have e:inRs ks gs=false:=yd8 hk1 hg1 (by rw [hR,decide_eq_false (show ¬ g≤hi by omega),Bool.and_false])
     rw [e] at k
     exact k _ s3
    ·refine ⟨_,_,rfl,s3,?_⟩
     rw [inRs_take hk1 hg1,hin,hR,decide_eq_true (by omega),decide_eq_true (by omega)]
     rfl
  ·rintro σ H2 ⟨v2,v3,rfl,s2,hin⟩
   rw [List.take_of_length_le (by omega),List.take_of_length_le (Nat.le_refl _)] at hin
   rw [hin] at k
   exact k _ s2
end
end FPP
namespace FPP
open PySem PySem.Spec PyProof.Rows L2
open Vbqzab (Bound Table at_ State Box Wire Evidence)
def NewAns (H:Hp) (l:List Int) (Q:VK):Prop:=∀ (H':Hp) (p:Addr),Same H H'→H p=none→H' p=some (.lst (l.map V.int))→Q (.ref p) H'
theorem nvs_ints (l:List Nat):nvs l=(Vbqzab.ints l).map V.int:=by
 unfold nvs Vbqzab.ints
 rw [List.map_map]
 rfl
section
variable {P:Program} {w:World} {K:PySem.W.Frag} {mg:Str→Option Value} {base:Heap}
abbrev yi8:Stmt:=top 50
abbrev n_counted:List Str:=["numbers"]
abbrev zh8:List Str:=["numbers"]
theorem yx8:FnScope n_counted zh8 (defScope yi8):=⟨rfl,rfl,rfl,by decide +kernel,rfl,by decide +kernel,by decide +kernel⟩
def spCounted:Sp:=fun vs H Q _=>∃ (a:Addr) (l:List Int),vs=[.ref a]∧H a=some (.lst (l.map V.int))∧l.length≤10000∧NewAns H (Vbqzab.numbers l) Q
theorem numbers_ints (l:List Nat):Vbqzab.numbers (Vbqzab.ints l)=Vbqzab.listed l:=by
 unfold Vbqzab.numbers Vbqzab.listed Vbqzab.ints
 rw [List.length_map]
theorem ints_len (l:List Nat):(Vbqzab.ints l).length=l.length:=List.length_map _
theorem zs9 {H:Hp} {Q:VK} {a:Addr} {l:List Nat} (ha:H a=some (.lst (nvs l))) (hl:l.length≤10000) (k:NewAns H (Vbqzab.listed l) Q):spCounted [.ref a] H Q E0:=by
 refine ⟨a,Vbqzab.ints l,rfl,by rw [← nvs_ints];exact ha,by rw [ints_len];exact hl,?_⟩
 rw [numbers_ints]
 exact k
theorem ok_counted {f:Addr} {fd:FuncData} (F:Fun K "counted" "counted" yi8 f fd) (g_len:mg "len" = none):FnOk P w K mg base CX0 1 f fd zh8 spCounted:=by
 refine F.ok yx8 (fun vs H Q E h=>?_) (fun cdv A outer s H vs Q E hr h=>?_)
 ·obtain ⟨a,l,rfl,_⟩:=h
  rfl
 ·obtain ⟨a,l,rfl,ha,hl,k⟩:=h
  have nd:=yx8.nd
  refine ⟨_,(za4 (za6 (pe_op yj6 (zb7 (za0 (zc0 zb4 (by rfl) g_len PySem.boot_len (za0 (pv 0) za3)) za3)) (pv 0)))),?_⟩
  refine ⟨_,rfl,a,_,rfl,.inl (SqL.of ha),(sz1),fun q hq=>?_⟩
  have s1:=Same.laid (o := .lst [V.int ((l.map V.int).length:Nat)]) hq
  refine ⟨_,rfl,q,a,_,_,rfl,rfl,za2,s1 _ _ ha,?_,fun p hp=>?_⟩
  ·show 1 + (l.map V.int).length≤sizeLine
   rw [List.length_map]
   exact zd5 (by omega)
  ·refine k _ p (s1.over (s1.free hp)) (s1.free hp) ?_
   rw [za2]
   unfold Vbqzab.numbers
   rw [List.length_map]
   rfl
abbrev yd5:Stmt:=top 51
abbrev n_ask_fits:List Str:=["survey"]
abbrev zx1:List Str:=["survey"]
theorem yt1:FnScope n_ask_fits zx1 (defScope yd5):=⟨rfl,rfl,rfl,by decide +kernel,rfl,by decide +kernel,by decide +kernel⟩
def spAskFits (C:Clss):Sp:=fun vs H Q _=>∃ (q:Addr) (bs:List Bound) (n:Nat),vs=[.ref q]∧SvAt C.survey C.bound H q bs n (FP.fw bs n)∧FP.Inn bs n∧n≤100∧NewAns H (if Vbqzab.fits bs n=true then [1] else 0 :: Vbqzab.listed (Vbqzab.ring bs n)) Q
theorem xa0 (bs:List Bound) (ts:List Table):∀ k x,(Vbqzab.walk bs ts k x).length≤k
 | 0,_=>Nat.le_refl 0
 | k + 1,x=>by
  unfold Vbqzab.walk
  split
  ·exact Nat.zero_le _
  ·exact Nat.succ_le_succ (xa0 bs ts k _)
theorem ring_len (bs:List Bound) (n:Nat):(Vbqzab.ring bs n).length≤n:=by
 unfold Vbqzab.ring
 show (((List.range (n + 1)).findSome? fun k=>_).getD []).length≤n
 cases e:(List.range (n + 1)).findSome? fun k=>if k=0 then none else (((List.range n).map fun x=>(x,Vbqzab.justTo bs n n (Vbqzab.only n x))).find? fun t=>Vbqzab.below (at_ (t.2.getD k []) t.1)).map fun t=>Vbqzab.walk bs t.2 k t.1 with
 | none=>exact Nat.zero_le _
 | some l =>
  obtain ⟨k,hk,h⟩:=List.exists_of_findSome?_eq_some e
  have hk':=List.mem_range.mp hk
  split at h
  ·cases h
  ·obtain ⟨t,_,rfl⟩:=Option.map_eq_some_iff.mp h
   exact Nat.le_trans (xa0 _ _ _ _) (by omega)
theorem ok_ask_fits {f:Addr} {fd:FuncData} {C:Clss} (F:Fun K "ask_fits" "ask_fits" yd5 f fd) (mt_has_history:MethOk P w K mg base C.survey "has_history" 1 zc5 (spHasHistory C)) (c_told_ring:CallOk P w K mg base "told_ring" 4 zr5 (spToldRing C.survey C.bound)) (c_counted:CallOk P w K mg base "counted" 1 zh8 spCounted):FnOk P w K mg base CX0 5 f fd zx1 (spAskFits C):=by
 refine F.ok yt1 (fun vs H Q E h=>?_) (fun cdv A outer s H vs Q E hr h=>?_)
 ·obtain ⟨q,bs,n,rfl,_⟩:=h
  rfl
 ·obtain ⟨q,bs,n,rfl,hS,hI,hn,k⟩:=h
  have nd:=yt1.nd
  obtain ⟨dx,l,m,as,ls,hq,hB,hM⟩:=hS.ex
  refine ⟨_,(za1 (ps_if (zd0 (zn5 mt_has_history (pv 0) hr) (fun _=>rfl)) (za4 (za6 (zb7 (za0 za9 za3)))) zb1) (za4 (za6 (pe_op yj6 (zb7 (za0 za9 za3)) (zb6 c_counted (za0 (zb6 c_told_ring (za0 (pv 0) za3) hr) za3) hr))))),?_⟩
  refine ⟨_,rfl,q,dx,_,rfl,hq,ya0,q,bs,n,rfl,hS,hI,hn,_,rfl,?_⟩
  cases e:Vbqzab.fits bs n with
  | true =>
   rw [e] at k
   refine iteT ⟨(sz1),fun p hp=>?_⟩
   exact k _ p (Same.laid hp) hp za2
  | false =>
   rw [e] at k
   have hN:¬ FP.NoNeg bs:=fun h=>by
    rw [(FP.zv0 hI).mpr h] at e
    cases e
   refine iteF ⟨(sz1),fun p hp=>?_⟩
   have s1:=Same.laid (o := .lst [V.int 0]) hp
   refine ⟨_,rfl,q,bs,n,_,rfl,hS.same s1,hI,hN,hn,fun H2 r s2 hr0 hr2=>?_⟩
   refine zs9 hr2 (Nat.le_trans (ring_len bs n) (by omega)) fun H3 g s3 hg0 hg=>?_
   have hp3:H3 p=some (.lst [V.int 0]):=s3 _ _ (s2 _ _ za2)
   refine ⟨p,g,_,_,rfl,rfl,hp3,hg,?_,fun z hz=>?_⟩
   ·rw [List.length_map]
    unfold Vbqzab.listed Vbqzab.ints
    show 1 + (_ + 1)≤sizeLine
    rw [List.length_map]
    have:=ring_len bs n
    exact zd5 (by omega)
   ·have s13:=(s1.trans s2).trans s3
    exact k _ z (s13.over (s13.free hz)) (s13.free hz) za2
abbrev yd3:Stmt:=top 52
abbrev n_ask_most:List Str:=["survey", "x", "y", "most"]
abbrev zw9:List Str:=["survey", "x", "y"]
theorem ys9:FnScope n_ask_most zw9 (defScope yd3):=⟨rfl,rfl,rfl,by decide +kernel,rfl,by decide +kernel,by decide +kernel⟩
def spAskMost (C:Clss):Sp:=fun vs H Q _=>∃ (q:Addr) (bs:List Bound) (n x y:Nat),vs=[.ref q,.int x,.int y]∧SvAt C.survey C.bound H q bs n (FP.fw bs n)∧FP.Inn bs n∧FP.NoNeg bs∧x < n∧y < n∧n≤100∧NewAns H (match Vbqzab.most bs n x y with | none=>[0] | some w=>[1,w]) Q
theorem ok_ask_most {f:Addr} {fd:FuncData} {C:Clss} (F:Fun K "ask_most" "ask_most" yd3 f fd) (T:SCls K C.survey):FnOk P w K mg base CX0 1 f fd zw9 (spAskMost C):=by
 refine F.ok ys9 (fun vs H Q E h=>?_) (fun cdv A outer s H vs Q E hr h=>?_)
 ·obtain ⟨q,bs,n,x,y,rfl,_⟩:=h
  rfl
 ·obtain ⟨q,bs,n,x,y,rfl,hS,hI,hN,hx,hy,hn,k⟩:=h
  have nd:=ys9.nd
  obtain ⟨dx,l,m,as,ls,hq,hB,hM⟩:=hS.ex
  have hsh:=(FP.zs7 hI).sh
  obtain ⟨a,ha1,ha2⟩:=hM.at_ x _ (zr3 hsh hx)
  have e:at_ ((FP.fw bs n).getD x []) y=Vbqzab.most bs n x y:=FP.ym7 hI hN hx hy
  refine ⟨_,(za1 (zb8 (i:=3) nd rfl (Or.inl rfl) (zb3 zb0 (zb3 zb0 (pe_at (pv 0)) (pv 1)) (pv 2))) (za1 (ps_if (zb2 yy4 (pv 3) zg0 (nomark _)) (za4 (za6 (zb7 (za0 za9 za3)))) zb1) (za4 (za6 (zb7 (za0 za9 (za0 (pv 3) za3))))))),?_⟩
  refine ⟨_,rfl,q,C.survey,dx,_,_,rfl,hq,T.cl,T.nM,zt1 n l m,_,rfl,m,_,_,_,rfl,rfl,SqL.of hM.lst,za8 (zc8 ha1),_,rfl,a,_,_,_,rfl,rfl,SqL.of ha2,za8 (zh4 (by rw [hsh.row x hx];exact hy)),?_⟩
  rw [e]
  cases e2:Vbqzab.most bs n x y with
  | none =>
   rw [e2] at k
   refine ⟨_,rfl,rfl,_,rfl,iteT ⟨(sz1),fun p hp=>?_⟩⟩
   exact k _ p (Same.laid hp) hp za2
  | some z =>
   rw [e2] at k
   refine ⟨_,rfl,rfl,_,rfl,iteF ⟨_,rfl,(sz2),fun p hp=>?_⟩⟩
   exact k _ p (Same.laid hp) hp za2
abbrev yd2:Stmt:=top 53
abbrev n_ask_sure:List Str:=["survey", "x", "y"]
abbrev zw8:List Str:=["survey", "x", "y"]
theorem ys8:FnScope n_ask_sure zw8 (defScope yd2):=⟨rfl,rfl,rfl,by decide +kernel,rfl,by decide +kernel,by decide +kernel⟩
def spAskSure (C:Clss):Sp:=fun vs H Q _=>∃ (q:Addr) (bs:List Bound) (n x y:Nat),vs=[.ref q,.int x,.int y]∧SvAt C.survey C.bound H q bs n (FP.fw bs n)∧FP.Inn bs n∧FP.NoNeg bs∧x < n∧y < n∧n≤100∧NewAns H [if Vbqzab.surelyBefore bs n x y=true then 2 else if Vbqzab.surelyNotBehind bs n x y=true then 1 else 0] Q
theorem ok_ask_sure {f:Addr} {fd:FuncData} {C:Clss} (F:Fun K "ask_sure" "ask_sure" yd2 f fd) (mt_is_before:MethOk P w K mg base C.survey "is_before" 1 zd8 (spIsBefore C)) (mt_is_not_behind:MethOk P w K mg base C.survey "is_not_behind" 1 zd7 (spNotBehind C)):FnOk P w K mg base CX0 2 f fd zw8 (spAskSure C):=by
 refine F.ok ys8 (fun vs H Q E h=>?_) (fun cdv A outer s H vs Q E hr h=>?_)
 ·obtain ⟨q,bs,n,x,y,rfl,_⟩:=h
  rfl
 ·obtain ⟨q,bs,n,x,y,rfl,hS,hI,hN,hx,hy,hn,k⟩:=h
  have nd:=ys8.nd
  obtain ⟨dx,l,m,as,ls,hq,hB,hM⟩:=hS.ex
  refine ⟨_,(za1 (ps_if (zd0 (zd4 mt_is_before (pv 0) (za0 (pv 1) (za0 (pv 2) za3)) hr) (fun _=>rfl)) (za4 (za6 (zb7 (za0 za9 za3)))) zb1) (za1 (ps_if (zd0 (zd4 mt_is_not_behind (pv 0) (za0 (pv 1) (za0 (pv 2) za3)) hr) (fun _=>rfl)) (za4 (za6 (zb7 (za0 za9 za3)))) zb1) (za4 (za6 (zb7 (za0 za9 za3)))))),?_⟩
  refine ⟨_,rfl,q,dx,_,rfl,hq,ya0,_,rfl,_,rfl,q,bs,n,x,y,rfl,hS,hI,hN,hx,hy,_,rfl,iteB (fun e=>?_) (fun e=>?_)⟩
  ·rw [if_pos e] at k
   exact ⟨(sz1),fun p hp=>k _ p (Same.laid hp) hp za2⟩
  rw [if_neg (by rw [e];exact Bool.false_ne_true)] at k
  refine ⟨_,rfl,q,dx,_,rfl,hq,ya0,_,rfl,_,rfl,q,bs,n,x,y,rfl,hS,hI,hN,hx,hy,_,rfl,iteB (fun e=>?_) (fun e=>?_)⟩
  ·rw [if_pos e] at k
   exact ⟨(sz1),fun p hp=>k _ p (Same.laid hp) hp za2⟩
  rw [if_neg (by rw [e];exact Bool.false_ne_true)] at k
  exact ⟨(sz1),fun p hp=>k _ p (Same.laid hp) hp za2⟩
abbrev yi9:Stmt:=top 54
abbrev n_ask_way:List Str:=["survey", "x", "y"]
abbrev yb4:List Str:=["survey", "x", "y"]
theorem yx9:FnScope n_ask_way yb4 (defScope yi9):=⟨rfl,rfl,rfl,by decide +kernel,rfl,by decide +kernel,by decide +kernel⟩
def spAskWay (C:Clss):Sp:=fun vs H Q _=>∃ (q:Addr) (bs:List Bound) (n x y:Nat),vs=[.ref q,.int x,.int y]∧SvAt C.survey C.bound H q bs n (FP.fw bs n)∧FP.Inn bs n∧FP.NoNeg bs∧x < n∧y < n∧n≤100∧NewAns H (match Vbqzab.way bs n x y with | none=>[0] | some l=>1 :: Vbqzab.listed l) Q
theorem way_len {bs:List Bound} {n x y:Nat} {l:List Nat} (h:Vbqzab.way bs n x y=some l):l.length≤n:=by
 unfold Vbqzab.way at h
 split at h
 ·cases h
 ·obtain ⟨k,hk,rfl⟩:=Option.map_eq_some_iff.mp h
  have:=List.mem_range.mp (List.mem_of_find?_eq_some hk)
  exact Nat.le_trans (xa0 _ _ _ _) (by omega)
theorem ok_ask_way {f:Addr} {fd:FuncData} {C:Clss} (F:Fun K "ask_way" "ask_way" yi9 f fd) (T:SCls K C.survey) (c_told_way:CallOk P w K mg base "told_way" 4 zw3 (spToldWay C.survey C.bound)) (c_counted:CallOk P w K mg base "counted" 1 zh8 spCounted):FnOk P w K mg base CX0 5 f fd yb4 (spAskWay C):=by
 refine F.ok yx9 (fun vs H Q E h=>?_) (fun cdv A outer s H vs Q E hr h=>?_)
 ·obtain ⟨q,bs,n,x,y,rfl,_⟩:=h
  rfl
 ·obtain ⟨q,bs,n,x,y,rfl,hS,hI,hN,hx,hy,hn,k⟩:=h
  have nd:=yx9.nd
  obtain ⟨dx,l,m,as,ls,hq,hB,hM⟩:=hS.ex
  have hsh:=(FP.zs7 hI).sh
  obtain ⟨a,ha1,ha2⟩:=hM.at_ x _ (zr3 hsh hx)
  have e:at_ ((FP.fw bs n).getD x []) y=Vbqzab.most bs n x y:=FP.ym7 hI hN hx hy
  refine ⟨_,(za1 (ps_if (zb2 yy4 (zb3 zb0 (zb3 zb0 (pe_at (pv 0)) (pv 1)) (pv 2)) zg0 (nomark _)) (za4 (za6 (zb7 (za0 za9 za3)))) zb1) (za4 (za6 (pe_op yj6 (zb7 (za0 za9 za3)) (zb6 c_counted (za0 (zb6 c_told_way (za0 (pv 0) (za0 (pv 1) (za0 (pv 2) za3))) hr) za3) hr))))),?_⟩
  refine ⟨_,rfl,q,C.survey,dx,_,_,rfl,hq,T.cl,T.nM,zt1 n l m,_,rfl,m,_,_,_,rfl,rfl,SqL.of hM.lst,za8 (zc8 ha1),_,rfl,a,_,_,_,rfl,rfl,SqL.of ha2,za8 (zh4 (by rw [hsh.row x hx];exact hy)),rfl,_,rfl,?_⟩
  rw [e]
  cases e2:Vbqzab.most bs n x y with
  | none =>
   rw [FP.way_none e2] at k
   refine iteT ⟨(sz1),fun p hp=>?_⟩
   exact k _ p (Same.laid hp) hp za2
  | some z =>
   obtain ⟨r,hr2⟩:∃ r,Vbqzab.way bs n x y=some r:=by
    obtain ⟨m0,hm1,hm2⟩:=FP.way_level hI hN hx hy e2
    obtain ⟨k0,hk1,hk2,hk3⟩:=zm6 (p:=fun k=>at_ (FP.ups bs n k (Vbqzab.only n y)) x=some z) m0 hm2
    obtain ⟨r',hr'⟩:=zx9 hI k0 hx hk2
    exact ⟨r',FP.way_of e2 (by omega) hk2 hk3 hr'⟩
   rw [hr2] at k
   refine iteF ⟨(sz1),fun p hp=>?_⟩
   have s1:=Same.laid (o := .lst [V.int 1]) hp
   refine ⟨_,rfl,_,rfl,_,rfl,q,bs,n,x,y,r,rfl,hS.same s1,hI,hN,hn,hx,hy,hr2,fun H2 g2 s2 hg0 hg2=>?_⟩
   refine zs9 hg2 (Nat.le_trans (way_len hr2) (by omega)) fun H3 g s3 hg30 hg=>?_
   have hp3:H3 p=some (.lst [V.int 1]):=s3 _ _ (s2 _ _ za2)
   refine ⟨p,g,_,_,rfl,rfl,hp3,hg,?_,fun z2 hz2=>?_⟩
   ·rw [List.length_map]
    unfold Vbqzab.listed Vbqzab.ints
    show 1 + (_ + 1)≤sizeLine
    rw [List.length_map]
    have:=way_len hr2
    exact zd5 (by omega)
   ·have s13:=(s1.trans s2).trans s3
    exact k _ z2 (s13.over (s13.free hz2)) (s13.free hz2) za2
end
end FPP
namespace FPP
open PySem PySem.Spec PyProof.Rows L2
open Vbqzab (Bound Table at_ State Box Wire Evidence)
def cnt (s:State) (k:Str):Option Nat:=if k = "box" then some s.boxes.length else if k = "event" then some s.events.length else if k = "message" then some s.sent.length else if k = "evidence" then some s.evidence.length else none
section
variable {P:Program} {w:World} {K:PySem.W.Frag} {mg:Str→Option Value} {base:Heap}
abbrev zl6:Stmt:=inClass (top 28) 1
abbrev yk3:List Str:=["self", "kind"]
abbrev zf3:List Str:=["self", "kind"]
theorem zr0:FnScope yk3 zf3 (defScope zl6):=⟨rfl,rfl,rfl,by decide +kernel,rfl,by decide +kernel,by decide +kernel⟩
def spThingsOf (C:Clss):Sp:=fun vs H Q _=>∃ (p:Addr) (s:State) (k:Str),vs=[.ref p,.str k]∧RecAt C H p s∧(cnt s k=none→Q .non H)∧∀ n,cnt s k=some n→∀ (l:Addr) (xs:List V),H l=some (.lst xs)→xs.length=n→Q (.ref l) H
theorem ok_things_of {f:Addr} {fd:FuncData} {C:Clss} (F:Fun K "things_of" "Record.things_of" zl6 f fd) (T:ClssOk K C):FnOk P w K mg base CX0 1 f fd zf3 (spThingsOf C):=by
 refine F.ok zr0 (fun vs H Q E h=>?_) (fun cdv A outer s H vs Q E hr h=>?_)
 ·obtain ⟨p,t,k,rfl,_⟩:=h
  rfl
 ·obtain ⟨p,t,k,rfl,hR,k1,k2⟩:=h
  have nd:=zr0.nd
  obtain ⟨dx,lb,le,lm,lv,dw,ab,ae,av,kvs,h1,h2,h3,h4,h5,h6⟩:=hR.ex
  unfold cnt at k1 k2
  refine ⟨_,(za1 (ps_if (zb2 op_eq (pv 1) ya4 (nomark _)) (za4 (za6 (pe_at (pv 0)))) zb1) (za1 (ps_if (zb2 op_eq (pv 1) ya4 (nomark _)) (za4 (za6 (pe_at (pv 0)))) zb1) (za1 (ps_if (zb2 op_eq (pv 1) ya4 (nomark _)) (za4 (za6 (pe_at (pv 0)))) zb1) (za1 (ps_if (zb2 op_eq (pv 1) ya4 (nomark _)) (za4 (za6 (pe_at (pv 0)))) zb1) (za4 (za6 zg0)))))),?_⟩
  refine ⟨_,rfl,rfl,_,rfl,iteD (fun q=>?_) (fun q=>?_)⟩
  ·have e:k = "box" := V.str.inj q
   rw [if_pos e] at k2
   exact ⟨_,rfl,p,C.record,dx,_,_,rfl,h1,T.record,T.rBoxes,zf1 ..,k2 _ rfl _ _ h3.lst (by rw [List.length_map,h3.len,List.length_map,List.length_zipIdx])⟩
  have n1:¬ k = "box" := fun e=>q (by rw [e])
  rw [if_neg n1] at k1 k2
  refine ⟨_,rfl,rfl,_,rfl,iteD (fun q=>?_) (fun q=>?_)⟩
  ·have e:k = "event" := V.str.inj q
   rw [if_pos e] at k2
   exact ⟨_,rfl,p,C.record,dx,_,_,rfl,h1,T.record,T.rEvents,zd3 ..,k2 _ rfl _ _ h4.lst (by rw [List.length_map,h4.len])⟩
  have n2:¬ k = "event" := fun e=>q (by rw [e])
  rw [if_neg n2] at k1 k2
  refine ⟨_,rfl,rfl,_,rfl,iteD (fun q=>?_) (fun q=>?_)⟩
  ·have e:k = "message" := V.str.inj q
   rw [if_pos e] at k2
   exact ⟨_,rfl,p,C.record,dx,_,_,rfl,h1,T.record,T.rMessages,zk5 ..,k2 _ rfl _ _ h2 (by unfold nvs;rw [List.length_map])⟩
  have n3:¬ k = "message" := fun e=>q (by rw [e])
  rw [if_neg n3] at k1 k2
  refine ⟨_,rfl,rfl,_,rfl,iteD (fun q=>?_) (fun q=>?_)⟩
  ·have e:k = "evidence" := V.str.inj q
   rw [if_pos e] at k2
   exact ⟨_,rfl,p,C.record,dx,_,_,rfl,h1,T.record,T.rEvidence,zc7 ..,k2 _ rfl _ _ h5.lst (by rw [List.length_map,h5.len])⟩
  have n4:¬ k = "evidence" := fun e=>q (by rw [e])
  rw [if_neg n4] at k1
  exact k1 rfl
abbrev zp2:Stmt:=inClass (top 28) 2
abbrev yp6:List Str:=["self", "kind"]
abbrev zc9:List Str:=["self", "kind"]
theorem zw0:FnScope yp6 zc9 (defScope zp2):=⟨rfl,rfl,rfl,by decide +kernel,rfl,by decide +kernel,by decide +kernel⟩
def spIsFull (C:Clss):Sp:=fun vs H Q _=>∃ (p:Addr) (s:State) (k:Str) (n:Nat) (lo hi:Int),vs=[.ref p,.str k]∧RecAt C H p s∧cnt s k=some n∧rngs.lookup k=some (lo,hi)∧Q (.bl (decide (hi < n))) H
theorem ok_is_full {f:Addr} {fd:FuncData} {C:Clss} (F:Fun K "is_full" "Record.is_full" zp2 f fd) (R:RangesOk P w K mg) (mt_things_of:MethOk P w K mg base C.record "things_of" 1 zf3 (spThingsOf C)) (g_len:mg "len" = none):FnOk P w K mg base CX0 2 f fd zc9 (spIsFull C):=by
 refine F.ok zw0 (fun vs H Q E h=>?_) (fun cdv A outer s H vs Q E hr h=>?_)
 ·obtain ⟨p,t,k,n,lo,hi,rfl,_⟩:=h
  rfl
 ·obtain ⟨p,t,k,n,lo,hi,rfl,hR,hc,hr1,kk⟩:=h
  have nd:=zw0.nd
  obtain ⟨dx,lb,le,lm,lv,dw,ab,ae,av,kvs,h1,h2,h3,h4,h5,h6⟩:=hR.ex
  obtain ⟨ra,fr,r1,r2,r3⟩:=R.ex
  have g_RANGES:GVal mg "RANGES" (.ref ra):=⟨_,r1,rfl⟩
  obtain ⟨tt,ht1,ht2⟩:=r3 k lo hi hr1
  refine ⟨_,(za4 (za6 (zv1 op_gt (zc0 zb4 (by rfl) g_len PySem.boot_len (za0 (zd4 mt_things_of (pv 0) (za0 (pv 1) za3) hr) za3)) (zb3 yu9 (yt4 (pe_gv g_RANGES) (pv 1)) za9) (nomark _)))),?_⟩
  refine ⟨_,rfl,p,dx,_,rfl,h1,rc_no,_,rfl,p,t,k,rfl,hR,fun q=>absurd (q.symm.trans hc) (fun z=>nomatch z),fun n' hn' l xs hl hxs=>?_⟩
  have en:n=n':=Option.some.inj (hc.symm.trans hn')
  subst en
  refine ⟨l,_,rfl,.inl (SqL.of hl),_,rfl,ra,fr,.inr k,.ref tt,.ref tt,rfl,rfl,r2,ht1,rfl,tt,_,_,_,rfl,rfl,ht2 _,za8 (j:=1) (v:=V.int hi) rfl,_,_,rfl,rfl,?_⟩
  rw [hxs]
  exact kk
abbrev zp3:Stmt:=inClass (top 28) 3
abbrev yp7:List Str:=["self", "kinds", "given", "kind", "number", "things"]
abbrev zk1:List Str:=["self", "kinds", "given"]
theorem zw1:FnScope yp7 zk1 (defScope zp3):=⟨rfl,rfl,rfl,by decide +kernel,rfl,by decide +kernel,by decide +kernel⟩
def there (s:State) (k:Str) (g:Int):Bool:=match cnt s k with
 | some n=>decide (g < n)
 | none=>true
def allThere (s:State) (ks:List Str) (gs:List Int):Bool:=(ks.zip gs).all fun t=>there s t.1 t.2
theorem yl2 {s:State} {ks:List Str} {gs:List Int} {i:Nat} {k:Str} {g:Int} (hk:ks[i]?=some k) (hg:gs[i]?=some g):allThere s (ks.take (i + 1)) (gs.take (i + 1))=(allThere s (ks.take i) (gs.take i) && there s k g):=by
 unfold allThere
 have h1:=(List.getElem?_eq_some_iff.mp hk).1
 have h2:=(List.getElem?_eq_some_iff.mp hg).1
 rw [List.take_add_one,List.take_add_one,hk,hg]
 show ((ks.take i++[k]).zip (gs.take i++[g])).all _=_
 rw [List.zip_append (by rw [List.length_take,List.length_take];omega),List.all_append]
 simp
theorem yx4 {s:State} {ks:List Str} {gs:List Int} {i:Nat} {k:Str} {g:Int} (hk:ks[i]?=some k) (hg:gs[i]?=some g) (h:there s k g=false):allThere s ks gs=false:=by
 unfold allThere
 refine Bool.eq_false_iff.mpr fun q=>?_
 have hz:(ks.zip gs)[i]?=some (k,g):=by rw [List.getElem?_zip_eq_some];exact ⟨hk,hg⟩
 have:=List.all_eq_true.mp q (k,g) (List.mem_of_getElem? hz)
 rw [h] at this
 cases this
def spHasAll (C:Clss) (K:PySem.W.Frag):Sp:=fun vs H Q _=>∃ (p a b:Addr) (s:State) (ks:List Str) (gs:List Int),vs=[.ref p,.ref a,.ref b]∧RecAt C H p s∧SqT K H a (ks.map V.str)∧SqL K H b (gs.map V.int)∧ks.length=gs.length∧∀ H',Same H H'→Q (.bl (allThere s ks gs)) H'
theorem ok_has_all {f:Addr} {fd:FuncData} {C:Clss} (F:Fun K "has_all" "Record.has_all" zp3 f fd) (mt_things_of:MethOk P w K mg base C.record "things_of" 1 zf3 (spThingsOf C)) (g_zip:mg "zip" = none) (g_len:mg "len" = none):FnOk P w K mg base CX0 2 f fd zk1 (spHasAll C K):=by
 refine F.ok zw1 (fun vs H Q E h=>?_) (fun cdv A outer s H vs Q E hr h=>?_)
 ·obtain ⟨p,a,b,t,ks,gs,rfl,_⟩:=h
  rfl
 ·obtain ⟨p,a,b,t,ks,gs,rfl,hR,ha,hb,hlen,k⟩:=h
  have nd:=zw1.nd
  obtain ⟨dx,lb,le,lm,lv,dw,ab,ae,av,kvs,h1,h2,h3,h4,h5,h6⟩:=hR.ex
  refine ⟨_,(za1 (zj3 PassesOwn.never rfl (TZ.pi_zipTL rfl g_zip (za0 (pv 1) (za0 (pv 2) za3))) (yt3 rfl (ze8 (zc3 (i:=3) nd rfl (Or.inl rfl)) (ze8 (zc3 (i:=4) nd rfl (Or.inl rfl)) zz0))) (za1 (zb8 (i:=5) nd rfl (Or.inl rfl) (zd4 mt_things_of (pv 0) (za0 (pv 3) za3) hr)) (za4 (ps_if ((pw_and (zb2 zp4 (pv 5) zg0 (nomark _)) (pw_and1 (zb2 op_ge (pv 4) (zc0 zb4 (by rfl) g_len PySem.boot_len (za0 (pv 5) za3)) (nomark _))))).pt (za4 (za6 pe_bl)) zb1)))) (za4 (za6 pe_bl))),?_⟩
  refine ⟨_,rfl,_,rfl,a,b,_,_,rfl,ha,hb,TZ.for_zipTL (n:=gs.length) (K:=K) (xs:=ks.map V.str) (ys:=gs.map V.int) (by rw [List.length_map,hlen]) (by rw [List.length_map])
   (fun i σ H'=>∃ v3 v4 v5:Option V,σ=[some (.ref p),some (.ref a),some (.ref b),v3,v4,v5]∧Same H H'∧allThere t (ks.take i) (gs.take i)=true) ⟨none,none,none,rfl,Same.refl H,rfl⟩ (fun i σ H' _ ⟨_,_,_,_,s2,_⟩=>⟨s2.tup ha,s2.seq hb⟩) ?_ ?_⟩
  ·rintro i x y σ H2 T hx hy ⟨v3,v4,v5,rfl,s2,hin⟩ hT
   rw [List.getElem?_map] at hx hy
   obtain ⟨kd,hk1,rfl⟩:=Option.map_eq_some_iff.mp hx
   obtain ⟨g,hg1,rfl⟩:=Option.map_eq_some_iff.mp hy
   have s3:Same H (upd H2 T (.tup [V.str kd,V.int g])):=s2.trans (Same.laid hT)
   refine ⟨T,_,rfl,SqT.of za2,rfl,_,_,rfl,_,_,rfl,rfl,?_⟩
   refine ⟨_,rfl,p,dx,_,rfl,s3 _ _ h1,rc_no,_,rfl,p,t,kd,rfl,hR.same s3,fun hn=>?_,fun n hn l xs hl hxs=>?_⟩
   ·have e:there t kd g=true:=by unfold there;rw [hn]
    refine ⟨_,rfl,rfl,_,rfl,iteF (iteF ⟨_,_,_,rfl,s3,?_⟩)⟩
    rw [yl2 hk1 hg1,hin,e]
    rfl
   ·have e:there t kd g=decide (g < n):=by unfold there;rw [hn]
    refine ⟨_,rfl,rfl,_,rfl,iteT ⟨_,rfl,_,rfl,l,_,rfl,.inl (SqL.of hl),_,_,rfl,rfl,_,rfl,iteD (fun q=>?_) (fun q=>?_)⟩⟩
    ·rw [hxs] at q
     have e2:allThere t ks gs=false:=yx4 hk1 hg1 (by rw [e];exact decide_eq_false (by omega))
     rw [e2] at k
     exact k _ s3
    ·rw [hxs] at q
     refine ⟨_,_,_,rfl,s3,?_⟩
     rw [yl2 hk1 hg1,hin,e,decide_eq_true (by omega)]
     rfl
  ·rintro σ H2 ⟨v3,v4,v5,rfl,s2,hin⟩
   rw [List.take_of_length_le (by omega),List.take_of_length_le (Nat.le_refl _)] at hin
   rw [hin] at k
   exact k _ s2
end
end FPP
namespace FPP
open PySem PySem.Spec PyProof.Rows L2
open Vbqzab (Bound Table at_ State Box Wire Evidence)
def cafs (n:Nat) (g r:Addr) (e:Nat):List (Str×V):=putF "end" (.int e) (putF "row" (.ref r) (putF "given" (.ref g) (putF "number" (.int n) [])))
structure CCls (K:PySem.W.Frag) (C:Addr):Prop where
 cl:Cls K C
 nN:NoAttr K C "number"
 nG:NoAttr K C "given"
 nR:NoAttr K C "row"
 nE:NoAttr K C "end"
def kinds:List (List Str):=[["slow", "fast", "grain"],["box", "box", "least", "greatest"],["box", "stamp"],["box", "stamp"],["event"],["message", "event"],["event", "event", "span", "span"],["evidence"],[],["event", "event"],["event", "event"],["event", "event"],[],[],[],["event"],[],["event", "event"],["message", "box", "stamp"],[],["box", "stamp"],["box"],[],[]]
theorem kinds_len {c n:Nat} (h:FP.arity[c]?=some n):∃ ks,kinds[c]?=some ks∧ks.length=n:=by
 have e:kinds.map List.length=FP.arity:=by decide +kernel
 rw [← e,List.getElem?_map] at h
 exact Option.map_eq_some_iff.mp h
structure KindsOk (K:PySem.W.Frag) (mg:Str→Option Value):Prop where
 ex:∃ (a:Addr) (ts:List Addr),mg "KINDS" = some (.ref a)∧(∀ H:Hp,SqT K H a (ts.map V.ref))∧∀ (c:Nat) (ks:List Str),kinds[c]?=some ks→∃ t,ts[c]?=some t∧∀ H:Hp,SqT K H t (ks.map V.str)
structure RowsOk (K:PySem.W.Frag) (mg:Str→Option Value):Prop where
 ex:∃ a:Addr,mg "WITH_ROW" = some (.ref a)∧∀ H:Hp,SqT K H a [V.int 12,V.int 16,V.int 19]
theorem cut_mid {xs:List V} {i j:Nat} (h1:i≤j) (h2:j≤xs.length):cutV xs (some (i:Int)) (some (j:Int))=(xs.drop i).take (j - i):=by
 unfold cutV HT.sIx
 simp only
 rw [if_neg (by omega),if_neg (by omega),Int.toNat_natCast,Int.toNat_natCast,Nat.min_eq_left h2,Nat.min_eq_left (show i≤xs.length by omega)]
theorem row_in:∀ {c:Nat},c < 24→inV (V.int (c:Int)) [V.int 12,V.int 16,V.int 19]=FP.hasRow c:=by
 have h:∀ c:Nat,c < 24→inV (V.int (c:Int)) [V.int 12,V.int 16,V.int 19]=FP.hasRow c:=by decide +kernel
 exact fun {c} hc=>h c hc
section
variable {P:Program} {w:World} {K:PySem.W.Frag} {mg:Str→Option Value} {base:Heap}
abbrev zy7:Stmt:=inClass (top 16) 0
abbrev n_Call_init:List Str:=["self", "number", "given", "row", "end"]
abbrev zs3:List Str:=["self", "number", "given", "row", "end"]
theorem yo3:FnScope n_Call_init zs3 (defScope zy7):=⟨rfl,rfl,rfl,by decide +kernel,rfl,by decide +kernel,by decide +kernel⟩
def spCallInit (C:Addr):Sp:=fun vs H Q _=>∃ (p dx g r:Addr) (n e:Nat),vs=[.ref p,.int n,.ref g,.ref r,.int e]∧H p=some (.ins C dx [])∧Q .non (upd H p (.ins C dx (cafs n g r e)))
theorem ok_call_init {f C:Addr} {fd:FuncData} (F:Fun K "__init__" "Call.__init__" zy7 f fd) (T:CCls K C):FnOk P w K mg base CX0 1 f fd zs3 (spCallInit C):=by
 refine F.ok yo3 (fun vs H Q E h=>?_) (fun cdv A outer s H vs Q E hr h=>?_)
 ·obtain ⟨p,dx,g,r,n,e,rfl,_⟩:=h
  rfl
 ·obtain ⟨p,dx,g,r,n,e,rfl,hp,k⟩:=h
  have nd:=yo3.nd
  refine ⟨_,(za1 (zd6 (pv 0) (pv 1) rfl) (za1 (zd6 (pv 0) (pv 2) rfl) (za1 (zd6 (pv 0) (pv 3) rfl) (za4 (zd6 (pv 0) (pv 4) rfl))))),?_⟩
  refine ⟨_,rfl,_,rfl,p,C,dx,_,rfl,hp,T.cl,T.nN,(by show 0 < 1000;decide),_,rfl,_,rfl,p,C,dx,_,rfl,za2,T.cl,T.nG,(by show 1 < 1000;decide),_,rfl,_,rfl,p,C,dx,_,rfl,za2,T.cl,T.nR,(by show 2 < 1000;decide),_,rfl,_,rfl,p,C,dx,_,rfl,za2,T.cl,T.nE,(by show 3 < 1000;decide),?_⟩
  rw [zc6,zc6,zc6]
  exact k
abbrev zy5:Stmt:=top 17
abbrev n_read_call:List Str:=["calls", "place", "number", "behind", "given", "end"]
abbrev zs1:List Str:=["calls", "place"]
theorem yo1:FnScope n_read_call zs1 (defScope zy5):=⟨rfl,rfl,rfl,by decide +kernel,rfl,by decide +kernel,by decide +kernel⟩
def spReadCall (C:Clss) (K:PySem.W.Frag):Sp:=fun vs H Q _=>∃ (a:Addr) (ns:List Int) (pl c m:Nat),vs=[.ref a,.int pl]∧SqL K H a (ns.map V.int)∧ns[pl]?=some (c:Int)∧c < 24∧FP.arity[c]?=some m∧pl + 1 + m≤ns.length ∧
 (FP.hasRow c=false→∀ (H':Hp) (p g r dx:Addr),Same H H'→H' p=some (.ins C.call dx (cafs c g r (pl + 1 + m)))→H' g=some (.lst (((ns.drop (pl + 1)).take m).map V.int))→H' r=some (.lst [])→Q (.ref p) H') ∧
 (FP.hasRow c=true→∃ q:Nat,ns[pl + 1 + m]?=some (q:Int)∧pl + 1 + m + 1 + q≤ns.length∧∀ (H':Hp) (p g r dx:Addr),Same H H'→H' p=some (.ins C.call dx (cafs c g r (pl + 1 + m + 1 + q)))→H' g=some (.lst (((ns.drop (pl + 1)).take m).map V.int))→H' r=some (.lst (((ns.drop (pl + 1 + m + 1)).take q).map V.int))→Q (.ref p) H')
theorem ok_read_call {f:Addr} {fd:FuncData} {C:Clss} (F:Fun K "read_call" "read_call" zy5 f fd) (Kk:KindsOk K mg) (Rr:RowsOk K mg) (m_Call:MakeOk P w K mg base "Call" C.call 1 zs3 (spCallInit C.call)) (g_len:mg "len" = none):FnOk P w K mg base CX0 3 f fd zs1 (spReadCall C K):=by
 refine F.ok yo1 (fun vs H Q E h=>?_) (fun cdv A outer s H vs Q E hr h=>?_)
 ·obtain ⟨a,ns,pl,c,m,rfl,_⟩:=h
  rfl
 ·obtain ⟨a,ns,pl,c,m,rfl,ha,hc,hc24,hm,hlen,k1,k2⟩:=h
  have nd:=yo1.nd
  obtain ⟨ka,kts,q1,q2,q3⟩:=Kk.ex
  obtain ⟨ra,r1,r2⟩:=Rr.ex
  have g_KINDS:GVal mg "KINDS" (.ref ka):=⟨_,q1,rfl⟩
  have g_WITH_ROW:GVal mg "WITH_ROW" (.ref ra):=⟨_,r1,rfl⟩
  obtain ⟨ks,hk1,hk2⟩:=kinds_len hm
  obtain ⟨kt,ht1,ht2⟩:=q3 c ks hk1
  have hget:(ns.map V.int)[pl]?=some (V.int (c:Int)):=by rw [List.getElem?_map,hc];rfl
  refine ⟨_,(za1 (zb8 (i:=2) nd rfl (Or.inl rfl) (zb3 zb0 (pv 0) (pv 1))) (za1 (zb8 (i:=3) nd rfl (Or.inl rfl) (pe_op zx2 (pe_op zx2 (pv 1) za9) (zc0 zb4 (by rfl) g_len PySem.boot_len (za0 (zb3 yu9 (pe_gv g_KINDS) (pv 2)) za3)))) (za1 (zb8 (i:=4) nd rfl (Or.inl rfl) (yj2 ys1 (pv 0) (yf8 (pe_op zx2 (pv 1) za9)) (yf8 (pv 3)))) (za1 (ps_if (zb2 op_notIn_seq (pv 2) (pe_gv g_WITH_ROW) (by rfl)) (za4 (za6 (zh5 m_Call (za0 (pv 2) (za0 (pv 4) (za0 (zb7 za3) (za0 (pv 3) za3)))) hr))) zb1) (za1 (zb8 (i:=5) nd rfl (Or.inl rfl) (pe_op zx2 (pe_op zx2 (pv 3) za9) (zb3 zb0 (pv 0) (pv 3)))) (za4 (za6 (zh5 m_Call (za0 (pv 2) (za0 (pv 4) (za0 (yj2 ys1 (pv 0) (yf8 (pe_op zx2 (pv 3) za9)) (yf8 (pv 5))) (za0 (pv 5) za3)))) hr)))))))),?_⟩
  refine ⟨_,rfl,_,rfl,a,_,_,_,rfl,rfl,ha,za8 hget,?_⟩
  refine ⟨_,rfl,_,_,rfl,rfl,_,rfl,ka,_,_,_,rfl,rfl,q2 _,za8 (zc8 ht1),kt,_,rfl,.inr (ht2 _),_,_,rfl,rfl,?_⟩
  rw [List.length_map,hk2]
  have eb:(pl:Int) + 1 + (m:Int)=((pl + 1 + m:Nat):Int):=by omega
  have ep:(pl:Int) + 1=((pl + 1:Nat):Int):=by omega
  dsimp only
  rw [eb]
  have hml:(ns.map V.int).length=ns.length:=List.length_map _
  refine ⟨_,rfl,_,rfl,_,_,rfl,rfl,_,rfl,_,rfl,_,rfl,a,_,rfl,ha,fun g hg=>?_⟩
  dsimp only
  rw [ep,cut_mid (by omega) (by rw [hml];exact hlen),show pl + 1 + m - (pl + 1)=m by omega,← List.map_drop,← List.map_take]
  obtain ⟨H1,hH1⟩:∃ H1,H1=upd H g (.lst (((ns.drop (pl + 1)).take m).map V.int)):=⟨_,rfl⟩
  have s1:Same H H1:=by rw [hH1];exact Same.laid hg
  have hg1:H1 g=some (.lst (((ns.drop (pl + 1)).take m).map V.int)):=by rw [hH1];exact za2
  rw [← hH1]
  have hin:inV (V.int (c:Int)) [V.int 12,V.int 16,V.int 19]=FP.hasRow c:=row_in hc24
  refine ⟨_,rfl,ra,_,rfl,.inr (r2 _),rfl,rfl,_,rfl,?_⟩
  rw [hin]
  cases e:FP.hasRow c with
  | false =>
   refine iteT ⟨_,rfl,_,rfl,Nat.zero_le _,fun r hr0=>⟨_,rfl,fun p dp hp hdp _=>⟨p,dp,g,r,c,pl + 1 + m,rfl,za2,?_⟩⟩⟩
   rw [zc6]
   have hgr:g≠r:=zb9 hg1 hr0
   have s2:Same H1 (upd H1 r (.lst [])):=Same.laid hr0
   refine ⟨rfl,k1 e _ p g r dp (s1.trans (s2.trans (Same.new hp hdp))) za2 ((s2.trans (Same.new hp hdp)) _ _ hg1) ((Same.new hp hdp) _ _ za2)⟩
  | true =>
   obtain ⟨q,hq1,hq2,kq⟩:=k2 e
   have hgq:(ns.map V.int)[pl + 1 + m]?=some (V.int (q:Int)):=by rw [List.getElem?_map,hq1];rfl
   refine iteF ?_
   refine ⟨_,rfl,_,_,rfl,rfl,_,rfl,_,rfl,a,_,_,_,rfl,rfl,s1.seq ha,za8 hgq,_,_,rfl,rfl,?_⟩
   have ee:((pl + 1 + m:Nat):Int) + 1 + (q:Int)=((pl + 1 + m + 1 + q:Nat):Int):=by omega
   have eb1:((pl + 1 + m:Nat):Int) + 1=((pl + 1 + m + 1:Nat):Int):=by omega
   dsimp only
   rw [ee]
   refine ⟨_,rfl,_,rfl,_,rfl,_,rfl,_,_,rfl,rfl,_,rfl,_,rfl,_,rfl,a,_,rfl,s1.seq ha,fun r hr0=>?_⟩
   dsimp only
   rw [eb1,cut_mid (by omega) (by rw [hml];exact hq2),show pl + 1 + m + 1 + q - (pl + 1 + m + 1)=q by omega,← List.map_drop,← List.map_take]
   have s2:Same H1 (upd H1 r (.lst (((ns.drop (pl + 1 + m + 1)).take q).map V.int))):=Same.laid hr0
   refine ⟨_,rfl,fun p dp hp hdp _=>⟨p,dp,g,r,c,pl + 1 + m + 1 + q,rfl,za2,?_⟩⟩
   rw [zc6]
   exact ⟨rfl,kq _ p g r dp (s1.trans (s2.trans (Same.new hp hdp))) za2 ((s2.trans (Same.new hp hdp)) _ _ hg1) ((Same.new hp hdp) _ _ za2)⟩
end
end FPP
namespace FPP
open PySem PySem.Spec PyProof.Rows L2
open Vbqzab (Bound Table at_ State Box Wire Evidence)
def SameF (F:List Addr) (H H':Hp):Prop:=∀ b o,H b=some o→b ∉ F→H' b=some o
theorem SameF.of {F:List Addr} {H H':Hp} (h:Same H H'):SameF F H H':=fun b o e _=>h b o e
theorem SameF.trans {F:List Addr} {H H1 H2:Hp} (a:SameF F H H1) (b:SameF F H1 H2):SameF F H H2:=fun c o e n=>b c o (a c o e n) n
theorem SameF.upd {F:List Addr} {H:Hp} {l:Addr} {o:HO} (h:l∈F):SameF F H (L2.upd H l o):=fun b u e n=>by rw [zb5 (fun q=>n (by rw [q];exact h))];exact e
structure RecM (C:Clss) (H0 H:Hp) (p:Addr) (s:State) (F:List Addr):Prop where
 ex:∃ (dx lb le lm lv dw:Addr) (ab ae av:List Addr) (kvs:List (List Key×V)),H p=some (.ins C.record dx (rcfs lb le lm lv dw))∧H lm=some (.lst (nvs s.sent)) ∧
  ObsAt (fun H a (b:Box×Bool)=>BoxAt C b.2 H a b.1) H lb ab (s.boxes.zipIdx.map fun t=>(t.1,Vbqzab.isOld s t.2))∧ObsAt (EvtAt C) H le ae s.events∧ObsAt (EvdAt C) H lv av s.evidence∧WirsAt C H dw kvs s ∧
  F=lb :: le :: lm :: lv :: dw :: ab∧[lb,le,lm,lv].Nodup∧ab.Nodup
 fr:∀ a∈F,H0 a=none
 same:Same H0 H
theorem RecM.at {C:Clss} {H0 H:Hp} {p:Addr} {s:State} {F:List Addr} (h:RecM C H0 H p s F):RecAt C H p s:=by
 obtain ⟨dx,lb,le,lm,lv,dw,ab,ae,av,kvs,h1,h2,h3,h4,h5,h6,_⟩:=h.ex
 exact ⟨dx,lb,le,lm,lv,dw,ab,ae,av,kvs,h1,h2,h3,h4,h5,h6⟩
theorem RecM.later {C:Clss} {H0 H H':Hp} {p:Addr} {t:State} {F:List Addr} (h:RecM C H0 H p t F) (s:Same H H'):RecM C H0 H' p t F:=by
 obtain ⟨dx,lb,le,lm,lv,dw,ab,ae,av,kvs,h1,h2,h3,h4,h5,h6,h7⟩:=h.ex
 refine ⟨⟨dx,lb,le,lm,lv,dw,ab,ae,av,kvs,s _ _ h1,s _ _ h2,h3.same s ?_,h4.same s ?_,h5.same s ?_,h6.same s,h7⟩,h.fr,h.same.trans s⟩
 ·rintro a x ⟨d,h⟩
  exact ⟨d,s _ _ h⟩
 ·rintro a x ⟨d,h⟩
  exact ⟨d,s _ _ h⟩
 ·exact fun a x h=>h.same s
theorem RecM.out {C:Clss} {H0 H:Hp} {p z:Addr} {t:State} {F:List Addr} (h:RecM C H0 H p t F) (hz:H z=none):z ∉ F:=by
 obtain ⟨dx,lb,le,lm,lv,dw,ab,ae,av,kvs,h1,h2,h3,h4,h5,h6,h7,h8,h9⟩:=h.ex
 intro q
 have bad:∀ {a:Addr} {o:HO},H a=some o→z=a→False:=fun e e2=>by rw [e2,e] at hz;cases hz
 rw [h7] at q
 simp only [List.mem_cons] at q
 rcases q with q | q | q | q | q | q
 ·exact bad h3.lst q
 ·exact bad h4.lst q
 ·exact bad h2 q
 ·exact bad h5.lst q
 ·exact bad h6.dict q
 ·obtain ⟨i,hi⟩:=List.getElem?_of_mem q
  obtain ⟨b,hb⟩:=FP.zc2 (l:=t.boxes.zipIdx.map fun u=>(u.1,Vbqzab.isOld t u.2)) (i:=i) (by rw [← h3.len];exact (List.getElem?_eq_some_iff.mp hi).1)
  obtain ⟨a,e1,d,e2⟩:=h3.at_ i b hb
  rw [hi] at e1
  cases e1
  exact bad e2 rfl
theorem zi2 {H:Hp} {l a C dx:Addr} {fs:List (Str×V)} {xs:List V} {o:HO} (hl:H l=some (.lst xs)) (h:H a=some (.ins C dx fs)):(L2.upd H l o) a=some (.ins C dx fs):=by
 rw [zb5 (ne_of h hl (fun e=>nomatch e))]
 exact h
theorem ObsAt.upd {α:Type} {R:Hp→Addr→α→Prop} {H:Hp} {l l':Addr} {as:List Addr} {xs:List α} {o:HO} (h:ObsAt R H l as xs) (hne:l≠l') (hR:∀ a x,R H a x→R (L2.upd H l' o) a x):ObsAt R (L2.upd H l' o) l as xs :=
 ⟨by rw [zb5 hne];exact h.lst,h.len,fun i x hx=>by
  obtain ⟨a,h1,h2⟩:=h.at_ i x hx
  exact ⟨a,h1,hR _ _ h2⟩⟩
theorem ObsAt.push {α:Type} {R:Hp→Addr→α→Prop} {H:Hp} {l a:Addr} {as:List Addr} {xs:List α} {x:α} (h:ObsAt R H l as xs) (ha:R H a x) (hR:∀ b y,R H b y→R (L2.upd H l (.lst (as.map V.ref++[V.ref a]))) b y):ObsAt R (L2.upd H l (.lst (as.map V.ref++[V.ref a]))) l (as++[a]) (xs++[x]):=by
 refine ⟨by rw [za2,List.map_append];rfl,by rw [List.length_append,List.length_append,h.len];rfl,fun i y hy=>?_⟩
 rcases FP.zk2 hy with hy | ⟨rfl,rfl⟩
 ·obtain ⟨b,h1,h2⟩:=h.at_ i y hy
  exact ⟨b,by rw [FP.zg4 (List.getElem?_eq_some_iff.mp h1).1];exact h1,hR _ _ h2⟩
 ·exact ⟨a,by rw [← h.len,List.getElem?_append_right (Nat.le_refl _),Nat.sub_self];rfl,hR _ _ ha⟩
theorem yc2 {C:Clss} {H:Hp} {d l:Addr} {kvs:List (List Key×V)} {t:State} {xs:List V} {o:HO} (h:WirsAt C H d kvs t) (hl:H l=some (.lst xs)):WirsAt C (L2.upd H l o) d kvs t :=
 ⟨by rw [zb5 (ne_of h.dict hl (fun e=>nomatch e))];exact h.dict,h.none_,fun i j v e=>by
  obtain ⟨a,h1,dx,h2⟩:=h.some_ i j v e
  exact ⟨a,h1,dx,zi2 hl h2⟩,h.nd,h.rg⟩
theorem yn1 {C:Clss} {H:Hp} {l a:Addr} {xs:List V} {o:HO} {v:Evidence} (hl:H l=some (.lst xs)) (h:EvdAt C H a v):EvdAt C (L2.upd H l o) a v:=by
 cases v with
 | hearing m y =>
  obtain ⟨dx,h⟩:=h
  exact ⟨dx,zi2 hl h⟩
 | limit x y lo hi =>
  obtain ⟨dx,h⟩:=h
  exact ⟨dx,zi2 hl h⟩
theorem yn0 {C:Clss} {H:Hp} {l a:Addr} {xs:List V} {o:HO} {v:Vbqzab.Event} (hl:H l=some (.lst xs)) (h:EvtAt C H a v):EvtAt C (L2.upd H l o) a v:=by
 obtain ⟨dx,h⟩:=h
 exact ⟨dx,zi2 hl h⟩
theorem yh0 {C:Clss} {H:Hp} {l a:Addr} {xs:List V} {o:HO} {v:Box} {b:Bool} (hl:H l=some (.lst xs)) (h:BoxAt C b H a v):BoxAt C b (L2.upd H l o) a v:=by
 obtain ⟨dx,h⟩:=h
 exact ⟨dx,zi2 hl h⟩
theorem RecM.sent {C:Clss} {H0 H:Hp} {p:Addr} {t:State} {F:List Addr} (h:RecM C H0 H p t F) (x:Nat):∃ lm,lm∈F∧H lm=some (.lst (nvs t.sent))∧(∃ dx lb le lv dw,H p=some (.ins C.record dx (rcfs lb le lm lv dw)))∧RecM C H0 (L2.upd H lm (.lst (nvs t.sent++[V.int x]))) p { t with sent:=t.sent++[x] } F:=by
 obtain ⟨dx,lb,le,lm,lv,dw,ab,ae,av,kvs,h1,h2,h3,h4,h5,h6,h7,h8,h9⟩:=h.ex
 have hm:lm∈F:=by rw [h7];simp
 simp only [List.nodup_cons,List.mem_cons,List.not_mem_nil,or_false,not_or] at h8
 refine ⟨lm,hm,h2,⟨dx,lb,le,lv,dw,h1⟩,⟨dx,lb,le,lm,lv,dw,ab,ae,av,kvs,zi2 h2 h1,?_,h3.upd h8.1.2.1 (fun a x q=>yh0 h2 q),h4.upd h8.2.1.1 (fun a x q=>yn0 h2 q),h5.upd (Ne.symm h8.2.2.1) (fun a x q=>yn1 h2 q),?_,h7,?_,h9⟩,h.fr,h.same.over (h.fr lm hm)⟩
 ·rw [za2]
  unfold nvs
  rw [List.map_append]
  rfl
 ·have:=yc2 (o := .lst (nvs t.sent++[V.int x])) h6 h2
  exact ⟨this.dict,this.none_,this.some_,this.nd,this.rg⟩
 ·simp only [List.nodup_cons,List.mem_cons,List.not_mem_nil,or_false,not_or]
  exact h8
theorem RecM.evid {C:Clss} {H0 H:Hp} {p a:Addr} {t:State} {F:List Addr} {v:Evidence} (h:RecM C H0 H p t F) (ha:EvdAt C H a v):∃ lv xs,lv∈F∧H lv=some (.lst xs)∧xs.length=t.evidence.length∧(∃ dx lb le lm dw,H p=some (.ins C.record dx (rcfs lb le lm lv dw)))∧RecM C H0 (L2.upd H lv (.lst (xs++[V.ref a]))) p { t with evidence:=t.evidence++[v] } F:=by
 obtain ⟨dx,lb,le,lm,lv,dw,ab,ae,av,kvs,h1,h2,h3,h4,h5,h6,h7,h8,h9⟩:=h.ex
 have hm:lv∈F:=by rw [h7];simp
 simp only [List.nodup_cons,List.mem_cons,List.not_mem_nil,or_false,not_or] at h8
 refine ⟨lv,_,hm,h5.lst,by rw [List.length_map,h5.len],⟨dx,lb,le,lm,dw,h1⟩,⟨dx,lb,le,lm,lv,dw,ab,ae,av++[a],kvs,zi2 h5.lst h1,?_,h3.upd h8.1.2.2 (fun a x q=>yh0 h5.lst q),h4.upd h8.2.1.2 (fun a x q=>yn0 h5.lst q),h5.push ha (fun b y q=>yn1 h5.lst q),?_,h7,?_,h9⟩,h.fr,h.same.over (h.fr lv hm)⟩
 ·rw [zb5 h8.2.2.1]
  exact h2
 ·have:=yc2 (o := .lst (av.map V.ref++[V.ref a])) h6 h5.lst
  exact ⟨this.dict,this.none_,this.some_,this.nd,this.rg⟩
 ·simp only [List.nodup_cons,List.mem_cons,List.not_mem_nil,or_false,not_or]
  exact h8
def Told1 (C:Clss) (H0 H:Hp) (p:Addr) (F:List Addr) (r:State×List Int) (Q:VK):Prop:=∀ (H':Hp) (q:Addr) (F':List Addr),RecM C H0 H' p r.1 F'→SameF F H H'→(∀ a∈F',a∈F∨H a=none)→H q=none→q ∉ F'→H' q=some (.lst (r.2.map V.int))→Q (.ref q) H'
section
variable {P:Program} {w:World} {K:PySem.W.Frag} {mg:Str→Option Value} {base:Heap}
abbrev zu4:Stmt:=top 60
abbrev n_put_behind:List Str:=["things", "thing"]
abbrev ze2:List Str:=["things", "thing"]
theorem yi1:FnScope n_put_behind ze2 (defScope zu4):=⟨rfl,rfl,rfl,by decide +kernel,rfl,by decide +kernel,by decide +kernel⟩
def spPutBehind:Sp:=fun vs H Q _=>∃ (l:Addr) (xs:List V) (v:V),vs=[.ref l,v]∧H l=some (.lst xs)∧xs.length≤1000∧∀ q,H q=none→Q (.ref q) (upd (upd H l (.lst (xs++[v]))) q (.lst [V.int xs.length]))
theorem xb8 {f:Addr} {fd:FuncData} (F:Fun K "put_behind" "put_behind" zu4 f fd) (g_len:mg "len" = none):FnOk P w K mg base CX0 1 f fd ze2 spPutBehind:=by
 refine F.ok yi1 (fun vs H Q E h=>?_) (fun cdv A outer s H vs Q E hr h=>?_)
 ·obtain ⟨l,xs,v,rfl,_⟩:=h
  rfl
 ·obtain ⟨l,xs,v,rfl,hl,hn,k⟩:=h
  have nd:=yi1.nd
  refine ⟨_,(za1 (zl7 (pe_bm PySem.F.plainAttrs_list PySem.F.slot_list_append PySem.F.type_list_append zs4 (pv 0) (za0 (pv 1) za3))) (za4 (za6 (zb7 (za0 (pe_op yt5 (zc0 zb4 (by rfl) g_len PySem.boot_len (za0 (pv 0) za3)) za9) za3))))),?_⟩
  refine ⟨_,rfl,.inl ⟨rfl,_,SqL.of hl⟩,_,rfl,l,_,_,rfl,rfl,hl,small1000 (by omega),?_⟩
  refine ⟨_,rfl,l,_,rfl,.inl (SqL.of za2),_,_,rfl,rfl,(sz1),fun q hq=>?_⟩
  have hql:q≠l:=fun e=>by rw [e,za2] at hq;cases hq
  rw [zb5 hql] at hq
  have e:((xs++[v]).length:Int) - 1=(xs.length:Int):=by rw [List.length_append];show ((xs.length + 1:Nat):Int) - 1=_;omega
  dsimp only
  rw [e]
  exact k q hq
abbrev zy2:Stmt:=top 65
abbrev n_tell_sent:List Str:=["record", "x"]
abbrev zr7:List Str:=["record", "x"]
theorem yn7:FnScope n_tell_sent zr7 (defScope zy2):=⟨rfl,rfl,rfl,by decide +kernel,rfl,by decide +kernel,by decide +kernel⟩
def spTellSent (C:Clss):Sp:=fun vs H Q _=>∃ (p:Addr) (H0:Hp) (s:State) (F:List Addr) (x:Nat),vs=[.ref p,.int x]∧RecM C H0 H p s F∧s.sent.length≤12∧Told1 C H0 H p F (if Vbqzab.MESSAGES≤s.sent.length then Vbqzab.no s (-7) else ({ s with sent:=s.sent++[x] },[Vbqzab.whole s.sent.length])) Q
theorem ok_tell_sent {f:Addr} {fd:FuncData} {C:Clss} (F:Fun K "tell_sent" "tell_sent" zy2 f fd) (T:ClssOk K C) (g_FULL:GVal mg "FULL" (.int (-7))) (mt_is_full:MethOk P w K mg base C.record "is_full" 2 zc9 (spIsFull C)) (c_put_behind:CallOk P w K mg base "put_behind" 1 ze2 spPutBehind):FnOk P w K mg base CX0 3 f fd zr7 (spTellSent C):=by
 refine F.ok yn7 (fun vs H Q E h=>?_) (fun cdv A outer s H vs Q E hr h=>?_)
 ·obtain ⟨p,H0,t,G,x,rfl,_⟩:=h
  rfl
 ·obtain ⟨p,H0,t,G,x,rfl,hM,hn,k⟩:=h
  have nd:=yn7.nd
  obtain ⟨dx,lb,le,lm,lv,dw,ab,ae,av,kvs,h1,_⟩:=hM.at.ex
  refine ⟨_,(za1 (ps_if (zd0 (zd4 mt_is_full (pv 0) (za0 ya4 za3) hr) (fun _=>rfl)) (za4 (za6 (zb7 (za0 (pe_gv g_FULL) za3)))) zb1) (za4 (za6 (zb6 c_put_behind (za0 (pe_at (pv 0)) (za0 (pv 1) za3)) hr)))),?_⟩
  refine ⟨_,rfl,p,dx,_,rfl,h1,rc_no,p,t, "message",t.sent.length,0,11,rfl,hM.at,(by unfold cnt;rw [if_neg (by decide +kernel),if_neg (by decide +kernel),if_pos rfl]),by decide +kernel,_,rfl,iteD (fun q=>?_) (fun q=>?_)⟩
  ·rw [if_pos (by unfold Vbqzab.MESSAGES;omega)] at k
   refine ⟨(sz1),fun z hz=>?_⟩
   refine k _ z G (hM.later (Same.laid hz)) (SameF.of (Same.laid hz)) (fun a ha => .inl ha) hz (hM.out hz) za2
  ·rw [if_neg (by unfold Vbqzab.MESSAGES;omega)] at k
   obtain ⟨lm',hlm,hl,⟨dx',lb',le',lv',dw',h1'⟩,hM'⟩:=hM.sent x
   refine ⟨_,rfl,p,C.record,dx',_,_,rfl,h1',T.record,T.rMessages,zk5 ..,_,rfl,lm',_,_,rfl,hl,by unfold nvs;rw [List.length_map];omega,fun z hz=>?_⟩
   have hzl:z≠lm':=fun e=>by rw [e,hl] at hz;cases hz
   refine k _ z G (hM'.later (Same.laid (by rw [zb5 hzl];exact hz))) ((SameF.upd hlm).trans (SameF.of (Same.laid (by rw [zb5 hzl];exact hz)))) (fun a ha => .inl ha) hz (hM.out hz) ?_
   ·rw [za2]
    unfold nvs Vbqzab.whole
    rw [List.length_map]
    rfl
end
end FPP
namespace FPP
open PySem PySem.Spec PyProof.Rows L2
open Vbqzab (Bound Table at_ State Box Wire Evidence)
section
variable {P:Program} {w:World} {K:PySem.W.Frag} {mg:Str→Option Value} {base:Heap}
abbrev zu6:Stmt:=inClass (top 27) 0
abbrev n_Limit_init:List Str:=["self", "start", "end", "least", "most"]
abbrev zo9:List Str:=["self", "start", "end", "least", "most"]
theorem yi4:FnScope n_Limit_init zo9 (defScope zu6):=⟨rfl,rfl,rfl,by decide +kernel,rfl,by decide +kernel,by decide +kernel⟩
def spLimitInit (C:Addr):Sp:=fun vs H Q _=>∃ (p dx:Addr) (x y:Nat) (lo hi:Int),vs=[.ref p,.int x,.int y,.int lo,.int hi]∧H p=some (.ins C dx [])∧Q .non (upd H p (.ins C dx (lifs x y lo hi)))
theorem xb9 {f:Addr} {fd:FuncData} {C:Clss} (F:Fun K "__init__" "Limit.__init__" zu6 f fd) (T:ClssOk K C):FnOk P w K mg base CX0 1 f fd zo9 (spLimitInit C.limit):=by
 refine F.ok yi4 (fun vs H Q E h=>?_) (fun cdv A outer s H vs Q E hr h=>?_)
 ·obtain ⟨p,dx,x,y,lo,hi,rfl,_⟩:=h
  rfl
 ·obtain ⟨p,dx,x,y,lo,hi,rfl,hp,k⟩:=h
  have nd:=yi4.nd
  refine ⟨_,(za1 (zd6 (pv 0) (pv 1) rfl) (za1 (zd6 (pv 0) (pv 2) rfl) (za1 (zd6 (pv 0) (pv 3) rfl) (za4 (zd6 (pv 0) (pv 4) rfl))))),?_⟩
  refine ⟨_,rfl,_,rfl,p,C.limit,dx,_,rfl,hp,T.limit,T.lStart,(by show 0 < 1000;decide),_,rfl,_,rfl,p,C.limit,dx,_,rfl,za2,T.limit,T.lEnd,(by show 1 < 1000;decide),_,rfl,_,rfl,p,C.limit,dx,_,rfl,za2,T.limit,T.lLeast,(by show 2 < 1000;decide),_,rfl,_,rfl,p,C.limit,dx,_,rfl,za2,T.limit,T.lMost,(by show 3 < 1000;decide),?_⟩
  rw [zc6,zc6,zc6]
  exact k
abbrev zn4:Stmt:=inClass (top 26) 0
abbrev yx2:List Str:=["self", "message", "event"]
abbrev zh2:List Str:=["self", "message", "event"]
theorem yb3:FnScope yx2 zh2 (defScope zn4):=⟨rfl,rfl,rfl,by decide +kernel,rfl,by decide +kernel,by decide +kernel⟩
def spHearingInit (C:Addr):Sp:=fun vs H Q _=>∃ (p dx:Addr) (m y:Nat),vs=[.ref p,.int m,.int y]∧H p=some (.ins C dx [])∧Q .non (upd H p (.ins C dx (hrfs m y)))
theorem yt9 {f:Addr} {fd:FuncData} {C:Clss} (F:Fun K "__init__" "Hearing.__init__" zn4 f fd) (T:ClssOk K C):FnOk P w K mg base CX0 1 f fd zh2 (spHearingInit C.hearing):=by
 refine F.ok yb3 (fun vs H Q E h=>?_) (fun cdv A outer s H vs Q E hr h=>?_)
 ·obtain ⟨p,dx,m,y,rfl,_⟩:=h
  rfl
 ·obtain ⟨p,dx,m,y,rfl,hp,k⟩:=h
  have nd:=yb3.nd
  refine ⟨_,(za1 (zd6 (pv 0) (pv 1) rfl) (za4 (zd6 (pv 0) (pv 2) rfl))),?_⟩
  refine ⟨_,rfl,_,rfl,p,C.hearing,dx,_,rfl,hp,T.hearing,T.hMessage,(by show 0 < 1000;decide),_,rfl,_,rfl,p,C.hearing,dx,_,rfl,za2,T.hearing,T.hEvent,(by show 1 < 1000;decide),?_⟩
  rw [zc6]
  exact k
abbrev zu7:Stmt:=inClass (top 24) 0
abbrev n_Event_init:List Str:=["self", "box", "stamp", "kind"]
abbrev zk7:List Str:=["self", "box", "stamp", "kind"]
theorem yi5:FnScope n_Event_init zk7 (defScope zu7):=⟨rfl,rfl,rfl,by decide +kernel,rfl,by decide +kernel,by decide +kernel⟩
def spEventInit (C:Addr):Sp:=fun vs H Q _=>∃ (p dx:Addr) (e:Vbqzab.Event),vs=[.ref p,.int e.box,.int e.stamp,.int e.kind]∧H p=some (.ins C dx [])∧Q .non (upd H p (.ins C dx (evfs e)))
theorem xc3 {f:Addr} {fd:FuncData} {C:Clss} (F:Fun K "__init__" "Event.__init__" zu7 f fd) (T:ClssOk K C):FnOk P w K mg base CX0 1 f fd zk7 (spEventInit C.event):=by
 refine F.ok yi5 (fun vs H Q E h=>?_) (fun cdv A outer s H vs Q E hr h=>?_)
 ·obtain ⟨p,dx,e,rfl,_⟩:=h
  rfl
 ·obtain ⟨p,dx,e,rfl,hp,k⟩:=h
  have nd:=yi5.nd
  refine ⟨_,(za1 (zd6 (pv 0) (pv 1) rfl) (za1 (zd6 (pv 0) (pv 2) rfl) (za4 (zd6 (pv 0) (pv 3) rfl)))),?_⟩
  refine ⟨_,rfl,_,rfl,p,C.event,dx,_,rfl,hp,T.event,T.eBox,(by show 0 < 1000;decide),_,rfl,_,rfl,p,C.event,dx,_,rfl,za2,T.event,T.eStamp,(by show 1 < 1000;decide),_,rfl,_,rfl,p,C.event,dx,_,rfl,za2,T.event,T.eKind,(by show 2 < 1000;decide),?_⟩
  rw [zc6,zc6]
  exact k
abbrev zt7:Stmt:=top 68
abbrev n_tell_limit:List Str:=["record", "x", "y", "least", "most"]
abbrev zo1:List Str:=["record", "x", "y", "least", "most"]
theorem yh4:FnScope n_tell_limit zo1 (defScope zt7):=⟨rfl,rfl,rfl,by decide +kernel,rfl,by decide +kernel,by decide +kernel⟩
def spTellLimit (C:Clss):Sp:=fun vs H Q _=>∃ (p:Addr) (H0:Hp) (s:State) (F:List Addr) (x y:Nat) (lo hi:Int),vs=[.ref p,.int x,.int y,.int lo,.int hi]∧RecM C H0 H p s F∧s.evidence.length≤24∧Told1 C H0 H p F (if x=y then Vbqzab.no s (-5) else if hi < lo then Vbqzab.no s (-6) else if Vbqzab.EVIDENCE≤s.evidence.length then Vbqzab.no s (-7) else ({ s with evidence:=s.evidence++[.limit x y lo hi] },[Vbqzab.whole s.evidence.length])) Q
theorem refuse {C:Clss} {H0 H:Hp} {p:Addr} {t:State} {G:List Addr} {Q:VK} {e:Int} (hM:RecM C H0 H p t G) (k:Told1 C H0 H p G (Vbqzab.no t e) Q) {z:Addr} (hz:H z=none):Q (.ref z) (upd H z (.lst [V.int e])) :=
 k _ z G (hM.later (Same.laid hz)) (SameF.of (Same.laid hz)) (fun a ha => .inl ha) hz (hM.out hz) za2
theorem xb1 {f:Addr} {fd:FuncData} {C:Clss} (F:Fun K "tell_limit" "tell_limit" zt7 f fd) (T:ClssOk K C) (g_ALIKE:GVal mg "ALIKE" (.int (-5))) (g_NO_DELAY:GVal mg "NO_DELAY" (.int (-6))) (g_FULL:GVal mg "FULL" (.int (-7))) (mt_is_full:MethOk P w K mg base C.record "is_full" 2 zc9 (spIsFull C)) (c_put_behind:CallOk P w K mg base "put_behind" 1 ze2 spPutBehind) (m_Limit:MakeOk P w K mg base "Limit" C.limit 1 zo9 (spLimitInit C.limit)):FnOk P w K mg base CX0 3 f fd zo1 (spTellLimit C):=by
 refine F.ok yh4 (fun vs H Q E h=>?_) (fun cdv A outer s H vs Q E hr h=>?_)
 ·obtain ⟨p,H0,t,G,x,y,lo,hi,rfl,_⟩:=h
  rfl
 ·obtain ⟨p,H0,t,G,x,y,lo,hi,rfl,hM,hn,k⟩:=h
  have nd:=yh4.nd
  obtain ⟨dx,lb,le,lm,lv,dw,ab,ae,av,kvs,h1,_⟩:=hM.at.ex
  refine ⟨_,(za1 (ps_if (zb2 op_eq (pv 1) (pv 2) (nomark _)) (za4 (za6 (zb7 (za0 (pe_gv g_ALIKE) za3)))) zb1) (za1 (ps_if (zb2 op_lt (pv 4) (pv 3) (nomark _)) (za4 (za6 (zb7 (za0 (pe_gv g_NO_DELAY) za3)))) zb1) (za1 (ps_if (zd0 (zd4 mt_is_full (pv 0) (za0 ya4 za3) hr) (fun _=>rfl)) (za4 (za6 (zb7 (za0 (pe_gv g_FULL) za3)))) zb1) (za4 (za6 (zb6 c_put_behind (za0 (pe_at (pv 0)) (za0 (zh5 m_Limit (za0 (pv 1) (za0 (pv 2) (za0 (pv 3) (za0 (pv 4) za3)))) hr) za3)) hr)))))),?_⟩
  refine ⟨_,rfl,_,rfl,rfl,_,rfl,iteD (fun q=>?_) (fun q=>?_)⟩
  ·have e:x=y:=by
    have q':((x:Nat):Int)=(y:Int):=V.int.inj q
    omega
   rw [if_pos e] at k
   exact ⟨(sz1),fun z hz=>refuse hM k hz⟩
  rw [if_neg (fun e=>q (by rw [e]))] at k
  refine ⟨_,rfl,_,rfl,_,_,rfl,rfl,_,rfl,iteD (fun q2=>?_) (fun q2=>?_)⟩
  ·rw [if_pos q2] at k
   exact ⟨(sz1),fun z hz=>refuse hM k hz⟩
  rw [if_neg q2] at k
  refine ⟨_,rfl,p,dx,_,rfl,h1,rc_no,p,t, "evidence",t.evidence.length,0,23,rfl,hM.at,(by unfold cnt;rw [if_neg (by decide +kernel),if_neg (by decide +kernel),if_neg (by decide +kernel),if_pos rfl]),by decide +kernel,_,rfl,iteD (fun q3=>?_) (fun q3=>?_)⟩
  ·rw [if_pos (by unfold Vbqzab.EVIDENCE;omega)] at k
   exact ⟨(sz1),fun z hz=>refuse hM k hz⟩
  rw [if_neg (by unfold Vbqzab.EVIDENCE;omega)] at k
  refine ⟨_,rfl,p,C.record,dx,_,_,rfl,h1,T.record,T.rEvidence,zc7 ..,_,rfl,_,rfl,_,rfl,_,rfl,fun c dc hc0 hdc _=>⟨c,dc,x,y,lo,hi,rfl,za2,?_⟩⟩
  rw [zc6]
  obtain ⟨H2,hH2⟩:∃ H2,H2=upd (upd H dc (.own c)) c (.ins C.limit dc (lifs x y lo hi)):=⟨_,rfl⟩
  have s2:Same H H2:=by rw [hH2];exact Same.new hc0 hdc
  have hc:EvdAt C H2 c (.limit x y lo hi):=⟨dc,by rw [hH2];exact za2⟩
  rw [← hH2]
  obtain ⟨lv',xs,hlv,hl,hxs,⟨dx',lb',le',lm',dw',h1'⟩,hM'⟩:=(hM.later s2).evid hc
  have elv:lv'=lv:=by
   have e1:=s2 _ _ h1
   rw [h1'] at e1
   have q1:=zc7 lb' le' lm' lv' dw'
   rw [(HO.ins.inj (Option.some.inj e1)).2.2,zc7 lb le lm lv dw] at q1
   exact (V.ref.inj (Option.some.inj q1)).symm
  subst elv
  refine ⟨rfl,lv',xs,_,rfl,hl,by omega,fun z hz=>?_⟩
  have hzl:z≠lv':=fun e=>by rw [e,hl] at hz;cases hz
  have hz':(upd H2 lv' (.lst (xs++[V.ref c]))) z=none:=by rw [zb5 hzl];exact hz
  refine k _ z G (hM'.later (Same.laid hz')) (((SameF.of s2).trans (SameF.upd hlv)).trans (SameF.of (Same.laid hz'))) (fun a ha => .inl ha) (s2.free hz) ((hM.later s2).out hz) ?_
  rw [za2,hxs]
  rfl
abbrev zi3:Stmt:=top 66
abbrev ym2:List Str:=["record", "m", "team", "sender"]
abbrev ze4:List Str:=["record", "m", "team"]
theorem zt3:FnScope ym2 ze4 (defScope zi3):=⟨rfl,rfl,rfl,by decide +kernel,rfl,by decide +kernel,by decide +kernel⟩
def refuseH (s:State) (m tm:Nat):Option Int:=if Vbqzab.teamAt s (s.sent.getD m 0)=tm then some (-5) else if (Vbqzab.wireOf s (Vbqzab.teamAt s (s.sent.getD m 0)) tm).isNone=true then some (-6) else none
def spHearingRefusal (C:Clss):Sp:=fun vs H Q _=>∃ (p:Addr) (s:State) (m tm:Nat),vs=[.ref p,.int m,.int tm]∧RecAt C H p s∧FP.Wf s∧m < s.sent.length∧∀ H',Same H H'→Q (ov (refuseH s m tm)) H'
theorem yj8 {f:Addr} {fd:FuncData} {C:Clss} (F:Fun K "hearing_refusal" "hearing_refusal" zi3 f fd) (T:ClssOk K C) (g_ALIKE:GVal mg "ALIKE" (.int (-5))) (g_NO_DELAY:GVal mg "NO_DELAY" (.int (-6))) (mt_team_of:MethOk P w K mg base C.record "team_of" 1 zd1 (spTeamOf C)):FnOk P w K mg base CX0 2 f fd ze4 (spHearingRefusal C):=by
 refine F.ok zt3 (fun vs H Q E h=>?_) (fun cdv A outer s H vs Q E hr h=>?_)
 ·obtain ⟨p,t,m,tm,rfl,_⟩:=h
  rfl
 ·obtain ⟨p,t,m,tm,rfl,hR,hW,hm,k⟩:=h
  have nd:=zt3.nd
  obtain ⟨dx,lb,le,lm,lv,dw,ab,ae,av,kvs,h1,h2,h3,h4,h5,h6⟩:=hR.ex
  have hx:t.sent.getD m 0 < t.events.length:=by
   obtain ⟨x,hx⟩:=FP.zc2 hm
   rw [List.getD_eq_getElem?_getD,hx]
   exact hW.ms x (List.mem_of_getElem? hx)
  unfold refuseH at k
  refine ⟨_,(za1 (zb8 (i:=3) nd rfl (Or.inl rfl) (zd4 mt_team_of (pv 0) (za0 (zb3 zb0 (pe_at (pv 0)) (pv 1)) za3) hr)) (za1 (ps_if (zb2 op_eq (pv 3) (pv 2) (nomark _)) (za4 (za6 (pe_gv g_ALIKE))) zb1) (za1 (ps_if (pt_cmp (pc_dnotin (hu_of hr) (pe_tup (za0 (pv 3) (za0 (pv 2) za3))) (pe_at (pv 0)))) (za4 (za6 (pe_gv g_NO_DELAY))) zb1) (za4 (za6 zg0))))),?_⟩
  refine ⟨_,rfl,p,dx,_,rfl,h1,rc_no,_,rfl,p,C.record,dx,_,_,rfl,h1,T.record,T.rMessages,zk5 ..,_,rfl,lm,_,_,_,rfl,rfl,SqL.of h2,za8 (nvs_get hm),p,t,t.sent.getD m 0,rfl,hR,hW,hx,?_⟩
  refine ⟨_,rfl,_,rfl,rfl,_,rfl,iteD (fun q=>?_) (fun q=>?_)⟩
  ·have e:Vbqzab.teamAt t (t.sent.getD m 0)=tm:=by
    have q':((Vbqzab.teamAt t (t.sent.getD m 0):Nat):Int)=(tm:Int):=V.int.inj q
    omega
   rw [if_pos e] at k
   exact k _ (Same.refl H)
  rw [if_neg (fun e=>q (by rw [e]))] at k
  refine ⟨_,rfl,_,rfl,(sz2),fun z hz=>?_⟩
  have s1:Same H (upd H z (.tup [V.int (Vbqzab.teamAt t (t.sent.getD m 0)),V.int tm])):=Same.laid hz
  refine ⟨_,rfl,p,C.record,dx,_,_,rfl,s1 _ _ h1,T.record,T.rWires,zy8 ..,dw,_,rfl,DGet.t (k:=wkey (Vbqzab.teamAt t (t.sent.getD m 0)) tm) (s1 _ _ h6.dict) za2,_,rfl,?_⟩
  cases e:Vbqzab.wireOf t (Vbqzab.teamAt t (t.sent.getD m 0)) tm with
  | none =>
   rw [e,if_pos (show (none:Option Wire).isNone=true from rfl)] at k
   rw [h6.none_ _ _ e]
   exact iteT (k _ s1)
  | some v =>
   rw [e,if_neg (show ¬ (some v).isNone=true from Bool.false_ne_true)] at k
   obtain ⟨a,ha1,_⟩:=h6.some_ _ _ v e
   rw [ha1]
   exact iteF (k _ s1)
abbrev zt8:Stmt:=top 67
abbrev n_tell_heard:List Str:=["record", "m", "y", "refusal"]
abbrev zo2:List Str:=["record", "m", "y"]
theorem yh5:FnScope n_tell_heard zo2 (defScope zt8):=⟨rfl,rfl,rfl,by decide +kernel,rfl,by decide +kernel,by decide +kernel⟩
def spTellHeard (C:Clss):Sp:=fun vs H Q _=>∃ (p:Addr) (H0:Hp) (s:State) (F:List Addr) (m y:Nat),vs=[.ref p,.int m,.int y]∧RecM C H0 H p s F∧FP.Wf s∧m < s.sent.length∧y < s.events.length∧Told1 C H0 H p F (if Vbqzab.teamAt s (s.sent.getD m 0)=Vbqzab.teamAt s y then Vbqzab.no s (-5) else if (Vbqzab.wireOf s (Vbqzab.teamAt s (s.sent.getD m 0)) (Vbqzab.teamAt s y)).isNone=true then Vbqzab.no s (-6) else if Vbqzab.EVIDENCE≤s.evidence.length then Vbqzab.no s (-7) else ({ s with evidence:=s.evidence++[.hearing m y] },[Vbqzab.whole s.evidence.length])) Q
theorem Told1.later {C:Clss} {H0 H H1:Hp} {p:Addr} {G:List Addr} {r:State×List Int} {Q:VK} (k:Told1 C H0 H p G r Q) (s:Same H H1):Told1 C H0 H1 p G r Q:=fun H' q F' h1 h2 h3 h4 h5 h6 =>
 k H' q F' h1 ((SameF.of s).trans h2) (fun a ha=>(h3 a ha).imp id fun z=>s.free z) (s.free h4) h5 h6
theorem xb2 {f:Addr} {fd:FuncData} {C:Clss} (F:Fun K "tell_heard" "tell_heard" zt8 f fd) (T:ClssOk K C) (g_FULL:GVal mg "FULL" (.int (-7))) (mt_team_of:MethOk P w K mg base C.record "team_of" 1 zd1 (spTeamOf C)) (c_hearing_refusal:CallOk P w K mg base "hearing_refusal" 2 ze4 (spHearingRefusal C)) (mt_is_full:MethOk P w K mg base C.record "is_full" 2 zc9 (spIsFull C)) (c_put_behind:CallOk P w K mg base "put_behind" 1 ze2 spPutBehind) (m_Hearing:MakeOk P w K mg base "Hearing" C.hearing 1 zh2 (spHearingInit C.hearing)):FnOk P w K mg base CX0 3 f fd zo2 (spTellHeard C):=by
 refine F.ok yh5 (fun vs H Q E h=>?_) (fun cdv A outer s H vs Q E hr h=>?_)
 ·obtain ⟨p,H0,t,G,m,y,rfl,_⟩:=h
  rfl
 ·obtain ⟨p,H0,t,G,m,y,rfl,hM,hW,hm,hy,k⟩:=h
  have nd:=yh5.nd
  obtain ⟨dx,lb,le,lm,lv,dw,ab,ae,av,kvs,h1,h2,_⟩:=hM.at.ex
  have hno:∀ m:Str,m = "team_of" ∨ m = "is_full" → (rcfs lb le lm lv dw).lookup m=none:=by
   rintro m (rfl | rfl) <;> exact rc_no
  refine ⟨_,(za1 (zb8 (i:=3) nd rfl (Or.inl rfl) (zb6 c_hearing_refusal (za0 (pv 0) (za0 (pv 1) (za0 (zd4 mt_team_of (pv 0) (za0 (pv 2) za3) hr) za3))) hr)) (za1 (ps_if (zb2 zp4 (pv 3) zg0 (nomark _)) (za4 (za6 (zb7 (za0 (pv 3) za3)))) zb1) (za1 (ps_if (zd0 (zd4 mt_is_full (pv 0) (za0 ya4 za3) hr) (fun _=>rfl)) (za4 (za6 (zb7 (za0 (pe_gv g_FULL) za3)))) zb1) (za4 (za6 (zb6 c_put_behind (za0 (pe_at (pv 0)) (za0 (zh5 m_Hearing (za0 (pv 1) (za0 (pv 2) za3)) hr) za3)) hr)))))),?_⟩
  refine ⟨_,rfl,_,rfl,_,rfl,p,dx,_,rfl,h1,hno _ (.inl rfl),_,rfl,p,t,y,rfl,hM.at,hW,hy,p,t,m,Vbqzab.teamAt t y,rfl,hM.at,hW,hm,fun H1 s1=>?_⟩
  have k:=k.later s1
  have hM:=hM.later s1
  have h1:=s1 _ _ h1
  unfold refuseH
  by_cases c1:Vbqzab.teamAt t (t.sent.getD m 0)=Vbqzab.teamAt t y
  ·rw [if_pos c1] at k ⊢
   exact ⟨_,rfl,rfl,_,rfl,iteT ⟨_,rfl,(sz1),fun z hz=>refuse hM k hz⟩⟩
  rw [if_neg c1] at k ⊢
  by_cases c2:(Vbqzab.wireOf t (Vbqzab.teamAt t (t.sent.getD m 0)) (Vbqzab.teamAt t y)).isNone=true
  ·rw [if_pos c2] at k ⊢
   exact ⟨_,rfl,rfl,_,rfl,iteT ⟨_,rfl,(sz1),fun z hz=>refuse hM k hz⟩⟩
  rw [if_neg c2] at k ⊢
  refine ⟨_,rfl,rfl,_,rfl,iteF ?_⟩
  refine ⟨_,rfl,p,dx,_,rfl,h1,hno _ (.inr rfl),p,t, "evidence",t.evidence.length,0,23,rfl,hM.at,(by unfold cnt;rw [if_neg (by decide +kernel),if_neg (by decide +kernel),if_neg (by decide +kernel),if_pos rfl]),by decide +kernel,_,rfl,iteD (fun q3=>?_) (fun q3=>?_)⟩
  ·rw [if_pos (by unfold Vbqzab.EVIDENCE;omega)] at k
   exact ⟨(sz1),fun z hz=>refuse hM k hz⟩
  rw [if_neg (by unfold Vbqzab.EVIDENCE;omega)] at k
  refine ⟨_,rfl,p,C.record,dx,_,_,rfl,h1,T.record,T.rEvidence,zc7 ..,_,rfl,_,rfl,fun c dc hc0 hdc _=>⟨c,dc,m,y,rfl,za2,?_⟩⟩
  rw [zc6]
  obtain ⟨H2,hH2⟩:∃ H2,H2=upd (upd H1 dc (.own c)) c (.ins C.hearing dc (hrfs m y)):=⟨_,rfl⟩
  have s2:Same H1 H2:=by rw [hH2];exact Same.new hc0 hdc
  have hc:EvdAt C H2 c (.hearing m y):=⟨dc,by rw [hH2];exact za2⟩
  rw [← hH2]
  obtain ⟨lv',xs,hlv,hl,hxs,⟨dx',lb',le',lm',dw',h1'⟩,hM'⟩:=(hM.later s2).evid hc
  have elv:lv'=lv:=by
   have e1:=s2 _ _ h1
   rw [h1'] at e1
   have q1:=zc7 lb' le' lm' lv' dw'
   rw [(HO.ins.inj (Option.some.inj e1)).2.2,zc7 lb le lm lv dw] at q1
   exact (V.ref.inj (Option.some.inj q1)).symm
  subst elv
  have hnv:=hW.nv
  refine ⟨rfl,lv',xs,_,rfl,hl,by omega,fun z hz=>?_⟩
  have hzl:z≠lv':=fun e=>by rw [e,hl] at hz;cases hz
  have hz':(upd H2 lv' (.lst (xs++[V.ref c]))) z=none:=by rw [zb5 hzl];exact hz
  refine k _ z G (hM'.later (Same.laid hz')) (((SameF.of s2).trans (SameF.upd hlv)).trans (SameF.of (Same.laid hz'))) (fun a ha => .inl ha) (s2.free hz) ((hM.later s2).out hz) ?_
  rw [za2,hxs]
  rfl
end
end FPP
namespace FPP
open PySem PySem.Spec PyProof.Rows L2
open Vbqzab (Bound Table at_ State Box Wire Evidence)
theorem yb9 {α:Type} {l:List α} {k i:Nat}:(l.eraseIdx k)[i]?=if i < k then l[i]? else l[i + 1]?:=List.getElem?_eraseIdx ..
theorem erase_map {α β:Type} (f:α→β) (l:List α) (k:Nat):(l.map f).eraseIdx k=(l.eraseIdx k).map f:=by
 refine List.ext_getElem? fun i=>?_
 rw [yb9,List.getElem?_map,List.getElem?_map,List.getElem?_map,yb9]
 split <;> rfl
theorem ObsAt.erase {α:Type} {R:Hp→Addr→α→Prop} {H:Hp} {l:Addr} {as:List Addr} {xs:List α} {k:Nat} (h:ObsAt R H l as xs) (hR:∀ b y,R H b y→R (L2.upd H l (.lst ((as.map V.ref).eraseIdx k))) b y):ObsAt R (L2.upd H l (.lst ((as.map V.ref).eraseIdx k))) l (as.eraseIdx k) (xs.eraseIdx k):=by
 refine ⟨by rw [za2,erase_map],by rw [List.length_eraseIdx,List.length_eraseIdx,h.len],fun i y hy=>?_⟩
 rw [yb9] at hy
 rw [yb9]
 by_cases c:i < k
 ·rw [if_pos c] at hy ⊢
  obtain ⟨b,h1,h2⟩:=h.at_ i y hy
  exact ⟨b,h1,hR _ _ h2⟩
 ·rw [if_neg c] at hy ⊢
  obtain ⟨b,h1,h2⟩:=h.at_ (i + 1) y hy
  exact ⟨b,h1,hR _ _ h2⟩
theorem RecM.dropped {C:Clss} {H0 H:Hp} {p:Addr} {t:State} {F:List Addr} (h:RecM C H0 H p t F) (k:Nat):∃ lv xs dx lb le lm dw,lv∈F∧H lv=some (.lst xs)∧xs.length=t.evidence.length∧H p=some (.ins C.record dx (rcfs lb le lm lv dw))∧RecM C H0 (L2.upd H lv (.lst (xs.eraseIdx k))) p (Vbqzab.dropped t k) F:=by
 obtain ⟨dx,lb,le,lm,lv,dw,ab,ae,av,kvs,h1,h2,h3,h4,h5,h6,h7,h8,h9⟩:=h.ex
 have hm:lv∈F:=by rw [h7];simp
 simp only [List.nodup_cons,List.mem_cons,List.not_mem_nil,or_false,not_or] at h8
 refine ⟨lv,_,dx,lb,le,lm,dw,hm,h5.lst,by rw [List.length_map,h5.len],h1,⟨dx,lb,le,lm,lv,dw,ab,ae,av.eraseIdx k,kvs,zi2 h5.lst h1,?_,h3.upd h8.1.2.2 (fun a x q=>yh0 h5.lst q),h4.upd h8.2.1.2 (fun a x q=>yn0 h5.lst q),h5.erase (fun b y q=>yn1 h5.lst q),?_,h7,?_,h9⟩,h.fr,h.same.over (h.fr lv hm)⟩
 ·rw [zb5 h8.2.2.1]
  exact h2
 ·have:=yc2 (o := .lst ((av.map V.ref).eraseIdx k)) h6 h5.lst
  exact ⟨this.dict,this.none_,this.some_,this.nd,this.rg⟩
 ·simp only [List.nodup_cons,List.mem_cons,List.not_mem_nil,or_false,not_or]
  exact h8
theorem RecM.evnt {C:Clss} {H0 H:Hp} {p a:Addr} {t:State} {F:List Addr} {v:Vbqzab.Event} (h:RecM C H0 H p t F) (ha:EvtAt C H a v):∃ le xs dx lb lm lv dw,le∈F∧H le=some (.lst xs)∧xs.length=t.events.length∧H p=some (.ins C.record dx (rcfs lb le lm lv dw))∧RecM C H0 (L2.upd H le (.lst (xs++[V.ref a]))) p { t with events:=t.events++[v] } F:=by
 obtain ⟨dx,lb,le,lm,lv,dw,ab,ae,av,kvs,h1,h2,h3,h4,h5,h6,h7,h8,h9⟩:=h.ex
 have hm:le∈F:=by rw [h7];simp
 simp only [List.nodup_cons,List.mem_cons,List.not_mem_nil,or_false,not_or] at h8
 refine ⟨le,_,dx,lb,lm,lv,dw,hm,h4.lst,by rw [List.length_map,h4.len],h1,⟨dx,lb,le,lm,lv,dw,ab,ae++[a],av,kvs,zi2 h4.lst h1,?_,h3.upd h8.1.1 (fun a x q=>yh0 h4.lst q),h4.push ha (fun b y q=>yn0 h4.lst q),h5.upd (Ne.symm h8.2.1.2) (fun a x q=>yn1 h4.lst q),?_,h7,?_,h9⟩,h.fr,h.same.over (h.fr le hm)⟩
 ·rw [zb5 (Ne.symm h8.2.1.1)]
  exact h2
 ·have:=yc2 (o := .lst (ae.map V.ref++[V.ref a])) h6 h4.lst
  exact ⟨this.dict,this.none_,this.some_,this.nd,this.rg⟩
 ·simp only [List.nodup_cons,List.mem_cons,List.not_mem_nil,or_false,not_or]
  exact h8
theorem rc_inj {a b c d e a' b' c' d' e':Addr} (h:rcfs a b c d e=rcfs a' b' c' d' e'):a=a'∧b=b'∧c=c'∧d=d'∧e=e':=by
 have f:∀ x:Str,(rcfs a b c d e).lookup x=(rcfs a' b' c' d' e').lookup x:=fun x=>by rw [h]
 have g:∀ {x y:Addr},some (V.ref x)=some (V.ref y)→x=y:=fun q=>V.ref.inj (Option.some.inj q)
 exact ⟨g (by rw [← zf1 a b c d e,f,zf1]),g (by rw [← zd3 a b c d e,f,zd3]),g (by rw [← zk5 a b c d e,f,zk5]),g (by rw [← zc7 a b c d e,f,zc7]),g (by rw [← zy8 a b c d e,f,zy8])⟩
theorem yq2 {C:Clss} {H H':Hp} {p dx dx' a b c d e a' b' c' d' e':Addr} (s:Same H H') (h:H p=some (.ins C.record dx (rcfs a b c d e))) (h':H' p=some (.ins C.record dx' (rcfs a' b' c' d' e'))):a=a'∧b=b'∧c=c'∧d=d'∧e=e':=by
 have q:=s _ _ h
 rw [h'] at q
 exact rc_inj (HO.ins.inj (Option.some.inj q)).2.2.symm
def lastS (l:List Vbqzab.Event) (i:Nat):Nat:=((l.filter fun e=>e.box == i).getLast?.map fun e=>e.stamp).getD 0
theorem lastS_snoc (l:List Vbqzab.Event) (e:Vbqzab.Event) (i:Nat):lastS (l++[e]) i=if e.box=i then e.stamp else lastS l i:=by
 unfold lastS
 rw [List.filter_append]
 by_cases c:e.box=i
 ·rw [if_pos c,List.filter_cons,if_pos (by simp [c]),List.filter_nil,List.getLast?_append]
  rfl
 ·rw [if_neg c,List.filter_cons,if_neg (by simp [c]),List.filter_nil,List.append_nil]
section
variable {P:Program} {w:World} {K:PySem.W.Frag} {mg:Str→Option Value} {base:Heap}
abbrev zy3:Stmt:=top 69
abbrev n_tell_drop:List Str:=["record", "k"]
abbrev zr8:List Str:=["record", "k"]
theorem yn8:FnScope n_tell_drop zr8 (defScope zy3):=⟨rfl,rfl,rfl,by decide +kernel,rfl,by decide +kernel,by decide +kernel⟩
def spTellDrop (C:Clss):Sp:=fun vs H Q _=>∃ (p:Addr) (H0:Hp) (s:State) (F:List Addr) (k:Nat),vs=[.ref p,.int k]∧RecM C H0 H p s F∧k < s.evidence.length∧s.evidence.length≤24∧Told1 C H0 H p F (Vbqzab.dropped s k,[Vbqzab.whole (s.evidence.length - 1)]) Q
theorem ok_tell_drop {f:Addr} {fd:FuncData} {C:Clss} (F:Fun K "tell_drop" "tell_drop" zy3 f fd) (T:ClssOk K C) (g_len:mg "len" = none):FnOk P w K mg base CX0 1 f fd zr8 (spTellDrop C):=by
 refine F.ok yn8 (fun vs H Q E h=>?_) (fun cdv A outer s H vs Q E hr h=>?_)
 ·obtain ⟨p,H0,t,G,k,rfl,_⟩:=h
  rfl
 ·obtain ⟨p,H0,t,G,kk,rfl,hM,hk,hn,k⟩:=h
  have nd:=yn8.nd
  obtain ⟨lv,xs,dx,lb,le,lm,dw,hlv,hl,hxs,h1,hM'⟩:=hM.dropped kk
  obtain ⟨y,hy⟩:=FP.zc2 (l:=xs) (i:=kk) (by omega)
  refine ⟨_,(za1 (zl7 (pe_bm PySem.F.plainAttrs_list PySem.F.slot_list_pop PySem.F.type_list_pop mt_popAt (pe_at (pv 0)) (za0 (pv 1) za3))) (za4 (za6 (zb7 (za0 (zc0 zb4 (by rfl) g_len PySem.boot_len (za0 (pe_at (pv 0)) za3)) za3))))),?_⟩
  refine ⟨_,rfl,p,C.record,dx,_,_,rfl,h1,T.record,T.rEvidence,zc7 ..,.inl ⟨rfl,_,SqL.of hl⟩,_,rfl,lv,xs,(kk:Int),kk,y,rfl,rfl,hl,by omega,by omega,(ixN_seq (yv0 (by omega))).1,hy,?_⟩
  refine ⟨_,rfl,p,C.record,dx,_,_,rfl,zi2 hl h1,T.record,T.rEvidence,zc7 ..,lv,_,rfl,.inl (SqL.of za2),(sz1),fun z hz=>?_⟩
  have hzl:z≠lv:=fun e=>by rw [e,za2] at hz;cases hz
  have hz0:H z=none:=by rw [zb5 hzl] at hz;exact hz
  refine k _ z G (hM'.later (Same.laid hz)) ((SameF.upd hlv).trans (SameF.of (Same.laid hz))) (fun a ha => .inl ha) hz0 (hM.out hz0) ?_
  rw [za2,List.length_eraseIdx,if_pos (by omega),hxs]
  rfl
abbrev zk4:Stmt:=inClass (top 28) 6
abbrev yg1:List Str:=["self", "i", "last", "event"]
abbrev zg3:List Str:=["self", "i"]
theorem zp6:FnScope yg1 zg3 (defScope zk4):=⟨rfl,rfl,rfl,by decide +kernel,rfl,by decide +kernel,by decide +kernel⟩
def spLastStamp (C:Clss):Sp:=fun vs H Q _=>∃ (p:Addr) (s:State) (i:Nat),vs=[.ref p,.int i]∧RecAt C H p s∧Q (.int (Vbqzab.lastStamp s i)) H
theorem xc1 {f:Addr} {fd:FuncData} {C:Clss} (F:Fun K "last_stamp" "Record.last_stamp" zk4 f fd) (T:ClssOk K C):FnOk P w K mg base CX0 1 f fd zg3 (spLastStamp C):=by
 refine F.ok zp6 (fun vs H Q E h=>?_) (fun cdv A outer s H vs Q E hr h=>?_)
 ·obtain ⟨p,t,i,rfl,_⟩:=h
  rfl
 ·obtain ⟨p,t,i,rfl,hR,k⟩:=h
  have nd:=zp6.nd
  obtain ⟨dx,lb,le,lm,lv,dw,ab,ae,av,kvs,h1,h2,h3,h4,h5,h6⟩:=hR.ex
  refine ⟨_,(za1 (zb8 (i:=2) nd rfl (Or.inl rfl) za9) (za1 (zj3 PassesOwn.never rfl (zj0 (pe_at (pv 0))) (zc3 (i:=3) nd rfl (Or.inl rfl)) (za4 (ps_if (zb2 op_eq (pe_at (pv 3)) (pv 1) (nomark _)) (za4 (zb8 (i:=2) nd rfl (Or.inl rfl) (pe_at (pv 3)))) zb1))) (za4 (za6 (pv 2))))),?_⟩
  refine ⟨_,rfl,p,C.record,dx,_,_,rfl,h1,T.record,T.rEvents,zd3 ..,le,rfl,⟨_,SqL.of h4.lst⟩,zu9 (K:=K) (a:=le) (xs:=ae.map V.ref) (fun j σ H'=>∃ v3:Option V,σ=[some (.ref p),some (.int i),some (.int (lastS (t.events.take j) i)),v3]∧H'=H)
   ⟨none,rfl,rfl⟩ (fun j σ H' _ ⟨_,_,e⟩=>by rw [e];exact SqL.of h4.lst) ?_ ?_⟩
  ·rintro j y σ H' hy ⟨v3,rfl,rfl⟩
   obtain ⟨a,e,rfl,he,de,ha⟩:=h4.item hy
   have et:t.events.take (j + 1)=t.events.take j++[e]:=by
    rw [List.take_add_one,he]
    rfl
   rw [et,lastS_snoc]
   refine ⟨_,rfl,a,C.event,de,_,_,rfl,ha,T.event,T.eBox,yz6 e,_,rfl,rfl,_,rfl,iteD (fun q=>?_) (fun q=>?_)⟩
   ·have e2:e.box=i:=by
     have q':((e.box:Nat):Int)=(i:Int):=V.int.inj q
     omega
    rw [if_pos e2]
    exact ⟨_,rfl,a,C.event,de,_,_,rfl,ha,T.event,T.eStamp,yr1 e,_,rfl,rfl⟩
   ·rw [if_neg (fun e2=>q (by rw [e2]))]
    exact ⟨_,rfl,rfl⟩
  ·rintro σ H' ⟨v3,rfl,rfl⟩
   rw [List.length_map,h4.len,List.take_length]
   exact ⟨_,rfl,k⟩
abbrev zl4:Stmt:=top 63
abbrev yu4:List Str:=["record", "i", "stamp"]
abbrev zf7:List Str:=["record", "i", "stamp"]
theorem ya3:FnScope yu4 zf7 (defScope zl4):=⟨rfl,rfl,rfl,by decide +kernel,rfl,by decide +kernel,by decide +kernel⟩
def refuseE (s:State) (i t:Nat):Option Int:=if Vbqzab.isOld s i=true then some (-11) else if t < Vbqzab.lastStamp s i then some (-3) else if Vbqzab.EVENTS≤s.events.length then some (-7) else none
theorem bx_woken (b:Box) (k:Bool):(bxfs b k).lookup ("woken" : Str)=some (.bl k):=by
 unfold bxfs
 rw [za5,if_pos rfl]
def spEventRefusal (C:Clss):Sp:=fun vs H Q _=>∃ (p:Addr) (s:State) (i t:Nat),vs=[.ref p,.int i,.int t]∧RecAt C H p s∧i < s.boxes.length∧Q (ov (refuseE s i t)) H
theorem yp1 {f:Addr} {fd:FuncData} {C:Clss} (F:Fun K "event_refusal" "event_refusal" zl4 f fd) (T:ClssOk K C) (g_WOKEN:GVal mg "WOKEN" (.int (-11))) (g_FALLS_BACK:GVal mg "FALLS_BACK" (.int (-3))) (g_FULL:GVal mg "FULL" (.int (-7))) (mt_last_stamp:MethOk P w K mg base C.record "last_stamp" 1 zg3 (spLastStamp C)) (mt_is_full:MethOk P w K mg base C.record "is_full" 2 zc9 (spIsFull C)):FnOk P w K mg base CX0 3 f fd zf7 (spEventRefusal C):=by
 refine F.ok ya3 (fun vs H Q E h=>?_) (fun cdv A outer s H vs Q E hr h=>?_)
 ·obtain ⟨p,t,i,st,rfl,_⟩:=h
  rfl
 ·obtain ⟨p,t,i,st,rfl,hR,hi,k⟩:=h
  have nd:=ya3.nd
  obtain ⟨dx,lb,le,lm,lv,dw,ab,ae,av,kvs,h1,h2,h3,h4,h5,h6⟩:=hR.ex
  obtain ⟨b,hb⟩:=FP.zc2 hi
  obtain ⟨c,hc1,dc,hc2⟩:=h3.at_ i _ (zj6 hb)
  have hno:∀ m:Str,m = "last_stamp" ∨ m = "is_full" → (rcfs lb le lm lv dw).lookup m=none:=by
   rintro m (rfl | rfl) <;> exact rc_no
  unfold refuseE at k
  refine ⟨_,(za1 (ps_if (zd0 (pe_at (zb3 zb0 (pe_at (pv 0)) (pv 1))) (fun _=>rfl)) (za4 (za6 (pe_gv g_WOKEN))) zb1) (za1 (ps_if (zb2 op_lt (pv 2) (zd4 mt_last_stamp (pv 0) (za0 (pv 1) za3) hr) (nomark _)) (za4 (za6 (pe_gv g_FALLS_BACK))) zb1) (za1 (ps_if (zd0 (zd4 mt_is_full (pv 0) (za0 ya4 za3) hr) (fun _=>rfl)) (za4 (za6 (pe_gv g_FULL))) zb1) (za4 (za6 zg0))))),?_⟩
  refine ⟨_,rfl,p,C.record,dx,_,_,rfl,h1,T.record,T.rBoxes,zf1 ..,_,rfl,lb,_,_,_,rfl,rfl,SqL.of h3.lst,za8 (zc8 hc1),c,C.box,dc,_,_,rfl,hc2,T.box,T.bWoken,bx_woken _ _,_,rfl,iteB (fun q=>?_) (fun q=>?_)⟩
  ·have q:Vbqzab.isOld t i=true:=q
   rw [if_pos q] at k
   exact k
  have q:Vbqzab.isOld t i=false:=q
  rw [if_neg (by rw [q];exact Bool.false_ne_true)] at k
  refine ⟨_,rfl,_,rfl,p,dx,_,rfl,h1,hno _ (.inl rfl),_,rfl,p,t,i,rfl,hR,_,_,rfl,rfl,_,rfl,iteD (fun q2=>?_) (fun q2=>?_)⟩
  ·rw [if_pos (by omega)] at k
   exact k
  rw [if_neg (by omega)] at k
  refine ⟨_,rfl,p,dx,_,rfl,h1,hno _ (.inr rfl),p,t, "event",t.events.length,0,15,rfl,hR,(by unfold cnt;rw [if_neg (by decide +kernel),if_pos rfl]),by decide +kernel,_,rfl,iteD (fun q3=>?_) (fun q3=>?_)⟩
  ·rw [if_pos (by unfold Vbqzab.EVENTS;omega)] at k
   exact k
  rw [if_neg (by unfold Vbqzab.EVENTS;omega)] at k
  exact k
abbrev zt9:Stmt:=top 64
abbrev n_tell_event:List Str:=["record", "i", "stamp", "kind", "refusal"]
abbrev zo3:List Str:=["record", "i", "stamp", "kind"]
theorem yh6:FnScope n_tell_event zo3 (defScope zt9):=⟨rfl,rfl,rfl,by decide +kernel,rfl,by decide +kernel,by decide +kernel⟩
def spTellEvent (C:Clss):Sp:=fun vs H Q _=>∃ (p:Addr) (H0:Hp) (s:State) (F:List Addr) (i t kd:Nat),vs=[.ref p,.int i,.int t,.int kd]∧RecM C H0 H p s F∧i < s.boxes.length∧s.events.length≤16∧Told1 C H0 H p F (match refuseE s i t with | some e=>Vbqzab.no s e | none=>({ s with events:=s.events++[⟨i,t,kd⟩] },[Vbqzab.whole s.events.length])) Q
theorem xb3 {f:Addr} {fd:FuncData} {C:Clss} (F:Fun K "tell_event" "tell_event" zt9 f fd) (T:ClssOk K C) (c_event_refusal:CallOk P w K mg base "event_refusal" 3 zf7 (spEventRefusal C)) (c_put_behind:CallOk P w K mg base "put_behind" 1 ze2 spPutBehind) (m_Event:MakeOk P w K mg base "Event" C.event 1 zk7 (spEventInit C.event)):FnOk P w K mg base CX0 4 f fd zo3 (spTellEvent C):=by
 refine F.ok yh6 (fun vs H Q E h=>?_) (fun cdv A outer s H vs Q E hr h=>?_)
 ·obtain ⟨p,H0,t,G,i,st,kd,rfl,_⟩:=h
  rfl
 ·obtain ⟨p,H0,t,G,i,st,kd,rfl,hM,hi,hn,k⟩:=h
  have nd:=yh6.nd
  obtain ⟨dx,lb,le,lm,lv,dw,ab,ae,av,kvs,h1,_⟩:=hM.at.ex
  refine ⟨_,(za1 (zb8 (i:=4) nd rfl (Or.inl rfl) (zb6 c_event_refusal (za0 (pv 0) (za0 (pv 1) (za0 (pv 2) za3))) hr)) (za1 (ps_if (zb2 zp4 (pv 4) zg0 (nomark _)) (za4 (za6 (zb7 (za0 (pv 4) za3)))) zb1) (za4 (za6 (zb6 c_put_behind (za0 (pe_at (pv 0)) (za0 (zh5 m_Event (za0 (pv 1) (za0 (pv 2) (za0 (pv 3) za3))) hr) za3)) hr))))),?_⟩
  refine ⟨_,rfl,_,rfl,_,rfl,p,t,i,st,rfl,hM.at,hi,?_⟩
  cases e:refuseE t i st with
  | some z =>
   rw [e] at k
   refine ⟨_,rfl,rfl,_,rfl,iteT ⟨_,rfl,(sz1),fun z hz=>refuse hM k hz⟩⟩
  | none =>
   rw [e] at k
   refine ⟨_,rfl,rfl,_,rfl,iteF ?_⟩
   refine ⟨_,rfl,p,C.record,dx,_,_,rfl,h1,T.record,T.rEvents,zd3 ..,_,rfl,_,rfl,_,rfl,fun c dc hc0 hdc _=>⟨c,dc,⟨i,st,kd⟩,rfl,za2,?_⟩⟩
   rw [zc6]
   obtain ⟨H2,hH2⟩:∃ H2,H2=upd (upd H dc (.own c)) c (.ins C.event dc (evfs ⟨i,st,kd⟩)):=⟨_,rfl⟩
   have s2:Same H H2:=by rw [hH2];exact Same.new hc0 hdc
   have hc:EvtAt C H2 c ⟨i,st,kd⟩:=⟨dc,by rw [hH2];exact za2⟩
   rw [← hH2]
   obtain ⟨le',xs,dx',lb',lm',lv',dw',hle,hl,hxs,h1',hM'⟩:=(hM.later s2).evnt hc
   have ele:le=le':=(yq2 s2 h1 h1').2.1
   subst ele
   refine ⟨rfl,le,xs,_,rfl,hl,by omega,fun z hz=>?_⟩
   have hzl:z≠le:=fun e=>by rw [e,hl] at hz;cases hz
   have hz':(upd H2 le (.lst (xs++[V.ref c]))) z=none:=by rw [zb5 hzl];exact hz
   refine k _ z G (hM'.later (Same.laid hz')) (((SameF.of s2).trans (SameF.upd hle)).trans (SameF.of (Same.laid hz'))) (fun a ha => .inl ha) (s2.free hz) ((hM.later s2).out hz) ?_
   rw [za2,hxs]
   rfl
end
end FPP
namespace FPP
open PySem PySem.Spec PyProof.Rows L2
open Vbqzab (Bound Table at_ State Box Wire Evidence)
theorem yl4 {s:State} {b:Box} {i:Nat} (h:i < s.boxes.length):Vbqzab.teamOf { s with boxes:=s.boxes++[b] } i=Vbqzab.teamOf s i:=by
 unfold Vbqzab.teamOf
 show (((s.boxes++[b])[i]?).map fun b=>b.team).getD i=_
 rw [FP.zg4 h]
theorem teamOf_last (s:State) (b:Box):Vbqzab.teamOf { s with boxes:=s.boxes++[b] } s.boxes.length=b.team:=by
 unfold Vbqzab.teamOf
 show (((s.boxes++[b])[s.boxes.length]?).map fun b=>b.team).getD _=_
 rw [List.getElem?_append_right (Nat.le_refl _),Nat.sub_self]
 rfl
theorem isOld_app {s:State} (hW:FP.Wf s) {b:Box} {i:Nat} (h:i < s.boxes.length) (hb:b.team=s.boxes.length):Vbqzab.isOld { s with boxes:=s.boxes++[b] } i=Vbqzab.isOld s i:=by
 unfold Vbqzab.isOld
 show ((List.range (s.boxes++[b]).length).any fun j=>decide (i < j) && Vbqzab.teamOf { s with boxes:=s.boxes++[b] } j == Vbqzab.teamOf { s with boxes:=s.boxes++[b] } i)=_
 rw [List.length_append,show s.boxes.length + [b].length=s.boxes.length + 1 from rfl,List.range_succ,List.any_append,yl4 h]
 have e1:([s.boxes.length].any fun j=>decide (i < j) && Vbqzab.teamOf { s with boxes:=s.boxes++[b] } j == Vbqzab.teamOf s i)=false:=by
  rw [List.any_cons,List.any_nil,Bool.or_false,teamOf_last,hb]
  have:=FP.yr7 hW h
  rw [beq_eq_false_iff_ne.mpr (by omega),Bool.and_false]
 rw [e1,Bool.or_false,Bool.eq_iff_iff,List.any_eq_true,List.any_eq_true]
 constructor
 ·rintro ⟨j,hj,q⟩
  exact ⟨j,hj,by rw [yl4 (List.mem_range.mp hj)] at q;exact q⟩
 ·rintro ⟨j,hj,q⟩
  exact ⟨j,hj,by rw [yl4 (List.mem_range.mp hj)];exact q⟩
theorem isOld_last (s:State) (b:Box):Vbqzab.isOld { s with boxes:=s.boxes++[b] } s.boxes.length=false:=by
 unfold Vbqzab.isOld
 refine List.any_eq_false.mpr fun j hj q=>?_
 have h1:=List.mem_range.mp hj
 rw [Bool.and_eq_true] at q
 have h2:=of_decide_eq_true q.1
 have h3:j < (s.boxes++[b]).length:=h1
 rw [List.length_append] at h3
 have h4:j < s.boxes.length + 1:=h3
 omega
theorem flags_app {s:State} (hW:FP.Wf s) {b:Box} (hb:b.team=s.boxes.length):((s.boxes++[b]).zipIdx.map fun t=>(t.1,Vbqzab.isOld { s with boxes:=s.boxes++[b] } t.2))=(s.boxes.zipIdx.map fun t=>(t.1,Vbqzab.isOld s t.2))++[(b,false)]:=by
 refine List.ext_getElem? fun i=>?_
 rw [List.getElem?_map,List.getElem?_zipIdx,Nat.zero_add]
 by_cases h:i < s.boxes.length
 ·obtain ⟨c,hc⟩:=FP.zc2 h
  rw [FP.zg4 h,hc,List.getElem?_append_left (by rw [List.length_map,List.length_zipIdx];exact h),zj6 hc]
  show some (c,Vbqzab.isOld { s with boxes:=s.boxes++[b] } i)=_
  rw [isOld_app hW h hb]
 ·by_cases e:i=s.boxes.length
  ·subst e
   rw [List.getElem?_append_right (Nat.le_refl _),Nat.sub_self,List.getElem?_append_right (by rw [List.length_map,List.length_zipIdx];exact Nat.le_refl _),List.length_map,List.length_zipIdx,Nat.sub_self]
   show some (b,Vbqzab.isOld { s with boxes:=s.boxes++[b] } s.boxes.length)=some (b,false)
   rw [isOld_last]
  ·rw [List.getElem?_eq_none (by rw [List.length_append];show s.boxes.length + 1≤i;omega),List.getElem?_eq_none (by rw [List.length_append,List.length_map,List.length_zipIdx];show s.boxes.length + 1≤i;omega)]
   rfl
theorem RecM.boxd {C:Clss} {H0 H Hs:Hp} {p a:Addr} {t:State} {F:List Addr} {b:Box} (h:RecM C H0 H p t F) (hW:FP.Wf t) (hb:b.team=t.boxes.length) (s:Same H Hs) (ha0:H a=none) (ha:BoxAt C false Hs a b):∃ lb xs dx le lm lv dw F',lb∈F∧Hs lb=some (.lst xs)∧xs.length=t.boxes.length∧Hs p=some (.ins C.record dx (rcfs lb le lm lv dw))∧(∀ x∈F',x∈F∨x=a)∧RecM C H0 (L2.upd Hs lb (.lst (xs++[V.ref a]))) p { t with boxes:=t.boxes++[b] } F':=by
 have hout:=h.out ha0
 have hS:=h.later s
 obtain ⟨dx,lb,le,lm,lv,dw,ab,ae,av,kvs,h1,h2,h3,h4,h5,h6,h7,h8,h9⟩:=hS.ex
 have hm:lb∈F:=by rw [h7];simp
 have haab:a ∉ ab:=fun q=>hout (by rw [h7];simp [q])
 simp only [List.nodup_cons,List.mem_cons,List.not_mem_nil,or_false,not_or] at h8
 refine ⟨lb,_,dx,le,lm,lv,dw,lb :: le :: lm :: lv :: dw :: (ab++[a]),hm,h3.lst,by rw [List.length_map,h3.len,List.length_map,List.length_zipIdx],h1,?_,⟨dx,lb,le,lm,lv,dw,ab++[a],ae,av,kvs,zi2 h3.lst h1,?_,?_,h4.upd (Ne.symm h8.1.1) (fun a x q=>yn0 h3.lst q),h5.upd (Ne.symm h8.1.2.2) (fun a x q=>yn1 h3.lst q),?_,rfl,?_,ym1 h9 haab⟩,?_,hS.same.over (h.fr lb hm)⟩
 ·intro x hx
  rw [h7]
  simp only [List.mem_cons,List.mem_append,List.not_mem_nil,or_false] at hx ⊢
  rcases hx with q | q | q | q | q | q | q
  ·exact .inl (.inl q)
  ·exact .inl (.inr (.inl q))
  ·exact .inl (.inr (.inr (.inl q)))
  ·exact .inl (.inr (.inr (.inr (.inl q))))
  ·exact .inl (.inr (.inr (.inr (.inr (.inl q)))))
  ·exact .inl (.inr (.inr (.inr (.inr (.inr q)))))
  ·exact .inr q
 ·rw [zb5 (Ne.symm h8.1.2.1)]
  exact h2
 ·show ObsAt _ _ _ _ ((t.boxes++[b]).zipIdx.map fun u=>(u.1,Vbqzab.isOld { t with boxes:=t.boxes++[b] } u.2))
  rw [flags_app hW hb]
  exact h3.push (x:=(b,false)) ha (fun c y q=>yh0 h3.lst q)
 ·have:=yc2 (o := .lst (ab.map V.ref++[V.ref a])) h6 h3.lst
  exact ⟨this.dict,this.none_,this.some_,this.nd,this.rg⟩
 ·simp only [List.nodup_cons,List.mem_cons,List.not_mem_nil,or_false,not_or]
  exact h8
 ·intro x hx
  simp only [List.mem_cons,List.mem_append,List.not_mem_nil,or_false] at hx
  rcases hx with q | q | q | q | q | q | q
  ·exact h.fr x (by rw [h7];simp [q])
  ·exact h.fr x (by rw [h7];simp [q])
  ·exact h.fr x (by rw [h7];simp [q])
  ·exact h.fr x (by rw [h7];simp [q])
  ·exact h.fr x (by rw [h7];simp [q])
  ·exact h.fr x (by rw [h7];simp [q])
  ·rw [q];exact h.same.free ha0
section
variable {P:Program} {w:World} {K:PySem.W.Frag} {mg:Str→Option Value} {base:Heap}
abbrev yd6:Stmt:=inClass (top 23) 0
abbrev n_Box_init:List Str:=["self", "slow", "fast", "grain", "team"]
abbrev zq6:List Str:=["self", "slow", "fast", "grain", "team"]
theorem yt2:FnScope n_Box_init zq6 (defScope yd6):=⟨rfl,rfl,rfl,by decide +kernel,rfl,by decide +kernel,by decide +kernel⟩
def spBoxInit (C:Addr):Sp:=fun vs H Q _=>∃ (p dx:Addr) (b:Box),vs=[.ref p,.int b.slow,.int b.fast,.int b.grain,.int b.team]∧H p=some (.ins C dx [])∧Q .non (upd H p (.ins C dx (bxfs b false)))
theorem ok_box_init {f:Addr} {fd:FuncData} {C:Clss} (F:Fun K "__init__" "Box.__init__" yd6 f fd) (T:ClssOk K C):FnOk P w K mg base CX0 1 f fd zq6 (spBoxInit C.box):=by
 refine F.ok yt2 (fun vs H Q E h=>?_) (fun cdv A outer s H vs Q E hr h=>?_)
 ·obtain ⟨p,dx,b,rfl,_⟩:=h
  rfl
 ·obtain ⟨p,dx,b,rfl,hp,k⟩:=h
  have nd:=yt2.nd
  refine ⟨_,(za1 (zd6 (pv 0) (pv 1) rfl) (za1 (zd6 (pv 0) (pv 2) rfl) (za1 (zd6 (pv 0) (pv 3) rfl) (za1 (zd6 (pv 0) (pv 4) rfl) (za4 (zd6 (pv 0) pe_bl rfl)))))),?_⟩
  refine ⟨_,rfl,_,rfl,p,C.box,dx,_,rfl,hp,T.box,T.bSlow,(by show 0 < 1000;decide),_,rfl,_,rfl,p,C.box,dx,_,rfl,za2,T.box,T.bFast,(by show 1 < 1000;decide),_,rfl,_,rfl,p,C.box,dx,_,rfl,za2,T.box,T.bGrain,(by show 2 < 1000;decide),_,rfl,_,rfl,p,C.box,dx,_,rfl,za2,T.box,T.bTeam,(by show 3 < 1000;decide),_,rfl,p,C.box,dx,_,rfl,za2,T.box,T.bWoken,(by show 4 < 1000;decide),?_⟩
  rw [zc6,zc6,zc6,zc6]
  exact k
abbrev yc8:Stmt:=top 61
abbrev n_tell_box:List Str:=["record", "slow", "fast", "grain"]
abbrev zw4:List Str:=["record", "slow", "fast", "grain"]
theorem ys3:FnScope n_tell_box zw4 (defScope yc8):=⟨rfl,rfl,rfl,by decide +kernel,rfl,by decide +kernel,by decide +kernel⟩
def spTellBox (C:Clss):Sp:=fun vs H Q _=>∃ (p:Addr) (H0:Hp) (s:State) (F:List Addr) (a b e:Nat),vs=[.ref p,.int a,.int b,.int e]∧RecM C H0 H p s F∧FP.Wf s∧Told1 C H0 H p F (if b < a then Vbqzab.no s (-1) else if Vbqzab.BOXES≤s.boxes.length then Vbqzab.no s (-7) else ({ s with boxes:=s.boxes++[⟨a,b,e,s.boxes.length⟩] },[Vbqzab.whole s.boxes.length])) Q
theorem ok_tell_box {f:Addr} {fd:FuncData} {C:Clss} (F:Fun K "tell_box" "tell_box" yc8 f fd) (T:ClssOk K C) (g_OUT_OF_RANGE:GVal mg "OUT_OF_RANGE" (.int (-1))) (g_FULL:GVal mg "FULL" (.int (-7))) (g_len:mg "len" = none) (mt_is_full:MethOk P w K mg base C.record "is_full" 2 zc9 (spIsFull C)) (c_put_behind:CallOk P w K mg base "put_behind" 1 ze2 spPutBehind) (m_Box:MakeOk P w K mg base "Box" C.box 1 zq6 (spBoxInit C.box)):FnOk P w K mg base CX0 3 f fd zw4 (spTellBox C):=by
 refine F.ok ys3 (fun vs H Q E h=>?_) (fun cdv A outer s H vs Q E hr h=>?_)
 ·obtain ⟨p,H0,t,G,a,b,e,rfl,_⟩:=h
  rfl
 ·obtain ⟨p,H0,t,G,a,b,e,rfl,hM,hW,k⟩:=h
  have nd:=ys3.nd
  obtain ⟨dx,lb,le,lm,lv,dw,ab,ae,av,kvs,h1,h2,h3,_⟩:=hM.at.ex
  refine ⟨_,(za1 (ps_if (zb2 op_lt (pv 2) (pv 1) (nomark _)) (za4 (za6 (zb7 (za0 (pe_gv g_OUT_OF_RANGE) za3)))) zb1) (za1 (ps_if (zd0 (zd4 mt_is_full (pv 0) (za0 ya4 za3) hr) (fun _=>rfl)) (za4 (za6 (zb7 (za0 (pe_gv g_FULL) za3)))) zb1) (za4 (za6 (zb6 c_put_behind (za0 (pe_at (pv 0)) (za0 (zh5 m_Box (za0 (pv 1) (za0 (pv 2) (za0 (pv 3) (za0 (zc0 zb4 (by rfl) g_len PySem.boot_len (za0 (pe_at (pv 0)) za3)) za3)))) hr) za3)) hr))))),?_⟩
  refine ⟨_,rfl,_,rfl,_,_,rfl,rfl,_,rfl,iteD (fun q=>?_) (fun q=>?_)⟩
  ·rw [if_pos (by omega)] at k
   exact ⟨(sz1),fun z hz=>refuse hM k hz⟩
  rw [if_neg (by omega)] at k
  refine ⟨_,rfl,p,dx,_,rfl,h1,rc_no,p,t, "box",t.boxes.length,0,7,rfl,hM.at,(by unfold cnt;rw [if_pos rfl]),by decide +kernel,_,rfl,iteD (fun q3=>?_) (fun q3=>?_)⟩
  ·rw [if_pos (by unfold Vbqzab.BOXES;omega)] at k
   exact ⟨(sz1),fun z hz=>refuse hM k hz⟩
  rw [if_neg (by unfold Vbqzab.BOXES;omega)] at k
  have hlb:(ab.map V.ref).length=t.boxes.length:=by rw [List.length_map,h3.len,List.length_map,List.length_zipIdx]
  refine ⟨_,rfl,p,C.record,dx,_,_,rfl,h1,T.record,T.rBoxes,zf1 ..,_,rfl,_,rfl,_,rfl,_,rfl,p,C.record,dx,_,_,rfl,h1,T.record,T.rBoxes,zf1 ..,lb,_,rfl,.inl (SqL.of h3.lst),fun c dc hc0 hdc _=>⟨c,dc,⟨a,b,e,t.boxes.length⟩,by rw [hlb];rfl,za2,?_⟩⟩
  rw [zc6]
  obtain ⟨H2,hH2⟩:∃ H2,H2=upd (upd H dc (.own c)) c (.ins C.box dc (bxfs ⟨a,b,e,t.boxes.length⟩ false)):=⟨_,rfl⟩
  have s2:Same H H2:=by rw [hH2];exact Same.new hc0 hdc
  have hc:BoxAt C false H2 c ⟨a,b,e,t.boxes.length⟩:=⟨dc,by rw [hH2];exact za2⟩
  rw [← hH2]
  obtain ⟨lb',xs,dx',le',lm',lv',dw',F',hlbF,hl,hxs,h1',hF',hM'⟩:=hM.boxd hW rfl s2 hc0 hc
  have elb:lb=lb':=(yq2 s2 h1 h1').1
  subst elb
  have hnb:=hW.nb
  refine ⟨rfl,lb,xs,_,rfl,hl,by omega,fun z hz=>?_⟩
  have hzl:z≠lb:=fun e=>by rw [e,hl] at hz;cases hz
  have hz':(upd H2 lb (.lst (xs++[V.ref c]))) z=none:=by rw [zb5 hzl];exact hz
  have hz0:=s2.free hz
  refine k _ z F' (hM'.later (Same.laid hz')) (((SameF.of s2).trans (SameF.upd hlbF)).trans (SameF.of (Same.laid hz'))) (fun x hx=>(hF' x hx).imp id fun q=>by rw [q];exact hc0) hz0 (fun q=>?_) ?_
  ·rcases hF' z q with q | q
   ·exact hM.out hz0 q
   ·obtain ⟨dd,hcc⟩:=hc
    rw [q,hcc] at hz
    cases hz
  ·rw [za2,hxs]
   rfl
end
end FPP
namespace FPP
open PySem PySem.Spec PyProof.Rows L2
open Vbqzab (Bound Table at_ State Box Wire Evidence)
theorem yp8 {i j a b:Nat} (h:wkey i j=wkey a b):i=a∧j=b:=by
 unfold wkey at h
 have h1:=(List.cons.inj h).1
 have h2:=(List.cons.inj (List.cons.inj h).2).1
 have e1:((i:Nat):Int)=(a:Int):=Sum.inl.inj h1
 have e2:((j:Nat):Int)=(b:Int):=Sum.inl.inj h2
 exact ⟨by omega,by omega⟩
theorem nodup_small {l:List Nat} {n:Nat} (hn:l.Nodup) (h:∀ x∈l,x < n):l.length≤n:=by
 apply Classical.byContradiction
 intro q
 obtain ⟨i,j,hij,hj,e⟩:=FP.pigeon n (fun i=>l.getD i 0) (fun i hi=>by
  show l.getD i 0 < n
  rw [List.getD_eq_getElem?_getD,List.getElem?_eq_getElem (by omega)]
  exact h _ (List.getElem_mem _))
 have e':l.getD i 0=l.getD j 0:=e
 rw [List.getD_eq_getElem?_getD,List.getD_eq_getElem?_getD,List.getElem?_eq_getElem (by omega),List.getElem?_eq_getElem (by omega)] at e'
 exact absurd ((List.getElem_inj hn).mp (show l[i]=l[j] from e')) (by omega)
def keyN:List Key→Nat
 | [.inl i,.inl j]=>i.toNat * 8 + j.toNat
 | _=>0
theorem wirs_small {C:Clss} {H:Hp} {d:Addr} {kvs:List (List Key×V)} {t:State} (h:WirsAt C H d kvs t):kvs.length≤64:=by
 have h1:((kvs.map (·.1)).map keyN).Nodup:=by
  refine List.nodup_iff_pairwise_ne.mpr (List.pairwise_map.mpr ((List.nodup_iff_pairwise_ne.mp h.nd).imp_of_mem fun {x y} hx hy hne e=>?_))
  obtain ⟨i,j,hi,hj,rfl⟩:=h.rg x hx
  obtain ⟨a,b,ha,hb,rfl⟩:=h.rg y hy
  have e':(i:Int).toNat * 8 + (j:Int).toNat=(a:Int).toNat * 8 + (b:Int).toNat:=e
  have e1:i=a:=by omega
  have e2:j=b:=by omega
  exact hne (by rw [e1,e2])
 have h2:=nodup_small (n:=64) h1 fun x hx=>by
  obtain ⟨k,hk,rfl⟩:=List.mem_map.mp hx
  obtain ⟨i,j,hi,hj,rfl⟩:=h.rg k hk
  show (i:Int).toNat * 8 + (j:Int).toNat < 64
  omega
 rw [List.length_map,List.length_map] at h2
 exact h2
theorem putK_keys (kvs:List (List Key×V)) (k:List Key) (v:V):(putK kvs k v).map (·.1)=kvs.map (·.1)∨(¬ k∈kvs.map (·.1)∧(putK kvs k v).map (·.1)=kvs.map (·.1)++[k]):=by
 unfold putK
 by_cases h:(kvs.any fun kv=>decide (kv.1=k))=true
 ·refine .inl ?_
  rw [if_pos h,List.map_map]
  refine List.map_congr_left fun q _=>?_
  show (if q.1=k then (q.1,v) else q).1=q.1
  split <;> rfl
 ·refine .inr ⟨fun q=>?_,?_⟩
  ·obtain ⟨p,hp,e⟩:=List.mem_map.mp q
   exact h (List.any_eq_true.mpr ⟨p,hp,decide_eq_true e⟩)
  ·rw [if_neg h,List.map_append]
   rfl
theorem RecM.wired {C:Clss} {H0 H:Hp} {p a:Addr} {t:State} {F:List Addr} {v:Wire} (h:RecM C H0 H p t F) (ha:WirAt C H a v) (h1s:v.src < 8) (h1d:v.dst < 8):∃ dw kvs dx lb le lm lv,dw∈F∧H dw=some (.dT kvs)∧kvs.length≤64∧H p=some (.ins C.record dx (rcfs lb le lm lv dw))∧RecM C H0 (L2.upd H dw (.dT (putK kvs (wkey v.src v.dst) (V.ref a)))) p { t with wires:=Vbqzab.putWire v t.wires } F:=by
 obtain ⟨dx,lb,le,lm,lv,dw,ab,ae,av,kvs,h1,h2,h3,h4,h5,h6,h7,h8,h9⟩:=h.ex
 have hm:dw∈F:=by rw [h7];simp
 have nl:∀ {l:Addr} {xs:List V},H l=some (.lst xs)→l≠dw:=fun e=>ne_of e h6.dict (fun q=>nomatch q)
 have ni:∀ {b c d:Addr} {fs:List (Str×V)},H b=some (.ins c d fs)→(L2.upd H dw (.dT (putK kvs (wkey v.src v.dst) (V.ref a)))) b=some (.ins c d fs):=fun e=>by
  rw [zb5 (ne_of e h6.dict (fun q=>nomatch q))]
  exact e
 have hkey:∀ i j,Vbqzab.wireOf { t with wires:=Vbqzab.putWire v t.wires } i j=if v.src=i∧v.dst=j then some v else Vbqzab.wireOf t i j:=fun i j=>FP.yc0 v i j t.wires
 refine ⟨dw,kvs,dx,lb,le,lm,lv,hm,h6.dict,wirs_small h6,h1,⟨dx,lb,le,lm,lv,dw,ab,ae,av,putK kvs (wkey v.src v.dst) (V.ref a),ni h1,by rw [zb5 (nl h2)];exact h2,h3.upd (nl h3.lst) ?_,h4.upd (nl h4.lst) ?_,h5.upd (nl h5.lst) ?_,⟨za2,?_,?_,?_,?_⟩,h7,h8,h9⟩,h.fr,h.same.over (h.fr dw hm)⟩
 ·rintro b x ⟨d,q⟩
  exact ⟨d,ni q⟩
 ·rintro b x ⟨d,q⟩
  exact ⟨d,ni q⟩
 ·intro b x q
  cases x with
  | hearing m y =>
   obtain ⟨d,q⟩:=q
   exact ⟨d,ni q⟩
  | limit x y lo hi =>
   obtain ⟨d,q⟩:=q
   exact ⟨d,ni q⟩
 ·intro i j e
  rw [hkey] at e
  rw [valV_put]
  by_cases c:v.src=i∧v.dst=j
  ·rw [if_pos c] at e
   cases e
  ·rw [if_neg c] at e
   rw [if_neg (fun q=>c ⟨(yp8 q).1.symm,(yp8 q).2.symm⟩)]
   exact h6.none_ i j e
 ·intro i j u e
  rw [hkey] at e
  rw [valV_put]
  by_cases c:v.src=i∧v.dst=j
  ·rw [if_pos c] at e
   cases e
   obtain ⟨d,ha⟩:=ha
   rw [if_pos (by rw [c.1,c.2])]
   exact ⟨a,rfl,d,ni ha⟩
  ·rw [if_neg c] at e
   rw [if_neg (fun q=>c ⟨(yp8 q).1.symm,(yp8 q).2.symm⟩)]
   obtain ⟨b,e1,d,e2⟩:=h6.some_ i j u e
   exact ⟨b,e1,d,ni e2⟩
 ·rcases putK_keys kvs (wkey v.src v.dst) (V.ref a) with q | ⟨q1,q2⟩
  ·rw [q]
   exact h6.nd
  ·rw [q2]
   exact ym1 h6.nd q1
 ·rcases putK_keys kvs (wkey v.src v.dst) (V.ref a) with q | ⟨q1,q2⟩
  ·rw [q]
   exact h6.rg
  ·rw [q2]
   intro k hk
   rcases List.mem_append.mp hk with hk | hk
   ·exact h6.rg k hk
   ·exact ⟨v.src,v.dst,h1s,h1d,List.mem_singleton.mp hk⟩
section
variable {P:Program} {w:World} {K:PySem.W.Frag} {mg:Str→Option Value} {base:Heap}
abbrev zy6:Stmt:=inClass (top 25) 0
abbrev n_Wire_init:List Str:=["self", "least", "greatest"]
abbrev zs2:List Str:=["self", "least", "greatest"]
theorem yo2:FnScope n_Wire_init zs2 (defScope zy6):=⟨rfl,rfl,rfl,by decide +kernel,rfl,by decide +kernel,by decide +kernel⟩
def spWireInit (C:Addr):Sp:=fun vs H Q _=>∃ (p dx:Addr) (v:Wire),vs=[.ref p,.int v.least,ov (v.most.map fun (n:Nat)=>(n:Int))]∧H p=some (.ins C dx [])∧Q .non (upd H p (.ins C dx (wifs v)))
theorem ok_wire_init {f:Addr} {fd:FuncData} {C:Clss} (F:Fun K "__init__" "Wire.__init__" zy6 f fd) (T:ClssOk K C):FnOk P w K mg base CX0 1 f fd zs2 (spWireInit C.wire):=by
 refine F.ok yo2 (fun vs H Q E h=>?_) (fun cdv A outer s H vs Q E hr h=>?_)
 ·obtain ⟨p,dx,v,rfl,_⟩:=h
  rfl
 ·obtain ⟨p,dx,v,rfl,hp,k⟩:=h
  have nd:=yo2.nd
  refine ⟨_,(za1 (zd6 (pv 0) (pv 1) rfl) (za4 (zd6 (pv 0) (pv 2) rfl))),?_⟩
  refine ⟨_,rfl,_,rfl,p,C.wire,dx,_,rfl,hp,T.wire,T.wLeast,(by show 0 < 1000;decide),_,rfl,_,rfl,p,C.wire,dx,_,rfl,za2,T.wire,T.wGreatest,(by show 1 < 1000;decide),?_⟩
  rw [zc6]
  exact k
abbrev zy1:Stmt:=top 62
abbrev n_tell_wire:List Str:=["record", "i", "j", "least", "greatest", "start", "end"]
abbrev zr6:List Str:=["record", "i", "j", "least", "greatest"]
theorem yn6:FnScope n_tell_wire zr6 (defScope zy1):=⟨rfl,rfl,rfl,by decide +kernel,rfl,by decide +kernel,by decide +kernel⟩
def spTellWire (C:Clss):Sp:=fun vs H Q _=>∃ (p:Addr) (H0:Hp) (s:State) (F:List Addr) (i j lo:Nat) (hi:Int),vs=[.ref p,.int i,.int j,.int lo,.int hi]∧RecM C H0 H p s F∧FP.Wf s∧i < s.boxes.length∧j < s.boxes.length ∧ -1≤hi ∧
 Told1 C H0 H p F (if Vbqzab.teamOf s i=Vbqzab.teamOf s j then Vbqzab.no s (-5) else if hi ≠ -1∧hi < lo then Vbqzab.no s (-6) else ({ s with wires:=Vbqzab.putWire ⟨Vbqzab.teamOf s i,Vbqzab.teamOf s j,lo,if hi = -1 then none else some hi.toNat⟩ s.wires },[0])) Q
theorem ok_tell_wire {f:Addr} {fd:FuncData} {C:Clss} (F:Fun K "tell_wire" "tell_wire" zy1 f fd) (T:ClssOk K C) (g_ALIKE:GVal mg "ALIKE" (.int (-5))) (g_NO_DELAY:GVal mg "NO_DELAY" (.int (-6))) (m_Wire:MakeOk P w K mg base "Wire" C.wire 1 zs2 (spWireInit C.wire)):FnOk P w K mg base CX0 3 f fd zr6 (spTellWire C):=by
 refine F.ok yn6 (fun vs H Q E h=>?_) (fun cdv A outer s H vs Q E hr h=>?_)
 ·obtain ⟨p,H0,t,G,i,j,lo,hi,rfl,_⟩:=h
  rfl
 ·obtain ⟨p,H0,t,G,i,j,lo,hi,rfl,hM,hW,hib,hjb,hhi,k⟩:=h
  have nd:=yn6.nd
  obtain ⟨dx,lb,le,lm,lv,dw,ab,ae,av,kvs,h1,h2,h3,h4,h5,h6⟩:=hM.at.ex
  obtain ⟨bi,hbi⟩:=FP.zc2 hib
  obtain ⟨bj,hbj⟩:=FP.zc2 hjb
  obtain ⟨ci,hci1,dci,hci2⟩:=h3.at_ i _ (zj6 hbi)
  obtain ⟨cj,hcj1,dcj,hcj2⟩:=h3.at_ j _ (zj6 hbj)
  have hci2:H ci=some (.ins C.box dci (bxfs bi (Vbqzab.isOld t i))):=hci2
  have hcj2:H cj=some (.ins C.box dcj (bxfs bj (Vbqzab.isOld t j))):=hcj2
  have li:=FP.yr7 hW hib
  have lj:=FP.yr7 hW hjb
  have hnb:=hW.nb
  rw [FP.zh0 hbi,FP.zh0 hbj] at k
  rw [FP.zh0 hbi] at li
  rw [FP.zh0 hbj] at lj
  have put:∀ (v:Wire) (H2:Hp) (c:Addr),v.src=bi.team→v.dst=bj.team→Same H H2→WirAt C H2 c v→Told1 C H0 H p G ({ t with wires:=Vbqzab.putWire v t.wires },[0]) Q→∀ q,H2 q=none→∃ a H4,V.ref dw=V.ref a∧DPut (upd H2 q (.tup [V.int bi.team,V.int bj.team])) a (V.ref q) (V.ref c) H4∧(1≤sizeLine∧∀ z,H4 z=none→Q (.ref z) (upd H4 z (.lst [V.int 0]))):=by
   intro v H2 c e1 e2 s2 hc k q hq
   have s3:Same H (upd H2 q (.tup [V.int bi.team,V.int bj.team])):=s2.trans (Same.laid hq)
   have hc3:WirAt C (upd H2 q (.tup [V.int bi.team,V.int bj.team])) c v:=by
    obtain ⟨d,hc⟩:=hc
    exact ⟨d,(Same.laid hq) _ _ hc⟩
   obtain ⟨dw',kvs',dx',lb',le',lm',lv',hdw,hd,hsm,h1',hM'⟩:=(hM.later s3).wired hc3 (by omega) (by omega)
   have edw:dw=dw':=(yq2 s3 h1 h1').2.2.2.2
   subst edw
   rw [e1,e2] at hM'
   refine ⟨dw,_,rfl,DPut.t (k:=wkey bi.team bj.team) hd za2 (small1000 (by omega)),by decide,fun z hz=>?_⟩
   have hzd:z≠dw:=fun e=>by rw [e,za2] at hz;cases hz
   have hz2:(upd H2 q (.tup [V.int bi.team,V.int bj.team])) z=none:=by rw [zb5 hzd] at hz;exact hz
   exact k _ z G (hM'.later (Same.laid hz)) (((SameF.of s3).trans (SameF.upd hdw)).trans (SameF.of (Same.laid hz))) (fun a ha => .inl ha) (s3.free hz2) (hM.out (s3.free hz2)) za2
  refine ⟨_,(za1 (zb8 (i:=5) nd rfl (Or.inl rfl) (pe_at (zb3 zb0 (pe_at (pv 0)) (pv 1)))) (za1 (zb8 (i:=6) nd rfl (Or.inl rfl) (pe_at (zb3 zb0 (pe_at (pv 0)) (pv 2)))) (za1 (ps_if (zb2 op_eq (pv 5) (pv 6) (nomark _)) (za4 (za6 (zb7 (za0 (pe_gv g_ALIKE) za3)))) zb1) (za1 (ps_if (zb2 op_eq (pv 4) (pe_un ye1 za9) (nomark _)) (za1 (ps_dput (hu_of hr) (pe_at (pv 0)) (pe_tup (za0 (pv 5) (za0 (pv 6) za3))) (zh5 m_Wire (za0 (pv 3) (za0 zg0 za3)) hr) rfl) (za4 (za6 (zb7 (za0 za9 za3))))) zb1) (za1 (ps_if (zb2 op_lt (pv 4) (pv 3) (nomark _)) (za4 (za6 (zb7 (za0 (pe_gv g_NO_DELAY) za3)))) zb1) (za1 (ps_dput (hu_of hr) (pe_at (pv 0)) (pe_tup (za0 (pv 5) (za0 (pv 6) za3))) (zh5 m_Wire (za0 (pv 3) (za0 (pv 4) za3)) hr) rfl) (za4 (za6 (zb7 (za0 za9 za3)))))))))),?_⟩
  refine ⟨_,rfl,p,C.record,dx,_,_,rfl,h1,T.record,T.rBoxes,zf1 ..,_,rfl,lb,_,_,_,rfl,rfl,SqL.of h3.lst,za8 (zc8 hci1),ci,C.box,dci,_,_,rfl,hci2,T.box,T.bTeam,yg9 _ _,?_⟩
  refine ⟨_,rfl,p,C.record,dx,_,_,rfl,h1,T.record,T.rBoxes,zf1 ..,_,rfl,lb,_,_,_,rfl,rfl,SqL.of h3.lst,za8 (zc8 hcj1),cj,C.box,dcj,_,_,rfl,hcj2,T.box,T.bTeam,yg9 _ _,?_⟩
  refine ⟨_,rfl,_,rfl,rfl,_,rfl,iteD (fun q=>?_) (fun q=>?_)⟩
  ·have e:bi.team=bj.team:=by
    have q':((bi.team:Nat):Int)=(bj.team:Int):=V.int.inj q
    omega
   rw [if_pos e] at k
   exact ⟨(sz1),fun z hz=>refuse hM k hz⟩
  rw [if_neg (fun e=>q (by rw [e]))] at k
  refine ⟨_,rfl,_,rfl,rfl,_,rfl,iteD (fun q2=>?_) (fun q2=>?_)⟩
  ·have e:hi = -1:=V.int.inj q2
   rw [if_neg (fun z=>z.1 e),if_pos e] at k
   refine ⟨_,rfl,fun c dc hc0 hdc _=>⟨c,dc,⟨bi.team,bj.team,lo,none⟩,rfl,za2,?_⟩⟩
   rw [zc6]
   obtain ⟨H2,hH2⟩:∃ H2,H2=upd (upd H dc (.own c)) c (.ins C.wire dc (wifs ⟨bi.team,bj.team,lo,none⟩)):=⟨_,rfl⟩
   have s2:Same H H2:=by rw [hH2];exact Same.new hc0 hdc
   have hc:WirAt C H2 c ⟨bi.team,bj.team,lo,none⟩:=⟨dc,by rw [hH2];exact za2⟩
   rw [← hH2]
   refine ⟨rfl,_,rfl,p,C.record,dx,_,_,rfl,s2 _ _ h1,T.record,T.rWires,zy8 ..,_,rfl,_,rfl,(sz2),fun q hq=>?_⟩
   exact put _ H2 c rfl rfl s2 hc k q hq
  have e:¬ hi = -1:=fun z=>q2 (by rw [z])
  refine ⟨_,rfl,_,rfl,_,_,rfl,rfl,_,rfl,iteD (fun q3=>?_) (fun q3=>?_)⟩
  ·rw [if_pos ⟨e,q3⟩] at k
   exact ⟨(sz1),fun z hz=>refuse hM k hz⟩
  rw [if_neg (fun z=>q3 z.2),if_neg e] at k
  refine ⟨_,rfl,_,rfl,fun c dc hc0 hdc _=>⟨c,dc,⟨bi.team,bj.team,lo,some hi.toNat⟩,?_,za2,?_⟩⟩
  ·show [V.ref c,V.int lo,V.int hi]=[V.ref c,V.int lo,V.int ((hi.toNat:Nat):Int)]
   rw [Int.toNat_of_nonneg (by omega)]
  rw [zc6]
  obtain ⟨H2,hH2⟩:∃ H2,H2=upd (upd H dc (.own c)) c (.ins C.wire dc (wifs ⟨bi.team,bj.team,lo,some hi.toNat⟩)):=⟨_,rfl⟩
  have s2:Same H H2:=by rw [hH2];exact Same.new hc0 hdc
  have hc:WirAt C H2 c ⟨bi.team,bj.team,lo,some hi.toNat⟩:=⟨dc,by rw [hH2];exact za2⟩
  rw [← hH2]
  refine ⟨rfl,_,rfl,p,C.record,dx,_,_,rfl,s2 _ _ h1,T.record,T.rWires,zy8 ..,_,rfl,_,rfl,(sz2),fun q hq=>?_⟩
  exact put _ H2 c rfl rfl s2 hc k q hq
end
end FPP
namespace FPP
open PySem PySem.Spec PyProof.Rows L2
open Vbqzab (Bound Table at_ State Box Wire Evidence)
section
variable {P:Program} {w:World} {K:PySem.W.Frag} {mg:Str→Option Value} {base:Heap}
abbrev zq3:Stmt:=inClass (top 28) 0
abbrev xd6:List Str:=["self"]
abbrev zi6:List Str:=["self"]
theorem yf0:FnScope xd6 zi6 (defScope zq3):=⟨rfl,rfl,rfl,by decide +kernel,rfl,by decide +kernel,by decide +kernel⟩
def spRecordInit (C:Clss):Sp:=fun vs H Q _=>∃ (p dx:Addr) (H0:Hp),vs=[.ref p]∧H p=some (.ins C.record dx [])∧(∀ b o,H0 b=some o→b≠p∧H b=some o)∧∀ (H':Hp) (F:List Addr),RecM C H0 H' p Vbqzab.start F→(∀ a∈F,H a=none)→SameX p H H'→Q .non H'
theorem yw2 {f:Addr} {fd:FuncData} {C:Clss} (F:Fun K "__init__" "Record.__init__" zq3 f fd) (T:ClssOk K C):FnOk P w K mg base CX0 1 f fd zi6 (spRecordInit C):=by
 refine F.ok yf0 (fun vs H Q E h=>?_) (fun cdv A outer s H vs Q E hr h=>?_)
 ·obtain ⟨p,dx,H0,rfl,_⟩:=h
  rfl
 ·obtain ⟨p,dx,H0,rfl,hp,hs,k⟩:=h
  have nd:=yf0.nd
  refine ⟨_,(za1 (zd6 (pv 0) (zb7 za3) rfl) (za1 (zd6 (pv 0) (zb7 za3) rfl) (za1 (zd6 (pv 0) (zb7 za3) rfl) (za1 (zd6 (pv 0) (zb7 za3) rfl) (za4 (zd6 (pv 0) pe_dnewT rfl)))))),?_⟩
  have stp:∀ {Hc:Hp} {l:Addr} {fs fs':List (Str×V)} {o:HO},Hc p=some (.ins C.record dx fs)→Hc l=none→l≠p∧(upd Hc l o) p=some (.ins C.record dx fs)∧(upd (upd Hc l o) p (.ins C.record dx fs')) p=some (.ins C.record dx fs')∧(upd (upd Hc l o) p (.ins C.record dx fs')) l=some o∧SameX p Hc (upd (upd Hc l o) p (.ins C.record dx fs')):=by
   intro Hc l fs fs' o hc hl
   have hne:l≠p:=fun e=>by rw [e,hc] at hl;cases hl
   exact ⟨hne,by rw [zb5 (Ne.symm hne)];exact hc,za2,by rw [zb5 hne];exact za2,(SameX.of (Same.laid hl)).trans SameX.upd⟩
  refine ⟨Nat.zero_le _,fun lb hlb=>?_⟩
  obtain ⟨n1,a1,b1,c1,x1⟩:=stp (fs':=putF "boxes" (.ref lb) []) (o := .lst []) hp hlb
  refine ⟨_,rfl,p,C.record,dx,_,rfl,a1,T.record,T.rBoxes,(by show 0 < 1000;decide),?_⟩
  obtain ⟨H1,e1⟩:∃ H1,H1=upd (upd H lb (.lst [])) p (.ins C.record dx (putF "boxes" (.ref lb) [])):=⟨_,rfl⟩
  rw [← e1] at b1 c1 x1
  rw [← e1]
  refine ⟨Nat.zero_le _,fun le hle=>?_⟩
  obtain ⟨n2,a2,b2,c2,x2⟩:=stp (fs':=putF "events" (.ref le) (putF "boxes" (.ref lb) [])) (o := .lst []) b1 hle
  refine ⟨_,rfl,p,C.record,dx,_,rfl,a2,T.record,T.rEvents,(by show 1 < 1000;decide),?_⟩
  obtain ⟨H2,e2⟩:∃ H2,H2=upd (upd H1 le (.lst [])) p (.ins C.record dx (putF "events" (.ref le) (putF "boxes" (.ref lb) []))):=⟨_,rfl⟩
  rw [← e2] at b2 c2 x2
  rw [← e2]
  refine ⟨Nat.zero_le _,fun lm hlm=>?_⟩
  obtain ⟨n3,a3,b3,c3,x3⟩:=stp (fs':=putF "messages" (.ref lm) (putF "events" (.ref le) (putF "boxes" (.ref lb) []))) (o := .lst []) b2 hlm
  refine ⟨_,rfl,p,C.record,dx,_,rfl,a3,T.record,T.rMessages,(by show 2 < 1000;decide),?_⟩
  obtain ⟨H3,e3⟩:∃ H3,H3=upd (upd H2 lm (.lst [])) p (.ins C.record dx (putF "messages" (.ref lm) (putF "events" (.ref le) (putF "boxes" (.ref lb) [])))):=⟨_,rfl⟩
  rw [← e3] at b3 c3 x3
  rw [← e3]
  refine ⟨Nat.zero_le _,fun lv hlv=>?_⟩
  obtain ⟨n4,a4,b4,c4,x4⟩:=stp (fs':=putF "evidence" (.ref lv) (putF "messages" (.ref lm) (putF "events" (.ref le) (putF "boxes" (.ref lb) [])))) (o := .lst []) b3 hlv
  refine ⟨_,rfl,p,C.record,dx,_,rfl,a4,T.record,T.rEvidence,(by show 3 < 1000;decide),?_⟩
  obtain ⟨H4,e4⟩:∃ H4,H4=upd (upd H3 lv (.lst [])) p (.ins C.record dx (putF "evidence" (.ref lv) (putF "messages" (.ref lm) (putF "events" (.ref le) (putF "boxes" (.ref lb) []))))):=⟨_,rfl⟩
  rw [← e4] at b4 c4 x4
  rw [← e4]
  intro dw hdw
  obtain ⟨n5,a5,b5,c5,x5⟩:=stp (fs':=rcfs lb le lm lv dw) (o := .dT []) b4 hdw
  refine ⟨_,rfl,p,C.record,dx,_,rfl,a5,T.record,T.rWires,(by show 4 < 1000;decide),?_⟩
  have hb4:H4 lb=some (.lst []):=x4 _ _ (x3 _ _ (x2 _ _ c1 n1) n1) n1
  have he4:H4 le=some (.lst []):=x4 _ _ (x3 _ _ c2 n2) n2
  have hm4:H4 lm=some (.lst []):=x4 _ _ c3 n3
  have lbe:lb≠le:=zb9 c1 hle
  have lbm:lb≠lm:=zb9 (x2 _ _ c1 n1) hlm
  have lbv:lb≠lv:=zb9 (x3 _ _ (x2 _ _ c1 n1) n1) hlv
  have lem:le≠lm:=zb9 c2 hlm
  have lev:le≠lv:=zb9 (x3 _ _ c2 n2) hlv
  have lmv:lm≠lv:=zb9 c3 hlv
  have xall:=(((x1.trans x2).trans x3).trans x4).trans x5
  have fre:∀ {l:Addr} {Hc:Hp},SameX p H Hc→Hc l=none→l≠p→H l=none:=fun {l Hc} x hl hn=>by
   cases q:H l with
   | none=>rfl
   | some o =>
    rw [x _ _ q hn] at hl
    cases hl
  have f2:H le=none:=fre x1 hle n2
  have f3:H lm=none:=fre (x1.trans x2) hlm n3
  have f4:H lv=none:=fre ((x1.trans x2).trans x3) hlv n4
  have f5:H dw=none:=fre (((x1.trans x2).trans x3).trans x4) hdw n5
  have hall:∀ a∈[lb,le,lm,lv,dw],H a=none:=by
   intro a ha
   simp only [List.mem_cons,List.not_mem_nil,or_false] at ha
   rcases ha with rfl | rfl | rfl | rfl | rfl <;> assumption
  refine k _ [lb,le,lm,lv,dw] ⟨⟨dx,lb,le,lm,lv,dw,[],[],[],[],b5,x5 _ _ hm4 n3,⟨x5 _ _ hb4 n1,rfl,fun i x hx=>by simp [Vbqzab.start] at hx⟩,⟨x5 _ _ he4 n2,rfl,fun i x hx=>by simp [Vbqzab.start] at hx⟩,⟨x5 _ _ c4 n4,rfl,fun i x hx=>by simp [Vbqzab.start] at hx⟩,⟨c5,fun i j _=>rfl,fun i j v e=>by simp [Vbqzab.wireOf,Vbqzab.start] at e,List.nodup_nil,fun k hk=>by cases hk⟩,rfl,?_,List.nodup_nil⟩,?_,?_⟩ hall xall
  ·simp only [List.nodup_cons,List.mem_cons,List.not_mem_nil,or_false,not_or,List.nodup_nil,and_true,not_false_eq_true]
   exact ⟨⟨lbe,lbm,lbv⟩,⟨lem,lev⟩,lmv⟩
  ·intro a ha
   cases q:H0 a with
   | none=>rfl
   | some o =>
    have:=(hs a o q).2
    rw [hall a ha] at this
    cases this
  ·intro b o e
   obtain ⟨q1,q2⟩:=hs b o e
   exact xall _ _ q2 q1
end
end FPP
namespace L2
open PySem PySem.Spec PyProof.Rows
theorem for_enum {K:PySem.W.Frag} {a:Addr} {xs:List V} {g:TG} {tb:TS} {D:Ends} {σ:St} {H:Hp} (Pv:Nat→St→Hp→Prop) (h0:Pv 0 σ H) (hl:∀ i σ H,i≤xs.length→Pv i σ H→SqL K H a xs)
  (hs:∀ i x σ H T,xs[i]?=some x→Pv i σ H→H T=none→g (.ref T) σ (upd H T (.tup [.int (i:Nat),x])) fun σ2 H2=>tb { D with nx:=Pv (i + 1),ct:=Pv (i + 1),bk:=D.nx } σ2 H2) (hd:∀ σ H,Pv xs.length σ H→D.nx σ H) :
  ∃ W:Nat→Nat→St→Hp→Prop,(∃ m,W 0 m σ H)∧∀ i m σ H,W i m σ H →
   ((Ite K a).stop i H∧D.nx σ H)∨((Ite K a).go i H∧∃ N:St→Hp→Prop,(∀ σ' H',N σ' H'→∃ m',m' < m∧W (i + 1) m' σ' H')∧∀ x H',(Ite K a).yld i H x H'→g x σ H' fun σ2 H2=>tb { D with nx:=N,ct:=N,bk:=D.nx } σ2 H2):=by
 refine ⟨fun i m σ H=>m=xs.length - i∧i≤xs.length∧Pv i σ H,⟨_,rfl,Nat.zero_le _,h0⟩,?_⟩
 rintro i m σ H ⟨rfl,hi,p⟩
 have q:=hl i σ H hi p
 by_cases c:i < xs.length
 ·refine .inr ⟨⟨xs,xs[i],q,List.getElem?_eq_getElem c⟩,Pv (i + 1),fun σ' H' p'=>⟨xs.length - (i + 1),by omega,rfl,c,p'⟩,fun x H' y=>?_⟩
  obtain ⟨T,x1,rfl,hT,rfl,e1⟩:=y
  exact hs i x1 σ H T (e1 xs q) p hT
 ·have e:i=xs.length:=by omega
  subst e
  exact .inl ⟨⟨xs,q,Nat.le_refl _⟩,hd σ H p⟩
theorem lc_enum {K:PySem.W.Frag} {a:Addr} {xs:List V} {g:TG} {tt:TT} {te:TE} {vs:List Nat} {σ:St} {H1:Hp} {D:Addr} {Qd:Hp→Prop} (Pv:Nat→Hp→Prop) (h0:Pv 0 (upd H1 D (.lst []))) (hl:∀ i H,i≤xs.length→Pv i H→SqL K H a xs)
  (hs:∀ i x H T,xs[i]?=some x→Pv i H→H T=none→g (.ref T) (wipe σ vs) (upd H T (.tup [.int (i:Nat),x])) fun σ2 H2=>wipe σ2 vs=wipe σ vs∧tt σ2 H2 fun b H3 =>
   if b=true then te σ2 H3 fun y H4=>∃ acc,H4 D=some (.lst acc)∧acc.length < sizeLine∧Pv (i + 1) (upd H4 D (.lst (acc++[y]))) else Pv (i + 1) H3) (hd:∀ H,Pv xs.length H→Qd H) :
  ∃ W:Nat→Nat→Hp→Prop,(∃ m,W 0 m (upd H1 D (.lst [])))∧∀ i m H,W i m H →
   ((Ite K a).stop i H∧Qd H)∨((Ite K a).go i H∧∃ Nx:Hp→Prop,(∀ H',Nx H'→∃ m',m' < m∧W (i + 1) m' H')∧∀ x H',(Ite K a).yld i H x H'→g x (wipe σ vs) H' fun σ2 H2=>wipe σ2 vs=wipe σ vs∧tt σ2 H2 fun b H3 =>
    if b=true then te σ2 H3 fun y H4=>∃ acc,H4 D=some (.lst acc)∧acc.length < sizeLine∧Nx (upd H4 D (.lst (acc++[y]))) else Nx H3):=by
 refine ⟨fun i m H=>m=xs.length - i∧i≤xs.length∧Pv i H,⟨_,rfl,Nat.zero_le _,h0⟩,?_⟩
 rintro i m H ⟨rfl,hi,p⟩
 have q:=hl i H hi p
 by_cases c:i < xs.length
 ·refine .inr ⟨⟨xs,xs[i],q,List.getElem?_eq_getElem c⟩,Pv (i + 1),fun H' p'=>⟨xs.length - (i + 1),by omega,rfl,c,p'⟩,fun x H' y=>?_⟩
  obtain ⟨T,x1,rfl,hT,rfl,e1⟩:=y
  exact hs i x1 H T (e1 xs q) p hT
 ·have e:i=xs.length:=by omega
  subst e
  exact .inl ⟨⟨xs,q,Nat.le_refl _⟩,hd H p⟩
theorem lc_zip {K:PySem.W.Frag} {a b:Addr} {xs ys:List V} {g:TG} {tt:TT} {te:TE} {vs:List Nat} {σ:St} {H1:Hp} {D:Addr} {Qd:Hp→Prop} {n:Nat} (hx:n≤xs.length) (hy:ys.length=n) (Pv:Nat→Hp→Prop) (h0:Pv 0 (upd H1 D (.lst []))) (hl:∀ i H,i≤n→Pv i H→SqL K H a xs∧SqL K H b ys)
  (hs:∀ i x y H T,xs[i]?=some x→ys[i]?=some y→Pv i H→H T=none→g (.ref T) (wipe σ vs) (upd H T (.tup [x,y])) fun σ2 H2=>wipe σ2 vs=wipe σ vs∧tt σ2 H2 fun b H3 =>
   if b=true then te σ2 H3 fun y H4=>∃ acc,H4 D=some (.lst acc)∧acc.length < sizeLine∧Pv (i + 1) (upd H4 D (.lst (acc++[y]))) else Pv (i + 1) H3) (hd:∀ H,Pv n H→Qd H) :
  ∃ W:Nat→Nat→Hp→Prop,(∃ m,W 0 m (upd H1 D (.lst [])))∧∀ i m H,W i m H →
   ((Itz K a b).stop i H∧Qd H)∨((Itz K a b).go i H∧∃ Nx:Hp→Prop,(∀ H',Nx H'→∃ m',m' < m∧W (i + 1) m' H')∧∀ x H',(Itz K a b).yld i H x H'→g x (wipe σ vs) H' fun σ2 H2=>wipe σ2 vs=wipe σ vs∧tt σ2 H2 fun b H3 =>
    if b=true then te σ2 H3 fun y H4=>∃ acc,H4 D=some (.lst acc)∧acc.length < sizeLine∧Nx (upd H4 D (.lst (acc++[y]))) else Nx H3):=by
 refine ⟨fun i m H=>m=n - i∧i≤n∧Pv i H,⟨_,rfl,Nat.zero_le _,h0⟩,?_⟩
 rintro i m H ⟨rfl,hi,p⟩
 have q:=hl i H hi p
 by_cases c:i < n
 ·refine .inr ⟨⟨xs,ys,xs[i],ys[i],q.1,q.2,List.getElem?_eq_getElem (by omega),List.getElem?_eq_getElem (by omega)⟩,Pv (i + 1),fun H' p'=>⟨n - (i + 1),by omega,rfl,c,p'⟩,fun x H' y=>?_⟩
  obtain ⟨T,x1,y1,rfl,hT,rfl,e1,e2⟩:=y
  exact hs i x1 y1 H T (e1 xs q.1) (e2 ys q.2) p hT
 ·have e:i=n:=by omega
  subst e
  exact .inl ⟨⟨xs,ys,q.1,q.2,.inr (by omega)⟩,hd H p⟩
theorem call_lenK {K:PySem.W.Frag} {X:Cx} (hK:X.K=K:=by rfl):CallR X (.builtin "len") (fun xs H Q=>∃ p ys,xs=[.ref p]∧(SqL K H p ys∨SqT K H p ys)∧Q (.int ys.length) H):=by
 subst hK
 exact zb4
section
variable {prog:Program} {w:World} {A:Around} {R:Result→Shared→Prop} {I S:Addr} {fp wr:List Addr} {n:Nat} {P:Nat→Value→Prop} {St:Nat→Heap→Prop} {bt:Nat→Nat→Bool} {kw:List (Str×Value)}
theorem mind_on (Wa:Walks prog w A.in1 I fp wr n P St) (hcm:CmpOf prog w A.in1 .Lt P bt) (hno:S ∉ fp) :
  ∀ (r i:Nat) (sh:Shared) (vb:Value) (cc:Nat),n - (i + 1)=r→i + 1≤n→St (i + 1) sh.heap→P (argBest bt i) vb →
  sh.heap.get? S=some { cls := .type "list",dict:=none,data := .seq #[vb,vb] cc,slots:=#[] } →
  (∀ v h2 t2,P (argBest bt (n - 1)) v→(∀ b o,b ∉ wr→b≠S→sh.heap.get? b=some o→h2.get? b=some o)→R (.ok (.ret v)) { sh with heap:=h2,toks:=t2 }) →
  codeAny (model prog w) A (.builtin "min.loop" ⟨[.ref I,.none,.ref S],kw⟩) R sh:=by
 have hnw:S ∉ wr:=fun z=>hno (Wa.sub _ z)
 have hnm:(toString "min" ++ toString ".loop" : String) = "min.loop" := by decide
 intro r
 induction r with
 | zero =>
  intro i sh vb cc hr hi hst hPb hS hR
  have hin:i + 1=n:=by omega
  refine codeAny_builtin F.entry_min_loop ?_
  rw [Around.under_plainId F.plain_min_loop _]
  show wpAny _ A.in1 (seqItems? (.ref S) >>= _) _ _ sh
  refine wpAny_bind (wpAny_seqItems hS rfl ?_)
  show wpAny _ A.in1 (tryCatch (pyNext (.ref I)) _ >>= _) _ _ sh
  refine wpAny_bind (wpAny_tryCatch (Wa.done sh _ _ (hin▸hst) fun h2 t2 hk2=>?_))
  have hS2:=hk2 S _ hnw hS
  show wpAny _ A.in1 (updateSeq S (fun _=>#[]) >>= fun _=>_) _ _ _
  refine wpAny_bind (wpAny_updateSeq hS2 rfl (wpAny_bind (wpAny_letGo (wpAny_pure ?_))))
  exact hR vb _ t2 (by rw [← hin];exact hPb) fun b o hbw hbS e=>(Heap.get?_update_other _ _ (Ne.symm hbS)).trans (hk2 b o hbw e)
 | succ r ih =>
  intro i sh vb cc hr hi hst hPb hS hR
  have hlt:i + 1 < n:=by omega
  refine codeAny_builtin F.entry_min_loop ?_
  rw [Around.under_plainId F.plain_min_loop _]
  show wpAny _ A.in1 (seqItems? (.ref S) >>= _) _ _ sh
  refine wpAny_bind (wpAny_seqItems hS rfl ?_)
  show wpAny _ A.in1 (tryCatch (pyNext (.ref I)) _ >>= _) _ _ sh
  refine wpAny_bind (wpAny_tryCatch (Wa.item (i + 1) sh _ _ hlt hst fun v h2 t2 hP hst2 hk2=>?_))
  have hS2:=hk2 S _ hnw hS
  show wpAny _ A.in1 (tryCatch (holding [v,v] (richCompare .Lt v vb >>= _)) _ >>= fun _=>_) _ _ _
  refine wpAny_bind (wpAny_tryCatch (wpAny_holding (wpAny_bind (hcm (i + 1) (argBest bt i) v vb _ _ _ hP hPb ?_))))
  refine wpAny_bind (wpAny_holding (wpAny_truthy_bool (wpAny_bind (wpAny_letGo (wpAny_pure ?_)))))
  cases hb:bt (i + 1) (argBest bt i) with
  | true =>
   simp only [if_true]
   refine wpAny_bind (wpAny_updateSeq hS2 rfl (wpAny_bind (wpAny_letGo ?_)))
   rw [hnm]
   refine wpAny_pure ⟨plainId_quiet F.plain_min_loop _,ih (i + 1) _ v _ (by omega) hlt (Wa.frame _ _ _ hst2 fun b hbf o e=>?_) (by simp only [argBest,hb,if_true];exact hP) (Heap.get?_update_self _ hS2 rfl) fun v3 h3 t3 hP3 hk3=>?_⟩
   ·exact (Heap.get?_update_other _ _ (fun z:S=b=>hno (by rw [z];exact hbf))).trans e
   ·exact hR v3 h3 t3 hP3 fun b o hbw hbS e=>hk3 b o hbw hbS ((Heap.get?_update_other _ _ (Ne.symm hbS)).trans (hk2 b o hbw e))
  | false =>
   simp only [Bool.false_eq_true,if_false]
   refine wpAny_bind (wpAny_letGo ?_)
   rw [hnm]
   refine wpAny_pure ⟨plainId_quiet F.plain_min_loop _,ih (i + 1) _ vb cc (by omega) hlt hst2 (by simp only [argBest,hb,Bool.false_eq_true,if_false];exact hPb) hS2 fun v3 h3 t3 hP3 hk3=>?_⟩
   exact hR v3 h3 t3 hP3 fun b o hbw hbS e=>hk3 b o hbw hbS (hk2 b o hbw e)
theorem mind_start (Wa:Walks prog w A.in1 I fp wr n P St) (hcm:CmpOf prog w A.in1 .Lt P bt) (hno:S ∉ fp) (hn:0 < n) {sh:Shared} {cc:Nat} (hst:St 0 sh.heap)
  (hS:sh.heap.get? S=some { cls := .type "list",dict:=none,data := .seq #[] cc,slots:=#[] })
  (hR:∀ v h2 t2,P (argBest bt (n - 1)) v→(∀ b o,b ∉ wr→b≠S→sh.heap.get? b=some o→h2.get? b=some o)→R (.ok (.ret v)) { sh with heap:=h2,toks:=t2 }) :
  codeAny (model prog w) A (.builtin "min.loop" ⟨[.ref I,.none,.ref S],kw⟩) R sh:=by
 have hnw:S ∉ wr:=fun z=>hno (Wa.sub _ z)
 have hnm:(toString "min" ++ toString ".loop" : String) = "min.loop" := by decide
 refine codeAny_builtin F.entry_min_loop ?_
 rw [Around.under_plainId F.plain_min_loop _]
 show wpAny _ A.in1 (seqItems? (.ref S) >>= _) _ _ sh
 refine wpAny_bind (wpAny_seqItems hS rfl ?_)
 show wpAny _ A.in1 (tryCatch (pyNext (.ref I)) _ >>= _) _ _ sh
 refine wpAny_bind (wpAny_tryCatch (Wa.item 0 sh _ _ hn hst fun v h2 t2 hP hst2 hk2=>?_))
 have hS2:=hk2 S _ hnw hS
 show wpAny _ A.in1 (updateSeq S (fun _=>#[v,v]) >>= fun _=>_) _ _ _
 refine wpAny_bind (wpAny_updateSeq hS2 rfl ?_)
 rw [hnm]
 refine wpAny_pure ⟨plainId_quiet F.plain_min_loop _,mind_on Wa hcm hno _ 0 _ v _ rfl hn (Wa.frame _ _ _ hst2 fun b hbf o e=>?_) hP (Heap.get?_update_self _ hS2 rfl) fun v3 h3 t3 hP3 hk3=>?_⟩
 ·exact (Heap.get?_update_other _ _ (fun z:S=b=>hno (by rw [z];exact hbf))).trans e
 ·exact hR v3 h3 t3 hP3 fun b o hbw hbS e=>hk3 b o hbw hbS ((Heap.get?_update_other _ _ (Ne.symm hbS)).trans (hk2 b o hbw e))
theorem mind_none (Wa:Walks prog w A.in1 I fp wr n P St) (hn:n=0) (hno:S ∉ fp) {sh:Shared} {cc:Nat} {x:Str} {d:Value} (hst:St 0 sh.heap)
  (hS:sh.heap.get? S=some { cls := .type "list",dict:=none,data := .seq #[] cc,slots:=#[] })
  (hR:∀ h2 t2,(∀ b o,b ∉ wr→sh.heap.get? b=some o→h2.get? b=some o)→R (.ok (.ret d)) { sh with heap:=h2,toks:=t2 }) :
  codeAny (model prog w) A (.builtin "min.loop" ⟨[.ref I,.none,.ref S],[(x,d)]⟩) R sh:=by
 refine codeAny_builtin F.entry_min_loop ?_
 rw [Around.under_plainId F.plain_min_loop _]
 show wpAny _ A.in1 (seqItems? (.ref S) >>= _) _ _ sh
 refine wpAny_bind (wpAny_seqItems hS rfl ?_)
 show wpAny _ A.in1 (tryCatch (pyNext (.ref I)) _ >>= _) _ _ sh
 refine wpAny_bind (wpAny_tryCatch (Wa.done sh _ _ (by rw [hn];exact hst) fun h2 t2 hk2=>?_))
 exact wpAny_bind (wpAny_rule (wpAny_pure (hR h2 t2 hk2)))
end
theorem args_mind (a v:Value):argsOk "min" ⟨[a],[(Str.ofString "default",v)]⟩:=by unfold argsOk;kernel_rfl
section
variable {prog:Program} {w:World} {A:Around} {E:Value→Shared→Prop} {s:Shared} {l:Addr} {its:List Value} {ns:List Int} {Q:Value→Shared→Prop} {d:Value}
theorem mind_raw (hh:A.handled=none) (hl:s.heap.IsList l its.toArray) (hi:IntsAre its ns)
  (h0:ns=[]→∀ h2 t2,(∀ b o,s.heap.get? b=some o→h2.get? b=some o)→Q d { s with heap:=h2,toks:=t2 })
  (h:∀ h2 t2 M t',(∀ b o,s.heap.get? b=some o→h2.get? b=some o)→M∈ns→(∀ a,a∈ns→M≤a)→Q (.int M t') { s with heap:=h2,toks:=t2 }):wpAny (model prog w) A (call (.builtin "min") [.ref l] [(Str.ofString "default",d)]) Q E s:=by
 obtain ⟨xs,e⟩:=hi.allInts.items
 have hn:numsOf (intItems xs).toList=ns:=by rw [← e];exact hi.numsOf
 rw [nums_intItems] at hn
 subst hn
 rw [e] at hl
 have hnm:(toString "min" ++ toString ".loop" : String) = "min.loop" := by decide
 refine kmk_tree F.kind_min F.plain_min F.entry_min (args_mind _ _) ?_
 show wpAny _ A.in1 (Builtin.Builtins.bindParams "min" ["key", "default"] 0 ⟨[],[(Str.ofString "default",d)]⟩ >>= _) _ _ s
 refine wpAny_bind (wpAny_of_eq (show Builtin.Builtins.bindParams "min" ["key", "default"] 0 ⟨[],[(Str.ofString "default",d)]⟩=pure [none,some d] from rfl) ?_)
 refine wpAny_bind (wpAny_pure (wpAny_bind (iter_intList hl fun s2 e2 st hfp hlI=>?_)))
 subst e2
 refine wpAny_bind (wpAny_newObj_type ?_)
 rw [hnm]
 have Wa:=Walks.list (prog:=prog) (w:=w) (A:=A.in1) hh s.heap.objs.size l hlI (intItems xs)
 have hSf:(s.heap.push { cls := .type "list_iterator",data := .fields #[.ref l,.int 0 0] }).objs.size ∉ [s.heap.objs.size,l]:=fun z=>Nat.lt_irrefl _ (hfp _ z)
 have hst:=Wa.frame 0 _ (((s.heap.push { cls := .type "list_iterator",data := .fields #[.ref l,.int 0 0] }).push (seqObj "list" #[] 0))) st fun b _ o e=>Heap.get?_push_of_some _ e
 refine wpAny_pure ⟨plainId_quiet F.plain_min_loop _,?_⟩
 by_cases hz:0 < xs.size
 ·refine mind_start Wa (CmpOf.ints_lt (numAt xs) (fun _ _=>intItems_at)) hSf (by simpa [intItems] using hz) hst (Heap.get?_push_size _ rfl) fun v h2 t2 hv hk=>?_
  have hv:(intItems xs)[argBest (fun i j=>decide (numAt xs i < numAt xs j)) (xs.size - 1)]?=some v:=by simpa [intItems] using hv
  obtain ⟨t,rfl⟩:=intItems_at hv
  obtain ⟨q1,q2⟩:=argBest_lt (numAt xs) (xs.size - 1)
  refine h h2 t2 _ t (old_kept fun b o hb eo=>hk b o hb (Nat.ne_of_lt (Heap.lt_size eo)) (Heap.get?_push_of_some _ eo)) ?_ fun a ha=>?_
  ·rw [numAt_eq];exact PySem.getD_mem (by rw [List.length_map,Array.length_toList];omega)
  ·obtain ⟨j,hj,rfl⟩:=mem_getD ha
   rw [List.length_map,Array.length_toList] at hj
   rw [← numAt_eq];exact q2 j (by omega)
 ·have hz:xs=#[]:=Array.eq_empty_of_size_eq_zero (by omega)
  subst hz
  refine mind_none Wa (by simp [intItems]) hSf hst (Heap.get?_push_size _ rfl) fun h2 t2 hk=>h0 rfl h2 t2 (old_kept fun b o hb eo=>hk b o hb (Heap.get?_push_of_some _ eo))
end
section
variable {X:Cx}
def tMinD (K:PySem.W.Frag) (t tk:TA):TE:=fun σ H Q=>t σ H fun vs H1=>tk σ H1 fun ks H2=>∃ (a:Addr) (ns:List Int) (d:Int),vs=[V.ref a]∧ks=[V.int d]∧SqL K H2 a (ns.map V.int)∧∀ m,(ns=[]∧m=d)∨(m∈ns∧∀ y∈ns,m≤y)→Q (.int m) H2
theorem pe_minD {p pos kpos:Pos} {e e2:Expr} {t tk:TA} (hc:X.calm=true) (hm:X.mg "min" = none) (ha:PA X [e] t) (hkw:PK X [⟨some "default",e2,kpos⟩] tk) (hg:Gl X "min" := by rfl) (he:backTo pos (starEach [e] X.env)=(false,eval e X.env) :: backTo pos (starEach [] X.env):=by rfl) (hpl:(backTo pos (starEach [e] X.env)).any (·.1)=false:=by rfl) :
  PE X (.Call (.Name "min" p) [e] [⟨some "default",e2,kpos⟩] pos) (tMinD X.K t tk):=by
 intro pins s σ H Q I h
 refine wpAny_Call_Name_kw (yo6 I hg hm boot_min ?_)
 refine PyProof.Rows.callWith_kw (thn (ha pos pins s σ H _ I h) fun us s1 ⟨vs,H1,I1,r1,q1⟩=>thn (hkw pos pins s1 σ H1 _ I1 q1) fun ws s2 ⟨zs,H2,I2,r2,q2⟩=>?_) he hpl
 obtain ⟨a,ns,d,rfl,rfl,hs,k⟩:=q2
 obtain ⟨its,rv,hl,_⟩:=I2.list hs
 rw [Vals.ref1 r1]
 cases r2 with
 | cons r3 r4 =>
  cases r4
  obtain ⟨td,rfl⟩:=r3
  exact mind_raw (I2.ok.hd hc) hl.isList rv.ints (fun e h2 t2 hk=>⟨.int _,H2,I2.kept hk,⟨_,rfl⟩,k _ (.inl ⟨e,rfl⟩)⟩) fun h2 t2 m t' hk h1 h2'=>⟨.int _,H2,I2.kept hk,⟨_,rfl⟩,k m (.inr ⟨h1,h2'⟩)⟩
end
end L2
namespace FPP
open PySem PySem.Spec PyProof.Rows L2
open Vbqzab (Bound Table at_ State Box Wire Evidence)
theorem NewAns.later {H H':Hp} {l:List Int} {Q:VK} (k:NewAns H l Q) (s:Same H H'):NewAns H' l Q:=fun H2 p s2 hp h=>k H2 p (s.trans s2) (s.free hp) h
theorem ref_item {ls:List Addr} {i:Nat} {y:V} (h:(ls.map V.ref)[i]?=some y):∃ a,y=V.ref a∧ls[i]?=some a:=by
 rw [List.getElem?_map] at h
 obtain ⟨a,ha,rfl⟩:=Option.map_eq_some_iff.mp h
 exact ⟨a,rfl,ha⟩
theorem yq9 {ls:List Int} {i:Nat} {y:V} (h:(ls.map V.int)[i]?=some y):∃ a,y=V.int a∧ls[i]?=some a:=by
 rw [List.getElem?_map] at h
 obtain ⟨a,ha,rfl⟩:=Option.map_eq_some_iff.mp h
 exact ⟨a,rfl,ha⟩
theorem zi0 {H:Hp} {Q:VK} {e:Int} (k:NewAns H [e] Q):1≤sizeLine∧∀ p,H p=none→Q (.ref p) (upd H p (.lst [V.int e])):=⟨by decide,fun p hp=>k _ p (Same.laid hp) hp za2⟩
def colTo (S:List Table) (y i:Nat):List Int:=(S.take i).filterMap fun t=>at_ t y
theorem colTo_succ {S:List Table} {y i:Nat} {t:Table} (h:S[i]?=some t):colTo S y (i + 1)=match at_ t y with | none=>colTo S y i | some z=>colTo S y i++[z]:=by
 unfold colTo
 rw [List.take_add_one,h,List.filterMap_append]
 show _++[t].filterMap (fun t=>at_ t y)=_
 rw [List.filterMap_cons,List.filterMap_nil]
 cases at_ t y with
 | none=>exact List.append_nil _
 | some z=>rfl
theorem colTo_len (S:List Table) (y i:Nat):(colTo S y i).length≤i:=by
 unfold colTo
 refine Nat.le_trans (List.length_filterMap_le _ _) ?_
 rw [List.length_take]
 omega
theorem col_mem {S:List Table} {y:Nat} {z:Int}:z∈S.filterMap (fun t=>at_ t y) ↔ ∃ x,x < S.length∧FP.g S x y=some z:=by
 rw [List.mem_filterMap]
 constructor
 ·rintro ⟨t,ht,e⟩
  obtain ⟨x,hx,rfl⟩:=List.mem_iff_getElem.mp ht
  refine ⟨x,hx,?_⟩
  unfold FP.g
  rw [List.getD_eq_getElem?_getD,List.getElem?_eq_getElem hx]
  exact e
 ·rintro ⟨x,hx,e⟩
  refine ⟨S[x],List.getElem_mem hx,?_⟩
  unfold FP.g at e
  rw [List.getD_eq_getElem?_getD,List.getElem?_eq_getElem hx] at e
  exact e
section
variable {P:Program} {w:World} {K:PySem.W.Frag} {mg:Str→Option Value} {base:Heap}
abbrev zw2:Stmt:=top 56
abbrev yy5:List Str:=["survey", "y", "row"]
abbrev zw6:List Str:=["survey", "y"]
theorem ys5:FnScope yy5 zw6 (defScope zw2):=⟨rfl,rfl,rfl,by decide +kernel,rfl,by decide +kernel,by decide +kernel⟩
def spLeastTo (C:Clss):Sp:=fun vs H Q _=>∃ (q:Addr) (bs:List Bound) (n y:Nat),vs=[.ref q,.int y]∧SvAt C.survey C.bound H q bs n (FP.fw bs n)∧FP.Inn bs n∧FP.NoNeg bs∧y < n∧n≤100∧∀ H' m,Same H H'→at_ (Vbqzab.relaxed bs n n (Vbqzab.zeros n)) y=some m→Q (.int m) H'
theorem ok_least_to {f:Addr} {fd:FuncData} {C:Clss} (F:Fun K "least_to" "least_to" zw2 f fd) (T:SCls K C.survey) (g_min:mg "min" = none):FnOk P w K mg base CX0 1 f fd zw6 (spLeastTo C):=by
 refine F.ok ys5 (fun vs H Q E h=>?_) (fun cdv A outer s H vs Q E hr h=>?_)
 ·obtain ⟨q,bs,n,y,rfl,_⟩:=h
  rfl
 ·obtain ⟨q,bs,n,y,rfl,hS,hI,hN,hy,hn,k⟩:=h
  have nd:=ys5.nd
  obtain ⟨dx,l,m,as,ls,hq,hB,hM⟩:=hS.ex
  have hK:=FP.zs7 hI
  have hsh:=hK.sh
  have hll:(ls.map V.ref).length=n:=by rw [List.length_map,hM.len,hsh.len]
  refine ⟨_,(za4 (za6 (zc0 (cr_min rfl) (by rfl) g_min boot_min (za0 (pe_lc (own:=[("row",2)]) rfl nd (zj0 (pe_at (pv 0))) (zt0 (by show blkOkB yy5 (defScope zw2) _ _=true;decide +kernel)) (fun _ _ _ _ _=>(zc3 (i:=2) nd rfl (Or.inl rfl))) (fun _ _ _ _ _=>(yl6 (zb2 zp4 (zb3 (xd8 (K:=K)) (pv 2) (pv 1)) zg0 (nomark _)))) (fun _ _ _ _ _=>(zb3 (xd8 (K:=K)) (pv 2) (pv 1)))) za3)))),?_⟩
  refine ⟨_,rfl,q,C.survey,dx,_,_,rfl,hq,T.cl,T.nM,zt1 n l m,m,rfl,⟨_,SqL.of hM.lst⟩,fun D hD=>yb8 (K:=K) (a:=m) (xs:=ls.map V.ref) (fun i H'=>Same H H'∧H' D=some (.lst ((colTo (FP.fw bs n) y i).map V.int))) ⟨Same.laid hD,za2⟩ (fun i H' _ h=>SqL.of (h.1 _ _ hM.lst)) ?_ ?_⟩
  ·rintro i x H2 hx ⟨s2,hD2⟩
   obtain ⟨a,rfl,ha⟩:=ref_item hx
   have hi:i < n:=by rw [← hll,List.length_map];exact (List.getElem?_eq_some_iff.mp ha).1
   obtain ⟨a',ha1,ha2⟩:=hM.at_ i _ (zr3 hsh hi)
   have ea:a=a':=Option.some.inj (ha.symm.trans ha1)
   subst ea
   have hlen:=hsh.row i hi
   have hc:=colTo_succ (y:=y) (zr3 hsh hi)
   refine ⟨rfl,_,rfl,_,rfl,a,_,_,_,rfl,rfl,SqL.of (s2 _ _ ha2),za8 (zh4 (by rw [hlen];exact hy)),rfl,_,rfl,?_⟩
   cases e:at_ ((FP.fw bs n).getD i []) y with
   | none =>
    rw [e] at hc
    refine iteF ⟨s2,?_⟩
    rw [hc]
    exact hD2
   | some z =>
    rw [e] at hc
    refine iteT ⟨_,rfl,_,rfl,a,_,_,_,rfl,rfl,SqL.of (s2 _ _ ha2),za8 (zh4 (by rw [hlen];exact hy)),_,hD2,?_,s2.over hD,?_⟩
    ·rw [List.length_map]
     have:=colTo_len (FP.fw bs n) y i
     exact small1000 (by omega)
    ·rw [hc,e,za2,List.map_append]
     rfl
  ·rintro H2 ⟨s2,hD2⟩
   have ec:colTo (FP.fw bs n) y (ls.map V.ref).length=(FP.fw bs n).filterMap fun t=>at_ t y:=by
    unfold colTo
    rw [List.take_of_length_le (by rw [hll,hsh.len];exact Nat.le_refl _)]
   rw [ec] at hD2
   obtain ⟨d,hd,_⟩:=hK.diag y hy
   refine ⟨D,_,rfl,SqL.of hD2,List.length_pos_of_mem (col_mem.mpr ⟨y,by rw [hsh.len];exact hy,hd⟩),fun z h1 h2=>?_⟩
   obtain ⟨x,hx,e⟩:=col_mem.mp h1
   rw [hsh.len] at hx
   exact k H2 z s2 (FP.hist_min hI hN hy ⟨x,hx,e⟩ fun x' d' hx' e'=>h2 d' (col_mem.mpr ⟨x',by rw [hsh.len];exact hx',e'⟩))
abbrev zi5:Stmt:=top 55
abbrev zz3:List Str:=["survey", "times", "earliest", "y", "moment"]
abbrev zm4:List Str:=["survey"]
theorem ye7:FnScope zz3 zm4 (defScope zi5):=⟨rfl,rfl,rfl,by decide +kernel,rfl,by decide +kernel,by decide +kernel⟩
def spAskHistory (C:Clss):Sp:=fun vs H Q _=>∃ (q:Addr) (bs:List Bound) (n:Nat),vs=[.ref q]∧SvAt C.survey C.bound H q bs n (FP.fw bs n)∧FP.Inn bs n∧FP.NoNeg bs∧n≤100∧NewAns H (Vbqzab.numbers (Vbqzab.history bs n)) Q
theorem yw8 {f:Addr} {fd:FuncData} {C:Clss} (F:Fun K "ask_history" "ask_history" zi5 f fd) (T:SCls K C.survey) (g_min:mg "min" = none) (g_range:mg "range" = none) (c_least_to:CallOk P w K mg base "least_to" 1 zw6 (spLeastTo C)) (c_counted:CallOk P w K mg base "counted" 1 zh8 spCounted):FnOk P w K mg base CX0 2 f fd zm4 (spAskHistory C):=by
 refine F.ok ye7 (fun vs H Q E h=>?_) (fun cdv A outer s H vs Q E hr h=>?_)
 ·obtain ⟨q,bs,n,rfl,_⟩:=h
  rfl
 ·obtain ⟨q,bs,n,rfl,hS,hI,hN,hn,k⟩:=h
  have nd:=ye7.nd
  obtain ⟨dx,l,m,as,ls,hq,hB,hM⟩:=hS.ex
  have htl:=FP.xe0 bs n
  refine ⟨_,(za1 (yq4 (i:=1) (own:=[("y",3)]) rfl nd rfl rfl (xa3 rfl rfl rfl rfl) (zl8 rfl g_range (za0 (pe_at (pv 0)) za3)) (zt0 (by show blkOkB zz3 (defScope zi5) _ _=true;decide +kernel)) (fun _ _ _ _ _=>(zc3 (i:=3) nd rfl (Or.inl rfl))) (fun _ _ _ _ _=>zy9) (fun _ _ _ _ _=>(zb6 c_least_to (za0 (pv 0) (za0 (pv 3) za3)) hr))) (za1 (zb8 (i:=2) nd rfl (Or.inr rfl) (pe_minD rfl g_min (za0 (pv 1) za3) (pk_cons za9 pk_nil))) (za4 (za6 (zb6 c_counted (za0 (pe_lc (own:=[("moment",4)]) rfl nd (zj0 (pv 1)) (zt0 (by show blkOkB zz3 (defScope zi5) _ _=true;decide +kernel)) (fun _ _ _ _ _=>(zc3 (i:=4) nd rfl (Or.inl rfl))) (fun _ _ _ _ _=>zy9) (fun _ _ _ _ _=>(pe_op yt5 (pv 4) (pv 2)))) za3) hr))))),?_⟩
  refine ⟨_,rfl,q,C.survey,dx,_,_,rfl,hq,T.cl,T.nS,yc5 n l m,(n:Int),rfl,by omega,by omega,fun D hD=>yq7 (fun i H'=>Same H H'∧H' D=some (.lst (((FP.histTimes bs n).take i).map V.int))) ⟨Same.laid hD,za2⟩ ?_ ?_⟩
  ·rintro i H2 hi ⟨s2,hD2⟩
   rw [Int.toNat_natCast] at hi
   refine ⟨rfl,yh1 ?_⟩
   refine iteT ⟨_,rfl,_,rfl,q,bs,n,i,by rw [Int.zero_add];rfl,hS.same s2,hI,hN,hi,hn,fun H3 z s3 hz=>?_⟩
   refine ⟨_,s3 _ _ hD2,?_,(s2.trans s3).over hD,?_⟩
   ·rw [List.length_map,List.length_take]
    exact small1000 (by omega)
   ·rw [za2,List.take_add_one,FP.xe1 hi hz,List.map_append]
    rfl
  rintro H1 ⟨s1,hD1⟩
  rw [Int.toNat_natCast,List.take_of_length_le (by omega)] at hD1
  refine ⟨_,rfl,D,FP.histTimes bs n,0,rfl,rfl,SqL.of hD1,fun z hz=>?_⟩
  refine ⟨_,rfl,D,rfl,⟨_,SqL.of hD1⟩,fun D2 hD2=>yb8 (K:=K) (a:=D) (xs:=(FP.histTimes bs n).map V.int) (fun i H'=>Same H1 H'∧H' D2=some (.lst ((((FP.histTimes bs n).take i).map fun t=>t - z).map V.int))) ⟨Same.laid hD2,za2⟩ (fun i H' _ h=>SqL.of (h.1 _ _ hD1)) ?_ ?_⟩
  ·rintro i x H2 hx ⟨s2,hE2⟩
   obtain ⟨t,rfl,ht⟩:=yq9 hx
   refine ⟨rfl,yh1 ?_⟩
   refine iteT ⟨_,rfl,_,rfl,_,_,rfl,rfl,_,hE2,?_,s2.over hD2,?_⟩
   ·rw [List.length_map,List.length_map,List.length_take]
    exact small1000 (by omega)
   ·rw [za2,List.take_add_one,ht]
    simp
  ·rintro H2 ⟨s2,hE2⟩
   rw [List.length_map,List.take_length,← FP.yz3 hz] at hE2
   have hl2:(Vbqzab.history bs n).length=n:=by rw [FP.yz3 hz,List.length_map,htl]
   exact ⟨D2,Vbqzab.history bs n,rfl,hE2,by omega,k.later (s1.trans s2)⟩
abbrev yd4:Stmt:=top 57
abbrev n_ask_late:List Str:=["survey", "x", "times"]
abbrev zx0:List Str:=["survey", "x"]
theorem yt0:FnScope n_ask_late zx0 (defScope yd4):=⟨rfl,rfl,rfl,by decide +kernel,rfl,by decide +kernel,by decide +kernel⟩
def spAskLate (C:Clss):Sp:=fun vs H Q _=>∃ (q:Addr) (bs:List Bound) (n x:Nat),vs=[.ref q,.int x]∧SvAt C.survey C.bound H q bs n (FP.fw bs n)∧FP.Inn bs n∧FP.NoNeg bs∧x < n∧n≤100∧NewAns H (match Vbqzab.late bs n x with | none=>[0] | some l=>1 :: Vbqzab.numbers l) Q
theorem ovs_flat (t:Table):(ovs t).all flatV=true:=by
 refine List.all_eq_true.mpr fun v hv=>?_
 obtain ⟨o,_,rfl⟩:=List.mem_map.mp hv
 cases o <;> rfl
theorem ovs_has (t:Table):inV V.non (ovs t) = !(t.all fun o=>o.isSome):=by
 unfold inV ovs
 rw [List.any_map]
 induction t with
 | nil=>rfl
 | cons o t ih =>
  rw [List.any_cons,List.all_cons,ih]
  cases o <;> rfl
theorem ovs_times {t:Table} (h:(t.all fun o=>o.isSome)=true):ovs t=(Vbqzab.timesOf t).map V.int:=by
 unfold ovs Vbqzab.timesOf
 rw [List.map_map]
 refine List.map_congr_left fun o ho=>?_
 have:=List.all_eq_true.mp h o ho
 cases o with
 | none=>cases this
 | some z=>rfl
theorem ok_ask_late {f:Addr} {fd:FuncData} {C:Clss} (F:Fun K "ask_late" "ask_late" yd4 f fd) (T:SCls K C.survey) (c_counted:CallOk P w K mg base "counted" 1 zh8 spCounted):FnOk P w K mg base CX0 2 f fd zx0 (spAskLate C):=by
 refine F.ok yt0 (fun vs H Q E h=>?_) (fun cdv A outer s H vs Q E hr h=>?_)
 ·obtain ⟨q,bs,n,x,rfl,_⟩:=h
  rfl
 ·obtain ⟨q,bs,n,x,rfl,hS,hI,hN,hx,hn,k⟩:=h
  have nd:=yt0.nd
  obtain ⟨dx,l,m,as,ls,hq,hB,hM⟩:=hS.ex
  have hsh:=(FP.zs7 hI).sh
  obtain ⟨a,ha1,ha2⟩:=hM.at_ x _ (zr3 hsh hx)
  have hfl:(Vbqzab.from_ bs n x).length=n:=by rw [← FP.row_from hI hN hx];exact hsh.row x hx
  rw [FP.row_from hI hN hx] at ha2
  have el:Vbqzab.late bs n x=if ((Vbqzab.from_ bs n x).all fun o=>o.isSome)=true then some (Vbqzab.timesOf (Vbqzab.from_ bs n x)) else none:=rfl
  rw [el] at k
  refine ⟨_,(za1 (zb8 (i:=2) nd rfl (Or.inl rfl) (zb3 zb0 (pe_at (pv 0)) (pv 1))) (za1 (ps_if (zb2 yj5 zg0 (pv 2) (by rfl)) (za4 (za6 (zb7 (za0 za9 za3)))) zb1) (za4 (za6 (pe_op yj6 (zb7 (za0 za9 za3)) (zb6 c_counted (za0 (pv 2) za3) hr)))))),?_⟩
  refine ⟨_,rfl,q,C.survey,dx,_,_,rfl,hq,T.cl,T.nM,zt1 n l m,_,rfl,m,_,_,_,rfl,rfl,SqL.of hM.lst,za8 (zc8 ha1),?_⟩
  refine ⟨_,rfl,a,_,rfl,.inl (SqL.of ha2),rfl,ovs_flat _,_,rfl,?_⟩
  show if inV V.non (ovs (Vbqzab.from_ bs n x))=true then _ else _
  rw [ovs_has]
  cases e:(Vbqzab.from_ bs n x).all fun o=>o.isSome with
  | false =>
   rw [if_neg (by rw [e];exact Bool.false_ne_true)] at k
   exact iteT (zi0 k)
  | true =>
   rw [if_pos e] at k
   refine iteF ⟨(sz1),fun p hp=>?_⟩
   have s1:=Same.laid (o := .lst [V.int 1]) hp
   have ha3:=s1 _ _ ha2
   rw [ovs_times e] at ha3
   have hlt:(Vbqzab.timesOf (Vbqzab.from_ bs n x)).length=n:=by
    unfold Vbqzab.timesOf
    rw [List.length_map,hfl]
   refine ⟨_,rfl,a,_,rfl,ha3,by omega,fun H3 g s3 hg0 hg=>?_⟩
   have hp3:H3 p=some (.lst [V.int 1]):=s3 _ _ za2
   refine ⟨p,g,_,_,rfl,rfl,hp3,hg,?_,fun z hz=>?_⟩
   ·rw [List.length_map]
    unfold Vbqzab.numbers
    show 1 + (_ + 1)≤sizeLine
    exact zd5 (by omega)
   ·have s13:=s1.trans s3
    exact k _ z (s13.over (s13.free hz)) (s13.free hz) za2
end
end FPP
namespace FPP
open PySem PySem.Spec PyProof.Rows L2
open Vbqzab (Bound Table at_ State Box Wire Evidence)
def NewNs (H:Hp) (l:List Nat) (Q:VK):Prop:=∀ (H':Hp) (p:Addr),Same H H'→H p=none→H' p=some (.lst (nvs l))→Q (.ref p) H'
theorem yk0 (l:List Nat) (i:Nat):nvs l++[V.int (i:Nat)]=nvs (l++[i]):=by
 unfold nvs
 rw [List.map_append]
 rfl
theorem zd9 (l:List Nat):(nvs l).length=l.length:=List.length_map _
theorem ev_kind (e:Vbqzab.Event):(evfs e).lookup ("kind" : Str)=some (.int e.kind):=by
 unfold evfs
 rw [za5,if_pos rfl]
theorem yq8 {s:State} {k x:Nat} {e:Vbqzab.Event} (h:s.events[x]?=some e):FP.kindIs s k x=(e.kind == k):=by
 unfold FP.kindIs
 rw [h]
 rfl
theorem yd7 (s:State) (k j:Nat):(FP.kindTo s k j).length≤j:=Nat.le_trans (List.length_filter_le _ _) (by rw [List.length_range];exact Nat.le_refl _)
theorem yf6 (s:State) (j:Nat):(FP.teamsTo s j).length≤j:=Nat.le_trans (List.length_filter_le _ _) (by rw [List.length_range];exact Nat.le_refl _)
theorem box_item {s:State} {i:Nat} {x:Box×Bool} (h:(s.boxes.zipIdx.map fun t=>(t.1,Vbqzab.isOld s t.2))[i]?=some x):s.boxes[i]?=some x.1:=by
 rw [List.getElem?_map,List.getElem?_zipIdx] at h
 obtain ⟨y,hy,rfl⟩:=Option.map_eq_some_iff.mp h
 obtain ⟨b,hb,rfl⟩:=Option.map_eq_some_iff.mp hy
 exact hb
section
variable {P:Program} {w:World} {K:PySem.W.Frag} {mg:Str→Option Value} {base:Heap}
abbrev zk0:Stmt:=inClass (top 28) 7
abbrev ya7:List Str:=["self", "x", "event"]
abbrev zf0:List Str:=["self"]
theorem zv9:FnScope ya7 zf0 (defScope zk0):=⟨rfl,rfl,rfl,by decide +kernel,rfl,by decide +kernel,by decide +kernel⟩
def spPresses (C:Clss):Sp:=fun vs H Q _=>∃ (p:Addr) (s:State),vs=[.ref p]∧RecAt C H p s∧FP.Wf s∧NewNs H (Vbqzab.pressesOf s) Q
theorem ok_presses {f:Addr} {fd:FuncData} {C:Clss} (F:Fun K "presses" "Record.presses" zk0 f fd) (T:ClssOk K C) (g_PRESS:GVal mg "PRESS" (.int 1)) (g_enumerate:mg "enumerate" = none):FnOk P w K mg base CX0 1 f fd zf0 (spPresses C):=by
 refine F.ok zv9 (fun vs H Q E h=>?_) (fun cdv A outer s H vs Q E hr h=>?_)
 ·obtain ⟨p,t,rfl,_⟩:=h
  rfl
 ·obtain ⟨p,t,rfl,hR,hW,k⟩:=h
  have nd:=zv9.nd
  obtain ⟨dx,lb,le,lm,lv,dw,ab,ae,av,kvs,h1,h2,h3,h4,h5,h6⟩:=hR.ex
  have hne:=hW.ne
  refine ⟨_,(za4 (za6 (pe_lc (own:=[("x",1),("event",2)]) rfl nd (xa9 rfl g_enumerate (za0 (pe_at (pv 0)) za3)) (zt0 (by show blkOkB ya7 (defScope zk0) _ _=true;decide +kernel)) (fun _ _ _ _ _=>(pg_tupK (K:=K) (n:=2) rfl (ze8 (zc3 (i:=1) nd rfl (Or.inl rfl)) (ze8 (zc3 (i:=2) nd rfl (Or.inl rfl)) zz0)))) (fun _ _ _ _ _=>(yl6 (zb2 op_eq (yy3 (K:=K) (pv 2)) (pe_gv g_PRESS) (nomark _)))) (fun _ _ _ _ _=>(pv 1))))),?_⟩
  refine ⟨_,rfl,p,C.record,dx,_,_,rfl,h1,T.record,T.rEvents,zd3 ..,le,_,rfl,SqL.of h4.lst,fun D hD=>lc_enum (K:=K) (a:=le) (xs:=ae.map V.ref) (fun i H'=>Same H H'∧H' D=some (.lst (nvs (FP.kindTo t 1 i)))) ⟨Same.laid hD,za2⟩ (fun i H' _ h=>SqL.of (h.1 _ _ h4.lst)) ?_ ?_⟩
  ·rintro i x H2 U hx ⟨s2,hD2⟩ hU
   obtain ⟨a,e,rfl,he,de,ha⟩:=h4.item hx
   have hi:i < t.events.length:=(List.getElem?_eq_some_iff.mp he).1
   have s3:Same H2 (upd H2 U (.tup [V.int (i:Nat),V.ref a])):=Same.laid hU
   have s4:=s2.trans s3
   refine ⟨U,_,rfl,SqT.of za2,rfl,_,_,rfl,_,_,rfl,rfl,rfl,_,rfl,a,C.event,de,_,_,rfl,s4 _ _ ha,T.event,T.eKind,ev_kind e,rfl,_,rfl,iteD (fun q=>?_) (fun q=>?_)⟩
   ·have q':((e.kind:Nat):Int)=1:=V.int.inj q
    have hk:FP.kindIs t 1 i=true:=by rw [yq8 he];exact beq_iff_eq.mpr (by omega)
    refine ⟨_,rfl,_,s3 _ _ hD2,?_,s4.over hD,?_⟩
    ·rw [zd9]
     have:=yd7 t 1 i
     exact small1000 (by omega)
    ·rw [za2,FP.yg4,if_pos hk]
     exact congrArg (fun z=>some (HO.lst z)) (yk0 _ _)
   ·have hk:¬ FP.kindIs t 1 i=true:=by
     rw [yq8 he]
     intro z
     exact q (by rw [eq_of_beq z];rfl)
    refine ⟨s4,?_⟩
    rw [FP.yg4,if_neg hk]
    exact s3 _ _ hD2
  ·rintro H2 ⟨s2,hD2⟩
   rw [List.length_map,h4.len,FP.kindTo_all] at hD2
   exact k H2 D s2 hD hD2
abbrev zn3:Stmt:=inClass (top 28) 8
abbrev yf2:List Str:=["self", "i", "box"]
abbrev zn6:List Str:=["self"]
theorem yb2:FnScope yf2 zn6 (defScope zn3):=⟨rfl,rfl,rfl,by decide +kernel,rfl,by decide +kernel,by decide +kernel⟩
def spTeams (C:Clss):Sp:=fun vs H Q _=>∃ (p:Addr) (s:State),vs=[.ref p]∧RecAt C H p s∧FP.Wf s∧NewNs H (Vbqzab.teams s) Q
theorem ok_teams {f:Addr} {fd:FuncData} {C:Clss} (F:Fun K "teams" "Record.teams" zn3 f fd) (T:ClssOk K C) (g_enumerate:mg "enumerate" = none):FnOk P w K mg base CX0 1 f fd zn6 (spTeams C):=by
 refine F.ok yb2 (fun vs H Q E h=>?_) (fun cdv A outer s H vs Q E hr h=>?_)
 ·obtain ⟨p,t,rfl,_⟩:=h
  rfl
 ·obtain ⟨p,t,rfl,hR,hW,k⟩:=h
  have nd:=yb2.nd
  obtain ⟨dx,lb,le,lm,lv,dw,ab,ae,av,kvs,h1,h2,h3,h4,h5,h6⟩:=hR.ex
  have hnb:=hW.nb
  refine ⟨_,(za4 (za6 (pe_lc (own:=[("i",1),("box",2)]) rfl nd (xa9 rfl g_enumerate (za0 (pe_at (pv 0)) za3)) (zt0 (by show blkOkB yf2 (defScope zn3) _ _=true;decide +kernel)) (fun _ _ _ _ _=>(pg_tupK (K:=K) (n:=2) rfl (ze8 (zc3 (i:=1) nd rfl (Or.inl rfl)) (ze8 (zc3 (i:=2) nd rfl (Or.inl rfl)) zz0)))) (fun _ _ _ _ _=>(yl6 (zb2 op_eq (yy3 (K:=K) (pv 2)) (pv 1) (nomark _)))) (fun _ _ _ _ _=>(pv 1))))),?_⟩
  refine ⟨_,rfl,p,C.record,dx,_,_,rfl,h1,T.record,T.rBoxes,zf1 ..,lb,_,rfl,SqL.of h3.lst,fun D hD=>lc_enum (K:=K) (a:=lb) (xs:=ab.map V.ref) (fun i H'=>Same H H'∧H' D=some (.lst (nvs (FP.teamsTo t i)))) ⟨Same.laid hD,za2⟩ (fun i H' _ h=>SqL.of (h.1 _ _ h3.lst)) ?_ ?_⟩
  ·rintro i x H2 U hx ⟨s2,hD2⟩ hU
   obtain ⟨a,e,rfl,he,de,ha⟩:=h3.item hx
   have hb:=box_item he
   have hi:i < t.boxes.length:=(List.getElem?_eq_some_iff.mp hb).1
   have s3:Same H2 (upd H2 U (.tup [V.int (i:Nat),V.ref a])):=Same.laid hU
   have s4:=s2.trans s3
   refine ⟨U,_,rfl,SqT.of za2,rfl,_,_,rfl,_,_,rfl,rfl,rfl,_,rfl,a,C.box,de,_,_,rfl,s4 _ _ ha,T.box,T.bTeam,yg9 _ _,_,rfl,rfl,_,rfl,iteD (fun q=>?_) (fun q=>?_)⟩
   ·have q':((e.1.team:Nat):Int)=(i:Int):=V.int.inj q
    refine ⟨_,rfl,_,s3 _ _ hD2,?_,s4.over hD,?_⟩
    ·rw [zd9]
     have:=yf6 t i
     exact small1000 (by omega)
    ·rw [za2,FP.yn4,if_pos (by rw [FP.zh0 hb];omega)]
     exact congrArg (fun z=>some (HO.lst z)) (yk0 _ _)
   ·refine ⟨s4,?_⟩
    rw [FP.yn4,if_neg (by rw [FP.zh0 hb];intro z;exact q (by rw [z]))]
    exact s3 _ _ hD2
  ·rintro H2 ⟨s2,hD2⟩
   rw [List.length_map,h3.len,List.length_map,List.length_zipIdx] at hD2
   exact k H2 D s2 hD hD2
abbrev zi9:Stmt:=inClass (top 28) 9
abbrev ye0:List Str:=["self", "team", "last", "x", "event"]
abbrev zf4:List Str:=["self", "team"]
theorem zn8:FnScope ye0 zf4 (defScope zi9):=⟨rfl,rfl,rfl,by decide +kernel,rfl,by decide +kernel,by decide +kernel⟩
def nov (o:Option Nat):V:=ov (o.map fun (n:Nat)=>(n:Int))
def spLastReport (C:Clss):Sp:=fun vs H Q _=>∃ (p:Addr) (s:State) (tm:Nat),vs=[.ref p,.int tm]∧RecAt C H p s∧FP.Wf s∧∀ H',Same H H'→Q (nov (Vbqzab.reportOf s tm)) H'
theorem yw5 {f:Addr} {fd:FuncData} {C:Clss} (F:Fun K "last_report" "Record.last_report" zi9 f fd) (T:ClssOk K C) (g_REPORT:GVal mg "REPORT" (.int 2)) (g_enumerate:mg "enumerate" = none) (mt_team_of:MethOk P w K mg base C.record "team_of" 1 zd1 (spTeamOf C)):FnOk P w K mg base CX0 2 f fd zf4 (spLastReport C):=by
 refine F.ok zn8 (fun vs H Q E h=>?_) (fun cdv A outer s H vs Q E hr h=>?_)
 ·obtain ⟨p,t,tm,rfl,_⟩:=h
  rfl
 ·obtain ⟨p,t,tm,rfl,hR,hW,k⟩:=h
  have nd:=zn8.nd
  obtain ⟨dx,lb,le,lm,lv,dw,ab,ae,av,kvs,h1,h2,h3,h4,h5,h6⟩:=hR.ex
  refine ⟨_,(za1 (zb8 (i:=2) nd rfl (Or.inl rfl) zg0) (za1 (zj3 PassesOwn.never rfl (xa9 rfl g_enumerate (za0 (pe_at (pv 0)) za3)) (yt3 rfl (ze8 (zc3 (i:=3) nd rfl (Or.inl rfl)) (ze8 (zc3 (i:=4) nd rfl (Or.inl rfl)) zz0))) (za4 (ps_if ((pw_and (zb2 op_eq (pe_at (pv 4)) (pe_gv g_REPORT) (nomark _)) (pw_and1 (zb2 op_eq (zd4 mt_team_of (pv 0) (za0 (pv 3) za3) hr) (pv 1) (nomark _))))).pt (za4 (zb8 (i:=2) nd rfl (Or.inl rfl) (pv 3))) zb1))) (za4 (za6 (pv 2))))),?_⟩
  refine ⟨_,rfl,p,C.record,dx,_,_,rfl,h1,T.record,T.rEvents,zd3 ..,le,_,rfl,SqL.of h4.lst,for_enum (K:=K) (a:=le) (xs:=ae.map V.ref) (fun i σ H'=>∃ v3 v4:Option V,σ=[some (.ref p),some (.int tm),some (nov (FP.repTo t tm i)),v3,v4]∧Same H H') ⟨none,none,rfl,Same.refl H⟩ (fun i σ H' _ ⟨_,_,_,h⟩=>SqL.of (h _ _ h4.lst)) ?_ ?_⟩
  ·rintro i x σ H2 U hx ⟨v3,v4,rfl,s2⟩ hU
   obtain ⟨a,e,rfl,he,de,ha⟩:=h4.item hx
   have hi:i < t.events.length:=(List.getElem?_eq_some_iff.mp he).1
   have s3:Same H (upd H2 U (.tup [V.int (i:Nat),V.ref a])):=s2.trans (Same.laid hU)
   have hrep:=FP.repTo_succ t tm i
   refine ⟨U,_,rfl,SqT.of za2,rfl,_,_,rfl,_,_,rfl,rfl,?_⟩
   refine ⟨_,rfl,a,C.event,de,_,_,rfl,s3 _ _ ha,T.event,T.eKind,ev_kind e,rfl,_,rfl,iteD (fun q=>?_) (fun q=>?_)⟩
   ·have q':((e.kind:Nat):Int)=2:=V.int.inj q
    have hk:FP.kindIs t 2 i=true:=by rw [yq8 he];exact beq_iff_eq.mpr (by omega)
    refine ⟨_,rfl,p,dx,_,rfl,s3 _ _ h1,rc_no,_,rfl,p,t,i,rfl,hR.same s3,hW,hi,_,rfl,rfl,_,rfl,iteD (fun q2=>?_) (fun q2=>?_)⟩
    ·have q2':((Vbqzab.teamAt t i:Nat):Int)=(tm:Int):=V.int.inj q2
     rw [if_pos ⟨hk,by omega⟩] at hrep
     exact ⟨_,rfl,_,_,by rw [hrep];rfl,s3⟩
    ·rw [if_neg (fun z=>q2 (by rw [z.2]))] at hrep
     exact ⟨_,_,by rw [hrep];rfl,s3⟩
   ·rw [if_neg (fun z=>q (by have:=z.1;rw [yq8 he] at this;rw [eq_of_beq this];rfl))] at hrep
    exact iteF ⟨_,_,by rw [hrep];rfl,s3⟩
  ·rintro σ H2 ⟨v3,v4,rfl,s2⟩
   rw [List.length_map,h4.len,FP.repTo_all]
   exact ⟨_,rfl,k _ s2⟩
abbrev zm9:Stmt:=inClass (top 28) 10
abbrev ym4:List Str:=["self", "events", "evidence", "other"]
abbrev zf8:List Str:=["self", "events", "evidence"]
theorem zt5:FnScope ym4 zf8 (defScope zm9):=⟨rfl,rfl,rfl,by decide +kernel,rfl,by decide +kernel,by decide +kernel⟩
def spButWith (C:Clss):Sp:=fun vs H Q _=>∃ (p le lv:Addr) (s:State) (ae av:List Addr) (es:List Vbqzab.Event) (ws:List Evidence),vs=[.ref p,.ref le,.ref lv]∧RecAt C H p s∧ObsAt (EvtAt C) H le ae es∧ObsAt (EvdAt C) H lv av ws∧∀ (H':Hp) (q:Addr),Same H H'→RecAt C H' q { s with events:=es,evidence:=ws }→Q (.ref q) H'
theorem rc_put1 (a b c d e x:Addr):putF "boxes" (.ref x) (rcfs a b c d e)=rcfs x b c d e:=by rfl
theorem rc_put2 (a b c d e x:Addr):putF "messages" (.ref x) (rcfs a b c d e)=rcfs a b x d e:=by rfl
theorem rc_put3 (a b c d e x:Addr):putF "wires" (.ref x) (rcfs a b c d e)=rcfs a b c d x:=by rfl
theorem rc_put4 (a b c d e x:Addr):putF "events" (.ref x) (rcfs a b c d e)=rcfs a x c d e:=by rfl
theorem rc_put5 (a b c d e x:Addr):putF "evidence" (.ref x) (rcfs a b c d e)=rcfs a b c x e:=by rfl
theorem rc_few (a b c d e:Addr):(rcfs a b c d e).length < 1000:=by
 show 5 < 1000
 decide
theorem ok_but_with {f:Addr} {fd:FuncData} {C:Clss} (F:Fun K "but_with" "Record.but_with" zm9 f fd) (T:ClssOk K C) (m_Record:MakeOk P w K mg base "Record" C.record 1 zi6 (spRecordInit C)):FnOk P w K mg base CX0 3 f fd zf8 (spButWith C):=by
 refine F.ok zt5 (fun vs H Q E h=>?_) (fun cdv A outer s H vs Q E hr h=>?_)
 ·obtain ⟨p,le,lv,t,ae,av,es,ws,rfl,_⟩:=h
  rfl
 ·obtain ⟨p,le,lv,t,ae,av,es,ws,rfl,hR,hE,hV,k⟩:=h
  have nd:=zt5.nd
  obtain ⟨dx,lb0,le0,lm0,lv0,dw0,ab0,ae0,av0,kvs0,h1,h2,h3,h4,h5,h6⟩:=hR.ex
  refine ⟨_,(za1 (zb8 (i:=3) nd rfl (Or.inl rfl) (pe_mkn0 m_Record hr)) (za1 (zd6 (pv 3) (pe_at (pv 0)) rfl) (za1 (zd6 (pv 3) (pe_at (pv 0)) rfl) (za1 (zd6 (pv 3) (pe_at (pv 0)) rfl) (za1 (zd6 (pv 3) (pv 1) rfl) (za1 (zd6 (pv 3) (pv 2) rfl) (za4 (za6 (pv 3))))))))),?_⟩
  intro q dq hq hdq hne
  have s0:Same H (upd (upd H dq (.own q)) q (.ins C.record dq [])):=Same.new hq hdq
  refine ⟨q,dq,H,rfl,za2,fun b o e=>⟨zb9 e hq,s0 _ _ e⟩,fun H1 G hM1 hG x1=>⟨rfl,?_⟩⟩
  obtain ⟨dx1,lb1,le1,lm1,lv1,dw1,_,_,_,_,hq1,_⟩:=hM1.ex
  have s1:Same H H1:=hM1.same
  have nq:∀ {b:Addr} {o:HO},H b=some o→b≠q:=fun e=>zb9 e hq
  have stp:∀ {Hc:Hp} {fs:List (Str×V)},Same H Hc→Same H (upd Hc q (.ins C.record dx1 fs)):=fun {Hc fs} sc=>sc.over hq
  refine ⟨_,rfl,p,C.record,dx,_,_,rfl,s1 _ _ h1,T.record,T.rBoxes,zf1 ..,_,rfl,q,C.record,dx1,_,rfl,hq1,T.record,T.rBoxes,rc_few ..,?_⟩
  rw [rc_put1]
  have s2:=stp (fs:=rcfs lb0 le1 lm1 lv1 dw1) s1
  refine ⟨_,rfl,p,C.record,dx,_,_,rfl,s2 _ _ h1,T.record,T.rMessages,zk5 ..,_,rfl,q,C.record,dx1,_,rfl,za2,T.record,T.rMessages,rc_few ..,?_⟩
  rw [rc_put2,zc6]
  have s3:=stp (fs:=rcfs lb0 le1 lm0 lv1 dw1) s1
  refine ⟨_,rfl,p,C.record,dx,_,_,rfl,s3 _ _ h1,T.record,T.rWires,zy8 ..,_,rfl,q,C.record,dx1,_,rfl,za2,T.record,T.rWires,rc_few ..,?_⟩
  rw [rc_put3,zc6]
  refine ⟨_,rfl,_,rfl,q,C.record,dx1,_,rfl,za2,T.record,T.rEvents,rc_few ..,?_⟩
  rw [rc_put4,zc6]
  refine ⟨_,rfl,_,rfl,q,C.record,dx1,_,rfl,za2,T.record,T.rEvidence,rc_few ..,?_⟩
  rw [rc_put5,zc6]
  have s6:=stp (fs:=rcfs lb0 le lm0 lv dw0) s1
  refine ⟨_,rfl,k _ q s6 ⟨dx1,lb0,le,lm0,lv,dw0,ab0,ae,av,kvs0,za2,s6 _ _ h2,h3.same s6 ?_,hE.same s6 ?_,hV.same s6 (fun a x h=>h.same s6),?_⟩⟩
  ·rintro a x ⟨d,h⟩
   exact ⟨d,s6 _ _ h⟩
  ·rintro a x ⟨d,h⟩
   exact ⟨d,s6 _ _ h⟩
  ·have:=h6.same s6
   exact ⟨this.dict,this.none_,this.some_,this.nd,this.rg⟩
end
end FPP
namespace FPP
open PySem PySem.Spec PyProof.Rows L2
open Vbqzab (Bound Table at_ State Box Wire Evidence)
structure BoxApart (C:Clss):Prop where
 e:C.box≠C.event
 w:C.box≠C.wire
 h:C.box≠C.hearing
 l:C.box≠C.limit
 r:C.box≠C.record
theorem bx_wake (b:Box) (k:Bool):putF "woken" (.bl true) (bxfs b k)=bxfs b true:=by rfl
theorem flags_wake {s:State} {i:Nat} {b:Box} (hb:s.boxes[i]?=some b) (ho:Vbqzab.isOld s i=false):((s.boxes++[b]).zipIdx.map fun t=>(t.1,Vbqzab.isOld { s with boxes:=s.boxes++[b] } t.2))=(s.boxes.zipIdx.map fun t=>(t.1,decide (t.2=i) || Vbqzab.isOld s t.2))++[(b,false)]:=by
 refine List.ext_getElem? fun j=>?_
 rw [List.getElem?_map,List.getElem?_zipIdx,Nat.zero_add]
 by_cases h:j < s.boxes.length
 ·obtain ⟨c,hc⟩:=FP.zc2 h
  rw [FP.zg4 h,hc,List.getElem?_append_left (by rw [List.length_map,List.length_zipIdx];exact h),List.getElem?_map,List.getElem?_zipIdx,hc,Nat.zero_add]
  show some (c,Vbqzab.isOld { s with boxes:=s.boxes++[b] } j)=some (c,decide (j=i) || Vbqzab.isOld s j)
  rw [FP.wakes_old hb ho h]
 ·by_cases e:j=s.boxes.length
  ·subst e
   rw [List.getElem?_append_right (Nat.le_refl _),Nat.sub_self,List.getElem?_append_right (by rw [List.length_map,List.length_zipIdx];exact Nat.le_refl _),List.length_map,List.length_zipIdx,Nat.sub_self]
   show some (b,Vbqzab.isOld { s with boxes:=s.boxes++[b] } s.boxes.length)=some (b,false)
   rw [FP.wakes_new]
  ·rw [List.getElem?_eq_none (by rw [List.length_append];show s.boxes.length + 1≤j;omega),List.getElem?_eq_none (by rw [List.length_append,List.length_map,List.length_zipIdx];show s.boxes.length + 1≤j;omega)]
   rfl
theorem RecM.waked {C:Clss} {H0 H:Hp} {p:Addr} {t:State} {F:List Addr} {i:Nat} {b:Box} (h:RecM C H0 H p t F) (A:BoxApart C) (hb:t.boxes[i]?=some b) (ho:Vbqzab.isOld t i=false) :
  ∃ c dc lb le lm lv dw dx xs,c∈F∧lb∈F∧H p=some (.ins C.record dx (rcfs lb le lm lv dw))∧H lb=some (.lst xs)∧xs[i]?=some (V.ref c)∧xs.length=t.boxes.length∧H c=some (.ins C.box dc (bxfs b false)) ∧
   ∀ (H2:Hp) (a:Addr),Same (L2.upd H c (.ins C.box dc (bxfs b true))) H2→H a=none→BoxAt C false H2 a b→∃ F',(∀ x∈F',x∈F∨x=a)∧RecM C H0 (L2.upd H2 lb (.lst (xs++[V.ref a]))) p { t with boxes:=t.boxes++[b] } F':=by
 obtain ⟨dx,lb,le,lm,lv,dw,ab,ae,av,kvs,h1,h2,h3,h4,h5,h6,h7,h8,h9⟩:=h.ex
 have hm:lb∈F:=by rw [h7];simp
 obtain ⟨c,hc1,dc,hc2⟩:=h3.at_ i _ (zj6 hb)
 have hc2:H c=some (.ins C.box dc (bxfs b (Vbqzab.isOld t i))):=hc2
 rw [ho] at hc2
 have hcF:c∈F:=by
  rw [h7]
  have:=List.mem_of_getElem? hc1
  simp [this]
 have h8':=h8
 simp only [List.nodup_cons,List.mem_cons,List.not_mem_nil,or_false,not_or] at h8
 refine ⟨c,dc,lb,le,lm,lv,dw,dx,ab.map V.ref,hcF,hm,h1,h3.lst,zc8 hc1,by rw [List.length_map,h3.len,List.length_map,List.length_zipIdx],hc2,fun H2 a s2 ha0 hab=>?_⟩
 have haF:=h.out ha0
 have haab:a ∉ ab:=fun q=>haF (by rw [h7];simp [q])
 have lst:∀ {l:Addr} {ys:List V},H l=some (.lst ys)→H2 l=some (.lst ys):=fun e=>s2 _ _ (by rw [zb5 (ne_of e hc2 (fun z=>nomatch z))];exact e)
 have ins:∀ {d C' d':Addr} {fs:List (Str×V)},H d=some (.ins C' d' fs)→C.box≠C'→H2 d=some (.ins C' d' fs):=fun e n=>s2 _ _ (by rw [zb5 (ne_of e hc2 (fun z=>n (HO.ins.inj z).1.symm))];exact e)
 have hl2:=lst h3.lst
 have ins3:∀ {d C' d':Addr} {fs:List (Str×V)} {o:HO},H2 d=some (.ins C' d' fs)→(L2.upd H2 lb o) d=some (.ins C' d' fs):=fun e=>zi2 hl2 e
 refine ⟨lb :: le :: lm :: lv :: dw :: (ab++[a]),?_,⟨dx,lb,le,lm,lv,dw,ab++[a],ae,av,kvs,ins3 (ins h1 A.r),?_,?_,⟨?_,h4.len,?_⟩,⟨?_,h5.len,?_⟩,⟨?_,h6.none_,?_,h6.nd,h6.rg⟩,rfl,h8',ym1 h9 haab⟩,?_,?_⟩
 ·intro x hx
  rw [h7]
  simp only [List.mem_cons,List.mem_append,List.not_mem_nil,or_false] at hx ⊢
  rcases hx with q | q | q | q | q | q | q
  ·exact .inl (.inl q)
  ·exact .inl (.inr (.inl q))
  ·exact .inl (.inr (.inr (.inl q)))
  ·exact .inl (.inr (.inr (.inr (.inl q))))
  ·exact .inl (.inr (.inr (.inr (.inr (.inl q)))))
  ·exact .inl (.inr (.inr (.inr (.inr (.inr q)))))
  ·exact .inr q
 ·rw [zb5 (Ne.symm h8.1.2.1)]
  exact lst h2
 ·show ObsAt _ _ _ _ ((t.boxes++[b]).zipIdx.map fun u=>(u.1,Vbqzab.isOld { t with boxes:=t.boxes++[b] } u.2))
  rw [flags_wake hb ho]
  have o2:ObsAt (fun H a (b:Box×Bool)=>BoxAt C b.2 H a b.1) H2 lb ab (t.boxes.zipIdx.map fun u=>(u.1,decide (u.2=i) || Vbqzab.isOld t u.2)):=by
   refine ⟨hl2,by rw [h3.len,List.length_map,List.length_map],fun j x hx=>?_⟩
   rw [List.getElem?_map,List.getElem?_zipIdx,Nat.zero_add] at hx
   obtain ⟨y,hy,rfl⟩:=Option.map_eq_some_iff.mp hx
   obtain ⟨d,hd,rfl⟩:=Option.map_eq_some_iff.mp hy
   obtain ⟨z,hz1,dz,hz2⟩:=h3.at_ j _ (zj6 hd)
   refine ⟨z,hz1,?_⟩
   by_cases e:j=i
   ·subst e
    have ez:z=c:=Option.some.inj (hz1.symm.trans hc1)
    have ed:d=b:=Option.some.inj (hd.symm.trans hb)
    subst ez ed
    refine ⟨dc,s2 _ _ ?_⟩
    rw [za2,decide_eq_true rfl,Bool.true_or]
   ·have nz:z≠c:=fun q=>e (nd_ix h9 hz1 (by rw [q];exact hc1))
    refine ⟨dz,s2 _ _ ?_⟩
    rw [zb5 nz,decide_eq_false e,Bool.false_or]
    exact hz2
  exact o2.push (x:=(b,false)) hab (fun c y q=>yh0 hl2 q)
 ·rw [zb5 (Ne.symm h8.1.1)]
  exact lst h4.lst
 ·intro j x hx
  obtain ⟨z,hz1,dz,hz2⟩:=h4.at_ j x hx
  exact ⟨z,hz1,dz,ins3 (ins hz2 A.e)⟩
 ·rw [zb5 (Ne.symm h8.1.2.2)]
  exact lst h5.lst
 ·intro j x hx
  obtain ⟨z,hz1,hz2⟩:=h5.at_ j x hx
  refine ⟨z,hz1,?_⟩
  cases x with
  | hearing m y =>
   obtain ⟨d,hz2⟩:=hz2
   exact ⟨d,ins3 (ins hz2 A.h)⟩
  | limit x y lo hi =>
   obtain ⟨d,hz2⟩:=hz2
   exact ⟨d,ins3 (ins hz2 A.l)⟩
 ·have e2:H2 dw=some (.dT kvs):=s2 _ _ (by rw [zb5 (ne_of h6.dict hc2 (fun z=>nomatch z))];exact h6.dict)
  rw [zb5 (ne_of e2 hl2 (fun z=>nomatch z))]
  exact e2
 ·intro x y v e
  obtain ⟨z,hz1,dz,hz2⟩:=h6.some_ x y v e
  exact ⟨z,hz1,dz,ins3 (ins hz2 A.w)⟩
 ·intro x hx
  simp only [List.mem_cons,List.mem_append,List.not_mem_nil,or_false] at hx
  rcases hx with q | q | q | q | q | q | q
  ·exact h.fr x (by rw [h7];simp [q])
  ·exact h.fr x (by rw [h7];simp [q])
  ·exact h.fr x (by rw [h7];simp [q])
  ·exact h.fr x (by rw [h7];simp [q])
  ·exact h.fr x (by rw [h7];simp [q])
  ·exact h.fr x (by rw [h7];simp [q])
  ·rw [q];exact h.same.free ha0
 ·exact ((h.same.over (h.fr c hcF)).trans s2).over (h.fr lb hm)
section
variable {P:Program} {w:World} {K:PySem.W.Frag} {mg:Str→Option Value} {base:Heap}
abbrev zt6:Stmt:=top 70
abbrev n_tell_wakes:List Str:=["record", "i", "old"]
abbrev zo0:List Str:=["record", "i"]
theorem yh3:FnScope n_tell_wakes zo0 (defScope zt6):=⟨rfl,rfl,rfl,by decide +kernel,rfl,by decide +kernel,by decide +kernel⟩
def spTellWakes (C:Clss):Sp:=fun vs H Q _=>∃ (p:Addr) (H0:Hp) (s:State) (F:List Addr) (i:Nat) (b:Box),vs=[.ref p,.int i]∧RecM C H0 H p s F∧FP.Wf s∧s.boxes[i]?=some b∧Told1 C H0 H p F (if Vbqzab.isOld s i=true then Vbqzab.no s (-11) else if Vbqzab.BOXES≤s.boxes.length then Vbqzab.no s (-7) else ({ s with boxes:=s.boxes++[b] },[Vbqzab.whole s.boxes.length])) Q
theorem xb0 {f:Addr} {fd:FuncData} {C:Clss} (F:Fun K "tell_wakes" "tell_wakes" zt6 f fd) (T:ClssOk K C) (A0:BoxApart C) (g_WOKEN:GVal mg "WOKEN" (.int (-11))) (g_FULL:GVal mg "FULL" (.int (-7))) (mt_is_full:MethOk P w K mg base C.record "is_full" 2 zc9 (spIsFull C)) (c_put_behind:CallOk P w K mg base "put_behind" 1 ze2 spPutBehind) (m_Box:MakeOk P w K mg base "Box" C.box 1 zq6 (spBoxInit C.box)):FnOk P w K mg base CX0 3 f fd zo0 (spTellWakes C):=by
 refine F.ok yh3 (fun vs H Q E h=>?_) (fun cdv A outer s H vs Q E hr h=>?_)
 ·obtain ⟨p,H0,t,G,i,b,rfl,_⟩:=h
  rfl
 ·obtain ⟨p,H0,t,G,i,b,rfl,hM,hW,hb,k⟩:=h
  have nd:=yh3.nd
  obtain ⟨dx,lb,le,lm,lv,dw,ab,ae,av,kvs,h1,h2,h3,_⟩:=hM.at.ex
  obtain ⟨c,hc1,dc,hc2⟩:=h3.at_ i _ (zj6 hb)
  have hc2:H c=some (.ins C.box dc (bxfs b (Vbqzab.isOld t i))):=hc2
  refine ⟨_,(za1 (zb8 (i:=2) nd rfl (Or.inl rfl) (zb3 zb0 (pe_at (pv 0)) (pv 1))) (za1 (ps_if (zd0 (pe_at (pv 2)) (fun _=>rfl)) (za4 (za6 (zb7 (za0 (pe_gv g_WOKEN) za3)))) zb1) (za1 (ps_if (zd0 (zd4 mt_is_full (pv 0) (za0 ya4 za3) hr) (fun _=>rfl)) (za4 (za6 (zb7 (za0 (pe_gv g_FULL) za3)))) zb1) (za1 (zd6 (pv 2) pe_bl rfl) (za4 (za6 (zb6 c_put_behind (za0 (pe_at (pv 0)) (za0 (zh5 m_Box (za0 (pe_at (pv 2)) (za0 (pe_at (pv 2)) (za0 (pe_at (pv 2)) (za0 (pe_at (pv 2)) za3)))) hr) za3)) hr))))))),?_⟩
  refine ⟨_,rfl,p,C.record,dx,_,_,rfl,h1,T.record,T.rBoxes,zf1 ..,_,rfl,lb,_,_,_,rfl,rfl,SqL.of h3.lst,za8 (zc8 hc1),?_⟩
  refine ⟨_,rfl,c,C.box,dc,_,_,rfl,hc2,T.box,T.bWoken,bx_woken _ _,_,rfl,iteB (fun q=>?_) (fun q=>?_)⟩
  ·have q:Vbqzab.isOld t i=true:=q
   rw [if_pos q] at k
   exact ⟨(sz1),fun z hz=>refuse hM k hz⟩
  have q:Vbqzab.isOld t i=false:=q
  rw [if_neg (by rw [q];exact Bool.false_ne_true)] at k
  refine ⟨_,rfl,p,dx,_,rfl,h1,rc_no,p,t, "box",t.boxes.length,0,7,rfl,hM.at,(by unfold cnt;rw [if_pos rfl]),by decide +kernel,_,rfl,iteD (fun q3=>?_) (fun q3=>?_)⟩
  ·rw [if_pos (by unfold Vbqzab.BOXES;omega)] at k
   exact ⟨(sz1),fun z hz=>refuse hM k hz⟩
  rw [if_neg (by unfold Vbqzab.BOXES;omega)] at k
  obtain ⟨c',dc',lb',le',lm',lv',dw',dx',xs,hcF,hlF,h1',hl,hxc,hxs,hc',wak⟩:=hM.waked A0 hb q
  obtain ⟨rfl,_⟩:=yq2 (Same.refl H) h1 h1'
  have exs:ab.map V.ref=xs:=by
   have:=h3.lst
   rw [hl] at this
   exact (HO.lst.inj (Option.some.inj this)).symm
  have ecc:c=c':=by
   rw [← exs,zc8 hc1] at hxc
   exact V.ref.inj (Option.some.inj hxc)
  subst ecc
  rw [hc'] at hc2
  have edc:dc'=dc:=(HO.ins.inj (Option.some.inj hc2)).2.1
  subst edc
  refine ⟨_,rfl,c,C.box,dc',_,rfl,hc',T.box,T.bWoken,(by show 5 < 1000;decide),?_⟩
  rw [bx_wake]
  obtain ⟨H1,hH1⟩:∃ H1,H1=upd H c (.ins C.box dc' (bxfs b true)):=⟨_,rfl⟩
  have hp1:H1 p=some (.ins C.record dx (rcfs lb le lm lv dw)):=by
   rw [hH1,zb5 (ne_of h1 hc' (fun z=>A0.r (HO.ins.inj z).1.symm))]
   exact h1
  have hcb:H1 c=some (.ins C.box dc' (bxfs b true)):=by rw [hH1];exact za2
  have sf1:SameF G H H1:=by rw [hH1];exact SameF.upd hcF
  have fr1:∀ z,H1 z=none→H z=none:=fun z hz=>by
   by_cases e:z=c
   ·rw [e,hcb] at hz
    cases hz
   ·rw [hH1,zb5 e] at hz
    exact hz
  rw [← hH1]
  rw [← hH1] at wak
  refine ⟨_,rfl,p,C.record,dx,_,_,rfl,hp1,T.record,T.rBoxes,zf1 ..,_,rfl,c,C.box,dc',_,_,rfl,hcb,T.box,T.bSlow,bx_slow _ _,_,rfl,c,C.box,dc',_,_,rfl,hcb,T.box,T.bFast,bx_fast _ _,_,rfl,c,C.box,dc',_,_,rfl,hcb,T.box,T.bGrain,yr2 _ _,_,rfl,c,C.box,dc',_,_,rfl,hcb,T.box,T.bTeam,yg9 _ _,fun a da ha0 hda _=>⟨a,da,b,rfl,za2,?_⟩⟩
  rw [zc6]
  obtain ⟨H2,hH2⟩:∃ H2,H2=upd (upd H1 da (.own a)) a (.ins C.box da (bxfs b false)):=⟨_,rfl⟩
  have s2:Same H1 H2:=by rw [hH2];exact Same.new ha0 hda
  have ha:BoxAt C false H2 a b:=⟨da,by rw [hH2];exact za2⟩
  rw [← hH2]
  obtain ⟨F',hF',hM'⟩:=wak H2 a s2 (fr1 a ha0) ha
  have hlb2:H2 lb=some (.lst xs):=s2 _ _ (by rw [hH1,zb5 (ne_of hl hc' (fun z=>nomatch z))];exact hl)
  have hnb:=hW.nb
  refine ⟨rfl,lb,xs,_,rfl,hlb2,by omega,fun z hz=>?_⟩
  have hzl:z≠lb:=fun e=>by rw [e,hlb2] at hz;cases hz
  have hz':(upd H2 lb (.lst (xs++[V.ref a]))) z=none:=by rw [zb5 hzl];exact hz
  have hz0:=fr1 z (s2.free hz)
  refine k _ z F' (hM'.later (Same.laid hz')) ((((sf1.trans (SameF.of s2)).trans (SameF.upd hlF)).trans (SameF.of (Same.laid hz')))) (fun x hx=>(hF' x hx).imp id fun q=>by rw [q];exact fr1 a ha0) hz0 (fun q=>?_) ?_
  ·rcases hF' z q with q | q
   ·exact hM.out hz0 q
   ·obtain ⟨dd,hcc⟩:=ha
    rw [q,hcc] at hz
    cases hz
  ·rw [za2,hxs]
   rfl
end
end FPP
namespace FPP
open PySem PySem.Spec PyProof.Rows L2
open Vbqzab (Bound Table at_ State Box Wire Evidence)
theorem yr8 {α:Type} {f:α→List Int} {l:List α} {i:Nat} {x:α} (h:l[i]?=some x):(l.take (i + 1)).flatMap f=(l.take i).flatMap f++f x:=by
 rw [List.take_add_one,h,List.flatMap_append]
 simp
theorem xe4 {α:Type} {f:α→List Int} {k:Nat} (h:∀ a,(f a).length≤k) (l:List α) (i:Nat):((l.take i).flatMap f).length≤k * l.length:=by
 refine Nat.le_trans (zz7 h _) (Nat.mul_le_mul (Nat.le_refl _) ?_)
 rw [List.length_take]
 omega
def bnd3 (b:Bound):List Int:=[Vbqzab.whole b.src,Vbqzab.whole b.dst,b.w]
section
variable {P:Program} {w:World} {K:PySem.W.Frag} {mg:Str→Option Value} {base:Heap}
abbrev zp7:Stmt:=top 87
abbrev xd0:List Str:=["record", "bounds", "shown", "bound"]
abbrev zl9:List Str:=["record"]
theorem ye2:FnScope xd0 zl9 (defScope zp7):=⟨rfl,rfl,rfl,by decide +kernel,rfl,by decide +kernel,by decide +kernel⟩
def spShowBounds (C:Clss):Sp:=fun vs H Q _=>∃ (p:Addr) (s:State),vs=[.ref p]∧RecAt C H p s∧FP.Wf s∧NewAns H (Vbqzab.whole (Vbqzab.bounds s).length :: (Vbqzab.bounds s).flatMap bnd3) Q
theorem yw0 {f:Addr} {fd:FuncData} {C:Clss} (F:Fun K "show_bounds" "show_bounds" zp7 f fd) (T:ClssOk K C) (g_len:mg "len" = none) (c_all_bounds:CallOk P w K mg base "all_bounds" 5 zg1 (spAllBounds C)):FnOk P w K mg base CX0 6 f fd zl9 (spShowBounds C):=by
 refine F.ok ye2 (fun vs H Q E h=>?_) (fun cdv A outer s H vs Q E hr h=>?_)
 ·obtain ⟨p,t,rfl,_⟩:=h
  rfl
 ·obtain ⟨p,t,rfl,hR,hW,k⟩:=h
  have nd:=ye2.nd
  have hbl:=yn2 hW
  refine ⟨_,(za1 (zb8 (i:=1) nd rfl (Or.inl rfl) (zb6 c_all_bounds (za0 (pv 0) za3) hr)) (za1 (zb8 (i:=2) nd rfl (Or.inl rfl) (zb7 (za0 (zc0 zb4 (by rfl) g_len PySem.boot_len (za0 (pv 1) za3)) za3))) (za1 (zj3 PassesOwn.never rfl (zj0 (pv 1)) (zc3 (i:=3) nd rfl (Or.inl rfl)) (za4 (zl7 (pe_bm PySem.F.plainAttrs_list PySem.F.slot_list_extend PySem.F.type_list_extend zx3 (pv 2) (za0 (zb7 (za0 (pe_at (pv 3)) (za0 (pe_at (pv 3)) (za0 (pe_at (pv 3)) za3)))) za3))))) (za4 (za6 (pv 2)))))),?_⟩
  refine ⟨_,rfl,p,t,rfl,hR,hW,fun H1 l as s1 hl0 hB=>?_⟩
  have hal:(as.map V.ref).length=(Vbqzab.bounds t).length:=by rw [List.length_map,hB.len]
  refine ⟨_,rfl,l,_,rfl,.inl (SqL.of hB.lst),(sz1),fun D hD=>?_⟩
  have hD0:=s1.free hD
  have sD:Same H1 (upd H1 D (.lst [V.int ((as.map V.ref).length:Nat)])):=Same.laid hD
  refine ⟨_,rfl,l,rfl,⟨_,SqL.of (sD _ _ hB.lst)⟩,zu9 (K:=K) (a:=l) (xs:=as.map V.ref) (fun i σ H'=>∃ v3:Option V,σ=[some (.ref p),some (.ref l),some (.ref D),v3]∧Same H1 H'∧H' D=some (.lst ((Vbqzab.whole (Vbqzab.bounds t).length :: ((Vbqzab.bounds t).take i).flatMap bnd3).map V.int)))
   ⟨none,rfl,sD,by rw [za2,hal];rfl⟩ (fun i σ H' _ ⟨_,_,h,_⟩=>SqL.of (h _ _ hB.lst)) ?_ ?_⟩
  ·rintro i y σ H2 hy ⟨v3,rfl,s2,hD2⟩
   obtain ⟨c,b,rfl,hb,hc⟩:=hB.item hy
   obtain ⟨dx,hc⟩:=hc.same s2
   refine ⟨_,rfl,.inl ⟨rfl,_,SqL.of hD2⟩,_,rfl,c,C.bound,dx,_,_,rfl,hc,T.bound.cl,T.bound.nS,zm7 b,_,rfl,c,C.bound,dx,_,_,rfl,hc,T.bound.cl,T.bound.nE,zz9 b,_,rfl,c,C.bound,dx,_,_,rfl,hc,T.bound.cl,T.bound.nW,zq8 b,(sz3),fun U hU=>?_⟩
   have s3:Same H2 (upd H2 U (.lst [V.int b.src,V.int b.dst,V.int b.w])):=Same.laid hU
   refine ⟨D,U,_,_,rfl,rfl,s3 _ _ hD2,za2,?_,_,rfl,(s2.trans s3).over hD,?_⟩
   ·have:=xe4 (f:=bnd3) (k:=3) (fun _=>Nat.le_refl 3) (Vbqzab.bounds t) i
    rw [List.length_map,List.length_cons]
    show _ + 1 + 3≤sizeLine
    exact zd5 (by omega)
   ·rw [za2,yr8 hb,← List.cons_append,List.map_append]
    rfl
  ·rintro σ H2 ⟨v3,rfl,s2,hD2⟩
   rw [hal,List.take_length] at hD2
   exact ⟨_,rfl,k _ D (s1.trans s2) hD0 hD2⟩
abbrev zy4:Stmt:=top 91
abbrev n_show_told:List Str:=["record", "shown", "box", "event"]
abbrev zr9:List Str:=["record"]
theorem yn9:FnScope n_show_told zr9 (defScope zy4):=⟨rfl,rfl,rfl,by decide +kernel,rfl,by decide +kernel,by decide +kernel⟩
def box4 (b:Box):List Int:=Vbqzab.ints [b.slow,b.fast,b.grain,b.team]
def evt3 (e:Vbqzab.Event):List Int:=Vbqzab.ints [e.box,e.stamp,e.kind]
def spShowTold (C:Clss):Sp:=fun vs H Q _=>∃ (p:Addr) (s:State),vs=[.ref p]∧RecAt C H p s∧FP.Wf s∧NewAns H (Vbqzab.whole s.boxes.length :: s.boxes.flatMap box4++(Vbqzab.whole s.events.length :: s.events.flatMap evt3)) Q
theorem ok_show_told {f:Addr} {fd:FuncData} {C:Clss} (F:Fun K "show_told" "show_told" zy4 f fd) (T:ClssOk K C) (g_len:mg "len" = none):FnOk P w K mg base CX0 1 f fd zr9 (spShowTold C):=by
 refine F.ok yn9 (fun vs H Q E h=>?_) (fun cdv A outer s H vs Q E hr h=>?_)
 ·obtain ⟨p,t,rfl,_⟩:=h
  rfl
 ·obtain ⟨p,t,rfl,hR,hW,k⟩:=h
  have nd:=yn9.nd
  obtain ⟨dx,lb,le,lm,lv,dw,ab,ae,av,kvs,h1,h2,h3,h4,h5,h6⟩:=hR.ex
  have hnb:=hW.nb
  have hne:=hW.ne
  have hbl:(ab.map V.ref).length=t.boxes.length:=by rw [List.length_map,h3.len,List.length_map,List.length_zipIdx]
  have hel:(ae.map V.ref).length=t.events.length:=by rw [List.length_map,h4.len]
  refine ⟨_,(za1 (zb8 (i:=1) nd rfl (Or.inl rfl) (zb7 (za0 (zc0 zb4 (by rfl) g_len PySem.boot_len (za0 (pe_at (pv 0)) za3)) za3))) (za1 (zj3 PassesOwn.never rfl (zj0 (pe_at (pv 0))) (zc3 (i:=2) nd rfl (Or.inl rfl)) (za4 (zl7 (pe_bm PySem.F.plainAttrs_list PySem.F.slot_list_extend PySem.F.type_list_extend zx3 (pv 1) (za0 (zb7 (za0 (pe_at (pv 2)) (za0 (pe_at (pv 2)) (za0 (pe_at (pv 2)) (za0 (pe_at (pv 2)) za3))))) za3))))) (za1 (zl7 (pe_bm PySem.F.plainAttrs_list PySem.F.slot_list_append PySem.F.type_list_append zs4 (pv 1) (za0 (zc0 zb4 (by rfl) g_len PySem.boot_len (za0 (pe_at (pv 0)) za3)) za3))) (za1 (zj3 PassesOwn.never rfl (zj0 (pe_at (pv 0))) (zc3 (i:=3) nd rfl (Or.inl rfl)) (za4 (zl7 (pe_bm PySem.F.plainAttrs_list PySem.F.slot_list_extend PySem.F.type_list_extend zx3 (pv 1) (za0 (zb7 (za0 (pe_at (pv 3)) (za0 (pe_at (pv 3)) (za0 (pe_at (pv 3)) za3)))) za3))))) (za4 (za6 (pv 1))))))),?_⟩
  refine ⟨_,rfl,p,C.record,dx,_,_,rfl,h1,T.record,T.rBoxes,zf1 ..,lb,_,rfl,.inl (SqL.of h3.lst),(sz1),fun D hD=>?_⟩
  have sD:Same H (upd H D (.lst [V.int ((ab.map V.ref).length:Nat)])):=Same.laid hD
  refine ⟨_,rfl,p,C.record,dx,_,_,rfl,sD _ _ h1,T.record,T.rBoxes,zf1 ..,lb,rfl,⟨_,SqL.of (sD _ _ h3.lst)⟩,zu9 (K:=K) (a:=lb) (xs:=ab.map V.ref) (fun i σ H'=>∃ v2:Option V,σ=[some (.ref p),some (.ref D),v2,none]∧Same H H'∧H' D=some (.lst ((Vbqzab.whole t.boxes.length :: (t.boxes.take i).flatMap box4).map V.int)))
   ⟨none,rfl,sD,by rw [za2,hbl];rfl⟩ (fun i σ H' _ ⟨_,_,h,_⟩=>SqL.of (h _ _ h3.lst)) ?_ ?_⟩
  ·rintro i y σ H2 hy ⟨v2,rfl,s2,hD2⟩
   obtain ⟨c,x,rfl,hx,dc,hc⟩:=h3.item hy
   have hb:=box_item hx
   have hc:=s2 _ _ hc
   refine ⟨_,rfl,.inl ⟨rfl,_,SqL.of hD2⟩,_,rfl,c,C.box,dc,_,_,rfl,hc,T.box,T.bSlow,bx_slow _ _,_,rfl,c,C.box,dc,_,_,rfl,hc,T.box,T.bFast,bx_fast _ _,_,rfl,c,C.box,dc,_,_,rfl,hc,T.box,T.bGrain,yr2 _ _,_,rfl,c,C.box,dc,_,_,rfl,hc,T.box,T.bTeam,yg9 _ _,(sz4),fun U hU=>?_⟩
   have s3:Same H2 (upd H2 U (.lst [V.int x.1.slow,V.int x.1.fast,V.int x.1.grain,V.int x.1.team])):=Same.laid hU
   refine ⟨D,U,_,_,rfl,rfl,s3 _ _ hD2,za2,?_,_,rfl,(s2.trans s3).over hD,?_⟩
   ·have:=xe4 (f:=box4) (k:=4) (fun _=>Nat.le_refl 4) t.boxes i
    rw [List.length_map,List.length_cons]
    show _ + 1 + 4≤sizeLine
    exact zd5 (by omega)
   ·rw [za2,yr8 hb,← List.cons_append,List.map_append]
    rfl
  rintro σ H1 ⟨v2,rfl,s1,hD1⟩
  rw [hbl,List.take_length] at hD1
  have hl1:=xe4 (f:=box4) (k:=4) (fun _=>Nat.le_refl 4) t.boxes t.boxes.length
  rw [List.take_length] at hl1
  generalize hA:Vbqzab.whole t.boxes.length :: t.boxes.flatMap box4=A1 at k hD1
  have hAl:A1.length≤100:=by rw [← hA,List.length_cons];omega
  refine ⟨_,rfl,.inl ⟨rfl,_,SqL.of hD1⟩,_,rfl,p,C.record,dx,_,_,rfl,s1 _ _ h1,T.record,T.rEvents,zd3 ..,le,_,rfl,.inl (SqL.of (s1 _ _ h4.lst)),D,_,_,rfl,rfl,hD1,by rw [List.length_map];exact small1000 (by omega),?_⟩
  have sE:Same H (upd H1 D (.lst (A1.map V.int++[V.int ((ae.map V.ref).length:Nat)]))):=s1.over hD
  refine ⟨_,rfl,p,C.record,dx,_,_,rfl,sE _ _ h1,T.record,T.rEvents,zd3 ..,le,rfl,⟨_,SqL.of (sE _ _ h4.lst)⟩,zu9 (K:=K) (a:=le) (xs:=ae.map V.ref) (fun i σ H'=>∃ v3:Option V,σ=[some (.ref p),some (.ref D),v2,v3]∧Same H H'∧H' D=some (.lst ((A1++(Vbqzab.whole t.events.length :: (t.events.take i).flatMap evt3)).map V.int)))
   ⟨none,rfl,sE,by rw [za2,hel,List.map_append];rfl⟩ (fun i σ H' _ ⟨_,_,h,_⟩=>SqL.of (h _ _ h4.lst)) ?_ ?_⟩
  ·rintro i y σ H2 hy ⟨v3,rfl,s2,hD2⟩
   obtain ⟨c,x,rfl,hx,dc,hc⟩:=h4.item hy
   have hc:=s2 _ _ hc
   refine ⟨_,rfl,.inl ⟨rfl,_,SqL.of hD2⟩,_,rfl,c,C.event,dc,_,_,rfl,hc,T.event,T.eBox,yz6 _,_,rfl,c,C.event,dc,_,_,rfl,hc,T.event,T.eStamp,yr1 _,_,rfl,c,C.event,dc,_,_,rfl,hc,T.event,T.eKind,ev_kind _,(sz3),fun U hU=>?_⟩
   have s3:Same H2 (upd H2 U (.lst [V.int x.box,V.int x.stamp,V.int x.kind])):=Same.laid hU
   refine ⟨D,U,_,_,rfl,rfl,s3 _ _ hD2,za2,?_,_,rfl,(s2.trans s3).over hD,?_⟩
   ·have:=xe4 (f:=evt3) (k:=3) (fun _=>Nat.le_refl 3) t.events i
    rw [List.length_map,List.length_append,List.length_cons]
    show _ + (_ + 1) + 3≤sizeLine
    exact zd5 (by omega)
   ·rw [za2,yr8 hx,← List.cons_append,← List.append_assoc]
    exact congrArg (fun z=>some (HO.lst z)) (List.map_append (f:=V.int) (l₂:=evt3 x)).symm
  ·rintro σ H2 ⟨v3,rfl,s2,hD2⟩
   rw [hel,List.take_length] at hD2
   exact ⟨_,rfl,k _ D s2 hD hD2⟩
def spInRangesL (K:PySem.W.Frag):Sp:=fun vs H Q _=>∃ (a b:Addr) (ks:List Str) (gs:List Int),vs=[.ref a,.ref b]∧SqL K H a (ks.map V.str)∧SqL K H b (gs.map V.int)∧ks.length=gs.length∧(∀ k∈ks,∃ r,rngs.lookup k=some r)∧∀ H',Same H H'→Q (.bl (inRs ks gs)) H'
theorem xc2 {f:Addr} {fd:FuncData} (F:Fun K "in_ranges" "in_ranges" zr2 f fd) (R:RangesOk P w K mg) (g_zip:mg "zip" = none):FnOk P w K mg base CX0 1 f fd zk6 (spInRangesL K):=by
 refine F.ok zt2 (fun vs H Q E h=>?_) (fun cdv A outer s H vs Q E hr h=>?_)
 ·obtain ⟨a,b,ks,gs,rfl,_⟩:=h
  rfl
 ·obtain ⟨a,b,ks,gs,rfl,ha,hb,hlen,hks,k⟩:=h
  have nd:=zt2.nd
  obtain ⟨ra,fr,r1,r2,r3⟩:=R.ex
  have g_RANGES:GVal mg "RANGES" (.ref ra):=⟨_,r1,rfl⟩
  refine ⟨_,(za1 (zj3 PassesOwn.never rfl (pi_zip rfl g_zip (za0 (pv 0) (za0 (pv 1) za3))) (yt3 rfl (ze8 (zc3 (i:=2) nd rfl (Or.inl rfl)) (ze8 (zc3 (i:=3) nd rfl (Or.inl rfl)) zz0))) (za4 (ps_if ((pw_or (zb2 op_lt (pv 3) (zb3 yu9 (yt4 (pe_gv g_RANGES) (pv 2)) za9) (nomark _)) (pw_or1 (zb2 op_gt (pv 3) (zb3 yu9 (yt4 (pe_gv g_RANGES) (pv 2)) za9) (nomark _))))).pt (za4 (za6 pe_bl)) zb1))) (za4 (za6 pe_bl))),?_⟩
  refine ⟨_,rfl,_,rfl,a,b,_,_,rfl,ha,hb,for_zip (n:=gs.length) (K:=K) (xs:=ks.map V.str) (ys:=gs.map V.int) (by rw [List.length_map,hlen]) (by rw [List.length_map])
   (fun i σ H'=>∃ v2 v3:Option V,σ=[some (.ref a),some (.ref b),v2,v3]∧Same H H'∧inRs (ks.take i) (gs.take i)=true) ⟨none,none,rfl,Same.refl H,rfl⟩ (fun i σ H' _ ⟨_,_,_,s2,_⟩=>⟨s2.seq ha,s2.seq hb⟩) ?_ ?_⟩
  ·rintro i x y σ H2 T hx hy ⟨v2,v3,rfl,s2,hin⟩ hT
   rw [List.getElem?_map] at hx hy
   obtain ⟨kd,hk1,rfl⟩:=Option.map_eq_some_iff.mp hx
   obtain ⟨g,hg1,rfl⟩:=Option.map_eq_some_iff.mp hy
   obtain ⟨⟨lo,hi⟩,hr1⟩:=hks kd (List.mem_of_getElem? hk1)
   obtain ⟨t,ht1,ht2⟩:=r3 kd lo hi hr1
   have s3:Same H (upd H2 T (.tup [V.str kd,V.int g])):=s2.trans (Same.laid hT)
   have hR:inR kd g=(decide (lo≤g) && decide (g≤hi)):=by
    unfold inR
    rw [hr1]
   refine ⟨T,_,rfl,SqT.of za2,rfl,_,_,rfl,_,_,rfl,rfl,?_⟩
   refine ⟨_,rfl,_,rfl,ra,fr,.inr kd,.ref t,.ref t,rfl,rfl,r2,ht1,rfl,t,_,_,_,rfl,rfl,ht2 _,za8 (j:=0) (v:=V.int lo) rfl,_,_,rfl,rfl,_,rfl,iteD (fun q=>?_) (fun q=>?_)⟩
   ·refine iteT ?_
    have e:inRs ks gs=false:=yd8 hk1 hg1 (by rw [hR,decide_eq_false (by omega),Bool.false_and])
    rw [e] at k
    exact k _ s3
   ·refine ⟨_,rfl,_,rfl,ra,fr,.inr kd,.ref t,.ref t,rfl,rfl,r2,ht1,rfl,t,_,_,_,rfl,rfl,ht2 _,za8 (j:=1) (v:=V.int hi) rfl,_,_,rfl,rfl,_,rfl,iteD (fun q2=>?_) (fun q2=>?_)⟩
    ·have e:inRs ks gs=false:=yd8 hk1 hg1 (by rw [hR,decide_eq_false (show ¬ g≤hi by omega),Bool.and_false])
     rw [e] at k
     exact k _ s3
    ·refine ⟨_,_,rfl,s3,?_⟩
     rw [inRs_take hk1 hg1,hin,hR,decide_eq_true (by omega),decide_eq_true (by omega)]
     rfl
  ·rintro σ H2 ⟨v2,v3,rfl,s2,hin⟩
   rw [List.take_of_length_le (by omega),List.take_of_length_le (Nat.le_refl _)] at hin
   rw [hin] at k
   exact k _ s2
abbrev zu0:Stmt:=top 88
abbrev n_show_check:List Str:=["record", "times", "size", "number", "bound"]
abbrev zo4:List Str:=["record", "times"]
theorem yh7:FnScope n_show_check zo4 (defScope zu0):=⟨rfl,rfl,rfl,by decide +kernel,rfl,by decide +kernel,by decide +kernel⟩
def checkAns (s:State) (l:List Int):List Int:=if (l.length == s.events.length && l.all fun t=>Vbqzab.inside t (-Vbqzab.FAR) Vbqzab.FAR)=false then [-2] else match Vbqzab.brokenBy (Vbqzab.bounds s) l with
 | none=>[1]
 | some k=>[0,Vbqzab.whole k]
def spShowCheck (C:Clss) (K:PySem.W.Frag):Sp:=fun vs H Q _=>∃ (p r:Addr) (s:State) (l:List Int),vs=[.ref p,.ref r]∧RecAt C H p s∧FP.Wf s∧SqL K H r (l.map V.int)∧NewAns H (checkAns s l) Q
theorem rep_time (n:Nat):(List.replicate n [V.str "time"]).flatten=(List.replicate n ("time" : Str)).map V.str:=by
 rw [List.map_replicate]
 induction n with
 | zero=>rfl
 | succ n ih =>
  rw [List.replicate_succ,List.flatten_cons,ih,List.replicate_succ]
  rfl
theorem inRs_time:∀ l:List Int,inRs (List.replicate l.length ("time" : Str)) l=l.all fun t=>Vbqzab.inside t (-Vbqzab.FAR) Vbqzab.FAR
 | []=>rfl
 | a :: l=>by
  have e:inR "time" a=Vbqzab.inside a (-Vbqzab.FAR) Vbqzab.FAR:=by
   unfold inR
   rw [show rngs.lookup ("time" : Str)=some (-1000000000000000,1000000000000000) by decide +kernel]
   rfl
  rw [List.all_cons,← inRs_time l,← e]
  rfl
theorem xb4 {f:Addr} {fd:FuncData} {C:Clss} (F:Fun K "show_check" "show_check" zu0 f fd) (T:ClssOk K C) (g_len:mg "len" = none) (g_enumerate:mg "enumerate" = none) (g_NOT_AS_TOLD:GVal mg "NOT_AS_TOLD" (.int (-2))) (c_in_ranges:CallOk P w K mg base "in_ranges" 1 zk6 (spInRangesL K)) (c_all_bounds:CallOk P w K mg base "all_bounds" 5 zg1 (spAllBounds C)):FnOk P w K mg base CX0 6 f fd zo4 (spShowCheck C K):=by
 refine F.ok yh7 (fun vs H Q E h=>?_) (fun cdv A outer s H vs Q E hr h=>?_)
 ·obtain ⟨p,r,t,l,rfl,_⟩:=h
  rfl
 ·obtain ⟨p,r,t,l,rfl,hR,hW,hr0,k⟩:=h
  have nd:=yh7.nd
  obtain ⟨dx,lb,le,lm,lv,dw,ab,ae,av,kvs,h1,h2,h3,h4,h5,h6⟩:=hR.ex
  have hne:=hW.ne
  have hel:(ae.map V.ref).length=t.events.length:=by rw [List.length_map,h4.len]
  have hll:(l.map V.int).length=l.length:=List.length_map _
  have hI:=FP.zi7 hW
  unfold checkAns at k
  refine ⟨_,(za1 (zb8 (i:=2) nd rfl (Or.inl rfl) (zc0 zb4 (by rfl) g_len PySem.boot_len (za0 (pe_at (pv 0)) za3))) (za1 (ps_if ((pw_or (zb2 op_ne (zc0 zb4 (by rfl) g_len PySem.boot_len (za0 (pv 1) za3)) (pv 2) (nomark _)) (pw_or1 (zr4 (zd0 (zb6 c_in_ranges (za0 (pe_op op_rep (zb7 (za0 ya4 za3)) (pv 2)) (za0 (pv 1) za3)) hr) (fun _=>rfl)))))).pt (za4 (za6 (zb7 (za0 (pe_gv g_NOT_AS_TOLD) za3)))) zb1) (za1 (zj3 PassesOwn.never rfl (xa9 rfl g_enumerate (za0 (zb6 c_all_bounds (za0 (pv 0) za3) hr) za3)) (yt3 rfl (ze8 (zc3 (i:=3) nd rfl (Or.inl rfl)) (ze8 (zc3 (i:=4) nd rfl (Or.inl rfl)) zz0))) (za4 (ps_if (zb2 op_gt (pe_op yt5 (zb3 zb0 (pv 1) (pe_at (pv 4))) (zb3 zb0 (pv 1) (pe_at (pv 4)))) (pe_at (pv 4)) (nomark _)) (za4 (za6 (zb7 (za0 za9 (za0 (pv 3) za3))))) zb1))) (za4 (za6 (zb7 (za0 za9 za3))))))),?_⟩
  refine ⟨_,rfl,p,C.record,dx,_,_,rfl,h1,T.record,T.rEvents,zd3 ..,le,_,rfl,.inl (SqL.of h4.lst),?_⟩
  rw [hel]
  refine ⟨_,rfl,r,_,rfl,.inl hr0,_,rfl,rfl,_,rfl,?_⟩
  rw [hll]
  refine iteND (fun q=>?_) (fun q=>?_)
  ·have e:¬ l.length=t.events.length:=fun z=>q (by rw [z])
   rw [if_pos (by rw [beq_eq_false_iff_ne.mpr e,Bool.false_and])] at k
   exact iteT (zi0 k)
  have q':((l.length:Nat):Int)=(t.events.length:Int):=V.int.inj q
  have e:l.length=t.events.length:=by omega
  rw [← e]
  refine ⟨(sz1),fun U hU=>?_⟩
  have sU:Same H (upd H U (.lst [V.str "time"])):=Same.laid hU
  refine ⟨_,rfl,U,(l.length:Int),_,rfl,rfl,za2,by omega,by omega,by rw [Int.toNat_natCast];show 1 * l.length≤sizeLine;exact zd5 (by omega),fun W hW2=>?_⟩
  have sW:Same H (upd (upd H U (.lst [V.str "time"])) W (.lst (List.replicate (l.length:Int).toNat [V.str "time"]).flatten)):=sU.trans (Same.laid hW2)
  refine ⟨_,rfl,W,r,List.replicate l.length "time",l,rfl,SqL.of (by rw [za2,Int.toNat_natCast,rep_time]),sW.seq hr0,by rw [List.length_replicate],fun kd hk=>⟨(-1000000000000000,1000000000000000),by rw [(List.mem_replicate.mp hk).2];exact (by decide +kernel:rngs.lookup ("time" : Str)=some (-1000000000000000,1000000000000000))⟩,fun H1 s1'=>?_⟩
  have s1:=sW.trans s1'
  rw [inRs_time]
  refine ⟨_,rfl,?_⟩
  cases ea:l.all fun t=>Vbqzab.inside t (-Vbqzab.FAR) Vbqzab.FAR with
  | false =>
   rw [if_pos (by rw [ea,Bool.and_false])] at k
   exact iteT (zi0 (k.later s1))
  | true =>
   rw [if_neg (by rw [ea,beq_iff_eq.mpr e];decide)] at k
   refine iteF ?_
   have k:=k.later s1
   refine ⟨_,rfl,p,t,rfl,hR.same s1,hW,fun H2 q as s2 hq0 hB=>?_⟩
   have hal:(as.map V.ref).length=(Vbqzab.bounds t).length:=by rw [List.length_map,hB.len]
   have k:=k.later s2
   refine ⟨q,_,rfl,SqL.of hB.lst,for_enum (K:=K) (a:=q) (xs:=as.map V.ref) (fun i σ H'=>∃ v3 v4:Option V,σ=[some (.ref p),some (.ref r),some (.int (l.length:Nat)),v3,v4]∧Same H2 H'∧∀ b∈(Vbqzab.bounds t).take i,decide (b.w < l.getD b.dst 0 - l.getD b.src 0)=false) ⟨none,none,rfl,Same.refl H2,fun b hb=>by cases hb⟩ (fun i σ H' _ ⟨_,_,_,h,_⟩=>SqL.of (h _ _ hB.lst)) ?_ ?_⟩
   ·rintro i x σ H3 U2 hx ⟨v3,v4,rfl,s3,hno⟩ hU2
    obtain ⟨c,b,rfl,hb,hc⟩:=hB.item hx
    have s4:Same H2 (upd H3 U2 (.tup [V.int (i:Nat),V.ref c])):=s3.trans (Same.laid hU2)
    obtain ⟨dc,hc⟩:=hc.same s4
    have hin:=hI b (List.mem_of_getElem? hb)
    have gi:∀ {j:Nat},j < t.events.length→(l.map V.int)[j]?=some (V.int (l.getD j 0)):=fun {j} hj=>by
     rw [List.getElem?_map,List.getD_eq_getElem?_getD,List.getElem?_eq_getElem (by omega)]
     rfl
    have hrS:=(s1.trans (s2.trans s4)).seq hr0
    refine ⟨U2,_,rfl,SqT.of za2,rfl,_,_,rfl,_,_,rfl,rfl,?_⟩
    refine ⟨_,rfl,_,rfl,c,C.bound,dc,_,_,rfl,hc,T.bound.cl,T.bound.nE,zz9 b,r,_,_,_,rfl,rfl,hrS,za8 (gi hin.2),_,rfl,_,rfl,c,C.bound,dc,_,_,rfl,hc,T.bound.cl,T.bound.nS,zm7 b,r,_,_,_,rfl,rfl,hrS,za8 (gi hin.1),_,_,rfl,rfl,_,rfl,c,C.bound,dc,_,_,rfl,hc,T.bound.cl,T.bound.nW,zq8 b,_,_,rfl,rfl,_,rfl,iteD (fun z=>?_) (fun z=>?_)⟩
    ·have hf:FP.FirstAt (Vbqzab.bounds t) (fun b=>decide (b.w < l.getD b.dst 0 - l.getD b.src 0)) i b:=⟨hb,decide_eq_true z,fun j c hj hc=>hno c (List.mem_of_getElem? (i:=j) (by rw [List.getElem?_take,if_pos hj];exact hc))⟩
     rw [FP.broken_first hf] at k
     exact ⟨_,rfl,(sz2),fun z hz=>k _ z (s4.trans (Same.laid hz)) (s4.free hz) za2⟩
    ·refine ⟨_,_,rfl,s4,fun d hd=>?_⟩
     rw [List.take_add_one,hb] at hd
     rcases List.mem_append.mp hd with hd | hd
     ·exact hno d hd
     ·rw [List.mem_singleton.mp hd]
      exact decide_eq_false z
   ·rintro σ H3 ⟨v3,v4,rfl,s3,hno⟩
    rw [hal,List.take_length] at hno
    rw [FP.broken_none hno] at k
    exact zi0 (k.later s3)
abbrev yi7:Stmt:=top 90
abbrev n_is_way:List Str:=["row", "bound", "behind"]
abbrev yj3:List Str:=["row"]
theorem sc_is_way:FnScope n_is_way yj3 (defScope yi7):=⟨rfl,rfl,rfl,by decide +kernel,rfl,by decide +kernel,by decide +kernel⟩
def isWay (rs:List Bound):Bool := !rs.isEmpty && FP.jn rs
def spIsWay (C:Clss):Sp:=fun vs H Q _=>∃ (l:Addr) (as:List Addr) (rs:List Bound),vs=[.ref l]∧BsAt C.bound H l as rs∧rs.length≤600∧∀ H',Same H H'→Q (.bl (isWay rs)) H'
theorem cut_from {xs:List V} {i:Nat} (h:i≤xs.length):cutV xs (some (i:Int)) none=xs.drop i:=by
 unfold cutV HT.sIx
 simp only
 rw [if_neg (by omega),Int.toNat_natCast,Nat.min_eq_left h,List.take_of_length_le (by rw [List.length_drop];exact Nat.le_refl _)]
theorem zw_take {rs:List Bound} {i:Nat} {a b:Bound} (ha:rs[i]?=some a) (hb:(rs.drop 1)[i]?=some b):(List.zipWith (fun a b:Bound=>a.dst == b.src) rs (rs.drop 1)).take (i + 1)=(List.zipWith (fun a b:Bound=>a.dst == b.src) rs (rs.drop 1)).take i++[a.dst == b.src]:=by
 rw [List.take_add_one,List.getElem?_zipWith,ha,hb]
 rfl
theorem ok_is_way {f:Addr} {fd:FuncData} {C:Clss} (F:Fun K "is_way" "is_way" yi7 f fd) (T:ClssOk K C) (g_len:mg "len" = none) (g_zip:mg "zip" = none) (g_all:mg "all" = none):FnOk P w K mg base CX0 1 f fd yj3 (spIsWay C):=by
 refine F.ok sc_is_way (fun vs H Q E h=>?_) (fun cdv A outer s H vs Q E hr h=>?_)
 ·obtain ⟨l,as,rs,rfl,_⟩:=h
  rfl
 ·obtain ⟨l,as,rs,rfl,hB,hn,k⟩:=h
  have nd:=sc_is_way.nd
  have hal:(as.map V.ref).length=rs.length:=by rw [List.length_map,hB.len]
  refine ⟨_,(za1 (ps_if (zb2 op_eq (zc0 zb4 (by rfl) g_len PySem.boot_len (za0 (pv 0) za3)) za9 (nomark _)) (za4 (za6 pe_bl)) zb1) (za4 (za6 (zc0 (cr_all rfl) (by rfl) g_all boot_all (za0 (pe_lc (own:=[("bound",1),("behind",2)]) rfl nd (pi_zip rfl g_zip (za0 (pv 0) (za0 (yj2 ys1 (pv 0) (yf8 za9) po_none) za3))) (zt0 (by show blkOkB n_is_way (defScope yi7) _ _=true;decide +kernel)) (fun _ _ _ _ _=>(pg_tupK (K:=K) (n:=2) rfl (ze8 (zc3 (i:=1) nd rfl (Or.inl rfl)) (ze8 (zc3 (i:=2) nd rfl (Or.inl rfl)) zz0)))) (fun _ _ _ _ _=>zy9) (fun _ _ _ _ _=>(zv1 op_eq (yy3 (K:=K) (pv 1)) (yy3 (K:=K) (pv 2)) (nomark _)))) za3))))),?_⟩
  refine ⟨_,rfl,l,_,rfl,.inl (SqL.of hB.lst),rfl,_,rfl,?_⟩
  rw [hal]
  refine iteD (fun q=>?_) (fun q=>?_)
  ·have q':((rs.length:Nat):Int)=0:=V.int.inj q
   have e:rs=[]:=List.eq_nil_of_length_eq_zero (by omega)
   subst e
   exact k _ (Same.refl H)
  have hpos:0 < rs.length:=by
   rcases Nat.eq_zero_or_pos rs.length with e | e
   ·exact absurd (by rw [e];rfl) q
   ·exact e
  have hw:isWay rs=(List.zipWith (fun a b:Bound=>a.dst == b.src) rs (rs.drop 1)).all id:=by
   unfold isWay
   rw [FP.jn_zip]
   cases rs with
   | nil=>exact absurd hpos (by decide)
   | cons a r=>rfl
  refine ⟨_,rfl,_,rfl,_,rfl,l,_,rfl,SqL.of hB.lst,fun U hU=>?_⟩
  dsimp only
  rw [show ((1:Int))=((1:Nat):Int) from rfl,cut_from (by rw [hal];exact hpos)]
  obtain ⟨H1,hH1⟩:∃ H1,H1=upd H U (.lst ((as.map V.ref).drop 1)):=⟨_,rfl⟩
  have s1:Same H H1:=by rw [hH1];exact Same.laid hU
  have hU1:H1 U=some (.lst ((as.map V.ref).drop 1)):=by rw [hH1];exact za2
  rw [← hH1]
  have hdl:((as.map V.ref).drop 1).length=rs.length - 1:=by rw [List.length_drop,hal]
  refine ⟨l,U,_,_,rfl,SqL.of (s1 _ _ hB.lst),SqL.of hU1,fun D hD=>lc_zip (K:=K) (a:=l) (b:=U) (xs:=as.map V.ref) (ys:=(as.map V.ref).drop 1) (n:=rs.length - 1) (by rw [hal];omega) hdl (fun i H'=>Same H1 H'∧H' D=some (.lst (((List.zipWith (fun a b:Bound=>a.dst == b.src) rs (rs.drop 1)).take i).map V.bl))) ⟨Same.laid hD,za2⟩ (fun i H' _ h=>⟨SqL.of (h.1 _ _ (s1 _ _ hB.lst)),SqL.of (h.1 _ _ hU1)⟩) ?_ ?_⟩
  ·rintro i x y H2 U2 hx hy ⟨s2,hD2⟩ hU2
   obtain ⟨c,a,rfl,ha,hc⟩:=hB.item hx
   rw [List.getElem?_drop] at hy
   obtain ⟨d,b,rfl,hb,hd⟩:=hB.item hy
   have s3:Same H2 (upd H2 U2 (.tup [V.ref c,V.ref d])):=Same.laid hU2
   have s4:=s2.trans s3
   obtain ⟨dc,hc⟩:=hc.same (s1.trans s4)
   obtain ⟨dd,hd⟩:=hd.same (s1.trans s4)
   have hb':(rs.drop 1)[i]?=some b:=by rw [List.getElem?_drop];exact hb
   refine ⟨U2,_,rfl,SqT.of za2,rfl,_,_,rfl,_,_,rfl,rfl,rfl,yh1 ?_⟩
   refine iteT ⟨_,rfl,c,C.bound,dc,_,_,rfl,hc,T.bound.cl,T.bound.nE,zz9 a,_,rfl,d,C.bound,dd,_,_,rfl,hd,T.bound.cl,T.bound.nS,zm7 b,rfl,_,s3 _ _ hD2,?_,s4.over hD,?_⟩
   ·rw [List.length_map,List.length_take]
    have hi:=(List.getElem?_eq_some_iff.mp ha).1
    exact small1000 (by omega)
   ·rw [za2,zw_take ha hb',List.map_append]
    refine congrArg (fun z=>some (HO.lst z)) (congrArg _ ?_)
    show [V.bl (decide (V.int (a.dst:Int)=V.int (b.src:Int)))]=[V.bl (a.dst == b.src)]
    refine congrArg (fun z=>[V.bl z]) ?_
    rw [Bool.eq_iff_iff,decide_eq_true_iff,beq_iff_eq]
    exact ⟨fun z=>by have z':((a.dst:Nat):Int)=(b.src:Int):=V.int.inj z;omega,fun z=>by rw [z]⟩
  ·rintro H2 ⟨s2,hD2⟩
   rw [List.take_of_length_le (by rw [List.length_zipWith,List.length_drop];omega)] at hD2
   refine ⟨D,_,rfl,SqL.of hD2,?_⟩
   rw [hw] at k
   exact k _ (s1.trans s2)
abbrev zk3:Stmt:=top 89
abbrev zz2:List Str:=["record", "numbers", "bounds", "row", "number", "bound"]
abbrev zs0:List Str:=["record", "numbers"]
theorem yo0:FnScope zz2 zs0 (defScope zk3):=⟨rfl,rfl,rfl,by decide +kernel,rfl,by decide +kernel,by decide +kernel⟩
def addsAns (s:State) (l:List Int):List Int:=if (l.all fun k=>Vbqzab.inside k 0 (Vbqzab.whole (Vbqzab.bounds s).length - 1))=false then [-2] else
 if isWay ((Vbqzab.nats l).map (FP.bAt (Vbqzab.bounds s)))=false then [0] else [1,Vbqzab.whole (FP.bAt (Vbqzab.bounds s) ((Vbqzab.nats l).getD 0 0)).src,Vbqzab.whole (FP.bAt (Vbqzab.bounds s) ((Vbqzab.nats l).getD (l.length - 1) 0)).dst,(((Vbqzab.nats l).map (FP.bAt (Vbqzab.bounds s))).map Bound.w).sum]
def spShowAdds (C:Clss) (K:PySem.W.Frag):Sp:=fun vs H Q _=>∃ (p r:Addr) (s:State) (l:List Int),vs=[.ref p,.ref r]∧RecAt C H p s∧FP.Wf s∧SqL K H r (l.map V.int)∧l.length≤60∧NewAns H (addsAns s l) Q
theorem ok_show_adds {f:Addr} {fd:FuncData} {C:Clss} (F:Fun K "show_adds" "show_adds" zk3 f fd) (T:ClssOk K C) (g_len:mg "len" = none) (g_all:mg "all" = none) (g_sum:mg "sum" = none) (g_NOT_AS_TOLD:GVal mg "NOT_AS_TOLD" (.int (-2))) (c_is_way:CallOk P w K mg base "is_way" 1 yj3 (spIsWay C)) (c_all_bounds:CallOk P w K mg base "all_bounds" 5 zg1 (spAllBounds C)):FnOk P w K mg base CX0 6 f fd zs0 (spShowAdds C K):=by
 refine F.ok yo0 (fun vs H Q E h=>?_) (fun cdv A outer s H vs Q E hr h=>?_)
 ·obtain ⟨p,r,t,l,rfl,_⟩:=h
  rfl
 ·obtain ⟨p,r,t,l,rfl,hR,hW,hr0,hl60,k⟩:=h
  have nd:=yo0.nd
  have hbl:=yn2 hW
  refine ⟨_,(za1 (zb8 (i:=2) nd rfl (Or.inr rfl) (zb6 c_all_bounds (za0 (pv 0) za3) hr)) (za1 (ps_if (zr4 (zd0 (zc0 (cr_all rfl) (by rfl) g_all boot_all (za0 (pe_lc (own:=[("number",4)]) rfl nd (zj0 (pv 1)) (zt0 (by show blkOkB zz2 (defScope zk3) _ _=true;decide +kernel)) (fun _ _ _ _ _=>(zc3 (i:=4) nd rfl (Or.inl rfl))) (fun _ _ _ _ _=>zy9) (fun _ _ _ _ _=>(pe_chain op_le op_lt za9 (pv 4) (zc0 (call_lenK (K:=K)) (by rfl) g_len PySem.boot_len (za0 (pv 2) za3))))) za3)) (fun _=>rfl))) (za4 (za6 (zb7 (za0 (pe_gv g_NOT_AS_TOLD) za3)))) zb1) (za1 (yq4 (i:=3) (own:=[("number",4)]) rfl nd rfl rfl (xa3 rfl rfl rfl rfl) (zj0 (pv 1)) (zt0 (by show blkOkB zz2 (defScope zk3) _ _=true;decide +kernel)) (fun _ _ _ _ _=>(zc3 (i:=4) nd rfl (Or.inl rfl))) (fun _ _ _ _ _=>zy9) (fun _ _ _ _ _=>(zb3 (xd8 (K:=K)) (pv 2) (pv 4)))) (za1 (ps_if (zr4 (zd0 (zb6 c_is_way (za0 (pv 3) za3) hr) (fun _=>rfl))) (za4 (za6 (zb7 (za0 za9 za3)))) zb1) (za4 (za6 (zb7 (za0 za9 (za0 (pe_at (zb3 zb0 (pv 3) za9)) (za0 (pe_at (zb3 zb0 (pv 3) (pe_un ye1 za9))) (za0 (zc0 (cr_sum rfl) (by rfl) g_sum boot_sum (za0 (pe_lc (own:=[("bound",5)]) rfl nd (zj0 (pv 3)) (zt0 (by show blkOkB zz2 (defScope zk3) _ _=true;decide +kernel)) (fun _ _ _ _ _=>(zc3 (i:=5) nd rfl (Or.inl rfl))) (fun _ _ _ _ _=>zy9) (fun _ _ _ _ _=>(yy3 (K:=K) (pv 5)))) za3)) za3))))))))))),?_⟩
  refine ⟨_,rfl,p,t,rfl,hR,hW,fun H1 b as s1 hb0 hB=>?_⟩
  have k:=k.later s1
  have hr1:=s1.seq hr0
  have hal:(as.map V.ref).length=(Vbqzab.bounds t).length:=by rw [List.length_map,hB.len]
  generalize hbs:Vbqzab.bounds t=bs at hB k hal hbl
  unfold addsAns at k
  rw [hbs] at k
  refine ⟨_,rfl,r,rfl,⟨_,hr1⟩,fun D hD=>yb8 (K:=K) (a:=r) (xs:=l.map V.int) (fun i H'=>Same H1 H'∧H' D=some (.lst (((l.take i).map fun k=>Vbqzab.inside k 0 (Vbqzab.whole bs.length - 1)).map V.bl))) ⟨Same.laid hD,za2⟩ (fun i H' _ h=>h.1.seq hr1) ?_ ?_⟩
  ·rintro i x H2 hx ⟨s2,hD2⟩
   obtain ⟨z,rfl,hz⟩:=yq9 hx
   refine ⟨rfl,yh1 ?_⟩
   have fin:∀ v:Bool,v=Vbqzab.inside z 0 (Vbqzab.whole bs.length - 1)→∃ acc,H2 D=some (.lst acc)∧acc.length < sizeLine∧Same H1 (upd H2 D (.lst (acc++[V.bl v])))∧(upd H2 D (.lst (acc++[V.bl v]))) D=some (.lst (((l.take (i + 1)).map fun k=>Vbqzab.inside k 0 (Vbqzab.whole bs.length - 1)).map V.bl)):=by
    rintro v rfl
    refine ⟨_,hD2,?_,s2.over hD,?_⟩
    ·rw [List.length_map,List.length_map,List.length_take]
     exact small1000 (by omega)
    ·rw [za2,List.take_add_one,hz]
     simp
   refine iteT ⟨_,rfl,_,_,rfl,rfl,_,rfl,iteD (fun q=>?_) (fun q=>?_)⟩
   ·refine ⟨_,rfl,b,_,rfl,.inl (SqL.of (s2 _ _ hB.lst)),_,_,rfl,rfl,?_⟩
    refine fin _ ?_
    rw [hal,Bool.eq_iff_iff,decide_eq_true_iff,FP.za7]
    unfold Vbqzab.whole
    constructor
    ·intro z;exact ⟨q,by omega⟩
    ·intro z;omega
   ·refine fin _ ?_
    refine (Bool.eq_false_iff.mpr fun z=>q (FP.za7.mp z).1).symm
  rintro H2 ⟨s2,hD2⟩
  rw [List.length_map,List.take_length] at hD2
  refine ⟨D,_,rfl,SqL.of hD2,_,rfl,?_⟩
  have ea:(l.map fun k=>Vbqzab.inside k 0 (Vbqzab.whole bs.length - 1)).all id=l.all fun k=>Vbqzab.inside k 0 (Vbqzab.whole bs.length - 1):=by rw [List.all_map];rfl
  rw [ea]
  have k:=k.later s2
  cases e:l.all fun k=>Vbqzab.inside k 0 (Vbqzab.whole bs.length - 1) with
  | false =>
   rw [if_pos e] at k
   exact iteT (zi0 k)
  | true =>
   rw [if_neg (by rw [e];decide)] at k
   refine iteF ?_
   have hin:∀ z∈l,0≤z∧z.toNat < bs.length:=fun z hz=>by
    have:=FP.za7.mp (List.all_eq_true.mp e z hz)
    unfold Vbqzab.whole at this
    omega
   have hr2:=s2.seq hr1
   have hB2:=hB.same s2
   refine ⟨_,rfl,r,rfl,⟨_,hr2⟩,fun D2 hD20=>yb8 (K:=K) (a:=r) (xs:=l.map V.int) (fun i H'=>Same H2 H'∧∃ cs,BsAt C.bound H' D2 cs (((Vbqzab.nats l).take i).map (FP.bAt bs))) ⟨Same.laid hD20,[],za2,rfl,fun i c hc=>by simp at hc⟩ (fun i H' _ h=>h.1.seq hr2) ?_ ?_⟩
   ·rintro i x H3 hx ⟨s3,cs,hC⟩
    obtain ⟨z,rfl,hz⟩:=yq9 hx
    obtain ⟨z0,z1⟩:=hin z (List.mem_of_getElem? hz)
    obtain ⟨c,hc1,hc2⟩:=hB2.at_ z.toNat _ (FP.yn3 z1)
    have ez:V.int z=V.int ((z.toNat:Nat):Int):=by rw [Int.toNat_of_nonneg z0]
    have hnz:(Vbqzab.nats l)[i]?=some z.toNat:=by
     unfold Vbqzab.nats
     rw [List.getElem?_map,hz]
     rfl
    refine ⟨rfl,yh1 ?_⟩
    refine iteT ⟨_,rfl,_,rfl,b,_,_,_,rfl,ez,SqL.of (s3 _ _ hB2.lst),za8 (zc8 hc1),_,hC.lst,?_,s3.over hD20,cs++[c],?_⟩
    ·rw [List.length_map,hC.len,List.length_map,List.length_take]
     have:=(List.getElem?_eq_some_iff.mp hz).1
     exact small1000 (by omega)
    ·rw [List.take_add_one,hnz,List.map_append]
     obtain ⟨dc,hc2⟩:=hc2
     have hcD:∀ {d dd:Addr} {g:Bound},H3 d=some (.ins C.bound dd (bfs g))→(upd H3 D2 (.lst (cs.map V.ref++[V.ref c]))) d=some (.ins C.bound dd (bfs g)):=fun q=>by
      rw [zb5 (ne_of q hC.lst (fun z=>nomatch z))]
      exact q
     refine ⟨by rw [za2,List.map_append];rfl,by rw [List.length_append,List.length_append,hC.len];rfl,fun j g hg=>?_⟩
     rcases FP.zk2 hg with hg | ⟨rfl,rfl⟩
     ·obtain ⟨d,hd1,dd,hd2⟩:=hC.at_ j g hg
      exact ⟨d,by rw [FP.zg4 (List.getElem?_eq_some_iff.mp hd1).1];exact hd1,dd,hcD hd2⟩
     ·exact ⟨c,by rw [← hC.len,List.getElem?_append_right (Nat.le_refl _),Nat.sub_self];rfl,dc,hcD (s3 _ _ hc2)⟩
   rintro H3 ⟨s3,cs,hC⟩
   have hnl:(Vbqzab.nats l).length=l.length:=List.length_map _
   rw [List.length_map,List.take_of_length_le (by omega)] at hC
   generalize hrs:(Vbqzab.nats l).map (FP.bAt bs)=rs at hC k
   have hrl:rs.length=l.length:=by rw [← hrs,List.length_map,hnl]
   refine ⟨_,rfl,D2,cs,rs,rfl,hC,by omega,fun H4 s4=>?_⟩
   have k:=k.later (s3.trans s4)
   have hC:=hC.same s4
   refine ⟨_,rfl,?_⟩
   cases ew:isWay rs with
   | false =>
    rw [if_pos ew] at k
    exact iteT (zi0 k)
   | true =>
    rw [if_neg (by rw [ew];decide)] at k
    refine iteF ?_
    have hpos:0 < rs.length:=by
     cases rs with
     | nil=>cases ew
     | cons a q=>exact Nat.succ_pos _
    have hcl:(cs.map V.ref).length=rs.length:=by rw [List.length_map,hC.len]
    have rget:∀ {j:Nat},j < rs.length→rs[j]?=some (FP.bAt bs ((Vbqzab.nats l).getD j 0)):=fun {j} hj=>by
     rw [← hrs,List.getElem?_map,List.getD_eq_getElem?_getD,List.getElem?_eq_getElem (by omega)]
     rfl
    obtain ⟨a0,ha0,d0,g0⟩:=hC.at_ 0 _ (rget hpos)
    obtain ⟨a9,ha9,d9,g9⟩:=hC.at_ (rs.length - 1) _ (rget (by omega))
    have eneg:atI (cs.map V.ref) (-1)=some (V.ref a9):=by
     have e1:(cs.map V.ref)[rs.length - 1]?=some (V.ref a9):=zc8 ha9
     unfold atI ixN
     rw [if_neg (by decide),if_pos (by omega)]
     show (cs.map V.ref)[((-1:Int) + ((cs.map V.ref).length:Int)).toNat]?=_
     rw [hcl,show ((-1:Int) + (rs.length:Int)).toNat=rs.length - 1 by omega]
     exact e1
    refine ⟨_,rfl,D2,_,_,_,rfl,rfl,SqL.of hC.lst,za8 (j:=0) (zc8 ha0),a0,C.bound,d0,_,_,rfl,g0,T.bound.cl,T.bound.nS,zm7 _,_,rfl,_,rfl,D2,_,_,_,rfl,rfl,SqL.of hC.lst,eneg,a9,C.bound,d9,_,_,rfl,g9,T.bound.cl,T.bound.nE,zz9 _,?_⟩
    refine ⟨_,rfl,D2,rfl,⟨_,SqL.of hC.lst⟩,fun D3 hD3=>yb8 (K:=K) (a:=D2) (xs:=cs.map V.ref) (fun i H'=>Same H4 H'∧H' D3=some (.lst (((rs.take i).map Bound.w).map V.int))) ⟨Same.laid hD3,za2⟩ (fun i H' _ h=>SqL.of (h.1 _ _ hC.lst)) ?_ ?_⟩
    ·rintro i x H5 hx ⟨s5,hD5⟩
     obtain ⟨c,g,rfl,hg,hc⟩:=hC.item hx
     obtain ⟨dc,hc⟩:=hc.same s5
     refine ⟨rfl,yh1 ?_⟩
     refine iteT ⟨_,rfl,c,C.bound,dc,_,_,rfl,hc,T.bound.cl,T.bound.nW,zq8 g,_,hD5,?_,s5.over hD3,?_⟩
     ·rw [List.length_map,List.length_map,List.length_take]
      exact small1000 (by omega)
     ·rw [za2,List.take_add_one,hg]
      simp
    ·rintro H5 ⟨s5,hD5⟩
     rw [hcl,List.take_length] at hD5
     refine ⟨D3,_,rfl,SqL.of hD5,(sz4),fun z hz=>?_⟩
     refine k _ z (s5.trans (Same.laid hz)) (s5.free hz) ?_
     rw [za2,← hrl]
     rfl
end
end FPP
namespace FPP
open PySem PySem.Spec PyProof.Rows L2
open Vbqzab (Bound Table at_ State Box Wire Evidence)
theorem xc9 {ls:List Nat} {i:Nat} {y:V} (h:(nvs ls)[i]?=some y):∃ a:Nat,y=V.int (a:Int)∧ls[i]?=some a:=by
 unfold nvs at h
 rw [List.getElem?_map] at h
 obtain ⟨a,ha,rfl⟩:=Option.map_eq_some_iff.mp h
 exact ⟨a,rfl,ha⟩
theorem NewNs.later {H H':Hp} {l:List Nat} {Q:VK} (k:NewNs H l Q) (s:Same H H'):NewNs H' l Q:=fun H2 p s2 hp h=>k H2 p (s.trans s2) (s.free hp) h
theorem two_lists {H:Hp} {Q:VK} {e:Int} {l:List Int} {p g:Addr} {H3:Hp} (s1:Same H H3) (hp3:H3 p=some (.lst [V.int e])) (hg:H3 g=some (.lst (l.map V.int))) (hl:l.length≤20000) (k:NewAns H (e :: l) Q):rCat (.ref p) (.ref g) H3 Q:=by
 refine ⟨p,g,_,_,rfl,rfl,hp3,hg,?_,fun z hz=>?_⟩
 ·rw [List.length_map]
  show 1 + _≤sizeLine
  exact zd5 (by omega)
 ·exact k _ z (s1.over (s1.free hz)) (s1.free hz) za2
theorem yy6 (l:List Nat):(Vbqzab.listed l).length=l.length + 1:=by
 unfold Vbqzab.listed Vbqzab.ints
 rw [List.length_cons,List.length_map]
theorem mayB_len (bs:List Bound) (n:Nat) (l:List Nat):(Vbqzab.mayBeFirst bs n l).length≤l.length:=List.length_filter_le _ _
section
variable {P:Program} {w:World} {K:PySem.W.Frag} {mg:Str→Option Value} {base:Heap}
abbrev zg6:Stmt:=top 77
abbrev ya6:List Str:=["survey", "events", "x", "y"]
abbrev zg9:List Str:=["survey", "events", "x"]
theorem zv7:FnScope ya6 zg9 (defScope zg6):=⟨rfl,rfl,rfl,by decide +kernel,rfl,by decide +kernel,by decide +kernel⟩
def spHasOne (C:Clss) (K:PySem.W.Frag):Sp:=fun vs H Q _=>∃ (q e:Addr) (bs:List Bound) (n:Nat) (l:List Nat) (x:Nat),vs=[.ref q,.ref e,.int x]∧SvAt C.survey C.bound H q bs n (FP.fw bs n)∧FP.Inn bs n∧FP.NoNeg bs∧SqL K H e (nvs l)∧(∀ y∈l,y < n)∧x < n∧l.length≤100∧∀ H',Same H H'→Q (.bl (l.any fun y=>Vbqzab.surelyBefore bs n y x)) H'
theorem ok_has_one {f:Addr} {fd:FuncData} {C:Clss} (F:Fun K "has_one_before" "has_one_before" zg6 f fd) (g_any:mg "any" = none) (mt_is_before:MethOk P w K mg base C.survey "is_before" 1 zd8 (spIsBefore C)):FnOk P w K mg base CX0 2 f fd zg9 (spHasOne C K):=by
 refine F.ok zv7 (fun vs H Q E h=>?_) (fun cdv A outer s H vs Q E hr h=>?_)
 ·obtain ⟨q,e,bs,n,l,x,rfl,_⟩:=h
  rfl
 ·obtain ⟨q,e,bs,n,l,x,rfl,hS,hI,hN,he,hl,hx,hn,k⟩:=h
  have nd:=zv7.nd
  refine ⟨_,(za4 (za6 (zc0 (cr_any rfl) (by rfl) g_any boot_any (za0 (pe_lc (own:=[("y",3)]) rfl nd (zj0 (pv 1)) (zt0 (by show blkOkB ya6 (defScope zg6) _ _=true;decide +kernel)) (fun _ _ _ _ _=>(zc3 (i:=3) nd rfl (Or.inl rfl))) (fun _ _ _ _ _=>zy9) (fun _ _ _ _ _=>(zd4 mt_is_before (pv 0) (za0 (pv 3) (za0 (pv 2) za3)) hr))) za3)))),?_⟩
  refine ⟨_,rfl,e,rfl,⟨_,he⟩,fun D hD=>yb8 (K:=K) (a:=e) (xs:=nvs l) (fun i H'=>Same H H'∧H' D=some (.lst (((l.take i).map fun y=>Vbqzab.surelyBefore bs n y x).map V.bl))) ⟨Same.laid hD,za2⟩ (fun i H' _ h=>h.1.seq he) ?_ ?_⟩
  ·rintro i v H2 hv ⟨s2,hD2⟩
   obtain ⟨y,rfl,hy⟩:=xc9 hv
   obtain ⟨dx,lq,m,as,ls,hq,_⟩:=(hS.same s2).ex
   refine ⟨rfl,yh1 ?_⟩
   refine iteT ⟨_,rfl,q,dx,_,rfl,hq,ya0,_,rfl,_,rfl,q,bs,n,y,x,rfl,hS.same s2,hI,hN,hl y (List.mem_of_getElem? hy),hx,_,hD2,?_,s2.over hD,?_⟩
   ·rw [List.length_map,List.length_map,List.length_take]
    exact small1000 (by omega)
   ·rw [za2,List.take_add_one,hy]
    simp
  ·rintro H2 ⟨s2,hD2⟩
   rw [zd9,List.take_length] at hD2
   refine ⟨D,_,rfl,SqL.of hD2,?_⟩
   have e1:(l.map fun y=>Vbqzab.surelyBefore bs n y x).any id=l.any fun y=>Vbqzab.surelyBefore bs n y x:=by rw [List.any_map];rfl
   rw [e1]
   exact k H2 s2
abbrev zj1:Stmt:=top 76
abbrev yf1:List Str:=["survey", "events", "x"]
abbrev zh1:List Str:=["survey", "events"]
theorem ya9:FnScope yf1 zh1 (defScope zj1):=⟨rfl,rfl,rfl,by decide +kernel,rfl,by decide +kernel,by decide +kernel⟩
def spMayBe (C:Clss) (K:PySem.W.Frag):Sp:=fun vs H Q _=>∃ (q e:Addr) (bs:List Bound) (n:Nat) (l:List Nat),vs=[.ref q,.ref e]∧SvAt C.survey C.bound H q bs n (FP.fw bs n)∧FP.Inn bs n∧FP.NoNeg bs∧SqL K H e (nvs l)∧(∀ y∈l,y < n)∧l.length≤100∧NewNs H (Vbqzab.mayBeFirst bs n l) Q
theorem yv3 {l:List Nat} {f:Nat→Bool} {i a:Nat} (h:l[i]?=some a):(l.take (i + 1)).filter f=if f a=true then (l.take i).filter f++[a] else (l.take i).filter f:=by
 rw [List.take_add_one,h,List.filter_append]
 show _++[a].filter f=_
 rw [List.filter_cons,List.filter_nil]
 split
 ·rfl
 ·exact List.append_nil _
theorem yt7 {f:Addr} {fd:FuncData} {C:Clss} (F:Fun K "may_be_first" "may_be_first" zj1 f fd) (c_has_one_before:CallOk P w K mg base "has_one_before" 2 zg9 (spHasOne C K)):FnOk P w K mg base CX0 3 f fd zh1 (spMayBe C K):=by
 refine F.ok ya9 (fun vs H Q E h=>?_) (fun cdv A outer s H vs Q E hr h=>?_)
 ·obtain ⟨q,e,bs,n,l,rfl,_⟩:=h
  rfl
 ·obtain ⟨q,e,bs,n,l,rfl,hS,hI,hN,he,hl,hn,k⟩:=h
  have nd:=ya9.nd
  rw [FP.mayBe_eq] at k
  refine ⟨_,(za4 (za6 (pe_lc (own:=[("x",2)]) rfl nd (zj0 (pv 1)) (zt0 (by show blkOkB yf1 (defScope zj1) _ _=true;decide +kernel)) (fun _ _ _ _ _=>(zc3 (i:=2) nd rfl (Or.inl rfl))) (fun _ _ _ _ _=>(yl6 (zr4 (pt_val (zb6 c_has_one_before (za0 (pv 0) (za0 (pv 1) (za0 (pv 2) za3))) hr))))) (fun _ _ _ _ _=>(pv 2))))),?_⟩
  refine ⟨_,rfl,e,rfl,⟨_,he⟩,fun D hD=>yb8 (K:=K) (a:=e) (xs:=nvs l) (fun i H'=>Same H H'∧H' D=some (.lst (nvs ((l.take i).filter fun x => !(l.any fun y=>Vbqzab.surelyBefore bs n y x))))) ⟨Same.laid hD,za2⟩ (fun i H' _ h=>h.1.seq he) ?_ ?_⟩
  ·rintro i v H2 hv ⟨s2,hD2⟩
   obtain ⟨x,rfl,hx⟩:=xc9 hv
   have hf:=yv3 (f:=fun x => !(l.any fun y=>Vbqzab.surelyBefore bs n y x)) hx
   refine ⟨rfl,_,rfl,_,rfl,_,rfl,q,e,bs,n,l,x,rfl,hS.same s2,hI,hN,s2.seq he,hl,hl x (List.mem_of_getElem? hx),hn,fun H3 s3=>⟨_,rfl,?_⟩⟩
   cases c:l.any fun y=>Vbqzab.surelyBefore bs n y x with
   | true =>
    rw [if_neg (by rw [c];decide)] at hf
    refine iteF ⟨s2.trans s3,?_⟩
    rw [hf]
    exact s3 _ _ hD2
   | false =>
    rw [if_pos (by rw [c];rfl)] at hf
    refine iteT ⟨_,rfl,_,s3 _ _ hD2,?_,(s2.trans s3).over hD,?_⟩
    ·rw [zd9]
     have:=List.length_filter_le (fun x => !(l.any fun y=>Vbqzab.surelyBefore bs n y x)) (l.take i)
     rw [List.length_take] at this
     exact small1000 (by omega)
    ·rw [za2,hf]
     exact congrArg (fun z=>some (HO.lst z)) (yk0 _ _)
  ·rintro H2 ⟨s2,hD2⟩
   rw [zd9,List.take_length] at hD2
   exact k H2 D s2 hD hD2
abbrev yd1:Stmt:=top 75
abbrev n_first_of:List Str:=["survey", "events", "able"]
abbrev zq5:List Str:=["survey", "events"]
theorem ys7:FnScope n_first_of zq5 (defScope yd1):=⟨rfl,rfl,rfl,by decide +kernel,rfl,by decide +kernel,by decide +kernel⟩
def spFirstOf (C:Clss) (K:PySem.W.Frag):Sp:=fun vs H Q _=>∃ (q e:Addr) (bs:List Bound) (n:Nat) (l:List Nat),vs=[.ref q,.ref e]∧SvAt C.survey C.bound H q bs n (FP.fw bs n)∧FP.Inn bs n∧FP.NoNeg bs∧SqL K H e (nvs l)∧(∀ y∈l,y < n)∧l.length≤100∧NewAns H (FP.firstBy (Vbqzab.mayBeFirst bs n l)) Q
theorem ok_first_of {f:Addr} {fd:FuncData} {C:Clss} (F:Fun K "first_of" "first_of" yd1 f fd) (g_len:mg "len" = none) (c_may_be_first:CallOk P w K mg base "may_be_first" 3 zh1 (spMayBe C K)) (c_counted:CallOk P w K mg base "counted" 1 zh8 spCounted):FnOk P w K mg base CX0 4 f fd zq5 (spFirstOf C K):=by
 refine F.ok ys7 (fun vs H Q E h=>?_) (fun cdv A outer s H vs Q E hr h=>?_)
 ·obtain ⟨q,e,bs,n,l,rfl,_⟩:=h
  rfl
 ·obtain ⟨q,e,bs,n,l,rfl,hS,hI,hN,he,hl,hn,k⟩:=h
  have nd:=ys7.nd
  have hml:=mayB_len bs n l
  refine ⟨_,(za1 (zb8 (i:=2) nd rfl (Or.inl rfl) (zb6 c_may_be_first (za0 (pv 0) (za0 (pv 1) za3)) hr)) (za1 (ps_if (zb2 op_eq (zc0 zb4 (by rfl) g_len PySem.boot_len (za0 (pv 2) za3)) za9 (nomark _)) (za4 (za6 (zb7 (za0 za9 (za0 (zb3 zb0 (pv 2) za9) za3))))) zb1) (za4 (za6 (pe_op yj6 (zb7 (za0 za9 za3)) (zb6 c_counted (za0 (pv 2) za3) hr)))))),?_⟩
  refine ⟨_,rfl,_,rfl,q,e,bs,n,l,rfl,hS,hI,hN,he,hl,hn,fun H1 a s1 ha0 ha=>?_⟩
  have k:=k.later s1
  generalize hmm:Vbqzab.mayBeFirst bs n l=m at k ha hml
  refine ⟨_,rfl,a,_,rfl,.inl (SqL.of ha),rfl,_,rfl,?_⟩
  rw [zd9]
  refine iteD (fun c=>?_) (fun c=>?_)
  ·have c':((m.length:Nat):Int)=1:=V.int.inj c
   obtain ⟨x,rfl⟩:=List.length_eq_one_iff.mp (show m.length=1 by omega)
   refine ⟨_,rfl,a,_,_,_,rfl,rfl,SqL.of ha,za8 (j:=0) (v:=V.int (x:Int)) rfl,(sz2),fun p hp=>?_⟩
   exact k _ p (Same.laid hp) hp za2
  ·have em:FP.firstBy m=0 :: Vbqzab.listed m:=by
    unfold FP.firstBy
    split
    ·exact absurd rfl c
    ·rfl
   rw [em] at k
   refine ⟨(sz1),fun p hp=>?_⟩
   have sp:=Same.laid (o := .lst [V.int 0]) hp
   refine ⟨_,rfl,zs9 (sp _ _ ha) (by omega) fun H3 g s3 hg0 hg=>?_⟩
   exact two_lists (sp.trans s3) (s3 _ _ za2) hg (by rw [yy6];omega) k
abbrev zg2:Stmt:=top 74
abbrev yg0:List Str:=["record", "row", "least", "x"]
abbrev ze5:List Str:=["record", "row"]
theorem zp5:FnScope yg0 ze5 (defScope zg2):=⟨rfl,rfl,rfl,by decide +kernel,rfl,by decide +kernel,by decide +kernel⟩
def spRising (C:Clss) (K:PySem.W.Frag):Sp:=fun vs H Q _=>∃ (p r:Addr) (s:State) (l:List Int),vs=[.ref p,.ref r]∧RecAt C H p s∧SqL K H r (l.map V.int)∧Q (.bl (Vbqzab.risingIn s l)) H
theorem xc5 {f:Addr} {fd:FuncData} {C:Clss} (F:Fun K "are_rising_events" "are_rising_events" zg2 f fd) (T:ClssOk K C) (g_len:mg "len" = none):FnOk P w K mg base CX0 1 f fd ze5 (spRising C K):=by
 refine F.ok zp5 (fun vs H Q E h=>?_) (fun cdv A outer s H vs Q E hr h=>?_)
 ·obtain ⟨p,r,t,l,rfl,_⟩:=h
  rfl
 ·obtain ⟨p,r,t,l,rfl,hR,hr0,k⟩:=h
  have nd:=zp5.nd
  obtain ⟨dx,lb,le,lm,lv,dw,ab,ae,av,kvs,h1,h2,h3,h4,h5,h6⟩:=hR.ex
  have hel:(ae.map V.ref).length=t.events.length:=by rw [List.length_map,h4.len]
  rw [← FP.ris_in] at k
  refine ⟨_,(za1 (zb8 (i:=2) nd rfl (Or.inl rfl) za9) (za1 (zj3 PassesOwn.never rfl (zj0 (pv 1)) (zc3 (i:=3) nd rfl (Or.inl rfl)) (za1 (ps_if ((pw_or (zb2 op_lt (pv 3) (pv 2) (nomark _)) (pw_or1 (zb2 op_ge (pv 3) (zc0 zb4 (by rfl) g_len PySem.boot_len (za0 (pe_at (pv 0)) za3)) (nomark _))))).pt (za4 (za6 pe_bl)) zb1) (za4 (zb8 (i:=2) nd rfl (Or.inl rfl) (pe_op zx2 (pv 3) za9))))) (za4 (za6 pe_bl)))),?_⟩
  refine ⟨_,rfl,r,rfl,⟨_,hr0⟩,zu9 (K:=K) (a:=r) (xs:=l.map V.int) (fun i σ H'=>∃ (lo:Int) (v3:Option V),σ=[some (.ref p),some (.ref r),some (.int lo),v3]∧H'=H∧FP.ris (Vbqzab.whole t.events.length) 0 l=FP.ris (Vbqzab.whole t.events.length) lo (l.drop i)) ⟨0,none,rfl,rfl,rfl⟩ (fun i σ H' _ ⟨_,_,_,h,_⟩=>by rw [h];exact hr0) ?_ ?_⟩
  ·rintro i y σ H2 hy ⟨lo,v3,rfl,rfl,hris⟩
   obtain ⟨x,rfl,hx⟩:=yq9 hy
   have hd:l.drop i=x :: l.drop (i + 1):=by
    obtain ⟨h,e⟩:=List.getElem?_eq_some_iff.mp hx
    rw [List.drop_eq_getElem_cons h,e]
   rw [hd] at hris
   have hr1:FP.ris (Vbqzab.whole t.events.length) lo (x :: l.drop (i + 1))=(decide (lo≤x) && (decide (x < Vbqzab.whole t.events.length) && FP.ris (Vbqzab.whole t.events.length) (x + 1) (l.drop (i + 1)))):=rfl
   rw [hr1] at hris
   refine ⟨_,rfl,_,rfl,_,_,rfl,rfl,_,rfl,iteD (fun q=>?_) (fun q=>?_)⟩
   ·refine iteT ?_
    rw [hris,decide_eq_false (by omega),Bool.false_and] at k
    exact k
   ·refine ⟨_,rfl,_,rfl,p,C.record,dx,_,_,rfl,h1,T.record,T.rEvents,zd3 ..,le,_,rfl,.inl (SqL.of h4.lst),_,_,rfl,rfl,_,rfl,?_⟩
    rw [hel]
    refine iteD (fun q2=>?_) (fun q2=>?_)
    ·rw [hris,decide_eq_false (show ¬ x < Vbqzab.whole t.events.length by unfold Vbqzab.whole;omega),Bool.false_and,Bool.and_false] at k
     exact k
    ·refine ⟨_,rfl,_,_,rfl,rfl,x + 1,_,rfl,rfl,?_⟩
     rw [hris,decide_eq_true (show lo≤x by omega),decide_eq_true (show x < Vbqzab.whole t.events.length by unfold Vbqzab.whole;omega),Bool.true_and,Bool.true_and]
  ·rintro σ H2 ⟨lo,v3,rfl,rfl,hris⟩
   rw [List.length_map,List.drop_length] at hris
   rw [hris] at k
   exact k
abbrev zu3:Stmt:=top 73
abbrev n_rule_first:List Str:=["record", "row", "survey", "events"]
abbrev zo7:List Str:=["record", "row"]
theorem yi0:FnScope n_rule_first zo7 (defScope zu3):=⟨rfl,rfl,rfl,by decide +kernel,rfl,by decide +kernel,by decide +kernel⟩
def firstAns (s:State) (l:List Int):List Int:=if Vbqzab.risingIn s l=false then [-2] else if Vbqzab.fits (Vbqzab.bounds s) s.events.length=false then [-8] else
 if (if l.isEmpty=true then Vbqzab.pressesOf s else Vbqzab.nats l).isEmpty=true then [-9] else Vbqzab.firstAnswer s (if l.isEmpty=true then Vbqzab.pressesOf s else Vbqzab.nats l)
def spRuleFirst (C:Clss) (K:PySem.W.Frag):Sp:=fun vs H Q _=>∃ (p r:Addr) (s:State) (l:List Int),vs=[.ref p,.ref r]∧RecAt C H p s∧FP.Wf s∧SqL K H r (l.map V.int)∧l.length≤60∧NewAns H (firstAns s l) Q
theorem nats_nvs {l:List Int} (h:∀ x∈l,0≤x):l.map V.int=nvs (Vbqzab.nats l):=by
 unfold nvs Vbqzab.nats
 rw [List.map_map]
 refine List.map_congr_left fun x hx=>?_
 show V.int x=V.int ((x.toNat:Nat):Int)
 rw [Int.toNat_of_nonneg (h x hx)]
theorem xb7 {f:Addr} {fd:FuncData} {C:Clss} (F:Fun K "rule_first" "rule_first" zu3 f fd) (g_len:mg "len" = none) (g_NOT_AS_TOLD:GVal mg "NOT_AS_TOLD" (.int (-2))) (g_NO_HISTORY:GVal mg "NO_HISTORY" (.int (-8))) (g_NO_PRESS:GVal mg "NO_PRESS" (.int (-9)))
  (c_are_rising_events:CallOk P w K mg base "are_rising_events" 1 ze5 (spRising C K)) (m_Survey:MakeOk P w K mg base "Survey" C.survey 6 ze1 (spSurveyInit C)) (mt_has_history:MethOk P w K mg base C.survey "has_history" 1 zc5 (spHasHistory C)) (mt_presses:MethOk P w K mg base C.record "presses" 1 zf0 (spPresses C)) (c_first_of:CallOk P w K mg base "first_of" 4 zq5 (spFirstOf C K)):FnOk P w K mg base CX0 8 f fd zo7 (spRuleFirst C K):=by
 refine F.ok yi0 (fun vs H Q E h=>?_) (fun cdv A outer s H vs Q E hr h=>?_)
 ·obtain ⟨p,r,t,l,rfl,_⟩:=h
  rfl
 ·obtain ⟨p,r,t,l,rfl,hR,hW,hr0,hl60,k⟩:=h
  have nd:=yi0.nd
  have hI:=FP.zi7 hW
  have hne16:=hW.ne
  unfold firstAns at k
  refine ⟨_,(za1 (ps_if (zr4 (zd0 (zb6 c_are_rising_events (za0 (pv 0) (za0 (pv 1) za3)) hr) (fun _=>rfl))) (za4 (za6 (zb7 (za0 (pe_gv g_NOT_AS_TOLD) za3)))) zb1) (za1 (zb8 (i:=2) nd rfl (Or.inl rfl) (zh5 m_Survey (za0 (pv 0) za3) hr)) (za1 (ps_if (zr4 (zd0 (zn5 mt_has_history (pv 2) hr) (fun _=>rfl))) (za4 (za6 (zb7 (za0 (pe_gv g_NO_HISTORY) za3)))) zb1) (za1 (zb8 (i:=3) nd rfl (Or.inl rfl) (pe_ifExp (zb2 op_gt (zc0 zb4 (by rfl) g_len PySem.boot_len (za0 (pv 1) za3)) za9 (nomark _)) (pv 1) (zn5 mt_presses (pv 0) hr))) (za1 (ps_if (zb2 op_eq (zc0 zb4 (by rfl) g_len PySem.boot_len (za0 (pv 3) za3)) za9 (nomark _)) (za4 (za6 (zb7 (za0 (pe_gv g_NO_PRESS) za3)))) zb1) (za4 (za6 (zb6 c_first_of (za0 (pv 2) (za0 (pv 3) za3)) hr)))))))),?_⟩
  refine ⟨_,rfl,_,rfl,p,r,t,l,rfl,hR,hr0,_,rfl,?_⟩
  cases er:Vbqzab.risingIn t l with
  | false =>
   rw [if_pos er] at k
   exact iteT (zi0 k)
  | true =>
  rw [if_neg (by rw [er];decide)] at k
  refine iteF ⟨_,rfl,fun q dq0 hq0 hdq0 _=>⟨q,p,dq0,t,rfl,za2,hR.same (Same.new hq0 hdq0),hW,fun H1 hx1 hS=>⟨rfl,?_⟩⟩⟩
  have s1:Same H H1:=Same.made hq0 hdq0 hx1
  have k:=k.later s1
  obtain ⟨dq,lq,mq,asq,lsq,hq,_⟩:=hS.ex
  refine ⟨_,rfl,q,dq,_,rfl,hq,ya0,q,_,_,rfl,hS,hI,by omega,_,rfl,?_⟩
  cases ef:Vbqzab.fits (Vbqzab.bounds t) t.events.length with
  | false =>
   rw [if_pos ef] at k
   exact iteT (zi0 k)
  | true =>
  rw [if_neg (by rw [ef];decide)] at k
  have hN:=(FP.zv0 hI).mp ef
  refine iteF ?_
  by_cases c:l=[]
  ·subst c
   refine ⟨_,rfl,r,_,rfl,.inl (s1.seq hr0),_,_,rfl,rfl,_,rfl,iteF ?_⟩
   obtain ⟨dx,lb,le,lm,lv,dw,ab,ae,av,kvs,h1,_⟩:=(hR.same s1).ex
   refine ⟨_,rfl,p,dx,_,rfl,h1,rc_no,p,t,rfl,hR.same s1,hW,fun H2 e s2 he0 he=>?_⟩
   have k:NewAns H2 (if (Vbqzab.pressesOf t).isEmpty=true then [-9] else Vbqzab.firstAnswer t (Vbqzab.pressesOf t)) Q:=k.later s2
   have hpl:(Vbqzab.pressesOf t).length≤16:=Nat.le_trans (yd7 t 1 t.events.length) hne16
   refine ⟨_,rfl,e,_,rfl,.inl (SqL.of he),rfl,_,rfl,?_⟩
   rw [zd9]
   refine iteD (fun z=>?_) (fun z=>?_)
   ·have z':(((Vbqzab.pressesOf t).length:Nat):Int)=0:=V.int.inj z
    rw [if_pos (by rw [List.isEmpty_iff];exact List.eq_nil_of_length_eq_zero (by omega))] at k
    exact zi0 k
   ·rw [if_neg (fun z2=>z (by rw [List.isEmpty_iff.mp z2];rfl)),FP.zv2 hI hN (fun x hx=>FP.yq5 hx) (FP.xa8 t)] at k
    exact ⟨_,rfl,_,rfl,q,e,_,_,_,rfl,hS.same s2,hI,hN,SqL.of he,fun y hy=>FP.yq5 hy,by omega,k⟩
  ·have hle:¬ l.isEmpty=true:=fun z=>c (List.isEmpty_iff.mp z)
   have hlp:0 < l.length:=List.length_pos_iff.mpr c
   rw [← FP.ris_in] at er
   obtain ⟨q1,q2⟩:=FP.ris_all (Int.le_refl 0) er
   have hev:l.map V.int=nvs (Vbqzab.nats l):=nats_nvs fun x hx=>(q1 x hx).1
   have hr1:=s1.seq hr0
   have hnl:(Vbqzab.nats l).length=l.length:=List.length_map _
   have hin:∀ y∈Vbqzab.nats l,y < t.events.length:=fun y hy=>by
    obtain ⟨z,hz,rfl⟩:=List.mem_map.mp hy
    have:=q1 z hz
    unfold Vbqzab.whole at this
    omega
   rw [if_neg hle] at k
   rw [if_neg (fun z=>by rw [List.isEmpty_iff] at z;rw [z] at hnl;simp at hnl;omega),FP.zv2 hI hN hin (q2.imp fun h=>Nat.ne_of_lt h)] at k
   refine ⟨_,rfl,r,_,rfl,.inl hr1,_,_,rfl,rfl,_,rfl,?_⟩
   rw [List.length_map,decide_eq_true (show (0:Int) < (l.length:Int) by omega)]
   refine iteT ⟨_,rfl,?_⟩
   refine ⟨_,rfl,r,_,rfl,.inl hr1,rfl,_,rfl,?_⟩
   rw [List.length_map]
   refine iteD (fun z=>?_) (fun z=>?_)
   ·have z':((l.length:Nat):Int)=0:=V.int.inj z
    omega
   ·rw [hev] at hr1
    exact ⟨_,rfl,_,rfl,q,r,_,_,_,rfl,hS,hI,hN,hr1,hin,by omega,k⟩
abbrev yc9:Stmt:=top 79
abbrev n_less_one:List Str:=["record", "k"]
abbrev zw5:List Str:=["record", "k"]
theorem ys4:FnScope n_less_one zw5 (defScope yc9):=⟨rfl,rfl,rfl,by decide +kernel,rfl,by decide +kernel,by decide +kernel⟩
def spLessOne (C:Clss):Sp:=fun vs H Q _=>∃ (p:Addr) (s:State) (k:Nat),vs=[.ref p,.int k]∧RecAt C H p s∧FP.Wf s∧k < s.evidence.length∧∀ (H':Hp) (q:Addr),Same H H'→RecAt C H' q (Vbqzab.dropped s k)→Q (.ref q) H'
theorem cut_to {xs:List V} {j:Nat} (h:j≤xs.length):cutV xs none (some (j:Int))=xs.take j:=by
 unfold cutV HT.sIx
 simp only
 rw [if_neg (by omega),Int.toNat_natCast,Nat.min_eq_left h,List.drop_zero,Nat.sub_zero]
theorem ObsAt.eraseNew {α:Type} {R:Hp→Addr→α→Prop} {H H':Hp} {l l':Addr} {as:List Addr} {xs:List α} {k:Nat} (h:ObsAt R H l as xs) (s:Same H H') (hR:∀ a x,R H a x→R H' a x) (hl:H' l'=some (.lst ((as.map V.ref).take k++(as.map V.ref).drop (k + 1)))):ObsAt R H' l' (as.eraseIdx k) (xs.eraseIdx k):=by
 refine ⟨by rw [hl,← erase_map,List.eraseIdx_eq_take_drop_succ],by rw [List.length_eraseIdx,List.length_eraseIdx,h.len],fun i y hy=>?_⟩
 rw [yb9] at hy ⊢
 by_cases c:i < k
 ·rw [if_pos c] at hy ⊢
  obtain ⟨b,h1,h2⟩:=h.at_ i y hy
  exact ⟨b,h1,hR _ _ h2⟩
 ·rw [if_neg c] at hy ⊢
  obtain ⟨b,h1,h2⟩:=h.at_ (i + 1) y hy
  exact ⟨b,h1,hR _ _ h2⟩
theorem ok_less_one {f:Addr} {fd:FuncData} {C:Clss} (F:Fun K "less_one" "less_one" yc9 f fd) (T:ClssOk K C) (mt_but_with:MethOk P w K mg base C.record "but_with" 3 zf8 (spButWith C)):FnOk P w K mg base CX0 4 f fd zw5 (spLessOne C):=by
 refine F.ok ys4 (fun vs H Q E h=>?_) (fun cdv A outer s H vs Q E hr h=>?_)
 ·obtain ⟨p,t,k,rfl,_⟩:=h
  rfl
 ·obtain ⟨p,t,kk,rfl,hR,hW,hk,k⟩:=h
  have nd:=ys4.nd
  obtain ⟨dx,lb,le,lm,lv,dw,ab,ae,av,kvs,h1,h2,h3,h4,h5,h6⟩:=hR.ex
  have hvl:(av.map V.ref).length=t.evidence.length:=by rw [List.length_map,h5.len]
  have hnv:=hW.nv
  refine ⟨_,(za4 (za6 (zd4 mt_but_with (pv 0) (za0 (pe_at (pv 0)) (za0 (pe_op yj6 (yj2 ys1 (pe_at (pv 0)) po_none (yf8 (pv 1))) (yj2 ys1 (pe_at (pv 0)) (yf8 (pe_op zx2 (pv 1) za9)) po_none)) za3)) hr))),?_⟩
  refine ⟨_,rfl,p,dx,_,rfl,h1,rc_no,_,rfl,p,C.record,dx,_,_,rfl,h1,T.record,T.rEvents,zd3 ..,_,rfl,p,C.record,dx,_,_,rfl,h1,T.record,T.rEvidence,zc7 ..,_,rfl,_,rfl,lv,_,rfl,SqL.of h5.lst,fun U hU=>?_⟩
  dsimp only
  rw [cut_to (by rw [hvl];omega)]
  obtain ⟨H1,hH1⟩:∃ H1,H1=upd H U (.lst ((av.map V.ref).take kk)):=⟨_,rfl⟩
  have s1:Same H H1:=by rw [hH1];exact Same.laid hU
  have hU1:H1 U=some (.lst ((av.map V.ref).take kk)):=by rw [hH1];exact za2
  rw [← hH1]
  refine ⟨_,rfl,p,C.record,dx,_,_,rfl,s1 _ _ h1,T.record,T.rEvidence,zc7 ..,_,rfl,_,_,rfl,rfl,_,rfl,lv,_,rfl,SqL.of (s1 _ _ h5.lst),fun W hW0=>?_⟩
  dsimp only
  rw [show (kk:Int) + 1=((kk + 1:Nat):Int) by omega,cut_from (by rw [hvl];omega)]
  obtain ⟨H2,hH2⟩:∃ H2,H2=upd H1 W (.lst ((av.map V.ref).drop (kk + 1))):=⟨_,rfl⟩
  have s2:Same H1 H2:=by rw [hH2];exact Same.laid hW0
  have hW2:H2 W=some (.lst ((av.map V.ref).drop (kk + 1))):=by rw [hH2];exact za2
  rw [← hH2]
  refine ⟨U,W,_,_,rfl,rfl,s2 _ _ hU1,hW2,?_,fun X hX=>?_⟩
  ·rw [List.length_take,List.length_drop,hvl]
   exact zd5 (by omega)
  have s3:Same H2 (upd H2 X (.lst ((av.map V.ref).take kk++(av.map V.ref).drop (kk + 1)))):=Same.laid hX
  have s13:=(s1.trans s2).trans s3
  refine ⟨p,le,X,t,ae,av.eraseIdx kk,t.events,t.evidence.eraseIdx kk,rfl,hR.same s13,h4.same s13 ?_,h5.eraseNew s13 (fun a x h=>h.same s13) za2,fun H4 q s4 hq=>?_⟩
  ·rintro a x ⟨d,h⟩
   exact ⟨d,s13 _ _ h⟩
  ·exact k H4 q (s13.trans s4) hq
abbrev zl2:Stmt:=top 78
abbrev yk1:List Str:=["record", "x", "y", "survey", "k"]
abbrev zm0:List Str:=["record", "x", "y"]
theorem ye3:FnScope yk1 zm0 (defScope zl2):=⟨rfl,rfl,rfl,by decide +kernel,rfl,by decide +kernel,by decide +kernel⟩
def neededAns (s:State) (x y:Nat):List Int:=if Vbqzab.fits (Vbqzab.bounds s) s.events.length=false then [-8] else if Vbqzab.sureIn s x y=false then [-9] else Vbqzab.listed (Vbqzab.needed s x y)
def spRuleNeeded (C:Clss):Sp:=fun vs H Q _=>∃ (p:Addr) (s:State) (x y:Nat),vs=[.ref p,.int x,.int y]∧RecAt C H p s∧FP.Wf s∧x < s.events.length∧y < s.events.length∧NewAns H (neededAns s x y) Q
theorem yw1 {f:Addr} {fd:FuncData} {C:Clss} (F:Fun K "rule_needed" "rule_needed" zl2 f fd) (T:ClssOk K C) (g_len:mg "len" = none) (g_range:mg "range" = none) (g_NO_HISTORY:GVal mg "NO_HISTORY" (.int (-8))) (g_NOT_BEFORE:GVal mg "NOT_BEFORE" (.int (-9)))
  (m_Survey:MakeOk P w K mg base "Survey" C.survey 6 ze1 (spSurveyInit C)) (mt_has_history:MethOk P w K mg base C.survey "has_history" 1 zc5 (spHasHistory C)) (mt_is_before:MethOk P w K mg base C.survey "is_before" 1 zd8 (spIsBefore C)) (c_less_one:CallOk P w K mg base "less_one" 4 zw5 (spLessOne C)) (c_counted:CallOk P w K mg base "counted" 1 zh8 spCounted):FnOk P w K mg base CX0 8 f fd zm0 (spRuleNeeded C):=by
 refine F.ok ye3 (fun vs H Q E h=>?_) (fun cdv A outer s H vs Q E hr h=>?_)
 ·obtain ⟨p,t,x,y,rfl,_⟩:=h
  rfl
 ·obtain ⟨p,t,x,y,rfl,hR,hW,hx,hy,k⟩:=h
  have nd:=ye3.nd
  have hI:=FP.zi7 hW
  have hne16:=hW.ne
  have hnv:=hW.nv
  unfold neededAns at k
  refine ⟨_,(za1 (zb8 (i:=3) nd rfl (Or.inl rfl) (zh5 m_Survey (za0 (pv 0) za3) hr)) (za1 (ps_if (zr4 (zd0 (zn5 mt_has_history (pv 3) hr) (fun _=>rfl))) (za4 (za6 (zb7 (za0 (pe_gv g_NO_HISTORY) za3)))) zb1) (za1 (ps_if (zr4 (zd0 (zd4 mt_is_before (pv 3) (za0 (pv 1) (za0 (pv 2) za3)) hr) (fun _=>rfl))) (za4 (za6 (zb7 (za0 (pe_gv g_NOT_BEFORE) za3)))) zb1) (za4 (za6 (zb6 c_counted (za0 (pe_lc (own:=[("k",4)]) rfl nd (zl8 rfl g_range (za0 (zc0 zb4 (by rfl) g_len PySem.boot_len (za0 (pe_at (pv 0)) za3)) za3)) (zt0 (by show blkOkB yk1 (defScope zl2) _ _=true;decide +kernel)) (fun _ _ _ _ _=>(zc3 (i:=4) nd rfl (Or.inl rfl))) (fun _ _ _ _ _=>(yl6 (zr4 (pt_val (zd4 mt_is_before (zh5 m_Survey (za0 (zb6 c_less_one (za0 (pv 0) (za0 (pv 4) za3)) hr) za3) hr) (za0 (pv 1) (za0 (pv 2) za3)) hr))))) (fun _ _ _ _ _=>(pv 4))) za3) hr)))))),?_⟩
  refine ⟨_,rfl,fun q dq0 hq0 hdq0 _=>⟨q,p,dq0,t,rfl,za2,hR.same (Same.new hq0 hdq0),hW,fun H1 hx1 hS=>⟨rfl,?_⟩⟩⟩
  have s1:Same H H1:=Same.made hq0 hdq0 hx1
  have k:=k.later s1
  obtain ⟨dq,lq,mq,asq,lsq,hq,_⟩:=hS.ex
  refine ⟨_,rfl,q,dq,_,rfl,hq,ya0,q,_,_,rfl,hS,hI,by omega,_,rfl,?_⟩
  cases ef:Vbqzab.fits (Vbqzab.bounds t) t.events.length with
  | false =>
   rw [if_pos ef] at k
   exact iteT (zi0 k)
  | true =>
  rw [if_neg (by rw [ef];decide)] at k
  have hN:=(FP.zv0 hI).mp ef
  refine iteF ?_
  refine ⟨_,rfl,q,dq,_,rfl,hq,ya0,_,rfl,_,rfl,q,_,_,x,y,rfl,hS,hI,hN,hx,hy,_,rfl,?_⟩
  show if (!Vbqzab.sureIn t x y)=true then _ else _
  cases es:Vbqzab.sureIn t x y with
  | false =>
   rw [if_pos es] at k
   exact iteT (zi0 k)
  | true =>
  rw [if_neg (by rw [es];decide)] at k
  refine iteF ?_
  obtain ⟨dx,lb,le,lm,lv,dw,ab,ae,av,kvs,h1,h2,h3,h4,h5,h6⟩:=(hR.same s1).ex
  have hvl:(av.map V.ref).length=t.evidence.length:=by rw [List.length_map,h5.len]
  refine ⟨_,rfl,p,C.record,dx,_,_,rfl,h1,T.record,T.rEvidence,zc7 ..,lv,_,rfl,.inl (SqL.of h5.lst),?_⟩
  rw [hvl]
  refine ⟨(t.evidence.length:Int),rfl,by omega,by omega,fun D hD=>yq7 (fun i H'=>Same H1 H'∧H' D=some (.lst (nvs ((List.range i).filter fun k => !Vbqzab.sureIn (Vbqzab.dropped t k) x y)))) ⟨Same.laid hD,za2⟩ ?_ ?_⟩
  ·rintro i H2 hi ⟨s2,hD2⟩
   rw [Int.toNat_natCast] at hi
   rw [Int.zero_add]
   have hWd:=FP.yx5 hW i
   have hId:=FP.zi7 hWd
   have hNd:FP.NoNeg (Vbqzab.bounds (Vbqzab.dropped t i)):=FP.xc7 hN
   refine ⟨rfl,_,rfl,_,rfl,p,t,i,rfl,hR.same (s1.trans s2),hW,hi,fun H3 d s3 hd z dz0 hz0 hdz0 _=>⟨z,d,dz0,Vbqzab.dropped t i,rfl,za2,hd.same (Same.new hz0 hdz0),hWd,fun H4 hx4 hZ=>⟨rfl,?_⟩⟩⟩
   have s4:Same H3 H4:=Same.made hz0 hdz0 hx4
   obtain ⟨dz,lz,mz,asz,lsz,hz,_⟩:=hZ.ex
   refine ⟨z,dz,_,rfl,hz,ya0,_,rfl,_,rfl,z,_,_,x,y,rfl,hZ,hId,hNd,hx,hy,_,rfl,?_⟩
   have s34:=s3.trans s4
   have hf:(List.range (i + 1)).filter (fun k => !Vbqzab.sureIn (Vbqzab.dropped t k) x y)=if (!Vbqzab.sureIn (Vbqzab.dropped t i) x y)=true then (List.range i).filter (fun k => !Vbqzab.sureIn (Vbqzab.dropped t k) x y)++[i] else (List.range i).filter (fun k => !Vbqzab.sureIn (Vbqzab.dropped t k) x y):=by
    rw [List.range_succ,List.filter_append,List.filter_cons,List.filter_nil]
    split
    ·rfl
    ·exact List.append_nil _
   show if (!Vbqzab.sureIn (Vbqzab.dropped t i) x y)=true then _ else _
   cases c:Vbqzab.sureIn (Vbqzab.dropped t i) x y with
   | true =>
    rw [if_neg (by rw [c];decide)] at hf
    refine iteF ⟨s2.trans s34,?_⟩
    rw [hf]
    exact s34 _ _ hD2
   | false =>
    rw [if_pos (by rw [c];rfl)] at hf
    refine iteT ⟨_,rfl,_,s34 _ _ hD2,?_,(s2.trans s34).over hD,?_⟩
    ·rw [zd9]
     have:=List.length_filter_le (fun k => !Vbqzab.sureIn (Vbqzab.dropped t k) x y) (List.range i)
     rw [List.length_range] at this
     exact small1000 (by omega)
    ·rw [za2,hf]
     exact congrArg (fun z=>some (HO.lst z)) (yk0 _ _)
  ·rintro H2 ⟨s2,hD2⟩
   rw [Int.toNat_natCast] at hD2
   have hnl:(Vbqzab.needed t x y).length≤24:=by
    refine Nat.le_trans (List.length_filter_le _ _) ?_
    rw [List.length_range]
    exact hnv
   exact zs9 (l:=Vbqzab.needed t x y) hD2 (by omega) (k.later s2)
end
end FPP
namespace FPP
open PySem PySem.Spec PyProof.Rows L2
open Vbqzab (Bound Table at_ State Box Wire Evidence)
section
variable {P:Program} {w:World} {K:PySem.W.Frag} {mg:Str→Option Value} {base:Heap}
abbrev zl1:Stmt:=top 81
abbrev yu1:List Str:=["record", "m", "i", "stamp", "refusal"]
abbrev zh7:List Str:=["record", "m", "i", "stamp"]
theorem ya1:FnScope yu1 zh7 (defScope zl1):=⟨rfl,rfl,rfl,by decide +kernel,rfl,by decide +kernel,by decide +kernel⟩
def refuseW (s:State) (m i t:Nat):Option Int:=match refuseE s i t with
 | some e=>some e
 | none=>if Vbqzab.EVIDENCE≤s.evidence.length then some (-7) else refuseH s m (Vbqzab.teamOf s i)
def spWouldRefusal (C:Clss):Sp:=fun vs H Q _=>∃ (p:Addr) (s:State) (m i t:Nat),vs=[.ref p,.int m,.int i,.int t]∧RecAt C H p s∧FP.Wf s∧m < s.sent.length∧i < s.boxes.length∧∀ H',Same H H'→Q (ov (refuseW s m i t)) H'
theorem yo8 {f:Addr} {fd:FuncData} {C:Clss} (F:Fun K "would_refusal" "would_refusal" zl1 f fd) (T:ClssOk K C) (g_FULL:GVal mg "FULL" (.int (-7))) (c_event_refusal:CallOk P w K mg base "event_refusal" 3 zf7 (spEventRefusal C)) (mt_is_full:MethOk P w K mg base C.record "is_full" 2 zc9 (spIsFull C)) (c_hearing_refusal:CallOk P w K mg base "hearing_refusal" 2 ze4 (spHearingRefusal C)):FnOk P w K mg base CX0 4 f fd zh7 (spWouldRefusal C):=by
 refine F.ok ya1 (fun vs H Q E h=>?_) (fun cdv A outer s H vs Q E hr h=>?_)
 ·obtain ⟨p,t,m,i,st,rfl,_⟩:=h
  rfl
 ·obtain ⟨p,t,m,i,st,rfl,hR,hW,hm,hi,k⟩:=h
  have nd:=ya1.nd
  obtain ⟨dx,lb,le,lm,lv,dw,ab,ae,av,kvs,h1,h2,h3,h4,h5,h6⟩:=hR.ex
  obtain ⟨b,hb⟩:=FP.zc2 hi
  obtain ⟨c,hc1,dc,hc2⟩:=h3.at_ i _ (zj6 hb)
  unfold refuseW at k
  refine ⟨_,(za1 (zb8 (i:=4) nd rfl (Or.inl rfl) (zb6 c_event_refusal (za0 (pv 0) (za0 (pv 2) (za0 (pv 3) za3))) hr)) (za1 (ps_if (zb2 zp4 (pv 4) zg0 (nomark _)) (za4 (za6 (pv 4))) zb1) (za1 (ps_if (zd0 (zd4 mt_is_full (pv 0) (za0 ya4 za3) hr) (fun _=>rfl)) (za4 (za6 (pe_gv g_FULL))) zb1) (za4 (za6 (zb6 c_hearing_refusal (za0 (pv 0) (za0 (pv 1) (za0 (pe_at (zb3 zb0 (pe_at (pv 0)) (pv 2))) za3))) hr)))))),?_⟩
  refine ⟨_,rfl,_,rfl,_,rfl,p,t,i,st,rfl,hR,hi,?_⟩
  cases e:refuseE t i st with
  | some z =>
   rw [e] at k
   exact ⟨_,rfl,rfl,_,rfl,iteT ⟨_,rfl,k _ (Same.refl H)⟩⟩
  | none =>
   rw [e] at k
   refine ⟨_,rfl,rfl,_,rfl,iteF ?_⟩
   refine ⟨_,rfl,p,dx,_,rfl,h1,rc_no,p,t, "evidence",t.evidence.length,0,23,rfl,hR,(by unfold cnt;rw [if_neg (by decide +kernel),if_neg (by decide +kernel),if_neg (by decide +kernel),if_pos rfl]),by decide +kernel,_,rfl,iteD (fun q3=>?_) (fun q3=>?_)⟩
   ·have k:=k _ (Same.refl H)
    dsimp only at k
    rw [if_pos (by unfold Vbqzab.EVIDENCE;omega)] at k
    exact k
   ·refine ⟨_,rfl,_,rfl,_,rfl,p,C.record,dx,_,_,rfl,h1,T.record,T.rBoxes,zf1 ..,_,rfl,lb,_,_,_,rfl,rfl,SqL.of h3.lst,za8 (zc8 hc1),c,C.box,dc,_,_,rfl,hc2,T.box,T.bTeam,yg9 _ _,p,t,m,b.team,rfl,hR,hW,hm,fun H' s'=>?_⟩
    have k:=k _ s'
    dsimp only at k
    rw [if_neg (by unfold Vbqzab.EVIDENCE;omega),FP.zh0 hb] at k
    exact k
abbrev zu1:Stmt:=top 80
abbrev n_rule_would:List Str:=["record", "m", "i", "stamp", "refusal", "presses", "hearing", "more", "survey"]
abbrev zo5:List Str:=["record", "m", "i", "stamp"]
theorem yh8:FnScope n_rule_would zo5 (defScope zu1):=⟨rfl,rfl,rfl,by decide +kernel,rfl,by decide +kernel,by decide +kernel⟩
def wouldAns (s:State) (m i t:Nat):List Int:=match refuseW s m i t with
 | some e=>[e]
 | none=>if (Vbqzab.pressesOf s).isEmpty=true then [-9] else if Vbqzab.fits (Vbqzab.bounds (FP.withHeard s m i t)) (FP.withHeard s m i t).events.length=false then [-10] else Vbqzab.firstAnswer (FP.withHeard s m i t) (Vbqzab.pressesOf s)
def spRuleWould (C:Clss):Sp:=fun vs H Q _=>∃ (p:Addr) (s:State) (m i t:Nat),vs=[.ref p,.int m,.int i,.int t]∧RecAt C H p s∧FP.Wf s∧m < s.sent.length∧i < s.boxes.length∧t≤1000000000∧NewAns H (wouldAns s m i t) Q
theorem wf_with {s:State} (h:FP.Wf s) {m i t:Nat} (hm:m < s.sent.length) (hi:i < s.boxes.length) (ht:t≤1000000000) (e:refuseW s m i t=none):FP.Wf (FP.withHeard s m i t):=by
 unfold refuseW refuseE refuseH at e
 by_cases c1:Vbqzab.isOld s i=true
 ·rw [if_pos c1] at e;cases e
 rw [if_neg c1] at e
 by_cases c2:t < Vbqzab.lastStamp s i
 ·rw [if_pos c2] at e;cases e
 rw [if_neg c2] at e
 by_cases c3:Vbqzab.EVENTS≤s.events.length
 ·rw [if_pos c3] at e;cases e
 rw [if_neg c3] at e
 dsimp only at e
 by_cases c4:Vbqzab.EVIDENCE≤s.evidence.length
 ·rw [if_pos c4] at e;cases e
 rw [if_neg c4] at e
 by_cases c5:Vbqzab.teamAt s (s.sent.getD m 0)=Vbqzab.teamOf s i
 ·rw [if_pos c5] at e;cases e
 rw [if_neg c5] at e
 by_cases c6:(Vbqzab.wireOf s (Vbqzab.teamAt s (s.sent.getD m 0)) (Vbqzab.teamOf s i)).isNone=true
 ·rw [if_pos c6] at e;cases e
 unfold Vbqzab.EVENTS at c3
 unfold Vbqzab.EVIDENCE at c4
 refine FP.wf_would h hi (by omega) ht (by omega) (by omega) hm c5 ?_
 cases q:Vbqzab.wireOf s (Vbqzab.teamAt s (s.sent.getD m 0)) (Vbqzab.teamOf s i) with
 | none=>rw [q] at c6;exact absurd rfl c6
 | some v=>exact ⟨v,rfl⟩
theorem ObsAt.pushNew {α:Type} {R:Hp→Addr→α→Prop} {H H':Hp} {l l' a:Addr} {as:List Addr} {xs:List α} {x:α} (h:ObsAt R H l as xs) (hR:∀ b y,R H b y→R H' b y) (ha:R H' a x) (hl:H' l'=some (.lst (as.map V.ref++[V.ref a]))):ObsAt R H' l' (as++[a]) (xs++[x]):=by
 refine ⟨by rw [hl,List.map_append];rfl,by rw [List.length_append,List.length_append,h.len];rfl,fun i y hy=>?_⟩
 rcases FP.zk2 hy with hy | ⟨rfl,rfl⟩
 ·obtain ⟨b,h1,h2⟩:=h.at_ i y hy
  exact ⟨b,by rw [FP.zg4 (List.getElem?_eq_some_iff.mp h1).1];exact h1,hR _ _ h2⟩
 ·exact ⟨a,by rw [← h.len,List.getElem?_append_right (Nat.le_refl _),Nat.sub_self];rfl,ha⟩
theorem xb5 {f:Addr} {fd:FuncData} {C:Clss} (F:Fun K "rule_would" "rule_would" zu1 f fd) (T:ClssOk K C) (g_len:mg "len" = none) (g_NO_PRESS:GVal mg "NO_PRESS" (.int (-9))) (g_WOULD_BREAK:GVal mg "WOULD_BREAK" (.int (-10))) (g_PLAIN:GVal mg "PLAIN" (.int 0))
  (c_would_refusal:CallOk P w K mg base "would_refusal" 4 zh7 (spWouldRefusal C)) (mt_presses:MethOk P w K mg base C.record "presses" 1 zf0 (spPresses C)) (m_Hearing:MakeOk P w K mg base "Hearing" C.hearing 1 zh2 (spHearingInit C.hearing)) (m_Event:MakeOk P w K mg base "Event" C.event 1 zk7 (spEventInit C.event)) (mt_but_with:MethOk P w K mg base C.record "but_with" 3 zf8 (spButWith C)) (m_Survey:MakeOk P w K mg base "Survey" C.survey 6 ze1 (spSurveyInit C)) (mt_has_history:MethOk P w K mg base C.survey "has_history" 1 zc5 (spHasHistory C)) (c_first_of:CallOk P w K mg base "first_of" 4 zq5 (spFirstOf C K)):FnOk P w K mg base CX0 8 f fd zo5 (spRuleWould C):=by
 refine F.ok yh8 (fun vs H Q E h=>?_) (fun cdv A outer s H vs Q E hr h=>?_)
 ·obtain ⟨p,t,m,i,st,rfl,_⟩:=h
  rfl
 ·obtain ⟨p,t,m,i,st,rfl,hR,hW,hm,hi,hst,k⟩:=h
  have nd:=yh8.nd
  have hne16:=hW.ne
  have hnv:=hW.nv
  unfold wouldAns at k
  refine ⟨_,(za1 (zb8 (i:=4) nd rfl (Or.inl rfl) (zb6 c_would_refusal (za0 (pv 0) (za0 (pv 1) (za0 (pv 2) (za0 (pv 3) za3)))) hr)) (za1 (ps_if (zb2 zp4 (pv 4) zg0 (nomark _)) (za4 (za6 (zb7 (za0 (pv 4) za3)))) zb1) (za1 (zb8 (i:=5) nd rfl (Or.inl rfl) (zn5 mt_presses (pv 0) hr)) (za1 (ps_if (zb2 op_eq (zc0 zb4 (by rfl) g_len PySem.boot_len (za0 (pv 5) za3)) za9 (nomark _)) (za4 (za6 (zb7 (za0 (pe_gv g_NO_PRESS) za3)))) zb1) (za1 (zb8 (i:=6) nd rfl (Or.inl rfl) (zh5 m_Hearing (za0 (pv 1) (za0 (zc0 zb4 (by rfl) g_len PySem.boot_len (za0 (pe_at (pv 0)) za3)) za3)) hr)) (za1 (zb8 (i:=7) nd rfl (Or.inl rfl) (zd4 mt_but_with (pv 0) (za0 (pe_op yj6 (pe_at (pv 0)) (zb7 (za0 (zh5 m_Event (za0 (pv 2) (za0 (pv 3) (za0 (pe_gv g_PLAIN) za3))) hr) za3))) (za0 (pe_op yj6 (pe_at (pv 0)) (zb7 (za0 (pv 6) za3))) za3)) hr)) (za1 (zb8 (i:=8) nd rfl (Or.inl rfl) (zh5 m_Survey (za0 (pv 7) za3) hr)) (za1 (ps_if (zr4 (zd0 (zn5 mt_has_history (pv 8) hr) (fun _=>rfl))) (za4 (za6 (zb7 (za0 (pe_gv g_WOULD_BREAK) za3)))) zb1) (za4 (za6 (zb6 c_first_of (za0 (pv 8) (za0 (pv 5) za3)) hr))))))))))),?_⟩
  refine ⟨_,rfl,_,rfl,_,rfl,_,rfl,p,t,m,i,st,rfl,hR,hW,hm,hi,fun H1 s1=>?_⟩
  have k:=k.later s1
  cases er:refuseW t m i st with
  | some z =>
   rw [er] at k
   exact ⟨_,rfl,rfl,_,rfl,iteT ⟨_,rfl,zi0 k⟩⟩
  | none =>
  rw [er] at k
  dsimp only at k
  have hW2:=wf_with hW hm hi hst er
  refine ⟨_,rfl,rfl,_,rfl,iteF ?_⟩
  have hR1:=hR.same s1
  obtain ⟨dx,lb,le,lm,lv,dw,ab,ae,av,kvs,h1,h2,h3,h4,h5,h6⟩:=hR1.ex
  have hno:∀ m:Str,m = "presses" ∨ m = "but_with" → (rcfs lb le lm lv dw).lookup m=none:=by
   rintro m (rfl | rfl) <;> exact rc_no
  have hel:(ae.map V.ref).length=t.events.length:=by rw [List.length_map,h4.len]
  have hvl:(av.map V.ref).length=t.evidence.length:=by rw [List.length_map,h5.len]
  refine ⟨_,rfl,p,dx,_,rfl,h1,hno _ (.inl rfl),p,t,rfl,hR1,hW,fun H2 e s2 he0 he=>?_⟩
  have k:=k.later s2
  have hpl:(Vbqzab.pressesOf t).length≤16:=Nat.le_trans (yd7 t 1 t.events.length) hne16
  refine ⟨_,rfl,e,_,rfl,.inl (SqL.of he),rfl,_,rfl,?_⟩
  rw [zd9]
  refine iteD (fun z=>?_) (fun z=>?_)
  ·have z':(((Vbqzab.pressesOf t).length:Nat):Int)=0:=V.int.inj z
   rw [if_pos (by rw [List.isEmpty_iff];exact List.eq_nil_of_length_eq_zero (by omega))] at k
   exact zi0 k
  rw [if_neg (fun z2=>z (by rw [List.isEmpty_iff.mp z2];rfl))] at k
  refine ⟨_,rfl,_,rfl,p,C.record,dx,_,_,rfl,s2 _ _ h1,T.record,T.rEvents,zd3 ..,le,_,rfl,.inl (SqL.of (s2 _ _ h4.lst)),fun g dg hg0 hdg _=>⟨g,dg,m,t.events.length,by rw [hel];rfl,za2,?_⟩⟩
  rw [zc6]
  obtain ⟨H3,hH3⟩:∃ H3,H3=upd (upd H2 dg (.own g)) g (.ins C.hearing dg (hrfs m t.events.length)):=⟨_,rfl⟩
  have s3:Same H2 H3:=by rw [hH3];exact Same.new hg0 hdg
  have hg:H3 g=some (.ins C.hearing dg (hrfs m t.events.length)):=by rw [hH3];exact za2
  rw [← hH3]
  have s23:=s2.trans s3
  refine ⟨rfl,_,rfl,p,dx,_,rfl,s23 _ _ h1,hno _ (.inr rfl),_,rfl,p,C.record,dx,_,_,rfl,s23 _ _ h1,T.record,T.rEvents,zd3 ..,_,rfl,_,rfl,fun c dc hc0 hdc _=>⟨c,dc,⟨i,st,0⟩,rfl,za2,?_⟩⟩
  rw [zc6]
  obtain ⟨H4,hH4⟩:∃ H4,H4=upd (upd H3 dc (.own c)) c (.ins C.event dc (evfs ⟨i,st,0⟩)):=⟨_,rfl⟩
  have s4:Same H3 H4:=by rw [hH4];exact Same.new hc0 hdc
  have hc:H4 c=some (.ins C.event dc (evfs ⟨i,st,0⟩)):=by rw [hH4];exact za2
  rw [← hH4]
  refine ⟨rfl,(sz1),fun U hU=>?_⟩
  have s5:Same H4 (upd H4 U (.lst [V.ref c])):=Same.laid hU
  have s25:=(s23.trans s4).trans s5
  refine ⟨le,U,_,_,rfl,rfl,s25 _ _ h4.lst,za2,by rw [hel];show _ + 1≤sizeLine;exact zd5 (by omega),fun LE hLE=>?_⟩
  obtain ⟨H6,hH6⟩:∃ H6,H6=upd (upd H4 U (.lst [V.ref c])) LE (.lst (ae.map V.ref++[V.ref c])):=⟨_,rfl⟩
  have s6:Same (upd H4 U (.lst [V.ref c])) H6:=by rw [hH6];exact Same.laid hLE
  have hLE6:H6 LE=some (.lst (ae.map V.ref++[V.ref c])):=by rw [hH6];exact za2
  rw [← hH6]
  have s26:=s25.trans s6
  refine ⟨_,rfl,p,C.record,dx,_,_,rfl,s26 _ _ h1,T.record,T.rEvidence,zc7 ..,_,rfl,(sz1),fun W hW0=>?_⟩
  have s7:Same H6 (upd H6 W (.lst [V.ref g])):=Same.laid hW0
  have s27:=s26.trans s7
  refine ⟨lv,W,_,_,rfl,rfl,s27 _ _ h5.lst,za2,by rw [hvl];show _ + 1≤sizeLine;exact zd5 (by omega),fun LV hLV=>?_⟩
  obtain ⟨H8,hH8⟩:∃ H8,H8=upd (upd H6 W (.lst [V.ref g])) LV (.lst (av.map V.ref++[V.ref g])):=⟨_,rfl⟩
  have s8:Same (upd H6 W (.lst [V.ref g])) H8:=by rw [hH8];exact Same.laid hLV
  have hLV8:H8 LV=some (.lst (av.map V.ref++[V.ref g])):=by rw [hH8];exact za2
  rw [← hH8]
  have s28:=s27.trans s8
  have s68:=s7.trans s8
  have s48:=(s5.trans s6).trans s68
  refine ⟨p,LE,LV,t,ae++[c],av++[g],t.events++[⟨i,st,0⟩],t.evidence++[.hearing m t.events.length],rfl,hR1.same s28,h4.pushNew ?_ ⟨dc,s48 _ _ hc⟩ (s68 _ _ hLE6),h5.pushNew (x := .hearing m t.events.length) (fun a x h=>h.same s28) (show EvdAt C H8 g (.hearing m t.events.length) from ⟨dg,(s4.trans s48) _ _ hg⟩) hLV8,fun H9 q s9 hq=>?_⟩
  ·rintro a x ⟨d,h⟩
   exact ⟨d,s28 _ _ h⟩
  have hq:RecAt C H9 q (FP.withHeard t m i st):=hq
  have hI:=FP.zi7 hW2
  have hel2:(FP.withHeard t m i st).events.length=t.events.length + 1:=by
   show (t.events++[_]).length=_
   rw [List.length_append]
   rfl
  refine ⟨_,rfl,fun z dz0 hz0 hdz0 _=>⟨z,q,dz0,FP.withHeard t m i st,rfl,za2,hq.same (Same.new hz0 hdz0),hW2,fun H10 hx10 hZ=>⟨rfl,?_⟩⟩⟩
  have s10:Same H9 H10:=Same.made hz0 hdz0 hx10
  have s2t:=(((s3.trans s4).trans s48).trans s9).trans s10
  have k:=k.later s2t
  obtain ⟨dz,lz,mz,asz,lsz,hz,_⟩:=hZ.ex
  refine ⟨_,rfl,z,dz,_,rfl,hz,ya0,z,_,_,rfl,hZ,hI,by omega,_,rfl,?_⟩
  cases ef:Vbqzab.fits (Vbqzab.bounds (FP.withHeard t m i st)) (FP.withHeard t m i st).events.length with
  | false =>
   rw [if_pos ef] at k
   exact iteT (zi0 k)
  | true =>
  have hN:=(FP.zv0 hI).mp ef
  have hin:∀ y∈Vbqzab.pressesOf t,y < (FP.withHeard t m i st).events.length:=fun y hy=>by
   have:=FP.yq5 hy
   omega
  rw [if_neg (by rw [ef];decide),FP.zv2 hI hN hin (FP.xa8 t)] at k
  exact iteF ⟨_,rfl,_,rfl,z,e,_,_,_,rfl,hZ,hI,hN,SqL.of (s2t _ _ he),hin,by omega,k⟩
abbrev zq0:Stmt:=top 84
abbrev xd3:List Str:=["record", "survey", "team", "x", "report"]
abbrev zm3:List Str:=["record", "survey", "team", "x"]
theorem ye6:FnScope xd3 zm3 (defScope zq0):=⟨rfl,rfl,rfl,by decide +kernel,rfl,by decide +kernel,by decide +kernel⟩
def openIs (s:State) (x i:Nat):Bool:=i != Vbqzab.teamAt s x && !((Vbqzab.reportOf s i).any fun r=>Vbqzab.surelyNotBehind (Vbqzab.bounds s) s.events.length x r)
def spUnclosed (C:Clss):Sp:=fun vs H Q _=>∃ (p q:Addr) (s:State) (i x:Nat),vs=[.ref p,.ref q,.int i,.int x]∧RecAt C H p s∧FP.Wf s∧SvAt C.survey C.bound H q (Vbqzab.bounds s) s.events.length (FP.fw (Vbqzab.bounds s) s.events.length)∧FP.NoNeg (Vbqzab.bounds s)∧x < s.events.length∧∀ H',Same H H'→Q (.bl (openIs s x i)) H'
theorem yw6 {f:Addr} {fd:FuncData} {C:Clss} (F:Fun K "is_unclosed" "is_unclosed" zq0 f fd) (mt_team_of:MethOk P w K mg base C.record "team_of" 1 zd1 (spTeamOf C)) (mt_last_report:MethOk P w K mg base C.record "last_report" 2 zf4 (spLastReport C)) (mt_is_not_behind:MethOk P w K mg base C.survey "is_not_behind" 1 zd7 (spNotBehind C)):FnOk P w K mg base CX0 3 f fd zm3 (spUnclosed C):=by
 refine F.ok ye6 (fun vs H Q E h=>?_) (fun cdv A outer s H vs Q E hr h=>?_)
 ·obtain ⟨p,q,t,i,x,rfl,_⟩:=h
  rfl
 ·obtain ⟨p,q,t,i,x,rfl,hR,hW,hS,hN,hx,k⟩:=h
  have nd:=ye6.nd
  have hI:=FP.zi7 hW
  obtain ⟨dx,lb,le,lm,lv,dw,ab,ae,av,kvs,h1,h2,h3,h4,h5,h6⟩:=hR.ex
  have hno:∀ m:Str,m = "team_of" ∨ m = "last_report" → (rcfs lb le lm lv dw).lookup m=none:=by
   rintro m (rfl | rfl) <;> exact rc_no
  unfold openIs at k
  refine ⟨_,(za1 (ps_if (zb2 op_eq (pv 2) (zd4 mt_team_of (pv 0) (za0 (pv 3) za3) hr) (nomark _)) (za4 (za6 pe_bl)) zb1) (za1 (zb8 (i:=4) nd rfl (Or.inl rfl) (zd4 mt_last_report (pv 0) (za0 (pv 2) za3) hr)) (za4 (za6 (pe_or (zv1 yy4 (pv 4) zg0 (nomark _)) (pe_one (pe_not (zd4 mt_is_not_behind (pv 1) (za0 (pv 3) (za0 (pv 4) za3)) hr)))))))),?_⟩
  refine ⟨_,rfl,_,rfl,p,dx,_,rfl,h1,hno _ (.inl rfl),_,rfl,p,t,x,rfl,hR,hW,hx,rfl,_,rfl,iteD (fun c=>?_) (fun c=>?_)⟩
  ·have c':((i:Nat):Int)=(Vbqzab.teamAt t x:Int):=V.int.inj c
   have e:i=Vbqzab.teamAt t x:=by omega
   rw [show (i != Vbqzab.teamAt t x)=false by rw [e];exact bne_self_eq_false _,Bool.false_and] at k
   exact k _ (Same.refl H)
  have e:(i != Vbqzab.teamAt t x)=true:=bne_iff_ne.mpr fun z=>c (by rw [z])
  rw [e,Bool.true_and] at k
  refine ⟨_,rfl,p,dx,_,rfl,h1,hno _ (.inr rfl),_,rfl,p,t,i,rfl,hR,hW,fun H1 s1=>?_⟩
  cases er:Vbqzab.reportOf t i with
  | none =>
   rw [er] at k
   exact ⟨_,rfl,rfl,_,rfl,iteT (k _ s1)⟩
  | some r =>
   rw [er] at k
   obtain ⟨dq,lq,mq,asq,lsq,hq,_⟩:=(hS.same s1).ex
   exact ⟨_,rfl,rfl,_,rfl,iteF ⟨_,rfl,q,dq,_,rfl,hq,ya0,_,rfl,_,rfl,q,_,_,x,r,rfl,hS.same s1,hI,hN,hx,FP.reportOf_lt er,_,rfl,k _ s1⟩⟩
abbrev zg5:Stmt:=top 83
abbrev ya5:List Str:=["record", "survey", "x", "team"]
abbrev zg7:List Str:=["record", "survey", "x"]
theorem zv3:FnScope ya5 zg7 (defScope zg5):=⟨rfl,rfl,rfl,by decide +kernel,rfl,by decide +kernel,by decide +kernel⟩
def spUnclosedTeams (C:Clss):Sp:=fun vs H Q _=>∃ (p q:Addr) (s:State) (x:Nat),vs=[.ref p,.ref q,.int x]∧RecAt C H p s∧FP.Wf s∧SvAt C.survey C.bound H q (Vbqzab.bounds s) s.events.length (FP.fw (Vbqzab.bounds s) s.events.length)∧FP.NoNeg (Vbqzab.bounds s)∧x < s.events.length∧NewNs H (Vbqzab.open_ s x) Q
theorem yl7 {f:Addr} {fd:FuncData} {C:Clss} (F:Fun K "unclosed_teams" "unclosed_teams" zg5 f fd) (mt_teams:MethOk P w K mg base C.record "teams" 1 zn6 (spTeams C)) (c_is_unclosed:CallOk P w K mg base "is_unclosed" 3 zm3 (spUnclosed C)):FnOk P w K mg base CX0 4 f fd zg7 (spUnclosedTeams C):=by
 refine F.ok zv3 (fun vs H Q E h=>?_) (fun cdv A outer s H vs Q E hr h=>?_)
 ·obtain ⟨p,q,t,x,rfl,_⟩:=h
  rfl
 ·obtain ⟨p,q,t,x,rfl,hR,hW,hS,hN,hx,k⟩:=h
  have nd:=zv3.nd
  have eo:Vbqzab.open_ t x=(Vbqzab.teams t).filter (openIs t x):=rfl
  rw [eo] at k
  have hnb:=hW.nb
  have htl:(Vbqzab.teams t).length≤8:=Nat.le_trans (yf6 t t.boxes.length) hnb
  obtain ⟨dx,lb,le,lm,lv,dw,ab,ae,av,kvs,h1,_⟩:=hR.ex
  refine ⟨_,(za4 (za6 (pe_lc (own:=[("team",3)]) rfl nd (zj0 (zn5 mt_teams (pv 0) hr)) (zt0 (by show blkOkB ya5 (defScope zg5) _ _=true;decide +kernel)) (fun _ _ _ _ _=>(zc3 (i:=3) nd rfl (Or.inl rfl))) (fun _ _ _ _ _=>(yl6 (pt_val (zb6 c_is_unclosed (za0 (pv 0) (za0 (pv 1) (za0 (pv 3) (za0 (pv 2) za3)))) hr)))) (fun _ _ _ _ _=>(pv 3))))),?_⟩
  refine ⟨_,rfl,p,dx,_,rfl,h1,rc_no,p,t,rfl,hR,hW,fun H1 e s1 he0 he=>?_⟩
  have k:=k.later s1
  generalize hts:Vbqzab.teams t=ts at k he htl
  refine ⟨e,rfl,⟨_,SqL.of he⟩,fun D hD=>yb8 (K:=K) (a:=e) (xs:=nvs ts) (fun i H'=>Same H1 H'∧H' D=some (.lst (nvs ((ts.take i).filter (openIs t x))))) ⟨Same.laid hD,za2⟩ (fun i H' _ h=>SqL.of (h.1 _ _ he)) ?_ ?_⟩
  ·rintro i v H2 hv ⟨s2,hD2⟩
   obtain ⟨a,rfl,ha⟩:=xc9 hv
   have hf:=yv3 (f:=openIs t x) ha
   refine ⟨rfl,_,rfl,_,rfl,_,rfl,_,rfl,p,q,t,a,x,rfl,hR.same (s1.trans s2),hW,hS.same (s1.trans s2),hN,hx,fun H3 s3=>⟨_,rfl,?_⟩⟩
   cases c:openIs t x a with
   | false =>
    rw [if_neg (by rw [c];decide)] at hf
    refine iteF ⟨s2.trans s3,?_⟩
    rw [hf]
    exact s3 _ _ hD2
   | true =>
    rw [if_pos c] at hf
    refine iteT ⟨_,rfl,_,s3 _ _ hD2,?_,(s2.trans s3).over hD,?_⟩
    ·rw [zd9]
     have:=List.length_filter_le (openIs t x) (ts.take i)
     rw [List.length_take] at this
     exact small1000 (by omega)
    ·rw [za2,hf]
     exact congrArg (fun z=>some (HO.lst z)) (yk0 _ _)
  ·rintro H2 ⟨s2,hD2⟩
   rw [zd9,List.take_length] at hD2
   exact k H2 D s2 hD hD2
abbrev zu2:Stmt:=top 82
abbrev n_rule_ruled:List Str:=["record", "survey", "presses", "able", "left"]
abbrev zo6:List Str:=["record"]
theorem yh9:FnScope n_rule_ruled zo6 (defScope zu2):=⟨rfl,rfl,rfl,by decide +kernel,rfl,by decide +kernel,by decide +kernel⟩
def ruledAns (s:State):List Int:=if Vbqzab.fits (Vbqzab.bounds s) s.events.length=false then [-8] else match Vbqzab.pressesOf s with
 | []=>[-9]
 | l=>match Vbqzab.surelyFirst (Vbqzab.bounds s) s.events.length l with
  | none=>[0,0]
  | some x=>match Vbqzab.open_ s x with
   | []=>[1,Vbqzab.whole x]
   | q=>0 :: Vbqzab.listed q
def spRuleRuled (C:Clss):Sp:=fun vs H Q _=>∃ (p:Addr) (s:State),vs=[.ref p]∧RecAt C H p s∧FP.Wf s∧NewAns H (ruledAns s) Q
theorem xb6 {f:Addr} {fd:FuncData} {C:Clss} (F:Fun K "rule_ruled" "rule_ruled" zu2 f fd) (g_len:mg "len" = none) (g_NO_HISTORY:GVal mg "NO_HISTORY" (.int (-8))) (g_NO_PRESS:GVal mg "NO_PRESS" (.int (-9)))
  (m_Survey:MakeOk P w K mg base "Survey" C.survey 6 ze1 (spSurveyInit C)) (mt_has_history:MethOk P w K mg base C.survey "has_history" 1 zc5 (spHasHistory C)) (mt_presses:MethOk P w K mg base C.record "presses" 1 zf0 (spPresses C)) (c_may_be_first:CallOk P w K mg base "may_be_first" 3 zh1 (spMayBe C K)) (c_unclosed_teams:CallOk P w K mg base "unclosed_teams" 4 zg7 (spUnclosedTeams C)) (c_counted:CallOk P w K mg base "counted" 1 zh8 spCounted):FnOk P w K mg base CX0 8 f fd zo6 (spRuleRuled C):=by
 refine F.ok yh9 (fun vs H Q E h=>?_) (fun cdv A outer s H vs Q E hr h=>?_)
 ·obtain ⟨p,t,rfl,_⟩:=h
  rfl
 ·obtain ⟨p,t,rfl,hR,hW,k⟩:=h
  have nd:=yh9.nd
  have hI:=FP.zi7 hW
  have hne16:=hW.ne
  have hnb:=hW.nb
  unfold ruledAns at k
  refine ⟨_,(za1 (zb8 (i:=1) nd rfl (Or.inl rfl) (zh5 m_Survey (za0 (pv 0) za3) hr)) (za1 (ps_if (zr4 (zd0 (zn5 mt_has_history (pv 1) hr) (fun _=>rfl))) (za4 (za6 (zb7 (za0 (pe_gv g_NO_HISTORY) za3)))) zb1) (za1 (zb8 (i:=2) nd rfl (Or.inl rfl) (zn5 mt_presses (pv 0) hr)) (za1 (ps_if (zb2 op_eq (zc0 zb4 (by rfl) g_len PySem.boot_len (za0 (pv 2) za3)) za9 (nomark _)) (za4 (za6 (zb7 (za0 (pe_gv g_NO_PRESS) za3)))) zb1) (za1 (zb8 (i:=3) nd rfl (Or.inl rfl) (zb6 c_may_be_first (za0 (pv 1) (za0 (pv 2) za3)) hr)) (za1 (ps_if (zb2 op_gt (zc0 zb4 (by rfl) g_len PySem.boot_len (za0 (pv 3) za3)) za9 (nomark _)) (za4 (za6 (zb7 (za0 za9 (za0 za9 za3))))) zb1) (za1 (zb8 (i:=4) nd rfl (Or.inl rfl) (zb6 c_unclosed_teams (za0 (pv 0) (za0 (pv 1) (za0 (zb3 zb0 (pv 3) za9) za3))) hr)) (za1 (ps_if (zb2 op_eq (zc0 zb4 (by rfl) g_len PySem.boot_len (za0 (pv 4) za3)) za9 (nomark _)) (za4 (za6 (zb7 (za0 za9 (za0 (zb3 zb0 (pv 3) za9) za3))))) zb1) (za4 (za6 (pe_op yj6 (zb7 (za0 za9 za3)) (zb6 c_counted (za0 (pv 4) za3) hr)))))))))))),?_⟩
  refine ⟨_,rfl,fun q dq0 hq0 hdq0 _=>⟨q,p,dq0,t,rfl,za2,hR.same (Same.new hq0 hdq0),hW,fun H1 hx1 hS=>⟨rfl,?_⟩⟩⟩
  have s1:Same H H1:=Same.made hq0 hdq0 hx1
  have k:=k.later s1
  obtain ⟨dq,lq,mq,asq,lsq,hq,_⟩:=hS.ex
  refine ⟨_,rfl,q,dq,_,rfl,hq,ya0,q,_,_,rfl,hS,hI,by omega,_,rfl,?_⟩
  cases ef:Vbqzab.fits (Vbqzab.bounds t) t.events.length with
  | false =>
   rw [if_pos ef] at k
   exact iteT (zi0 k)
  | true =>
  rw [if_neg (by rw [ef];decide)] at k
  have hN:=(FP.zv0 hI).mp ef
  refine iteF ?_
  obtain ⟨dx,lb,le,lm,lv,dw,ab,ae,av,kvs,h1,_⟩:=(hR.same s1).ex
  refine ⟨_,rfl,p,dx,_,rfl,h1,rc_no,p,t,rfl,hR.same s1,hW,fun H2 e s2 he0 he=>?_⟩
  have k:=k.later s2
  have hpl:(Vbqzab.pressesOf t).length≤16:=Nat.le_trans (yd7 t 1 t.events.length) hne16
  have hlt:∀ y∈Vbqzab.pressesOf t,y < t.events.length:=fun y hy=>FP.yq5 hy
  have hnd:=FP.xa8 t
  refine ⟨_,rfl,e,_,rfl,.inl (SqL.of he),rfl,_,rfl,?_⟩
  rw [zd9]
  generalize hps:Vbqzab.pressesOf t=ps at k he hpl hlt hnd
  cases ps with
  | nil=>exact iteT (zi0 k)
  | cons a0 r0 =>
  refine iteD (fun z=>by
   have z':(((a0 :: r0).length:Nat):Int)=0:=V.int.inj z
   rw [List.length_cons] at z'
   omega) (fun z=>?_)
  have k:NewAns H2 (match Vbqzab.surelyFirst (Vbqzab.bounds t) t.events.length (a0 :: r0) with | none=>[0,0] | some x=>match Vbqzab.open_ t x with | []=>[1,Vbqzab.whole x] | q=>0 :: Vbqzab.listed q) Q:=k
  generalize hl0:a0 :: r0=l0 at k he hpl hlt hnd
  have hml:=mayB_len (Vbqzab.bounds t) t.events.length l0
  have hmne:=FP.may_ne hI hN hlt (by rw [← hl0];exact List.cons_ne_nil _ _)
  refine ⟨_,rfl,_,rfl,q,e,_,_,l0,rfl,hS.same s2,hI,hN,SqL.of he,hlt,by omega,fun H3 a s3 ha0 ha=>?_⟩
  have k:=k.later s3
  refine ⟨_,rfl,a,_,rfl,.inl (SqL.of ha),_,_,rfl,rfl,_,rfl,?_⟩
  rw [zd9]
  have hfm:=FP.ym9 hI hN hlt hnd
  have hfo:=fun x=>FP.first_one hI hN hlt (x:=x)
  have hmay:∀ x∈Vbqzab.mayBeFirst (Vbqzab.bounds t) t.events.length l0,x < t.events.length:=fun x hx=>hlt x (FP.zx5.mp hx).1
  generalize hmm:Vbqzab.mayBeFirst (Vbqzab.bounds t) t.events.length l0=m at ha hml hmne hfm hfo hmay
  refine iteD (fun c=>?_) (fun c=>?_)
  ·rw [hfm (by omega)] at k
   refine ⟨(sz2),fun z hz=>k _ z (Same.laid hz) hz za2⟩
  ·have hm1:m.length=1:=by
    have:0 < m.length:=List.length_pos_iff.mpr hmne
    omega
   obtain ⟨x,rfl⟩:=List.length_eq_one_iff.mp hm1
   rw [hfo x rfl] at k
   dsimp only at k
   have hx:x < t.events.length:=hmay x (List.mem_singleton.mpr rfl)
   have s23:=s2.trans s3
   refine ⟨_,rfl,_,rfl,_,rfl,a,_,_,_,rfl,rfl,SqL.of ha,za8 (j:=0) (v:=V.int (x:Int)) rfl,p,q,t,x,rfl,hR.same (s1.trans s23),hW,hS.same s23,hN,hx,fun H4 o s4 ho0 ho=>?_⟩
   have k:=k.later s4
   have hol:(Vbqzab.open_ t x).length≤8:=by
    refine Nat.le_trans (List.length_filter_le _ _) ?_
    exact Nat.le_trans (yf6 t t.boxes.length) hnb
   refine ⟨_,rfl,o,_,rfl,.inl (SqL.of ho),rfl,_,rfl,?_⟩
   rw [zd9]
   generalize hoo:Vbqzab.open_ t x=os at k ho hol
   cases os with
   | nil =>
    refine iteT ⟨_,rfl,a,_,_,_,rfl,rfl,SqL.of (s4 _ _ ha),za8 (j:=0) (v:=V.int (x:Int)) rfl,(sz2),fun z hz=>k _ z (Same.laid hz) hz za2⟩
   | cons b1 r1 =>
    refine iteD (fun z=>by
     have z':(((b1 :: r1).length:Nat):Int)=0:=V.int.inj z
     rw [List.length_cons] at z'
     omega) (fun z=>?_)
    have k:NewAns H4 (0 :: Vbqzab.listed (b1 :: r1)) Q:=k
    refine ⟨(sz1),fun z hz=>?_⟩
    have sz:=Same.laid (o := .lst [V.int 0]) hz
    refine ⟨_,rfl,zs9 (sz _ _ ho) (by omega) fun H5 g s5 hg0 hg=>?_⟩
    exact two_lists (sz.trans s5) (s5 _ _ za2) hg (by rw [yy6];omega) k
end
end FPP
namespace FPP
open PySem PySem.Spec PyProof.Rows L2
open Vbqzab (Bound Table at_ State Box Wire Evidence Call no whole inside)
def num:Call→Nat
 | .box ..=>0 | .wire ..=>1 | .event ..=>2 | .press ..=>3 | .sent ..=>4 | .heard ..=>5 | .limit ..=>6 | .drop ..=>7
 | .fits=>8 | .most ..=>9 | .sure ..=>10 | .way ..=>11 | .first ..=>12 | .bounds=>13 | .history=>14 | .late ..=>15
 | .check ..=>16 | .needed ..=>17 | .would ..=>18 | .adds ..=>19 | .report ..=>20 | .wakes ..=>21 | .ruled=>22 | .told=>23
def args:Call→List Int
 | .box a b e=>[a,b,e] | .wire i j lo hi=>[i,j,lo,hi] | .event i t=>[i,t] | .press i t=>[i,t] | .sent x=>[x] | .heard m y=>[m,y] | .limit x y lo hi=>[x,y,lo,hi] | .drop k=>[k]
 | .most x y=>[x,y] | .sure x y=>[x,y] | .way x y=>[x,y] | .late x=>[x] | .needed x y=>[x,y] | .would m i t=>[m,i,t] | .report i t=>[i,t] | .wakes i=>[i]
 | _=>[]
def rowOf:Call→List Int
 | .first l=>l | .check l=>l | .adds l=>l
 | _=>[]
def rowsOf:Call→List (List Int)
 | .first l=>[l] | .check l=>[l] | .adds l=>[l]
 | _=>[]
theorem callOf_some {c:VbqzabNeutral.Call} {d:Call} (h:VbqzabNeutral.callOf c=some d):c=((num d:Int) :: args d) :: rowsOf d:=by
 unfold VbqzabNeutral.callOf at h
 split at h <;> cases h <;> rfl
theorem r_slow (g:Int):inR "slow" g=inside g 1 100000:=by
 unfold inR
 rw [show rngs.lookup ("slow" : Str)=some (1,100000) by decide +kernel]
 rfl
theorem r_fast (g:Int):inR "fast" g=inside g 1 100000:=by
 unfold inR
 rw [show rngs.lookup ("fast" : Str)=some (1,100000) by decide +kernel]
 rfl
theorem r_grain (g:Int):inR "grain" g=inside g 0 1000:=by
 unfold inR
 rw [show rngs.lookup ("grain" : Str)=some (0,1000) by decide +kernel]
 rfl
theorem r_least (g:Int):inR "least" g=inside g 0 1000000000000:=by
 unfold inR
 rw [show rngs.lookup ("least" : Str)=some (0,1000000000000) by decide +kernel]
 rfl
theorem yy1 (g:Int):inR "greatest" g=inside g (-1) 1000000000000:=by
 unfold inR
 rw [show rngs.lookup ("greatest" : Str)=some (-1,1000000000000) by decide +kernel]
 rfl
theorem xa7 (g:Int):inR "stamp" g=inside g 0 1000000000:=by
 unfold inR
 rw [show rngs.lookup ("stamp" : Str)=some (0,1000000000) by decide +kernel]
 rfl
theorem r_span (g:Int):inR "span" g=inside g (-1000000000000000) 1000000000000000:=by
 unfold inR
 rw [show rngs.lookup ("span" : Str)=some (-1000000000000000,1000000000000000) by decide +kernel]
 rfl
theorem r_box (g:Int):inR "box" g=inside g 0 7:=by
 unfold inR
 rw [show rngs.lookup ("box" : Str)=some (0,7) by decide +kernel]
 rfl
theorem zn0 (g:Int):inR "event" g=inside g 0 15:=by
 unfold inR
 rw [show rngs.lookup ("event" : Str)=some (0,15) by decide +kernel]
 rfl
theorem yj1 (g:Int):inR "message" g=inside g 0 11:=by
 unfold inR
 rw [show rngs.lookup ("message" : Str)=some (0,11) by decide +kernel]
 rfl
theorem yy2 (g:Int):inR "evidence" g=inside g 0 23:=by
 unfold inR
 rw [show rngs.lookup ("evidence" : Str)=some (0,23) by decide +kernel]
 rfl
theorem yf7 {s:State} {k:Str} (h:¬ k = "box" ∧ ¬ k = "event" ∧ ¬ k = "message" ∧ ¬ k = "evidence") (g:Int):there s k g=true:=by
 unfold there cnt
 rw [if_neg h.1,if_neg h.2.1,if_neg h.2.2.1,if_neg h.2.2.2]
theorem t_slow (s:State) (g:Int):there s "slow" g=true:=yf7 (by decide +kernel) g
theorem t_fast (s:State) (g:Int):there s "fast" g=true:=yf7 (by decide +kernel) g
theorem t_grain (s:State) (g:Int):there s "grain" g=true:=yf7 (by decide +kernel) g
theorem t_least (s:State) (g:Int):there s "least" g=true:=yf7 (by decide +kernel) g
theorem t_greatest (s:State) (g:Int):there s "greatest" g=true:=yf7 (by decide +kernel) g
theorem t_stamp (s:State) (g:Int):there s "stamp" g=true:=yf7 (by decide +kernel) g
theorem t_span (s:State) (g:Int):there s "span" g=true:=yf7 (by decide +kernel) g
theorem t_box (s:State) (g:Int):there s "box" g=Vbqzab.isBox s g:=by
 unfold there cnt
 rw [if_pos rfl]
 rfl
theorem zy0 (s:State) (g:Int):there s "event" g=Vbqzab.isEvent s g:=by
 unfold there cnt
 rw [if_neg (by decide +kernel),if_pos rfl]
 rfl
theorem yh2 (s:State) (g:Int):there s "message" g=Vbqzab.isMessage s g:=by
 unfold there cnt
 rw [if_neg (by decide +kernel),if_neg (by decide +kernel),if_pos rfl]
 rfl
theorem yx7 (s:State) (g:Int):there s "evidence" g=decide (g < whole s.evidence.length):=by
 unfold there cnt
 rw [if_neg (by decide +kernel),if_neg (by decide +kernel),if_neg (by decide +kernel),if_pos rfl]
 rfl
theorem inRs1 (k:Str) (a:Int):inRs [k] [a]=inR k a:=by
 show (inR k a && true)=_
 rw [Bool.and_true]
theorem inRs2 (k l:Str) (a b:Int):inRs [k,l] [a,b]=(inR k a && inR l b):=by
 show (inR k a && (inR l b && true))=_
 rw [Bool.and_true]
theorem inRs3 (k l m:Str) (a b c:Int):inRs [k,l,m] [a,b,c]=(inR k a && (inR l b && inR m c)):=by
 show (inR k a && (inR l b && (inR m c && true)))=_
 rw [Bool.and_true]
theorem inRs4 (k l m n:Str) (a b c d:Int):inRs [k,l,m,n] [a,b,c,d]=(inR k a && (inR l b && (inR m c && inR n d))):=by
 show (inR k a && (inR l b && (inR m c && (inR n d && true))))=_
 rw [Bool.and_true]
theorem all1 (s:State) (k:Str) (a:Int):allThere s [k] [a]=there s k a:=by
 show (there s k a && true)=_
 rw [Bool.and_true]
theorem all2 (s:State) (k l:Str) (a b:Int):allThere s [k,l] [a,b]=(there s k a && there s l b):=by
 show (there s k a && (there s l b && true))=_
 rw [Bool.and_true]
theorem all3 (s:State) (k l m:Str) (a b c:Int):allThere s [k,l,m] [a,b,c]=(there s k a && (there s l b && there s m c)):=by
 show (there s k a && (there s l b && (there s m c && true)))=_
 rw [Bool.and_true]
theorem all4 (s:State) (k l m n:Str) (a b c d:Int):allThere s [k,l,m,n] [a,b,c,d]=(there s k a && (there s l b && (there s m c && there s n d))):=by
 show (there s k a && (there s l b && (there s m c && (there s n d && true))))=_
 rw [Bool.and_true]
def kindsOf (d:Call):List Str:=kinds.getD (num d) []
def RangeOk (d:Call):Bool:=inRs (kindsOf d) (args d)
def ThereOk (s:State) (d:Call):Bool:=allThere s (kindsOf d) (args d)
theorem ri_event (i t:Int):inRs ["box", "stamp"] [i,t]=(Vbqzab.boxIn i && inside t 0 Vbqzab.TICKS):=by rw [inRs2,r_box,xa7];rfl
theorem ti_event (s:State) (i t:Int):allThere s ["box", "stamp"] [i,t]=Vbqzab.isBox s i:=by rw [all2,t_box,t_stamp,Bool.and_true]
theorem ri_two (x y:Int):inRs ["event", "event"] [x,y]=(Vbqzab.eventIn x && Vbqzab.eventIn y):=by rw [inRs2,zn0,zn0];rfl
theorem ti_two (s:State) (x y:Int):allThere s ["event", "event"] [x,y]=(Vbqzab.isEvent s x && Vbqzab.isEvent s y):=by rw [all2,zy0,zy0]
def evRest (s:State) (i t p:Nat):State×List Int:=match refuseE s i t with
 | some e=>no s e
 | none=>({ s with events:=s.events++[⟨i,t,p⟩] },[whole s.events.length])
def fitsAns (s:State):List Int:=if Vbqzab.fits (Vbqzab.bounds s) s.events.length=true then [1] else 0 :: Vbqzab.listed (Vbqzab.ring (Vbqzab.bounds s) s.events.length)
def ifFits (s:State) (l:List Int):List Int:=if Vbqzab.fits (Vbqzab.bounds s) s.events.length=false then [-8] else l
def mostAns (s:State) (x y:Nat):List Int:=match Vbqzab.most (Vbqzab.bounds s) s.events.length x y with
 | none=>[0]
 | some w=>[1,w]
def sureAns (s:State) (x y:Nat):List Int:=[if Vbqzab.surelyBefore (Vbqzab.bounds s) s.events.length x y=true then 2 else if Vbqzab.surelyNotBehind (Vbqzab.bounds s) s.events.length x y=true then 1 else 0]
def wayAns (s:State) (x y:Nat):List Int:=match Vbqzab.way (Vbqzab.bounds s) s.events.length x y with
 | none=>[0]
 | some l=>1 :: Vbqzab.listed l
def lateAns (s:State) (x:Nat):List Int:=match Vbqzab.late (Vbqzab.bounds s) s.events.length x with
 | none=>[0]
 | some l=>1 :: Vbqzab.numbers l
def wakeRest (s:State) (i:Nat):State×List Int:=match s.boxes[i]? with
 | none=>no s (-4)
 | some b=>if Vbqzab.isOld s i=true then no s (-11) else if Vbqzab.BOXES≤s.boxes.length then no s (-7) else ({ s with boxes:=s.boxes++[b] },[whole s.boxes.length])
def restOf (s:State):Call→State×List Int
 | .box a b e=>if b.toNat < a.toNat then no s (-1) else if Vbqzab.BOXES≤s.boxes.length then no s (-7) else ({ s with boxes:=s.boxes++[⟨a.toNat,b.toNat,e.toNat,s.boxes.length⟩] },[whole s.boxes.length])
 | .wire i j lo hi=>if Vbqzab.teamOf s i.toNat=Vbqzab.teamOf s j.toNat then no s (-5) else if hi ≠ -1∧hi < (lo.toNat:Int) then no s (-6) else ({ s with wires:=Vbqzab.putWire ⟨Vbqzab.teamOf s i.toNat,Vbqzab.teamOf s j.toNat,lo.toNat,if hi = -1 then none else some hi.toNat⟩ s.wires },[0])
 | .event i t=>evRest s i.toNat t.toNat 0
 | .press i t=>evRest s i.toNat t.toNat 1
 | .sent x=>if Vbqzab.MESSAGES≤s.sent.length then no s (-7) else ({ s with sent:=s.sent++[x.toNat] },[whole s.sent.length])
 | .heard m y=>if Vbqzab.teamAt s (s.sent.getD m.toNat 0)=Vbqzab.teamAt s y.toNat then no s (-5) else if (Vbqzab.wireOf s (Vbqzab.teamAt s (s.sent.getD m.toNat 0)) (Vbqzab.teamAt s y.toNat)).isNone=true then no s (-6) else if Vbqzab.EVIDENCE≤s.evidence.length then no s (-7) else ({ s with evidence:=s.evidence++[.hearing m.toNat y.toNat] },[whole s.evidence.length])
 | .limit x y lo hi=>if x.toNat=y.toNat then no s (-5) else if hi < lo then no s (-6) else if Vbqzab.EVIDENCE≤s.evidence.length then no s (-7) else ({ s with evidence:=s.evidence++[.limit x.toNat y.toNat lo hi] },[whole s.evidence.length])
 | .drop k=>(Vbqzab.dropped s k.toNat,[whole (s.evidence.length - 1)])
 | .fits=>(s,fitsAns s)
 | .most x y=>(s,ifFits s (mostAns s x.toNat y.toNat))
 | .sure x y=>(s,ifFits s (sureAns s x.toNat y.toNat))
 | .way x y=>(s,ifFits s (wayAns s x.toNat y.toNat))
 | .first l=>(s,firstAns s l)
 | .bounds=>(s,whole (Vbqzab.bounds s).length :: (Vbqzab.bounds s).flatMap bnd3)
 | .history=>(s,ifFits s (Vbqzab.numbers (Vbqzab.history (Vbqzab.bounds s) s.events.length)))
 | .late x=>(s,ifFits s (lateAns s x.toNat))
 | .check l=>(s,checkAns s l)
 | .needed x y=>(s,neededAns s x.toNat y.toNat)
 | .would m i t=>(s,wouldAns s m.toNat i.toNat t.toNat)
 | .adds l=>(s,addsAns s l)
 | .report i t=>evRest s i.toNat t.toNat 2
 | .wakes i=>wakeRest s i.toNat
 | .ruled=>(s,ruledAns s)
 | .told=>(s,whole s.boxes.length :: s.boxes.flatMap box4++(whole s.events.length :: s.events.flatMap evt3))
def Checked (s:State) (d:Call) (r:State×List Int):Prop:=(RangeOk d=false→r=no s (-1))∧(RangeOk d=true→ThereOk s d=false→r=no s (-4))∧(RangeOk d=true→ThereOk s d=true→r=restOf s d)
theorem ck {s:State} {d:Call} {b c:Bool} {r:State×List Int} (hb:RangeOk d=b) (hc:ThereOk s d=c) (h:b=true→c=true→r=restOf s d):Checked s d (if b=false then no s (-1) else if c=false then no s (-4) else r):=by
 subst hb hc
 refine ⟨fun e=>by rw [if_pos e],fun e1 e2=>by rw [if_neg (by rw [e1];decide),if_pos e2],fun e1 e2=>?_⟩
 rw [if_neg (by rw [e1];decide),if_neg (by rw [e2];decide)]
 exact h e1 e2
theorem ck0 {s:State} {d:Call} {r:State×List Int} (hb:RangeOk d=true) (hc:ThereOk s d=true) (h:r=restOf s d):Checked s d r:=by
 refine ⟨fun e=>?_,fun _ e=>?_,fun _ _=>h⟩
 ·rw [hb] at e;cases e
 ·rw [hc] at e;cases e
theorem yf9 {s:State} {d:Call} {i t:Int} {p:Nat} (h1:RangeOk d=inRs ["box", "stamp"] [i,t]) (h2:ThereOk s d=allThere s ["box", "stamp"] [i,t]) (h3:restOf s d=evRest s i.toNat t.toNat p):Checked s d (Vbqzab.newEvent s i t p):=by
 unfold Vbqzab.newEvent
 refine ck (by rw [h1,ri_event]) (by rw [h2,ti_event]) fun e1 e2=>?_
 rw [Bool.and_eq_true] at e1
 have a2:=FP.za7.mp e1.2
 rw [h3]
 unfold evRest refuseE
 by_cases c1:Vbqzab.isOld s i.toNat=true
 ·rw [if_pos c1,if_pos c1]
 rw [if_neg c1,if_neg c1]
 by_cases c2:t < whole (Vbqzab.lastStamp s i.toNat)
 ·rw [if_pos c2,if_pos (show t.toNat < Vbqzab.lastStamp s i.toNat by unfold whole at c2;omega)]
 rw [if_neg c2,if_neg (show ¬ t.toNat < Vbqzab.lastStamp s i.toNat by unfold whole at c2;omega)]
 by_cases c3:Vbqzab.EVENTS≤s.events.length
 ·rw [if_pos c3,if_pos c3]
 rw [if_neg c3,if_neg c3]
theorem yj7 {s:State} {d:Call} {x y:Int} {f:List Bound→Nat→Nat→Nat→State×List Int} {r:List Int} (h1:RangeOk d=(Vbqzab.eventIn x && Vbqzab.eventIn y)) (h2:ThereOk s d=(Vbqzab.isEvent s x && Vbqzab.isEvent s y)) (h3:restOf s d=(s,r)) (h4:(if Vbqzab.fits (Vbqzab.bounds s) s.events.length=false then no s (-8) else f (Vbqzab.bounds s) s.events.length x.toNat y.toNat)=(s,r)):Checked s d (Vbqzab.onTwo s x y f):=by
 unfold Vbqzab.onTwo
 exact ck h1 h2 fun _ _=>h4.trans h3.symm
theorem yk7 {s:State} {l:List Int}:(if Vbqzab.fits (Vbqzab.bounds s) s.events.length=false then no s (-8) else (s,l))=(s,ifFits s l):=by
 unfold ifFits
 split <;> rfl
theorem step_ck (s:State) (d:Call):Checked s d (Vbqzab.step s d):=by
 cases d with
 | box a b e =>
  have h1:RangeOk (.box a b e)=(inside a 1 100000 && (inside b 1 100000 && inside e 0 1000)):=by
   show inRs ["slow", "fast", "grain"] [a,b,e]=_
   rw [inRs3,r_slow,r_fast,r_grain]
  have h2:ThereOk s (.box a b e)=true:=by
   show allThere s ["slow", "fast", "grain"] [a,b,e]=_
   rw [all3,t_slow,t_fast,t_grain]
   rfl
  have hs:Vbqzab.step s (.box a b e)=if (inside a 1 100000 && (inside b a 100000 && inside e 0 1000))=false then no s (-1) else if Vbqzab.BOXES≤s.boxes.length then no s (-7) else ({ s with boxes:=s.boxes++[⟨a.toNat,b.toNat,e.toNat,s.boxes.length⟩] },[whole s.boxes.length]):=rfl
  refine ⟨fun q=>?_,fun _ q=>?_,fun q _=>?_⟩
  ·rw [hs,if_pos]
   rw [h1] at q
   refine Bool.eq_false_iff.mpr fun z=>?_
   rw [Bool.and_eq_true,Bool.and_eq_true] at z
   have z1:=FP.za7.mp z.1
   have z2:=FP.za7.mp z.2.1
   rw [z.1,z.2.2,FP.za7.mpr ⟨by omega,z2.2⟩] at q
   cases q
  ·rw [h2] at q;cases q
  ·rw [h1,Bool.and_eq_true,Bool.and_eq_true] at q
   have z1:=FP.za7.mp q.1
   have z2:=FP.za7.mp q.2.1
   rw [hs]
   show _=if b.toNat < a.toNat then no s (-1) else _
   by_cases c:b < a
   ·rw [if_pos (by rw [show inside b a 100000=false from Bool.eq_false_iff.mpr fun z=>absurd (FP.za7.mp z).1 (by omega),Bool.false_and,Bool.and_false]),if_pos (show b.toNat < a.toNat by omega)]
   ·rw [if_neg (show ¬ (inside a 1 100000 && (inside b a 100000 && inside e 0 1000))=false by rw [q.1,q.2.2,FP.za7.mpr ⟨by omega,z2.2⟩];decide),if_neg (show ¬ b.toNat < a.toNat by omega)]
 | wire i j lo hi =>
  refine ck (d := .wire i j lo hi) (b:=Vbqzab.boxIn i && (Vbqzab.boxIn j && (inside lo 0 Vbqzab.DELAY && inside hi (-1) Vbqzab.DELAY))) (c:=Vbqzab.isBox s i && Vbqzab.isBox s j) ?_ ?_ fun e1 e2=>?_
  ·show inRs ["box", "box", "least", "greatest"] [i,j,lo,hi]=_
   rw [inRs4,r_box,r_box,r_least,yy1]
   rfl
  ·show allThere s ["box", "box", "least", "greatest"] [i,j,lo,hi]=_
   rw [all4,t_box,t_box,t_least,t_greatest,Bool.and_true,Bool.and_true]
  ·rw [Bool.and_eq_true,Bool.and_eq_true,Bool.and_eq_true] at e1
   have z:=FP.za7.mp e1.2.2.1
   show _=if Vbqzab.teamOf s i.toNat=Vbqzab.teamOf s j.toNat then no s (-5) else if hi ≠ -1∧hi < (lo.toNat:Int) then no s (-6) else _
   rw [Int.toNat_of_nonneg z.1]
 | event i t=>exact yf9 (d := .event i t) rfl rfl rfl
 | press i t=>exact yf9 (d := .press i t) rfl rfl rfl
 | report i t=>exact yf9 (d := .report i t) rfl rfl rfl
 | sent x =>
  refine ck (d := .sent x) (b:=Vbqzab.eventIn x) (c:=Vbqzab.isEvent s x) ?_ ?_ fun _ _=>rfl
  ·show inRs ["event"] [x]=_
   rw [inRs1,zn0]
   rfl
  ·show allThere s ["event"] [x]=_
   rw [all1,zy0]
 | heard m y =>
  refine ck (d := .heard m y) (b:=inside m 0 11 && Vbqzab.eventIn y) (c:=Vbqzab.isMessage s m && Vbqzab.isEvent s y) ?_ ?_ fun _ _=>rfl
  ·show inRs ["message", "event"] [m,y]=_
   rw [inRs2,yj1,zn0]
   rfl
  ·show allThere s ["message", "event"] [m,y]=_
   rw [all2,yh2,zy0]
 | limit x y lo hi =>
  refine ck (d := .limit x y lo hi) (b:=Vbqzab.eventIn x && (Vbqzab.eventIn y && (inside lo (-Vbqzab.FAR) Vbqzab.FAR && inside hi (-Vbqzab.FAR) Vbqzab.FAR))) (c:=Vbqzab.isEvent s x && Vbqzab.isEvent s y) ?_ ?_ fun e1 e2=>?_
  ·show inRs ["event", "event", "span", "span"] [x,y,lo,hi]=_
   rw [inRs4,zn0,zn0,r_span,r_span]
   rfl
  ·show allThere s ["event", "event", "span", "span"] [x,y,lo,hi]=_
   rw [all4,zy0,zy0,t_span,t_span,Bool.and_true,Bool.and_true]
  ·rw [Bool.and_eq_true,Bool.and_eq_true] at e1
   have z1:=FP.za7.mp e1.1
   have z2:=FP.za7.mp e1.2.1
   show _=if x.toNat=y.toNat then no s (-5) else _
   by_cases c:x=y
   ·rw [if_pos c,if_pos (by rw [c])]
   ·rw [if_neg c,if_neg (show ¬ x.toNat=y.toNat by omega)]
 | drop k =>
  have h1:RangeOk (.drop k)=inside k 0 23:=by
   show inRs ["evidence"] [k]=_
   rw [inRs1,yy2]
  have h2:ThereOk s (.drop k)=decide (k < whole s.evidence.length):=by
   show allThere s ["evidence"] [k]=_
   rw [all1,yx7]
  have hs:Vbqzab.step s (.drop k)=if inside k 0 23=false then no s (-1) else if s.evidence.length≤k.toNat then no s (-4) else (Vbqzab.dropped s k.toNat,[whole (s.evidence.length - 1)]):=rfl
  refine ⟨fun q=>?_,fun p q=>?_,fun p q=>?_⟩
  ·rw [hs,if_pos (by rw [← h1];exact q)]
  ·rw [h1] at p
   rw [h2] at q
   have z:=of_decide_eq_false q
   have z1:=FP.za7.mp p
   unfold whole at z
   rw [hs,if_neg (by rw [p];decide),if_pos (by omega)]
  ·rw [h1] at p
   rw [h2] at q
   have z:=of_decide_eq_true q
   have z1:=FP.za7.mp p
   unfold whole at z
   rw [hs,if_neg (by rw [p];decide),if_neg (by omega)]
   rfl
 | fits=>exact ck0 rfl rfl rfl
 | most x y=>exact yj7 (d := .most x y) (f:=fun bs n x y=>(s,match Vbqzab.most bs n x y with | none=>[0] | some w=>[1,w])) (ri_two x y) (ti_two s x y) rfl yk7
 | sure x y=>exact yj7 (d := .sure x y) (f:=fun bs n x y=>(s,[if Vbqzab.surelyBefore bs n x y=true then 2 else if Vbqzab.surelyNotBehind bs n x y=true then 1 else 0])) (ri_two x y) (ti_two s x y) rfl yk7
 | way x y=>exact yj7 (d := .way x y) (f:=fun bs n x y=>(s,match Vbqzab.way bs n x y with | none=>[0] | some l=>1 :: Vbqzab.listed l)) (ri_two x y) (ti_two s x y) rfl yk7
 | first l =>
  refine ck0 rfl rfl ?_
  show (if Vbqzab.risingIn s l=false then no s (-2) else if Vbqzab.fits (Vbqzab.bounds s) s.events.length=false then no s (-8) else _)=(s,firstAns s l)
  unfold firstAns
  split
  ·rfl
  ·split
   ·rfl
   ·show (if (if l.isEmpty=true then Vbqzab.pressesOf s else Vbqzab.nats l).isEmpty=true then no s (-9) else _)=_
    split <;> first | rfl | (split <;> rfl)
 | bounds=>exact ck0 rfl rfl rfl
 | history=>exact ck0 rfl rfl yk7
 | late x =>
  refine yj7 (d := .late x) (x:=x) (y:=x) (f:=fun bs n x _=>(s,match Vbqzab.late bs n x with | none=>[0] | some l=>1 :: Vbqzab.numbers l)) ?_ ?_ rfl yk7
  ·show inRs ["event"] [x]=_
   rw [inRs1,zn0,Bool.and_self]
   rfl
  ·show allThere s ["event"] [x]=_
   rw [all1,zy0,Bool.and_self]
 | check l =>
  refine ck0 rfl rfl ?_
  show (if (l.length == s.events.length && l.all fun t=>inside t (-Vbqzab.FAR) Vbqzab.FAR)=false then no s (-2) else _)=(s,checkAns s l)
  unfold checkAns
  split <;> rfl
 | needed x y =>
  refine yj7 (d := .needed x y) (f:=fun _ _ x y=>if Vbqzab.sureIn s x y=false then no s (-9) else (s,Vbqzab.listed (Vbqzab.needed s x y))) (ri_two x y) (ti_two s x y) rfl ?_
  unfold neededAns
  split
  ·rfl
  ·split <;> rfl
 | would m i t =>
  refine ck (d := .would m i t) (b:=inside m 0 11 && (Vbqzab.boxIn i && inside t 0 Vbqzab.TICKS)) (c:=Vbqzab.isMessage s m && Vbqzab.isBox s i) ?_ ?_ fun e1 e2=>?_
  ·show inRs ["message", "box", "stamp"] [m,i,t]=_
   rw [inRs3,yj1,r_box,xa7]
   rfl
  ·show allThere s ["message", "box", "stamp"] [m,i,t]=_
   rw [all3,yh2,t_box,t_stamp,Bool.and_true]
  ·rw [Bool.and_eq_true,Bool.and_eq_true] at e1
   have z:=FP.za7.mp e1.2.2
   show _=(s,wouldAns s m.toNat i.toNat t.toNat)
   unfold wouldAns refuseW refuseE refuseH
   by_cases c1:Vbqzab.isOld s i.toNat=true
   ·rw [if_pos c1,if_pos c1]
    rfl
   rw [if_neg c1,if_neg c1]
   by_cases c2:t < whole (Vbqzab.lastStamp s i.toNat)
   ·rw [if_pos c2,if_pos (show t.toNat < Vbqzab.lastStamp s i.toNat by unfold whole at c2;omega)]
    rfl
   rw [if_neg c2,if_neg (show ¬ t.toNat < Vbqzab.lastStamp s i.toNat by unfold whole at c2;omega)]
   by_cases c3:Vbqzab.EVENTS≤s.events.length
   ·rw [if_pos (.inl c3),if_pos c3]
    rfl
   by_cases c4:Vbqzab.EVIDENCE≤s.evidence.length
   ·rw [if_pos (.inr c4),if_neg c3]
    dsimp only
    rw [if_pos c4]
    rfl
   rw [if_neg (fun q=>q.elim c3 c4),if_neg c3]
   dsimp only
   rw [if_neg c4]
   by_cases c5:Vbqzab.teamAt s (s.sent.getD m.toNat 0)=Vbqzab.teamOf s i.toNat
   ·rw [if_pos c5,if_pos c5]
    rfl
   rw [if_neg c5,if_neg c5]
   by_cases c6:(Vbqzab.wireOf s (Vbqzab.teamAt s (s.sent.getD m.toNat 0)) (Vbqzab.teamOf s i.toNat)).isNone=true
   ·rw [if_pos c6,if_pos c6]
    rfl
   rw [if_neg c6,if_neg c6]
   by_cases c7:(Vbqzab.pressesOf s).isEmpty=true
   ·rw [if_pos c7,if_pos c7]
    rfl
   rw [if_neg c7,if_neg c7]
   show (if Vbqzab.fits (Vbqzab.bounds (FP.withHeard s m.toNat i.toNat t.toNat)) (FP.withHeard s m.toNat i.toNat t.toNat).events.length=false then no s (-10) else (s,Vbqzab.firstAnswer (FP.withHeard s m.toNat i.toNat t.toNat) (Vbqzab.pressesOf s)))=_
   split <;> rfl
 | adds l =>
  refine ck0 rfl rfl ?_
  show (if (l.all fun k=>inside k 0 (whole (Vbqzab.bounds s).length - 1))=false then no s (-2) else _)=(s,addsAns s l)
  unfold addsAns
  by_cases c:(l.all fun k=>inside k 0 (whole (Vbqzab.bounds s).length - 1))=false
  ·rw [if_pos c,if_pos c]
   rfl
  rw [if_neg c,if_neg c]
  rw [Bool.not_eq_false] at c
  have hin:∀ k∈Vbqzab.nats l,k < (Vbqzab.bounds s).length:=fun k hk=>by
   obtain ⟨z,hz,rfl⟩:=List.mem_map.mp hk
   have:=FP.za7.mp (List.all_eq_true.mp c z hz)
   unfold whole at this
   omega
  cases l with
  | nil=>rfl
  | cons a r =>
   show (if Vbqzab.joins (Vbqzab.bounds s) (Vbqzab.nats (a :: r))=false then (s,[0]) else match (Vbqzab.bounds s)[a.toNat]?,(Vbqzab.bounds s)[((a :: r).getLast?.getD 0).toNat]? with | some a',some b'=>(s,[1,whole a'.src,whole b'.dst,Vbqzab.sumOf (Vbqzab.bounds s) (Vbqzab.nats (a :: r))]) | _,_=>(s,[0]))=_
   have hw:isWay ((Vbqzab.nats (a :: r)).map (FP.bAt (Vbqzab.bounds s)))=Vbqzab.joins (Vbqzab.bounds s) (Vbqzab.nats (a :: r)):=by
    rw [FP.joins_jn _ hin]
    rfl
   rw [hw]
   split
   ·rfl
   ·have hlast:((a :: r).getLast?.getD 0).toNat=(Vbqzab.nats (a :: r)).getD ((a :: r).length - 1) 0:=by
     unfold Vbqzab.nats
     rw [List.getLast?_eq_getElem?,List.getD_eq_getElem?_getD,List.getElem?_map]
     obtain ⟨z,hz⟩:=FP.zc2 (l:=a :: r) (i:=(a :: r).length - 1) (by rw [List.length_cons];omega)
     rw [hz]
     rfl
    have hl9:(Vbqzab.nats (a :: r)).getD ((a :: r).length - 1) 0 < (Vbqzab.bounds s).length:=by
     refine hin _ ?_
     rw [List.getD_eq_getElem?_getD,List.getElem?_eq_getElem (by unfold Vbqzab.nats;rw [List.length_map,List.length_cons];omega)]
     exact List.getElem_mem _
    have h0:(Vbqzab.nats (a :: r)).getD 0 0=a.toNat:=rfl
    rw [hlast,FP.yn3 (hin a.toNat (List.mem_cons_self ..)),FP.yn3 hl9,FP.sumOf_eq _ hin,h0]
 | wakes i =>
  have h1:RangeOk (.wakes i)=Vbqzab.boxIn i:=by
   show inRs ["box"] [i]=_
   rw [inRs1,r_box]
   rfl
  have h2:ThereOk s (.wakes i)=Vbqzab.isBox s i:=by
   show allThere s ["box"] [i]=_
   rw [all1,t_box]
  have hs:Vbqzab.step s (.wakes i)=if Vbqzab.boxIn i=false then no s (-1) else wakeRest s i.toNat:=rfl
  refine ⟨fun q=>?_,fun p q=>?_,fun p q=>?_⟩
  ·rw [hs,if_pos (by rw [← h1];exact q)]
  ·rw [h1] at p
   rw [h2] at q
   have z:=of_decide_eq_false q
   have z1:=FP.za7.mp p
   unfold whole at z
   rw [hs,if_neg (by rw [p];decide)]
   unfold wakeRest
   rw [List.getElem?_eq_none (by omega)]
  ·rw [h1] at p
   rw [hs,if_neg (by rw [p];decide)]
   rfl
 | ruled =>
  refine ck0 rfl rfl ?_
  show (if Vbqzab.fits (Vbqzab.bounds s) s.events.length=false then no s (-8) else _)=(s,ruledAns s)
  unfold ruledAns
  split
  ·rfl
  ·cases Vbqzab.pressesOf s with
   | nil=>rfl
   | cons a r =>
    show (match Vbqzab.surelyFirst (Vbqzab.bounds s) s.events.length (a :: r) with | none=>(s,[0,0]) | some x=>(s,match Vbqzab.open_ s x with | []=>[1,whole x] | q=>0 :: Vbqzab.listed q))=(s,match Vbqzab.surelyFirst (Vbqzab.bounds s) s.events.length (a :: r) with | none=>[0,0] | some x=>match Vbqzab.open_ s x with | []=>[1,whole x] | q=>0 :: Vbqzab.listed q)
    cases Vbqzab.surelyFirst (Vbqzab.bounds s) s.events.length (a :: r) <;> rfl
 | told=>exact ck0 rfl rfl rfl
def isTell (d:Call):Bool:=decide (num d < 8) || (num d == 20 || num d == 21)
def isShow (d:Call):Bool:=num d == 13 || (num d == 16 || (num d == 19 || num d == 23))
def isRule (d:Call):Bool:=num d == 12 || (num d == 17 || (num d == 18 || num d == 22))
theorem rest_same {s:State} {d:Call} (h:isTell d=false):(restOf s d).1=s:=by
 cases d <;> first | rfl | cases h
end FPP
namespace FPP
open PySem PySem.Spec PyProof.Rows L2
open Vbqzab (Bound Table at_ State Box Wire Evidence Call no whole inside)
theorem ifNe {c k:Int} {A B:Prop} (h:¬ c=k) (b:B):if decide (V.int c=V.int k)=true then A else B:=iteD (fun q=>absurd (V.int.inj q) h) (fun _=>b)
theorem ifEq {c k:Int} {A B:Prop} (h:c=k) (a:A):if decide (V.int c=V.int k)=true then A else B:=iteD (fun _=>a) (fun q=>absurd (by rw [h]) q)
theorem ze6 {z:Int} (h:0≤z):∃ n:Nat,z=(n:Int):=Int.eq_ofNat_of_zero_le h
theorem rg_box {a b e:Int} (h:RangeOk (.box a b e)=true):1≤a∧1≤b∧0≤e:=by
 have h:inRs ["slow", "fast", "grain"] [a,b,e]=true:=h
 rw [inRs3,r_slow,r_fast,r_grain,Bool.and_eq_true,Bool.and_eq_true] at h
 exact ⟨(FP.za7.mp h.1).1,(FP.za7.mp h.2.1).1,(FP.za7.mp h.2.2).1⟩
theorem rg_wire {i j lo hi:Int} (h:RangeOk (.wire i j lo hi)=true):0≤i∧0≤j∧0≤lo ∧ -1≤hi:=by
 have h:inRs ["box", "box", "least", "greatest"] [i,j,lo,hi]=true:=h
 rw [inRs4,r_box,r_box,r_least,yy1,Bool.and_eq_true,Bool.and_eq_true,Bool.and_eq_true] at h
 exact ⟨(FP.za7.mp h.1).1,(FP.za7.mp h.2.1).1,(FP.za7.mp h.2.2.1).1,(FP.za7.mp h.2.2.2).1⟩
theorem th_wire {s:State} {i j lo hi:Int} (h:ThereOk s (.wire i j lo hi)=true):i < (s.boxes.length:Int)∧j < (s.boxes.length:Int):=by
 have h:allThere s ["box", "box", "least", "greatest"] [i,j,lo,hi]=true:=h
 rw [all4,t_box,t_box,Bool.and_eq_true,Bool.and_eq_true] at h
 exact ⟨of_decide_eq_true h.1,of_decide_eq_true h.2.1⟩
theorem rg_evt {i t:Int} (h:inRs ["box", "stamp"] [i,t]=true):0≤i∧0≤t∧t≤1000000000:=by
 rw [inRs2,r_box,xa7,Bool.and_eq_true] at h
 exact ⟨(FP.za7.mp h.1).1,(FP.za7.mp h.2).1,(FP.za7.mp h.2).2⟩
theorem th_evt {s:State} {i t:Int} (h:allThere s ["box", "stamp"] [i,t]=true):i < (s.boxes.length:Int):=by
 rw [ti_event] at h
 exact of_decide_eq_true h
theorem rg_one {x:Int} (h:inRs ["event"] [x]=true):0≤x:=by
 rw [inRs1,zn0] at h
 exact (FP.za7.mp h).1
theorem th_one {s:State} {x:Int} (h:allThere s ["event"] [x]=true):x < (s.events.length:Int):=by
 rw [all1,zy0] at h
 exact of_decide_eq_true h
theorem rg_heard {m y:Int} (h:RangeOk (.heard m y)=true):0≤m∧0≤y:=by
 have h:inRs ["message", "event"] [m,y]=true:=h
 rw [inRs2,yj1,zn0,Bool.and_eq_true] at h
 exact ⟨(FP.za7.mp h.1).1,(FP.za7.mp h.2).1⟩
theorem th_heard {s:State} {m y:Int} (h:ThereOk s (.heard m y)=true):m < (s.sent.length:Int)∧y < (s.events.length:Int):=by
 have h:allThere s ["message", "event"] [m,y]=true:=h
 rw [all2,yh2,zy0,Bool.and_eq_true] at h
 exact ⟨of_decide_eq_true h.1,of_decide_eq_true h.2⟩
theorem rg_limit {x y lo hi:Int} (h:RangeOk (.limit x y lo hi)=true):0≤x∧0≤y:=by
 have h:inRs ["event", "event", "span", "span"] [x,y,lo,hi]=true:=h
 rw [inRs4,zn0,zn0,Bool.and_eq_true,Bool.and_eq_true] at h
 exact ⟨(FP.za7.mp h.1).1,(FP.za7.mp h.2.1).1⟩
theorem rg_drop {k:Int} (h:RangeOk (.drop k)=true):0≤k:=by
 have h:inRs ["evidence"] [k]=true:=h
 rw [inRs1,yy2] at h
 exact (FP.za7.mp h).1
theorem th_drop {s:State} {k:Int} (h:ThereOk s (.drop k)=true):k < (s.evidence.length:Int):=by
 have h:allThere s ["evidence"] [k]=true:=h
 rw [all1,yx7] at h
 exact of_decide_eq_true h
theorem rg_wakes {i:Int} (h:RangeOk (.wakes i)=true):0≤i:=by
 have h:inRs ["box"] [i]=true:=h
 rw [inRs1,r_box] at h
 exact (FP.za7.mp h).1
theorem th_wakes {s:State} {i:Int} (h:ThereOk s (.wakes i)=true):i < (s.boxes.length:Int):=by
 have h:allThere s ["box"] [i]=true:=h
 rw [all1,t_box] at h
 exact of_decide_eq_true h
theorem rg_two {x y:Int} (h:inRs ["event", "event"] [x,y]=true):0≤x∧0≤y:=by
 rw [inRs2,zn0,zn0,Bool.and_eq_true] at h
 exact ⟨(FP.za7.mp h.1).1,(FP.za7.mp h.2).1⟩
theorem th_two {s:State} {x y:Int} (h:allThere s ["event", "event"] [x,y]=true):x < (s.events.length:Int)∧y < (s.events.length:Int):=by
 rw [ti_two,Bool.and_eq_true] at h
 exact ⟨of_decide_eq_true h.1,of_decide_eq_true h.2⟩
theorem rg_would {m i t:Int} (h:RangeOk (.would m i t)=true):0≤m∧0≤i∧0≤t∧t≤1000000000:=by
 have h:inRs ["message", "box", "stamp"] [m,i,t]=true:=h
 rw [inRs3,yj1,r_box,xa7,Bool.and_eq_true,Bool.and_eq_true] at h
 exact ⟨(FP.za7.mp h.1).1,(FP.za7.mp h.2.1).1,(FP.za7.mp h.2.2).1,(FP.za7.mp h.2.2).2⟩
theorem th_would {s:State} {m i t:Int} (h:ThereOk s (.would m i t)=true):m < (s.sent.length:Int)∧i < (s.boxes.length:Int):=by
 have h:allThere s ["message", "box", "stamp"] [m,i,t]=true:=h
 rw [all3,yh2,t_box,Bool.and_eq_true,Bool.and_eq_true] at h
 exact ⟨of_decide_eq_true h.1,of_decide_eq_true h.2.1⟩
section
variable {P:Program} {w:World} {K:PySem.W.Frag} {mg:Str→Option Value} {base:Heap}
abbrev s_tell:Stmt:=top 59
abbrev n_tell:List Str:=["record", "number", "given"]
abbrev p_tell:List Str:=["record", "number", "given"]
theorem sc_tell:FnScope n_tell p_tell (defScope s_tell):=⟨rfl,rfl,rfl,by decide +kernel,rfl,by decide +kernel,by decide +kernel⟩
def spTell (C:Clss) (K:PySem.W.Frag):Sp:=fun vs H Q _=>∃ (p g:Addr) (H0:Hp) (s:State) (F:List Addr) (d:Call),vs=[.ref p,.int (num d:Nat),.ref g]∧RecM C H0 H p s F∧FP.Wf s∧SqL K H g ((args d).map V.int)∧isTell d=true∧RangeOk d=true∧ThereOk s d=true∧Told1 C H0 H p F (restOf s d) Q
theorem ok_tell {f:Addr} {fd:FuncData} {C:Clss} (F:Fun K "tell" "tell" s_tell f fd) (g_PLAIN:GVal mg "PLAIN" (.int 0)) (g_PRESS:GVal mg "PRESS" (.int 1)) (g_REPORT:GVal mg "REPORT" (.int 2))
  (c_tell_box:CallOk P w K mg base "tell_box" 3 zw4 (spTellBox C)) (c_tell_wire:CallOk P w K mg base "tell_wire" 3 zr6 (spTellWire C)) (c_tell_event:CallOk P w K mg base "tell_event" 4 zo3 (spTellEvent C)) (c_tell_sent:CallOk P w K mg base "tell_sent" 3 zr7 (spTellSent C)) (c_tell_heard:CallOk P w K mg base "tell_heard" 3 zo2 (spTellHeard C)) (c_tell_limit:CallOk P w K mg base "tell_limit" 3 zo1 (spTellLimit C)) (c_tell_drop:CallOk P w K mg base "tell_drop" 1 zr8 (spTellDrop C)) (c_tell_wakes:CallOk P w K mg base "tell_wakes" 3 zo0 (spTellWakes C)):FnOk P w K mg base CX0 5 f fd p_tell (spTell C K):=by
 refine F.ok sc_tell (fun vs H Q E h=>?_) (fun cdv A outer s H vs Q E hr h=>?_)
 ·obtain ⟨p,g,H0,t,G,d,rfl,_⟩:=h
  rfl
 ·obtain ⟨p,g,H0,t,G,d,rfl,hM,hW,hg,hT,hRg,hTh,k⟩:=h
  have nd:=sc_tell.nd
  refine ⟨_,(za1 (ps_if (zb2 op_eq (pv 1) za9 (nomark _)) (za4 (za6 (zb6 c_tell_box (za0 (pv 0) (za0 (zb3 zb0 (pv 2) za9) (za0 (zb3 zb0 (pv 2) za9) (za0 (zb3 zb0 (pv 2) za9) za3)))) hr))) zb1) (za1 (ps_if (zb2 op_eq (pv 1) za9 (nomark _)) (za4 (za6 (zb6 c_tell_wire (za0 (pv 0) (za0 (zb3 zb0 (pv 2) za9) (za0 (zb3 zb0 (pv 2) za9) (za0 (zb3 zb0 (pv 2) za9) (za0 (zb3 zb0 (pv 2) za9) za3))))) hr))) zb1) (za1 (ps_if (zb2 op_eq (pv 1) za9 (nomark _)) (za4 (za6 (zb6 c_tell_event (za0 (pv 0) (za0 (zb3 zb0 (pv 2) za9) (za0 (zb3 zb0 (pv 2) za9) (za0 (pe_gv g_PLAIN) za3)))) hr))) zb1) (za1 (ps_if (zb2 op_eq (pv 1) za9 (nomark _)) (za4 (za6 (zb6 c_tell_event (za0 (pv 0) (za0 (zb3 zb0 (pv 2) za9) (za0 (zb3 zb0 (pv 2) za9) (za0 (pe_gv g_PRESS) za3)))) hr))) zb1) (za1 (ps_if (zb2 op_eq (pv 1) za9 (nomark _)) (za4 (za6 (zb6 c_tell_sent (za0 (pv 0) (za0 (zb3 zb0 (pv 2) za9) za3)) hr))) zb1) (za1 (ps_if (zb2 op_eq (pv 1) za9 (nomark _)) (za4 (za6 (zb6 c_tell_heard (za0 (pv 0) (za0 (zb3 zb0 (pv 2) za9) (za0 (zb3 zb0 (pv 2) za9) za3))) hr))) zb1) (za1 (ps_if (zb2 op_eq (pv 1) za9 (nomark _)) (za4 (za6 (zb6 c_tell_limit (za0 (pv 0) (za0 (zb3 zb0 (pv 2) za9) (za0 (zb3 zb0 (pv 2) za9) (za0 (zb3 zb0 (pv 2) za9) (za0 (zb3 zb0 (pv 2) za9) za3))))) hr))) zb1) (za1 (ps_if (zb2 op_eq (pv 1) za9 (nomark _)) (za4 (za6 (zb6 c_tell_drop (za0 (pv 0) (za0 (zb3 zb0 (pv 2) za9) za3)) hr))) zb1) (za1 (ps_if (zb2 op_eq (pv 1) za9 (nomark _)) (za4 (za6 (zb6 c_tell_event (za0 (pv 0) (za0 (zb3 zb0 (pv 2) za9) (za0 (zb3 zb0 (pv 2) za9) (za0 (pe_gv g_REPORT) za3)))) hr))) zb1) (za4 (za6 (zb6 c_tell_wakes (za0 (pv 0) (za0 (zb3 zb0 (pv 2) za9) za3)) hr)))))))))))),?_⟩
  cases d with
  | box a b e =>
   obtain ⟨ra,rb,re⟩:=rg_box hRg
   obtain ⟨a,rfl⟩:=ze6 (show 0≤a by omega)
   obtain ⟨b,rfl⟩:=ze6 (show 0≤b by omega)
   obtain ⟨e,rfl⟩:=ze6 re
   refine ⟨_,rfl,rfl,_,rfl,ifEq rfl ?_⟩
   exact ⟨_,rfl,_,rfl,g,_,_,_,rfl,rfl,hg,za8 (j:=0) (v:=V.int (a:Int)) rfl,_,rfl,g,_,_,_,rfl,rfl,hg,za8 (j:=1) (v:=V.int (b:Int)) rfl,_,rfl,g,_,_,_,rfl,rfl,hg,za8 (j:=2) (v:=V.int (e:Int)) rfl,p,H0,t,G,a,b,e,rfl,hM,hW,k⟩
  | wire i j lo hi =>
   obtain ⟨ri,rj,rl,rh⟩:=rg_wire hRg
   obtain ⟨ti,tj⟩:=th_wire hTh
   obtain ⟨i,rfl⟩:=ze6 ri
   obtain ⟨j,rfl⟩:=ze6 rj
   obtain ⟨lo,rfl⟩:=ze6 rl
   refine ⟨_,rfl,rfl,_,rfl,ifNe (by dsimp only [num];decide) ?_⟩
   refine ⟨_,rfl,rfl,_,rfl,ifEq rfl ?_⟩
   exact ⟨_,rfl,_,rfl,g,_,_,_,rfl,rfl,hg,za8 (j:=0) (v:=V.int (i:Int)) rfl,_,rfl,g,_,_,_,rfl,rfl,hg,za8 (j:=1) (v:=V.int (j:Int)) rfl,_,rfl,g,_,_,_,rfl,rfl,hg,za8 (j:=2) (v:=V.int (lo:Int)) rfl,_,rfl,g,_,_,_,rfl,rfl,hg,za8 (j:=3) (v:=V.int hi) rfl,p,H0,t,G,i,j,lo,hi,rfl,hM,hW,by omega,by omega,rh,k⟩
  | event i st =>
   obtain ⟨ri,rs,rs2⟩:=rg_evt hRg
   have ti:=th_evt hTh
   obtain ⟨i,rfl⟩:=ze6 ri
   obtain ⟨st,rfl⟩:=ze6 rs
   refine ⟨_,rfl,rfl,_,rfl,ifNe (by dsimp only [num];decide) ?_⟩
   refine ⟨_,rfl,rfl,_,rfl,ifNe (by dsimp only [num];decide) ?_⟩
   refine ⟨_,rfl,rfl,_,rfl,ifEq rfl ?_⟩
   exact ⟨_,rfl,_,rfl,g,_,_,_,rfl,rfl,hg,za8 (j:=0) (v:=V.int (i:Int)) rfl,_,rfl,g,_,_,_,rfl,rfl,hg,za8 (j:=1) (v:=V.int (st:Int)) rfl,p,H0,t,G,i,st,0,rfl,hM,by omega,hW.ne,k⟩
  | press i st =>
   obtain ⟨ri,rs,rs2⟩:=rg_evt hRg
   have ti:=th_evt hTh
   obtain ⟨i,rfl⟩:=ze6 ri
   obtain ⟨st,rfl⟩:=ze6 rs
   refine ⟨_,rfl,rfl,_,rfl,ifNe (by dsimp only [num];decide) ?_⟩
   refine ⟨_,rfl,rfl,_,rfl,ifNe (by dsimp only [num];decide) ?_⟩
   refine ⟨_,rfl,rfl,_,rfl,ifNe (by dsimp only [num];decide) ?_⟩
   refine ⟨_,rfl,rfl,_,rfl,ifEq rfl ?_⟩
   exact ⟨_,rfl,_,rfl,g,_,_,_,rfl,rfl,hg,za8 (j:=0) (v:=V.int (i:Int)) rfl,_,rfl,g,_,_,_,rfl,rfl,hg,za8 (j:=1) (v:=V.int (st:Int)) rfl,p,H0,t,G,i,st,1,rfl,hM,by omega,hW.ne,k⟩
  | sent x =>
   have rx:=rg_one hRg
   obtain ⟨x,rfl⟩:=ze6 rx
   refine ⟨_,rfl,rfl,_,rfl,ifNe (by dsimp only [num];decide) ?_⟩
   refine ⟨_,rfl,rfl,_,rfl,ifNe (by dsimp only [num];decide) ?_⟩
   refine ⟨_,rfl,rfl,_,rfl,ifNe (by dsimp only [num];decide) ?_⟩
   refine ⟨_,rfl,rfl,_,rfl,ifNe (by dsimp only [num];decide) ?_⟩
   refine ⟨_,rfl,rfl,_,rfl,ifEq rfl ?_⟩
   exact ⟨_,rfl,_,rfl,g,_,_,_,rfl,rfl,hg,za8 (j:=0) (v:=V.int (x:Int)) rfl,p,H0,t,G,x,rfl,hM,hW.nm,k⟩
  | heard m y =>
   obtain ⟨rm,ry⟩:=rg_heard hRg
   obtain ⟨tm,ty⟩:=th_heard hTh
   obtain ⟨m,rfl⟩:=ze6 rm
   obtain ⟨y,rfl⟩:=ze6 ry
   refine ⟨_,rfl,rfl,_,rfl,ifNe (by dsimp only [num];decide) ?_⟩
   refine ⟨_,rfl,rfl,_,rfl,ifNe (by dsimp only [num];decide) ?_⟩
   refine ⟨_,rfl,rfl,_,rfl,ifNe (by dsimp only [num];decide) ?_⟩
   refine ⟨_,rfl,rfl,_,rfl,ifNe (by dsimp only [num];decide) ?_⟩
   refine ⟨_,rfl,rfl,_,rfl,ifNe (by dsimp only [num];decide) ?_⟩
   refine ⟨_,rfl,rfl,_,rfl,ifEq rfl ?_⟩
   exact ⟨_,rfl,_,rfl,g,_,_,_,rfl,rfl,hg,za8 (j:=0) (v:=V.int (m:Int)) rfl,_,rfl,g,_,_,_,rfl,rfl,hg,za8 (j:=1) (v:=V.int (y:Int)) rfl,p,H0,t,G,m,y,rfl,hM,hW,by omega,by omega,k⟩
  | limit x y lo hi =>
   obtain ⟨rx,ry⟩:=rg_limit hRg
   obtain ⟨x,rfl⟩:=ze6 rx
   obtain ⟨y,rfl⟩:=ze6 ry
   refine ⟨_,rfl,rfl,_,rfl,ifNe (by dsimp only [num];decide) ?_⟩
   refine ⟨_,rfl,rfl,_,rfl,ifNe (by dsimp only [num];decide) ?_⟩
   refine ⟨_,rfl,rfl,_,rfl,ifNe (by dsimp only [num];decide) ?_⟩
   refine ⟨_,rfl,rfl,_,rfl,ifNe (by dsimp only [num];decide) ?_⟩
   refine ⟨_,rfl,rfl,_,rfl,ifNe (by dsimp only [num];decide) ?_⟩
   refine ⟨_,rfl,rfl,_,rfl,ifNe (by dsimp only [num];decide) ?_⟩
   refine ⟨_,rfl,rfl,_,rfl,ifEq rfl ?_⟩
   exact ⟨_,rfl,_,rfl,g,_,_,_,rfl,rfl,hg,za8 (j:=0) (v:=V.int (x:Int)) rfl,_,rfl,g,_,_,_,rfl,rfl,hg,za8 (j:=1) (v:=V.int (y:Int)) rfl,_,rfl,g,_,_,_,rfl,rfl,hg,za8 (j:=2) (v:=V.int lo) rfl,_,rfl,g,_,_,_,rfl,rfl,hg,za8 (j:=3) (v:=V.int hi) rfl,p,H0,t,G,x,y,lo,hi,rfl,hM,hW.nv,k⟩
  | drop kk =>
   have rk:=rg_drop hRg
   have tk:=th_drop hTh
   obtain ⟨kk,rfl⟩:=ze6 rk
   refine ⟨_,rfl,rfl,_,rfl,ifNe (by dsimp only [num];decide) ?_⟩
   refine ⟨_,rfl,rfl,_,rfl,ifNe (by dsimp only [num];decide) ?_⟩
   refine ⟨_,rfl,rfl,_,rfl,ifNe (by dsimp only [num];decide) ?_⟩
   refine ⟨_,rfl,rfl,_,rfl,ifNe (by dsimp only [num];decide) ?_⟩
   refine ⟨_,rfl,rfl,_,rfl,ifNe (by dsimp only [num];decide) ?_⟩
   refine ⟨_,rfl,rfl,_,rfl,ifNe (by dsimp only [num];decide) ?_⟩
   refine ⟨_,rfl,rfl,_,rfl,ifNe (by dsimp only [num];decide) ?_⟩
   refine ⟨_,rfl,rfl,_,rfl,ifEq rfl ?_⟩
   exact ⟨_,rfl,_,rfl,g,_,_,_,rfl,rfl,hg,za8 (j:=0) (v:=V.int (kk:Int)) rfl,p,H0,t,G,kk,rfl,hM,by omega,hW.nv,k⟩
  | report i st =>
   obtain ⟨ri,rs,rs2⟩:=rg_evt hRg
   have ti:=th_evt hTh
   obtain ⟨i,rfl⟩:=ze6 ri
   obtain ⟨st,rfl⟩:=ze6 rs
   refine ⟨_,rfl,rfl,_,rfl,ifNe (by dsimp only [num];decide) ?_⟩
   refine ⟨_,rfl,rfl,_,rfl,ifNe (by dsimp only [num];decide) ?_⟩
   refine ⟨_,rfl,rfl,_,rfl,ifNe (by dsimp only [num];decide) ?_⟩
   refine ⟨_,rfl,rfl,_,rfl,ifNe (by dsimp only [num];decide) ?_⟩
   refine ⟨_,rfl,rfl,_,rfl,ifNe (by dsimp only [num];decide) ?_⟩
   refine ⟨_,rfl,rfl,_,rfl,ifNe (by dsimp only [num];decide) ?_⟩
   refine ⟨_,rfl,rfl,_,rfl,ifNe (by dsimp only [num];decide) ?_⟩
   refine ⟨_,rfl,rfl,_,rfl,ifNe (by dsimp only [num];decide) ?_⟩
   refine ⟨_,rfl,rfl,_,rfl,ifEq rfl ?_⟩
   exact ⟨_,rfl,_,rfl,g,_,_,_,rfl,rfl,hg,za8 (j:=0) (v:=V.int (i:Int)) rfl,_,rfl,g,_,_,_,rfl,rfl,hg,za8 (j:=1) (v:=V.int (st:Int)) rfl,p,H0,t,G,i,st,2,rfl,hM,by omega,hW.ne,k⟩
  | wakes i =>
   have ri:=rg_wakes hRg
   have ti:=th_wakes hTh
   obtain ⟨i,rfl⟩:=ze6 ri
   obtain ⟨b,hb⟩:=FP.zc2 (l:=t.boxes) (i:=i) (by omega)
   have k:Told1 C H0 H p G (wakeRest t i) Q:=k
   unfold wakeRest at k
   rw [hb] at k
   refine ⟨_,rfl,rfl,_,rfl,ifNe (by dsimp only [num];decide) ?_⟩
   refine ⟨_,rfl,rfl,_,rfl,ifNe (by dsimp only [num];decide) ?_⟩
   refine ⟨_,rfl,rfl,_,rfl,ifNe (by dsimp only [num];decide) ?_⟩
   refine ⟨_,rfl,rfl,_,rfl,ifNe (by dsimp only [num];decide) ?_⟩
   refine ⟨_,rfl,rfl,_,rfl,ifNe (by dsimp only [num];decide) ?_⟩
   refine ⟨_,rfl,rfl,_,rfl,ifNe (by dsimp only [num];decide) ?_⟩
   refine ⟨_,rfl,rfl,_,rfl,ifNe (by dsimp only [num];decide) ?_⟩
   refine ⟨_,rfl,rfl,_,rfl,ifNe (by dsimp only [num];decide) ?_⟩
   refine ⟨_,rfl,rfl,_,rfl,ifNe (by dsimp only [num];decide) ?_⟩
   exact ⟨_,rfl,_,rfl,g,_,_,_,rfl,rfl,hg,za8 (j:=0) (v:=V.int (i:Int)) rfl,p,H0,t,G,i,b,rfl,hM,hW,hb,k⟩
  | fits=>cases hT
  | most=>cases hT
  | sure=>cases hT
  | way=>cases hT
  | first=>cases hT
  | bounds=>cases hT
  | history=>cases hT
  | late=>cases hT
  | check=>cases hT
  | needed=>cases hT
  | would=>cases hT
  | adds=>cases hT
  | ruled=>cases hT
  | told=>cases hT
abbrev s_show:Stmt:=top 86
abbrev n_show:List Str:=["record", "number", "row"]
abbrev p_show:List Str:=["record", "number", "row"]
theorem sc_show:FnScope n_show p_show (defScope s_show):=⟨rfl,rfl,rfl,by decide +kernel,rfl,by decide +kernel,by decide +kernel⟩
def spShow (C:Clss) (K:PySem.W.Frag):Sp:=fun vs H Q _=>∃ (p r:Addr) (s:State) (d:Call),vs=[.ref p,.int (num d:Nat),.ref r]∧RecAt C H p s∧FP.Wf s∧SqL K H r ((rowOf d).map V.int)∧(rowOf d).length≤60∧isShow d=true∧NewAns H (restOf s d).2 Q
theorem ok_show {f:Addr} {fd:FuncData} {C:Clss} (F:Fun K "show" "show" s_show f fd) (c_show_bounds:CallOk P w K mg base "show_bounds" 6 zl9 (spShowBounds C)) (c_show_check:CallOk P w K mg base "show_check" 6 zo4 (spShowCheck C K)) (c_show_adds:CallOk P w K mg base "show_adds" 6 zs0 (spShowAdds C K)) (c_show_told:CallOk P w K mg base "show_told" 1 zr9 (spShowTold C)):FnOk P w K mg base CX0 7 f fd p_show (spShow C K):=by
 refine F.ok sc_show (fun vs H Q E h=>?_) (fun cdv A outer s H vs Q E hr h=>?_)
 ·obtain ⟨p,r,t,d,rfl,_⟩:=h
  rfl
 ·obtain ⟨p,r,t,d,rfl,hR,hW,hr0,hl,hT,k⟩:=h
  have nd:=sc_show.nd
  refine ⟨_,(za1 (ps_if (zb2 op_eq (pv 1) za9 (nomark _)) (za4 (za6 (zb6 c_show_bounds (za0 (pv 0) za3) hr))) zb1) (za1 (ps_if (zb2 op_eq (pv 1) za9 (nomark _)) (za4 (za6 (zb6 c_show_check (za0 (pv 0) (za0 (pv 2) za3)) hr))) zb1) (za1 (ps_if (zb2 op_eq (pv 1) za9 (nomark _)) (za4 (za6 (zb6 c_show_adds (za0 (pv 0) (za0 (pv 2) za3)) hr))) zb1) (za4 (za6 (zb6 c_show_told (za0 (pv 0) za3) hr)))))),?_⟩
  cases d with
  | bounds =>
   refine ⟨_,rfl,rfl,_,rfl,ifEq rfl ?_⟩
   exact ⟨_,rfl,p,t,rfl,hR,hW,k⟩
  | check l =>
   refine ⟨_,rfl,rfl,_,rfl,ifNe (by dsimp only [num];decide) ?_⟩
   refine ⟨_,rfl,rfl,_,rfl,ifEq rfl ?_⟩
   exact ⟨_,rfl,_,rfl,p,r,t,l,rfl,hR,hW,hr0,k⟩
  | adds l =>
   refine ⟨_,rfl,rfl,_,rfl,ifNe (by dsimp only [num];decide) ?_⟩
   refine ⟨_,rfl,rfl,_,rfl,ifNe (by dsimp only [num];decide) ?_⟩
   refine ⟨_,rfl,rfl,_,rfl,ifEq rfl ?_⟩
   exact ⟨_,rfl,_,rfl,p,r,t,l,rfl,hR,hW,hr0,hl,k⟩
  | told =>
   refine ⟨_,rfl,rfl,_,rfl,ifNe (by dsimp only [num];decide) ?_⟩
   refine ⟨_,rfl,rfl,_,rfl,ifNe (by dsimp only [num];decide) ?_⟩
   refine ⟨_,rfl,rfl,_,rfl,ifNe (by dsimp only [num];decide) ?_⟩
   exact ⟨_,rfl,p,t,rfl,hR,hW,k⟩
  | box=>cases hT
  | wire=>cases hT
  | event=>cases hT
  | press=>cases hT
  | sent=>cases hT
  | heard=>cases hT
  | limit=>cases hT
  | drop=>cases hT
  | fits=>cases hT
  | most=>cases hT
  | sure=>cases hT
  | way=>cases hT
  | first=>cases hT
  | history=>cases hT
  | late=>cases hT
  | needed=>cases hT
  | would=>cases hT
  | report=>cases hT
  | wakes=>cases hT
  | ruled=>cases hT
abbrev s_rule:Stmt:=top 72
abbrev n_rule:List Str:=["record", "number", "given", "row"]
abbrev p_rule:List Str:=["record", "number", "given", "row"]
theorem sc_rule:FnScope n_rule p_rule (defScope s_rule):=⟨rfl,rfl,rfl,by decide +kernel,rfl,by decide +kernel,by decide +kernel⟩
def spRule (C:Clss) (K:PySem.W.Frag):Sp:=fun vs H Q _=>∃ (p g r:Addr) (s:State) (d:Call),vs=[.ref p,.int (num d:Nat),.ref g,.ref r]∧RecAt C H p s∧FP.Wf s∧SqL K H g ((args d).map V.int)∧SqL K H r ((rowOf d).map V.int)∧(rowOf d).length≤60∧isRule d=true∧RangeOk d=true∧ThereOk s d=true∧NewAns H (restOf s d).2 Q
theorem ok_rule {f:Addr} {fd:FuncData} {C:Clss} (F:Fun K "rule" "rule" s_rule f fd) (c_rule_first:CallOk P w K mg base "rule_first" 8 zo7 (spRuleFirst C K)) (c_rule_needed:CallOk P w K mg base "rule_needed" 8 zm0 (spRuleNeeded C)) (c_rule_would:CallOk P w K mg base "rule_would" 8 zo5 (spRuleWould C)) (c_rule_ruled:CallOk P w K mg base "rule_ruled" 8 zo6 (spRuleRuled C)):FnOk P w K mg base CX0 9 f fd p_rule (spRule C K):=by
 refine F.ok sc_rule (fun vs H Q E h=>?_) (fun cdv A outer s H vs Q E hr h=>?_)
 ·obtain ⟨p,g,r,t,d,rfl,_⟩:=h
  rfl
 ·obtain ⟨p,g,r,t,d,rfl,hR,hW,hg,hr0,hl,hT,hRg,hTh,k⟩:=h
  have nd:=sc_rule.nd
  refine ⟨_,(za1 (ps_if (zb2 op_eq (pv 1) za9 (nomark _)) (za4 (za6 (zb6 c_rule_first (za0 (pv 0) (za0 (pv 3) za3)) hr))) zb1) (za1 (ps_if (zb2 op_eq (pv 1) za9 (nomark _)) (za4 (za6 (zb6 c_rule_needed (za0 (pv 0) (za0 (zb3 zb0 (pv 2) za9) (za0 (zb3 zb0 (pv 2) za9) za3))) hr))) zb1) (za1 (ps_if (zb2 op_eq (pv 1) za9 (nomark _)) (za4 (za6 (zb6 c_rule_would (za0 (pv 0) (za0 (zb3 zb0 (pv 2) za9) (za0 (zb3 zb0 (pv 2) za9) (za0 (zb3 zb0 (pv 2) za9) za3)))) hr))) zb1) (za4 (za6 (zb6 c_rule_ruled (za0 (pv 0) za3) hr)))))),?_⟩
  cases d with
  | first l =>
   refine ⟨_,rfl,rfl,_,rfl,ifEq rfl ?_⟩
   exact ⟨_,rfl,_,rfl,p,r,t,l,rfl,hR,hW,hr0,hl,k⟩
  | needed x y =>
   obtain ⟨rx,ry⟩:=rg_two hRg
   obtain ⟨tx,ty⟩:=th_two hTh
   obtain ⟨x,rfl⟩:=ze6 rx
   obtain ⟨y,rfl⟩:=ze6 ry
   refine ⟨_,rfl,rfl,_,rfl,ifNe (by dsimp only [num];decide) ?_⟩
   refine ⟨_,rfl,rfl,_,rfl,ifEq rfl ?_⟩
   exact ⟨_,rfl,_,rfl,g,_,_,_,rfl,rfl,hg,za8 (j:=0) (v:=V.int (x:Int)) rfl,_,rfl,g,_,_,_,rfl,rfl,hg,za8 (j:=1) (v:=V.int (y:Int)) rfl,p,t,x,y,rfl,hR,hW,by omega,by omega,k⟩
  | would m i st =>
   obtain ⟨rm,ri,rs,rs2⟩:=rg_would hRg
   obtain ⟨tm,ti⟩:=th_would hTh
   obtain ⟨m,rfl⟩:=ze6 rm
   obtain ⟨i,rfl⟩:=ze6 ri
   obtain ⟨st,rfl⟩:=ze6 rs
   refine ⟨_,rfl,rfl,_,rfl,ifNe (by dsimp only [num];decide) ?_⟩
   refine ⟨_,rfl,rfl,_,rfl,ifNe (by dsimp only [num];decide) ?_⟩
   refine ⟨_,rfl,rfl,_,rfl,ifEq rfl ?_⟩
   exact ⟨_,rfl,_,rfl,g,_,_,_,rfl,rfl,hg,za8 (j:=0) (v:=V.int (m:Int)) rfl,_,rfl,g,_,_,_,rfl,rfl,hg,za8 (j:=1) (v:=V.int (i:Int)) rfl,_,rfl,g,_,_,_,rfl,rfl,hg,za8 (j:=2) (v:=V.int (st:Int)) rfl,p,t,m,i,st,rfl,hR,hW,by omega,by omega,by omega,k⟩
  | ruled =>
   refine ⟨_,rfl,rfl,_,rfl,ifNe (by dsimp only [num];decide) ?_⟩
   refine ⟨_,rfl,rfl,_,rfl,ifNe (by dsimp only [num];decide) ?_⟩
   refine ⟨_,rfl,rfl,_,rfl,ifNe (by dsimp only [num];decide) ?_⟩
   exact ⟨_,rfl,p,t,rfl,hR,hW,k⟩
  | box=>cases hT
  | wire=>cases hT
  | event=>cases hT
  | press=>cases hT
  | sent=>cases hT
  | heard=>cases hT
  | limit=>cases hT
  | drop=>cases hT
  | fits=>cases hT
  | most=>cases hT
  | sure=>cases hT
  | way=>cases hT
  | bounds=>cases hT
  | history=>cases hT
  | late=>cases hT
  | check=>cases hT
  | adds=>cases hT
  | report=>cases hT
  | wakes=>cases hT
  | told=>cases hT
abbrev s_ask:Stmt:=top 49
abbrev n_ask:List Str:=["record", "number", "given", "survey"]
abbrev p_ask:List Str:=["record", "number", "given"]
theorem sc_ask:FnScope n_ask p_ask (defScope s_ask):=⟨rfl,rfl,rfl,by decide +kernel,rfl,by decide +kernel,by decide +kernel⟩
def spAsk (C:Clss) (K:PySem.W.Frag):Sp:=fun vs H Q _=>∃ (p g:Addr) (s:State) (d:Call),vs=[.ref p,.int (num d:Nat),.ref g]∧RecAt C H p s∧FP.Wf s∧SqL K H g ((args d).map V.int)∧isTell d=false∧isShow d=false∧isRule d=false∧RangeOk d=true∧ThereOk s d=true∧NewAns H (restOf s d).2 Q
theorem ok_ask {f:Addr} {fd:FuncData} {C:Clss} (F:Fun K "ask" "ask" s_ask f fd) (g_NO_HISTORY:GVal mg "NO_HISTORY" (.int (-8))) (m_Survey:MakeOk P w K mg base "Survey" C.survey 6 ze1 (spSurveyInit C)) (mt_has_history:MethOk P w K mg base C.survey "has_history" 1 zc5 (spHasHistory C))
  (c_ask_fits:CallOk P w K mg base "ask_fits" 5 zx1 (spAskFits C)) (c_ask_most:CallOk P w K mg base "ask_most" 1 zw9 (spAskMost C)) (c_ask_sure:CallOk P w K mg base "ask_sure" 2 zw8 (spAskSure C)) (c_ask_way:CallOk P w K mg base "ask_way" 5 yb4 (spAskWay C)) (c_ask_history:CallOk P w K mg base "ask_history" 2 zm4 (spAskHistory C)) (c_ask_late:CallOk P w K mg base "ask_late" 2 zx0 (spAskLate C)):FnOk P w K mg base CX0 8 f fd p_ask (spAsk C K):=by
 refine F.ok sc_ask (fun vs H Q E h=>?_) (fun cdv A outer s H vs Q E hr h=>?_)
 ·obtain ⟨p,g,t,d,rfl,_⟩:=h
  rfl
 ·obtain ⟨p,g,t,d,rfl,hR,hW,hg,hT1,hT2,hT3,hRg,hTh,k⟩:=h
  have nd:=sc_ask.nd
  have hI:=FP.zi7 hW
  have hne16:=hW.ne
  refine ⟨_,(za1 (zb8 (i:=3) nd rfl (Or.inl rfl) (zh5 m_Survey (za0 (pv 0) za3) hr)) (za1 (ps_if (zb2 op_eq (pv 1) za9 (nomark _)) (za4 (za6 (zb6 c_ask_fits (za0 (pv 3) za3) hr))) zb1) (za1 (ps_if (zr4 (zd0 (zn5 mt_has_history (pv 3) hr) (fun _=>rfl))) (za4 (za6 (zb7 (za0 (pe_gv g_NO_HISTORY) za3)))) zb1) (za1 (ps_if (zb2 op_eq (pv 1) za9 (nomark _)) (za4 (za6 (zb6 c_ask_most (za0 (pv 3) (za0 (zb3 zb0 (pv 2) za9) (za0 (zb3 zb0 (pv 2) za9) za3))) hr))) zb1) (za1 (ps_if (zb2 op_eq (pv 1) za9 (nomark _)) (za4 (za6 (zb6 c_ask_sure (za0 (pv 3) (za0 (zb3 zb0 (pv 2) za9) (za0 (zb3 zb0 (pv 2) za9) za3))) hr))) zb1) (za1 (ps_if (zb2 op_eq (pv 1) za9 (nomark _)) (za4 (za6 (zb6 c_ask_way (za0 (pv 3) (za0 (zb3 zb0 (pv 2) za9) (za0 (zb3 zb0 (pv 2) za9) za3))) hr))) zb1) (za1 (ps_if (zb2 op_eq (pv 1) za9 (nomark _)) (za4 (za6 (zb6 c_ask_history (za0 (pv 3) za3) hr))) zb1) (za4 (za6 (zb6 c_ask_late (za0 (pv 3) (za0 (zb3 zb0 (pv 2) za9) za3)) hr)))))))))),?_⟩
  refine ⟨_,rfl,fun q dq0 hq0 hdq0 _=>⟨q,p,dq0,t,rfl,za2,hR.same (Same.new hq0 hdq0),hW,fun H1 hx1 hS=>⟨rfl,?_⟩⟩⟩
  have s1:Same H H1:=Same.made hq0 hdq0 hx1
  have k:=k.later s1
  have hg:=s1.seq hg
  obtain ⟨dq,lq,mq,asq,lsq,hq,_⟩:=hS.ex
  by_cases c8:num d=8
  ·cases d with
   | fits =>
    refine ⟨_,rfl,rfl,_,rfl,ifEq rfl ?_⟩
    exact ⟨_,rfl,q,_,_,rfl,hS,hI,by omega,k⟩
   | _=>cases c8
  refine ⟨_,rfl,rfl,_,rfl,ifNe (by omega) ?_⟩
  refine ⟨_,rfl,q,dq,_,rfl,hq,ya0,q,_,_,rfl,hS,hI,by omega,_,rfl,?_⟩
  cases ef:Vbqzab.fits (Vbqzab.bounds t) t.events.length with
  | false =>
   have k8:NewAns H1 [-8] Q:=by
    have e:∀ l,ifFits t l=[-8]:=fun l=>if_pos ef
    cases d with
    | most=>exact e _▸k
    | sure=>exact e _▸k
    | way=>exact e _▸k
    | history=>exact e _▸k
    | late=>exact e _▸k
    | fits=>exact absurd rfl c8
    | _=>first | (cases hT1;done) | (cases hT2;done) | (cases hT3;done)
   exact iteT (zi0 k8)
  | true =>
  have e:∀ l,ifFits t l=l:=fun l=>if_neg (by rw [ef];decide)
  have hN:=(FP.zv0 hI).mp ef
  refine iteF ?_
  cases d with
  | most x y =>
   obtain ⟨rx,ry⟩:=rg_two hRg
   obtain ⟨tx,ty⟩:=th_two hTh
   obtain ⟨x,rfl⟩:=ze6 rx
   obtain ⟨y,rfl⟩:=ze6 ry
   have k:NewAns H1 (ifFits t (mostAns t x y)) Q:=k
   rw [e] at k
   refine ⟨_,rfl,rfl,_,rfl,ifEq rfl ?_⟩
   exact ⟨_,rfl,_,rfl,g,_,_,_,rfl,rfl,hg,za8 (j:=0) (v:=V.int (x:Int)) rfl,_,rfl,g,_,_,_,rfl,rfl,hg,za8 (j:=1) (v:=V.int (y:Int)) rfl,q,_,_,x,y,rfl,hS,hI,hN,by omega,by omega,by omega,k⟩
  | sure x y =>
   obtain ⟨rx,ry⟩:=rg_two hRg
   obtain ⟨tx,ty⟩:=th_two hTh
   obtain ⟨x,rfl⟩:=ze6 rx
   obtain ⟨y,rfl⟩:=ze6 ry
   have k:NewAns H1 (ifFits t (sureAns t x y)) Q:=k
   rw [e] at k
   refine ⟨_,rfl,rfl,_,rfl,ifNe (by dsimp only [num];decide) ?_⟩
   refine ⟨_,rfl,rfl,_,rfl,ifEq rfl ?_⟩
   exact ⟨_,rfl,_,rfl,g,_,_,_,rfl,rfl,hg,za8 (j:=0) (v:=V.int (x:Int)) rfl,_,rfl,g,_,_,_,rfl,rfl,hg,za8 (j:=1) (v:=V.int (y:Int)) rfl,q,_,_,x,y,rfl,hS,hI,hN,by omega,by omega,by omega,k⟩
  | way x y =>
   obtain ⟨rx,ry⟩:=rg_two hRg
   obtain ⟨tx,ty⟩:=th_two hTh
   obtain ⟨x,rfl⟩:=ze6 rx
   obtain ⟨y,rfl⟩:=ze6 ry
   have k:NewAns H1 (ifFits t (wayAns t x y)) Q:=k
   rw [e] at k
   refine ⟨_,rfl,rfl,_,rfl,ifNe (by dsimp only [num];decide) ?_⟩
   refine ⟨_,rfl,rfl,_,rfl,ifNe (by dsimp only [num];decide) ?_⟩
   refine ⟨_,rfl,rfl,_,rfl,ifEq rfl ?_⟩
   exact ⟨_,rfl,_,rfl,g,_,_,_,rfl,rfl,hg,za8 (j:=0) (v:=V.int (x:Int)) rfl,_,rfl,g,_,_,_,rfl,rfl,hg,za8 (j:=1) (v:=V.int (y:Int)) rfl,q,_,_,x,y,rfl,hS,hI,hN,by omega,by omega,by omega,k⟩
  | history =>
   have k:NewAns H1 (ifFits t (Vbqzab.numbers (Vbqzab.history (Vbqzab.bounds t) t.events.length))) Q:=k
   rw [e] at k
   refine ⟨_,rfl,rfl,_,rfl,ifNe (by dsimp only [num];decide) ?_⟩
   refine ⟨_,rfl,rfl,_,rfl,ifNe (by dsimp only [num];decide) ?_⟩
   refine ⟨_,rfl,rfl,_,rfl,ifNe (by dsimp only [num];decide) ?_⟩
   refine ⟨_,rfl,rfl,_,rfl,ifEq rfl ?_⟩
   exact ⟨_,rfl,q,_,_,rfl,hS,hI,hN,by omega,k⟩
  | late x =>
   have rx:=rg_one hRg
   have tx:=th_one hTh
   obtain ⟨x,rfl⟩:=ze6 rx
   have k:NewAns H1 (ifFits t (lateAns t x)) Q:=k
   rw [e] at k
   refine ⟨_,rfl,rfl,_,rfl,ifNe (by dsimp only [num];decide) ?_⟩
   refine ⟨_,rfl,rfl,_,rfl,ifNe (by dsimp only [num];decide) ?_⟩
   refine ⟨_,rfl,rfl,_,rfl,ifNe (by dsimp only [num];decide) ?_⟩
   refine ⟨_,rfl,rfl,_,rfl,ifNe (by dsimp only [num];decide) ?_⟩
   exact ⟨_,rfl,_,rfl,g,_,_,_,rfl,rfl,hg,za8 (j:=0) (v:=V.int (x:Int)) rfl,q,_,_,x,rfl,hS,hI,hN,by omega,by omega,k⟩
  | fits=>exact absurd rfl c8
  | _=>first | (cases hT1;done) | (cases hT2;done) | (cases hT3;done)
end
end FPP
namespace FPP
open PySem PySem.Spec PyProof.Rows L2
open Vbqzab (Bound Table at_ State Box Wire Evidence Call no whole inside)
theorem zp0 (n:Nat) (g r:Addr) (e:Nat):(cafs n g r e).lookup ("number" : Str)=some (.int n):=by
 unfold cafs
 rw [za5,if_neg (by decide +kernel),za5,if_neg (by decide +kernel),za5,if_neg (by decide +kernel),za5,if_pos rfl]
theorem yl0 (n:Nat) (g r:Addr) (e:Nat):(cafs n g r e).lookup ("given" : Str)=some (.ref g):=by
 unfold cafs
 rw [za5,if_neg (by decide +kernel),za5,if_neg (by decide +kernel),za5,if_pos rfl]
theorem ca_row (n:Nat) (g r:Addr) (e:Nat):(cafs n g r e).lookup ("row" : Str)=some (.ref r):=by
 unfold cafs
 rw [za5,if_neg (by decide +kernel),za5,if_pos rfl]
theorem ca_end (n:Nat) (g r:Addr) (e:Nat):(cafs n g r e).lookup ("end" : Str)=some (.int e):=by
 unfold cafs
 rw [za5,if_pos rfl]
structure TupOk (K:PySem.W.Frag) (mg:Str→Option Value) (x:Str) (ns:List Int):Prop where
 ex:∃ a:Addr,mg x=some (.ref a)∧∀ H:Hp,SqT K H a (ns.map V.int)
theorem told_new {C:Clss} {H0 H:Hp} {p:Addr} {s:State} {F:List Addr} {r:State×List Int} {Q:VK} (hM:RecM C H0 H p s F) (e:r.1=s) (k:Told1 C H0 H p F r Q):NewAns H r.2 Q:=fun H' q s' hq h=>k H' q F (by rw [e];exact hM.later s') (SameF.of s') (fun a ha => .inl ha) hq (hM.out hq) h
theorem yv2 (l:List Int):(l.map V.int).all flatV=true:=by
 refine List.all_eq_true.mpr fun v hv=>?_
 obtain ⟨z,_,rfl⟩:=List.mem_map.mp hv
 rfl
theorem kinds_at (d:Call):kinds[num d]?=some (kindsOf d):=by cases d <;> rfl
theorem yz0 (d:Call):(kindsOf d).length=(args d).length:=by cases d <;> rfl
theorem kinds_in (d:Call):∀ k∈kindsOf d,∃ r,rngs.lookup k=some r:=by
 have h:∀ ks∈kinds,∀ k∈ks,(rngs.lookup k).isSome=true:=by decide +kernel
 intro k hk
 have:=h _ (List.mem_of_getElem? (kinds_at d)) k hk
 cases e:rngs.lookup k with
 | none=>rw [e] at this;cases this
 | some r=>exact ⟨r,rfl⟩
theorem in_tells (d:Call):inV (V.int (num d:Nat)) ([0,1,2,3,4,5,6,7,20,21].map V.int)=isTell d:=by cases d <;> rfl
theorem in_shows (d:Call):inV (V.int (num d:Nat)) ([13,16,19,23].map V.int)=isShow d:=by cases d <;> rfl
theorem in_rules (d:Call):inV (V.int (num d:Nat)) ([12,17,18,22].map V.int)=isRule d:=by cases d <;> rfl
section
variable {P:Program} {w:World} {K:PySem.W.Frag} {mg:Str→Option Value} {base:Heap}
abbrev zq1:Stmt:=top 97
abbrev xd4:List Str:=["record", "call", "kinds"]
abbrev zm5:List Str:=["record", "call"]
theorem ye8:FnScope xd4 zm5 (defScope zq1):=⟨rfl,rfl,rfl,by decide +kernel,rfl,by decide +kernel,by decide +kernel⟩
def spAnswerCall (C:Clss):Sp:=fun vs H Q _=>∃ (p c g r dc:Addr) (H0:Hp) (s:State) (F:List Addr) (d:Call) (e:Nat),vs=[.ref p,.ref c]∧RecM C H0 H p s F∧FP.Wf s∧H c=some (.ins C.call dc (cafs (num d) g r e))∧H g=some (.lst ((args d).map V.int))∧H r=some (.lst ((rowOf d).map V.int))∧(rowOf d).length≤60∧Told1 C H0 H p F (Vbqzab.step s d) Q
theorem yw9 {f:Addr} {fd:FuncData} {C:Clss} (F:Fun K "answer_call" "answer_call" zq1 f fd) (T:CCls K C.call) (Kk:KindsOk K mg) (o_TELLS:TupOk K mg "TELLS" [0,1,2,3,4,5,6,7,20,21]) (o_SHOWS:TupOk K mg "SHOWS" [13,16,19,23]) (o_RULES:TupOk K mg "RULES" [12,17,18,22]) (g_OUT_OF_RANGE:GVal mg "OUT_OF_RANGE" (.int (-1))) (g_NOT_THERE:GVal mg "NOT_THERE" (.int (-4)))
  (c_in_ranges:CallOk P w K mg base "in_ranges" 1 zk6 (spInRanges K)) (mt_has_all:MethOk P w K mg base C.record "has_all" 2 zk1 (spHasAll C K)) (c_tell:CallOk P w K mg base "tell" 5 p_tell (spTell C K)) (c_show:CallOk P w K mg base "show" 7 p_show (spShow C K)) (c_rule:CallOk P w K mg base "rule" 9 p_rule (spRule C K)) (c_ask:CallOk P w K mg base "ask" 8 p_ask (spAsk C K)):FnOk P w K mg base CX0 10 f fd zm5 (spAnswerCall C):=by
 refine F.ok ye8 (fun vs H Q E h=>?_) (fun cdv A outer s H vs Q E hr h=>?_)
 ·obtain ⟨p,c,g,r,dc,H0,t,G,d,e,rfl,_⟩:=h
  rfl
 ·obtain ⟨p,c,g,r,dc,H0,t,G,d,e,rfl,hM,hW,hc,hg,hr0,hl,k⟩:=h
  have nd:=ye8.nd
  obtain ⟨ka,kts,q1,q2,q3⟩:=Kk.ex
  have g_KINDS:GVal mg "KINDS" (.ref ka):=⟨_,q1,rfl⟩
  obtain ⟨ta,t1,t2⟩:=o_TELLS.ex
  have g_TELLS:GVal mg "TELLS" (.ref ta):=⟨_,t1,rfl⟩
  obtain ⟨sa,u1,u2⟩:=o_SHOWS.ex
  have g_SHOWS:GVal mg "SHOWS" (.ref sa):=⟨_,u1,rfl⟩
  obtain ⟨ra,w1,w2⟩:=o_RULES.ex
  have g_RULES:GVal mg "RULES" (.ref ra):=⟨_,w1,rfl⟩
  obtain ⟨kt,ht1,ht2⟩:=q3 (num d) (kindsOf d) (kinds_at d)
  obtain ⟨x1,x2,x3⟩:=step_ck t d
  refine ⟨_,(za1 (zb8 (i:=2) nd rfl (Or.inl rfl) (zb3 yu9 (pe_gv g_KINDS) (pe_at (pv 1)))) (za1 (ps_if (zr4 (zd0 (zb6 c_in_ranges (za0 (pv 2) (za0 (pe_at (pv 1)) za3)) hr) (fun _=>rfl))) (za4 (za6 (zb7 (za0 (pe_gv g_OUT_OF_RANGE) za3)))) zb1) (za1 (ps_if (zr4 (zd0 (zd4 mt_has_all (pv 0) (za0 (pv 2) (za0 (pe_at (pv 1)) za3)) hr) (fun _=>rfl))) (za4 (za6 (zb7 (za0 (pe_gv g_NOT_THERE) za3)))) zb1) (za1 (ps_if (zb2 yj5 (pe_at (pv 1)) (pe_gv g_TELLS) (by rfl)) (za4 (za6 (zb6 c_tell (za0 (pv 0) (za0 (pe_at (pv 1)) (za0 (pe_at (pv 1)) za3))) hr))) zb1) (za1 (ps_if (zb2 yj5 (pe_at (pv 1)) (pe_gv g_SHOWS) (by rfl)) (za4 (za6 (zb6 c_show (za0 (pv 0) (za0 (pe_at (pv 1)) (za0 (pe_at (pv 1)) za3))) hr))) zb1) (za1 (ps_if (zb2 yj5 (pe_at (pv 1)) (pe_gv g_RULES) (by rfl)) (za4 (za6 (zb6 c_rule (za0 (pv 0) (za0 (pe_at (pv 1)) (za0 (pe_at (pv 1)) (za0 (pe_at (pv 1)) za3)))) hr))) zb1) (za4 (za6 (zb6 c_ask (za0 (pv 0) (za0 (pe_at (pv 1)) (za0 (pe_at (pv 1)) za3))) hr))))))))),?_⟩
  refine ⟨_,rfl,c,C.call,dc,_,_,rfl,hc,T.cl,T.nN,zp0 ..,ka,_,_,_,rfl,rfl,q2 _,za8 (zc8 ht1),?_⟩
  refine ⟨_,rfl,_,rfl,c,C.call,dc,_,_,rfl,hc,T.cl,T.nG,yl0 ..,kt,g,kindsOf d,args d,rfl,ht2 _,SqL.of hg,yz0 d,kinds_in d,fun H1 s1=>⟨_,rfl,?_⟩⟩
  have hM:=hM.later s1
  have k:=k.later s1
  have hc:=s1 _ _ hc
  have hg:=s1 _ _ hg
  have hr0:=s1 _ _ hr0
  show if (!RangeOk d)=true then _ else _
  cases eR:RangeOk d with
  | false =>
   rw [x1 eR] at k
   exact iteT ⟨(sz1),fun z hz=>refuse hM k hz⟩
  | true =>
  refine iteF ?_
  obtain ⟨dx,lb,le,lm,lv,dw,ab,ae,av,kvs,h1,_⟩:=hM.at.ex
  refine ⟨_,rfl,p,dx,_,rfl,h1,rc_no,_,rfl,_,rfl,c,C.call,dc,_,_,rfl,hc,T.cl,T.nG,yl0 ..,p,kt,g,t,kindsOf d,args d,rfl,hM.at,ht2 _,SqL.of hg,yz0 d,fun H2 s2=>⟨_,rfl,?_⟩⟩
  have hM:=hM.later s2
  have k:=k.later s2
  have hc:=s2 _ _ hc
  have hg:=s2 _ _ hg
  have hr0:=s2 _ _ hr0
  show if (!ThereOk t d)=true then _ else _
  cases eT:ThereOk t d with
  | false =>
   rw [x2 eR eT] at k
   exact iteT ⟨(sz1),fun z hz=>refuse hM k hz⟩
  | true =>
  rw [x3 eR eT] at k
  refine iteF ?_
  refine ⟨_,rfl,c,C.call,dc,_,_,rfl,hc,T.cl,T.nN,zp0 ..,ta,_,rfl,.inr (t2 _),rfl,yv2 _,_,rfl,?_⟩
  show if inV (V.int (num d:Nat)) ([0,1,2,3,4,5,6,7,20,21].map V.int)=true then _ else _
  rw [in_tells]
  cases e1:isTell d with
  | true =>
   exact iteT ⟨_,rfl,_,rfl,c,C.call,dc,_,_,rfl,hc,T.cl,T.nN,zp0 ..,_,rfl,c,C.call,dc,_,_,rfl,hc,T.cl,T.nG,yl0 ..,p,g,H0,t,G,d,rfl,hM,hW,SqL.of hg,e1,eR,eT,k⟩
  | false =>
  have k:=told_new hM (rest_same e1) k
  refine iteF ?_
  refine ⟨_,rfl,c,C.call,dc,_,_,rfl,hc,T.cl,T.nN,zp0 ..,sa,_,rfl,.inr (u2 _),rfl,yv2 _,_,rfl,?_⟩
  show if inV (V.int (num d:Nat)) ([13,16,19,23].map V.int)=true then _ else _
  rw [in_shows]
  cases e2:isShow d with
  | true =>
   exact iteT ⟨_,rfl,_,rfl,c,C.call,dc,_,_,rfl,hc,T.cl,T.nN,zp0 ..,_,rfl,c,C.call,dc,_,_,rfl,hc,T.cl,T.nR,ca_row ..,p,r,t,d,rfl,hM.at,hW,SqL.of hr0,hl,e2,k⟩
  | false =>
  refine iteF ?_
  refine ⟨_,rfl,c,C.call,dc,_,_,rfl,hc,T.cl,T.nN,zp0 ..,ra,_,rfl,.inr (w2 _),rfl,yv2 _,_,rfl,?_⟩
  show if inV (V.int (num d:Nat)) ([12,17,18,22].map V.int)=true then _ else _
  rw [in_rules]
  cases e3:isRule d with
  | true =>
   exact iteT ⟨_,rfl,_,rfl,c,C.call,dc,_,_,rfl,hc,T.cl,T.nN,zp0 ..,_,rfl,c,C.call,dc,_,_,rfl,hc,T.cl,T.nG,yl0 ..,_,rfl,c,C.call,dc,_,_,rfl,hc,T.cl,T.nR,ca_row ..,p,g,r,t,d,rfl,hM.at,hW,SqL.of hg,SqL.of hr0,hl,e3,eR,eT,k⟩
  | false =>
   exact iteF ⟨_,rfl,_,rfl,c,C.call,dc,_,_,rfl,hc,T.cl,T.nN,zp0 ..,_,rfl,c,C.call,dc,_,_,rfl,hc,T.cl,T.nG,yl0 ..,p,g,t,d,rfl,hM.at,hW,SqL.of hg,e1,e2,e3,eR,eT,k⟩
theorem RecM.apart {C:Clss} {H0 H:Hp} {p z D dz:Addr} {t:State} {F:List Addr} {fs:List (Str×V)} (h:RecM C H0 H p t F) (hz:H z=some (.ins D dz fs)) (hD:D≠C.box):z ∉ F:=by
 obtain ⟨dx,lb,le,lm,lv,dw,ab,ae,av,kvs,h1,h2,h3,h4,h5,h6,h7,h8,h9⟩:=h.ex
 intro q
 have bad:∀ {a:Addr} {o:HO},H a=some o→(HO.ins D dz fs≠o)→z=a→False:=fun e n e2=>by
  rw [e2,e] at hz
  exact n (Option.some.inj hz).symm
 rw [h7] at q
 simp only [List.mem_cons] at q
 rcases q with q | q | q | q | q | q
 ·exact bad h3.lst (fun z=>nomatch z) q
 ·exact bad h4.lst (fun z=>nomatch z) q
 ·exact bad h2 (fun z=>nomatch z) q
 ·exact bad h5.lst (fun z=>nomatch z) q
 ·exact bad h6.dict (fun z=>nomatch z) q
 ·obtain ⟨i,hi⟩:=List.getElem?_of_mem q
  obtain ⟨b,hb⟩:=FP.zc2 (l:=t.boxes.zipIdx.map fun u=>(u.1,Vbqzab.isOld t u.2)) (i:=i) (by rw [← h3.len];exact (List.getElem?_eq_some_iff.mp hi).1)
  obtain ⟨a,e1,d,e2⟩:=h3.at_ i b hb
  rw [hi] at e1
  cases e1
  exact bad e2 (fun z=>hD (HO.ins.inj z).1) rfl
theorem RecM.updL {C:Clss} {H0 H:Hp} {p l:Addr} {t:State} {F:List Addr} {xs:List V} {o:HO} (h:RecM C H0 H p t F) (hl:H l=some (.lst xs)) (hF:l ∉ F) (h0:H0 l=none):RecM C H0 (L2.upd H l o) p t F:=by
 obtain ⟨dx,lb,le,lm,lv,dw,ab,ae,av,kvs,h1,h2,h3,h4,h5,h6,h7,h8,h9⟩:=h.ex
 have ne:∀ {a:Addr},a∈F→a≠l:=fun ha e=>hF (e▸ha)
 have m1:lb∈F:=by rw [h7];simp
 have m2:le∈F:=by rw [h7];simp
 have m3:lm∈F:=by rw [h7];simp
 have m4:lv∈F:=by rw [h7];simp
 refine ⟨⟨dx,lb,le,lm,lv,dw,ab,ae,av,kvs,zi2 hl h1,by rw [zb5 (ne m3)];exact h2,h3.upd (ne m1) (fun a x q=>yh0 hl q),h4.upd (ne m2) (fun a x q=>yn0 hl q),h5.upd (ne m4) (fun a x q=>yn1 hl q),?_,h7,h8,h9⟩,h.fr,h.same.over h0⟩
 have:=yc2 (o:=o) h6 hl
 exact ⟨this.dict,this.none_,this.some_,this.nd,this.rg⟩
theorem whole_id (c:List (List Int)):PyVbqzab.whole c=c:=by
 unfold PyVbqzab.whole
 split <;> rfl
theorem asked_one {c:VbqzabNeutral.Call} (h:VbqzabNeutral.asked1 c=true):∃ d,VbqzabNeutral.callOf c=some d∧(rowOf d).length≤60:=by
 unfold VbqzabNeutral.asked1 at h
 split at h
 all_goals first
  | exact ⟨_,rfl,Nat.zero_le _⟩
  | (rw [Bool.and_eq_true] at h;exact ⟨_,rfl,of_decide_eq_true h.2⟩)
  | cases h
theorem step_of {s:State} {c:VbqzabNeutral.Call} {d:Call} (h:VbqzabNeutral.callOf c=some d):VbqzabNeutral.step s c=Vbqzab.step s d:=by
 unfold VbqzabNeutral.step
 rw [h]
theorem num_lt (d:Call):num d < 24:=by cases d <;> (dsimp only [num];decide)
theorem yz9 (d:Call):FP.arity[num d]?=some (args d).length:=by cases d <;> rfl
theorem hasRow_rows (d:Call):rowsOf d=if FP.hasRow (num d)=true then [rowOf d] else []:=by cases d <;> rfl
theorem row_none {d:Call} (h:FP.hasRow (num d)=false):rowOf d=[]:=by
 cases d <;> first | rfl | cases h
theorem calls_here {ns:List Int} {pl f:Nat} {cs:List (List (List Int))} (hlt:pl < ns.length) (h:PyFlat.calls PyVbqzab.shape f (ns.drop pl)=some cs) (hall:∀ c∈cs,VbqzabNeutral.asked1 c=true) :
  ∃ (d:Call) (f' en:Nat) (rest:List (List (List Int))) (c:VbqzabNeutral.Call),cs=c :: rest∧VbqzabNeutral.callOf c=some d∧(rowOf d).length≤60∧ns[pl]?=some (num d:Int)∧pl + 1 + (args d).length≤ns.length∧(ns.drop (pl + 1)).take (args d).length=args d∧pl < en∧en≤ns.length∧PyFlat.calls PyVbqzab.shape f' (ns.drop en)=some rest ∧
   (FP.hasRow (num d)=false→en=pl + 1 + (args d).length)∧(FP.hasRow (num d)=true→∃ q:Nat,ns[pl + 1 + (args d).length]?=some (q:Int)∧pl + 1 + (args d).length + 1 + q≤ns.length∧(ns.drop (pl + 1 + (args d).length + 1)).take q=rowOf d∧en=pl + 1 + (args d).length + 1 + q):=by
 have hd0:ns.drop pl=ns[pl] :: ns.drop (pl + 1):=List.drop_eq_getElem_cons hlt
 rw [hd0] at h
 cases f with
 | zero=>cases h
 | succ f =>
  obtain ⟨n,k,xs,t,rest,h1,h2,h3,h4,rfl⟩:=FP.calls_cons h
  obtain ⟨d,hd,hrow⟩:=asked_one (hall _ (List.mem_cons_self ..))
  have e:=callOf_some hd
  have e1:=(List.cons.inj e).1
  have e2:xs=rowsOf d:=(List.cons.inj e).2
  have e3:ns[pl]=(num d:Int):=(List.cons.inj e1).1
  have e4:(ns.drop (pl + 1)).take n=args d:=(List.cons.inj e1).2
  obtain ⟨c',hc1,hc2,hc3,hc4⟩:=FP.shape_some h1
  have ec:c'=num d:=by
   have:(c':Int)=(num d:Int):=hc1.symm.trans e3
   omega
  subst ec
  have en0:n=(args d).length:=Option.some.inj (hc3.symm.trans (yz9 d))
  subst en0
  rw [List.length_drop] at h2
  have hget:ns[pl]?=some (num d:Int):=by rw [List.getElem?_eq_getElem hlt,e3]
  rw [List.drop_drop] at h3
  cases hr:FP.hasRow (num d) with
  | false =>
   rw [hr] at hc4
   have hc4:k=0:=hc4
   subst hc4
   have h3:some ([],ns.drop (pl + 1 + (args d).length))=some (xs,t):=h3
   have et:ns.drop (pl + 1 + (args d).length)=t:=(Prod.mk.inj (Option.some.inj h3)).2
   subst et
   exact ⟨d,f,pl + 1 + (args d).length,rest,_,rfl,hd,hrow,hget,by omega,e4,by omega,by omega,h4,fun _=>rfl,fun z=>absurd (hr.symm.trans z) Bool.false_ne_true⟩
  | true =>
   rw [hr] at hc4
   have hc4:k=1:=hc4
   subst hc4
   obtain ⟨z,r',z1,z2,z3,z4,z5⟩:=FP.rows_one h3
   have hlt2:pl + 1 + (args d).length < ns.length:=by
    rcases Nat.lt_or_ge (pl + 1 + (args d).length) ns.length with q | q
    ·exact q
    ·rw [List.drop_eq_nil_of_le q] at z1;cases z1
   have hd1:ns.drop (pl + 1 + (args d).length)=ns[pl + 1 + (args d).length] :: ns.drop (pl + 1 + (args d).length + 1):=List.drop_eq_getElem_cons hlt2
   rw [hd1] at z1
   obtain ⟨y1,y2⟩:=List.cons.inj z1
   subst y2
   have ez:z=(z.toNat:Int):=(Int.toNat_of_nonneg z2).symm
   rw [List.length_drop] at z3
   have exs:[rowOf d]=[(ns.drop (pl + 1 + (args d).length + 1)).take z.toNat]:=by
    rw [← z4,e2,hasRow_rows,hr]
    rfl
   rw [List.drop_drop] at z5
   subst z5
   exact ⟨d,f,pl + 1 + (args d).length + 1 + z.toNat,rest,_,rfl,hd,hrow,hget,by omega,e4,by omega,by omega,h4,fun u=>absurd (hr.symm.trans u) (by decide),fun _=>⟨z.toNat,by rw [List.getElem?_eq_getElem hlt2,y1];exact congrArg some ez,by omega,(List.cons.inj exs).1.symm,rfl⟩⟩
abbrev yj0:Stmt:=top 96
abbrev n_answers:List Str:=["calls", "record", "given_back", "place", "call", "answer"]
abbrev yj4:List Str:=["calls"]
theorem yy0:FnScope n_answers yj4 (defScope yj0):=⟨rfl,rfl,rfl,by decide +kernel,rfl,by decide +kernel,by decide +kernel⟩
def spAns (K:PySem.W.Frag):Sp:=fun vs H Q _=>∃ (a:Addr) (ns:List Int),vs=[.ref a]∧SqL K H a (ns.map V.int)∧PyVbqzab.answers_asked ns=true∧∀ (H':Hp) (p:Addr),H' p=some (.lst ((PyVbqzab.answers ns).map V.int))→Q (.ref p) H'
theorem asked_all {ns:List Int} (h:PyVbqzab.answers_asked ns=true):∃ cs,PyFlat.calls PyVbqzab.shape ns.length ns=some cs∧(∀ c∈cs,VbqzabNeutral.asked1 c=true)∧PyVbqzab.answers ns=PyFlat.told (PyFlat.played VbqzabNeutral.step VbqzabNeutral.start cs)∧(PyVbqzab.answers ns).length≤10000000:=by
 unfold PyVbqzab.answers_asked at h
 cases e:PyFlat.calls PyVbqzab.shape ns.length ns with
 | none=>rw [e] at h;cases h
 | some cs =>
  rw [e] at h
  dsimp only at h
  have em:cs.map PyVbqzab.whole=cs:=by
   rw [List.map_congr_left (g:=id) (fun c _=>whole_id c),List.map_id]
  simp only [Bool.and_eq_true] at h
  obtain ⟨⟨⟨⟨_,_⟩,_⟩,h4⟩,h5⟩:=h
  rw [em] at h4
  unfold VbqzabNeutral.asked at h4
  rw [Bool.and_eq_true] at h4
  refine ⟨cs,rfl,fun c hc=>List.all_eq_true.mp h4.1 c hc,?_,of_decide_eq_true h5⟩
  unfold PyVbqzab.answers PyVbqzab.calls
  rw [e]
  dsimp only
  rw [em]
theorem ok_answers {f:Addr} {fd:FuncData} {C:Clss} (F:Fun K "answers" "answers" yj0 f fd) (T:CCls K C.call) (hcb:C.call≠C.box) (g_len:mg "len" = none) (m_Record:MakeOk P w K mg base "Record" C.record 1 zi6 (spRecordInit C)) (c_read_call:CallOk P w K mg base "read_call" 3 zs1 (spReadCall C K)) (c_answer_call:CallOk P w K mg base "answer_call" 10 zm5 (spAnswerCall C)):FnOk P w K mg base CX0 11 f fd yj4 (spAns K):=by
 refine F.ok yy0 (fun vs H Q E h=>?_) (fun cdv A outer s H vs Q E hr h=>?_)
 ·obtain ⟨a,ns,rfl,_⟩:=h
  rfl
 ·obtain ⟨a,ns,rfl,ha,hask,k⟩:=h
  have nd:=yy0.nd
  obtain ⟨cs0,hcs0,hall0,hans,hmax⟩:=asked_all hask
  have hnl:(ns.map V.int).length=ns.length:=List.length_map _
  refine ⟨_,(za1 (zb8 (i:=1) nd rfl (Or.inl rfl) (pe_mkn0 m_Record hr)) (za1 (zb8 (i:=2) nd rfl (Or.inl rfl) (zb7 za3)) (za1 (zb8 (i:=3) nd rfl (Or.inl rfl) za9) (za1 (yq3 PassesOwn.never (zb2 op_lt (pv 3) (zc0 zb4 (by rfl) g_len PySem.boot_len (za0 (pv 0) za3)) (nomark _)) (za1 (zb8 (i:=4) nd rfl (Or.inl rfl) (zb6 c_read_call (za0 (pv 0) (za0 (pv 3) za3)) hr)) (za1 (zb8 (i:=5) nd rfl (Or.inl rfl) (zb6 c_answer_call (za0 (pv 1) (za0 (pv 4) za3)) hr)) (za1 (zl7 (pe_bm PySem.F.plainAttrs_list PySem.F.slot_list_append PySem.F.type_list_append zs4 (pv 2) (za0 (zc0 zb4 (by rfl) g_len PySem.boot_len (za0 (pv 5) za3)) za3))) (za1 (zl7 (pe_bm PySem.F.plainAttrs_list PySem.F.slot_list_extend PySem.F.type_list_extend zx3 (pv 2) (za0 (pv 5) za3))) (za4 (zb8 (i:=3) nd rfl (Or.inl rfl) (pe_at (pv 4))))))))) (za4 (za6 (pv 2))))))),?_⟩
  intro q dq hq0 hdq _
  have s0:Same H (upd (upd H dq (.own q)) q (.ins C.record dq [])):=Same.new hq0 hdq
  refine ⟨q,dq,H,rfl,za2,fun b o e=>⟨zb9 e hq0,s0 _ _ e⟩,fun H1 F1 hM1 hF1 hx1=>⟨rfl,?_⟩⟩
  refine ⟨Nat.zero_le _,fun gb hgb=>?_⟩
  have hgb0:H gb=none:=hM1.same.free hgb
  refine ⟨fun m σ H'=>∃ (pl:Nat) (t:State) (G:List Addr) (f':Nat) (cs:List (List (List Int))) (acc:List Int) (v4 v5:Option V),σ=[some (.ref a),some (.ref q),some (.ref gb),some (.int pl),v4,v5]∧RecM C H H' q t G∧FP.Wf t∧gb ∉ G∧H' gb=some (.lst (acc.map V.int))∧pl≤ns.length∧m=ns.length - pl∧PyFlat.calls PyVbqzab.shape f' (ns.drop pl)=some cs∧(∀ c∈cs,VbqzabNeutral.asked1 c=true)∧PyVbqzab.answers ns=acc++PyFlat.told (PyFlat.played VbqzabNeutral.step t cs),
   ⟨ns.length,0,Vbqzab.start,F1,ns.length,cs0,[],none,none,rfl,hM1.later (Same.laid hgb),FP.wf_start,hM1.out hgb,za2,Nat.zero_le _,rfl,hcs0,hall0,hans⟩,?_⟩
  rintro m σ H2 ⟨pl,t,G,f',cs,acc,v4,v5,rfl,hM,hW,hgG,hgb2,hpl,rfl,hcs,hall,hacc⟩
  have ha2:=hM.same.seq ha
  refine ⟨_,rfl,_,rfl,a,_,rfl,.inl ha2,_,_,rfl,rfl,_,rfl,?_⟩
  rw [hnl]
  refine iteD (fun hlt=>?_) (fun hge=>?_)
  ·have hlt:pl < ns.length:=by omega
   obtain ⟨d,f2,en,rest,c,rfl,hd,hrow,hget,hlen,htake,hen1,hen2,hrest,hr0,hr1⟩:=calls_here hlt hcs hall
   have hp1:PyFlat.told (PyFlat.played VbqzabNeutral.step t (c :: rest))=((((Vbqzab.step t d).2.length:Nat):Int) :: (Vbqzab.step t d).2)++PyFlat.told (PyFlat.played VbqzabNeutral.step (Vbqzab.step t d).1 rest):=by
    rw [← step_of hd]
    rfl
   rw [hp1,← List.append_assoc] at hacc
   have hbig:acc.length + (1 + (Vbqzab.step t d).2.length)≤10000000:=by
    rw [hacc,List.length_append,List.length_append,List.length_cons] at hmax
    omega
   refine ⟨fun σ' H'=>∃ m',m' < ns.length - pl∧∃ (pl:Nat) (t:State) (G:List Addr) (f':Nat) (cs:List (List (List Int))) (acc:List Int) (v4 v5:Option V),σ'=[some (.ref a),some (.ref q),some (.ref gb),some (.int pl),v4,v5]∧RecM C H H' q t G∧FP.Wf t∧gb ∉ G∧H' gb=some (.lst (acc.map V.int))∧pl≤ns.length∧m'=ns.length - pl∧PyFlat.calls PyVbqzab.shape f' (ns.drop pl)=some cs∧(∀ c∈cs,VbqzabNeutral.asked1 c=true)∧PyVbqzab.answers ns=acc++PyFlat.told (PyFlat.played VbqzabNeutral.step t cs),fun _ _ z=>z,?_⟩
   refine ⟨_,rfl,_,rfl,a,ns,pl,num d,(args d).length,rfl,ha2,hget,num_lt d,yz9 d,hlen,?_⟩
   refine ⟨fun hrw H3 cc g r dc s3 hcc hg hr2=>?_,fun hrw=>?_⟩
   ·rw [htake] at hg
    rw [← hr0 hrw] at hcc
    have hr2:H3 r=some (.lst ((rowOf d).map V.int)):=by rw [row_none hrw];exact hr2
    refine ⟨_,rfl,_,rfl,q,cc,g,r,dc,H,t,G,d,en,rfl,hM.later s3,hW,hcc,hg,hr2,hrow,fun H4 an G' hM4 sF hF' han0 hanF han=>?_⟩
    have hgb3:=s3 _ _ hgb2
    have hgG':gb ∉ G':=fun z=>by
     rcases hF' gb z with z | z
     ·exact hgG z
     ·rw [hgb3] at z;cases z
    have hgb4:=sF _ _ hgb3 hgG
    have hne:an≠gb:=fun z=>by
     rw [z,hgb3] at han0
     cases han0
    have hcc4:=sF _ _ hcc ((hM.later s3).apart hcc hcb)
    refine ⟨_,rfl,.inl ⟨rfl,_,SqL.of hgb4⟩,_,rfl,an,_,rfl,.inl (SqL.of han),gb,_,_,rfl,rfl,hgb4,by rw [List.length_map,sizeLine_eq];omega,?_⟩
    refine ⟨_,rfl,.inl ⟨rfl,_,SqL.of za2⟩,_,rfl,gb,an,_,_,rfl,rfl,za2,by rw [zb5 hne];exact han,by rw [List.length_append,List.length_map,List.length_map,sizeLine_eq];show _ + 1 + _≤_;omega,?_⟩
    refine ⟨_,rfl,cc,C.call,dc,_,_,rfl,zi2 za2 (zi2 hgb4 hcc4),T.cl,T.nE,ca_end ..,?_⟩
    refine ⟨ns.length - en,by omega,en,(Vbqzab.step t d).1,G',f2,rest,acc++((((Vbqzab.step t d).2.length:Nat):Int) :: (Vbqzab.step t d).2),_,_,rfl,(hM4.updL hgb4 hgG' hgb0).updL za2 hgG' hgb0,FP.wf_step hW d,hgG',?_,hen2,rfl,hrest,fun c' hc'=>hall c' (List.mem_cons_of_mem _ hc'),hacc⟩
    rw [za2,List.length_map]
    simp
   ·obtain ⟨z,z1,z2,z3,z4⟩:=hr1 hrw
    refine ⟨z,z1,z2,fun H3 cc g r dc s3 hcc hg hr2=>?_⟩
    rw [htake] at hg
    rw [z3] at hr2
    rw [← z4] at hcc
    refine ⟨_,rfl,_,rfl,q,cc,g,r,dc,H,t,G,d,en,rfl,hM.later s3,hW,hcc,hg,hr2,hrow,fun H4 an G' hM4 sF hF' han0 hanF han=>?_⟩
    have hgb3:=s3 _ _ hgb2
    have hgG':gb ∉ G':=fun z=>by
     rcases hF' gb z with z | z
     ·exact hgG z
     ·rw [hgb3] at z;cases z
    have hgb4:=sF _ _ hgb3 hgG
    have hne:an≠gb:=fun z=>by
     rw [z,hgb3] at han0
     cases han0
    have hcc4:=sF _ _ hcc ((hM.later s3).apart hcc hcb)
    refine ⟨_,rfl,.inl ⟨rfl,_,SqL.of hgb4⟩,_,rfl,an,_,rfl,.inl (SqL.of han),gb,_,_,rfl,rfl,hgb4,by rw [List.length_map,sizeLine_eq];omega,?_⟩
    refine ⟨_,rfl,.inl ⟨rfl,_,SqL.of za2⟩,_,rfl,gb,an,_,_,rfl,rfl,za2,by rw [zb5 hne];exact han,by rw [List.length_append,List.length_map,List.length_map,sizeLine_eq];show _ + 1 + _≤_;omega,?_⟩
    refine ⟨_,rfl,cc,C.call,dc,_,_,rfl,zi2 za2 (zi2 hgb4 hcc4),T.cl,T.nE,ca_end ..,?_⟩
    refine ⟨ns.length - en,by omega,en,(Vbqzab.step t d).1,G',f2,rest,acc++((((Vbqzab.step t d).2.length:Nat):Int) :: (Vbqzab.step t d).2),_,_,rfl,(hM4.updL hgb4 hgG' hgb0).updL za2 hgG' hgb0,FP.wf_step hW d,hgG',?_,hen2,rfl,hrest,fun c' hc'=>hall c' (List.mem_cons_of_mem _ hc'),hacc⟩
    rw [za2,List.length_map]
    simp
  ·have he:pl=ns.length:=by omega
   subst he
   rw [List.drop_length] at hcs
   have ecs:cs=[]:=by
    cases f' with
    | zero=>exact (Option.some.inj hcs).symm
    | succ f'=>exact (Option.some.inj hcs).symm
   subst ecs
   have e9:PyVbqzab.answers ns=acc:=by rw [hacc];exact List.append_nil _
   rw [← e9] at hgb2
   exact ⟨_,rfl,k _ gb hgb2⟩
end
end FPP
namespace L2
open PySem PySem.Spec PyProof.Rows
section
variable {P:Program} {w:World} {K:PySem.W.Frag} {mg:Str→Option Value} {base h:Heap} {x m qual:Str} {st:Stmt} {f C:Addr} {oc kV doc pm cdv ct:Value} {od an:Option Addr} {osl:Array (Option Value)} {ps:List Str} {k:Nat} {sp:Sp}
abbrev BindsBy (x qual:Str) (st:Stmt) (ps:List Str):Prop:=∀ (kV doc pm:Value) (an:Option Addr) (cdv ct:Value) (us:List Value),us.length=ps.length→bindArgs (PySem.W.fnOf x qual (defArgs st) (defBody st) (defScope st) .none kV doc pm an cdv ct) ⟨us,[]⟩=pure (ps.zip us)
structure DefAt (K:PySem.W.Frag) (mg:Str→Option Value) (x:Str) (st:Stmt) (ps:List Str):Prop where
 ex:∃ (f:Addr) (fd:FuncData),mg x=some (.ref f)∧PySem.W.keepIn K (.ref f)=true∧Binds K fd ps []∧Fun K x x st f fd
structure MetAt (K:PySem.W.Frag) (C:Addr) (m qual:Str) (st:Stmt) (ps:List Str):Prop where
 ex:∃ (f:Addr) (fd:FuncData),Meth K C m f∧Binds K fd ps []∧Fun K m qual st f fd
structure MakAt (K:PySem.W.Frag) (mg:Str→Option Value) (x:Str) (C:Addr) (qual:Str) (st:Stmt) (ps:List Str):Prop where
 ex:∃ (f:Addr) (fd:FuncData),mg x=some (.ref C)∧Mk K C f∧Binds K fd ps []∧Fun K "__init__" qual st f fd
theorem zc4 (X:K.In h) (G:h.Ns mainGlobals mg) (a:PySem.W.nsIn K mainGlobals x=some (some (.ref f)):=by k_is) (l:K.lookup f=some ⟨oc,od,.func (PySem.W.fnOf x x (defArgs st) (defBody st) (defScope st) .none kV doc pm an cdv ct),osl⟩:=by k_is) (c:PySem.W.codeIn K cdv x=true:=by k_is) (kp:PySem.W.keepIn K (.ref f)=true:=by k_is) (hb:BindsBy x x st ps:=by intro _ _ _ _ _ _ us hl;rcases us with _ | ⟨a,_ | ⟨b,_ | ⟨c,_ | ⟨d,_ | ⟨e,_ | ⟨f,r⟩⟩⟩⟩⟩⟩ <;> first | exact rfl | cases hl):DefAt K mg x st ps :=
 ⟨f,_,PySem.W.mg_of X G a,kp,(yz5 l c kp).binds hb,yz5 l c kp⟩
theorem zx4 (a:PySem.W.findIn K (.ref C) m=some (some (.ref f)):=by k_is) (i:PySem.W.isFn K (.ref f)=true:=by k_is) (l:K.lookup f=some ⟨oc,od,.func (PySem.W.fnOf m qual (defArgs st) (defBody st) (defScope st) .none kV doc pm an cdv ct),osl⟩:=by k_is) (c:PySem.W.codeIn K cdv qual=true:=by k_is) (kp:PySem.W.keepIn K (.ref f)=true:=by k_is) (hb:BindsBy m qual st ps:=by intro _ _ _ _ _ _ us hl;rcases us with _ | ⟨a,_ | ⟨b,_ | ⟨c,_ | ⟨d,_ | ⟨e,_ | ⟨f,r⟩⟩⟩⟩⟩⟩ <;> first | exact rfl | cases hl):MetAt K C m qual st ps :=
 ⟨f,_,⟨a,i,kp⟩,(yz5 l c kp).binds hb,yz5 l c kp⟩
theorem yk5 (X:K.In h) (G:h.Ns mainGlobals mg) (aC:PySem.W.nsIn K mainGlobals x=some (some (.ref C))) (mk:PySem.W.makesIn K C=true:=by k_is) (a:PySem.W.findIn K (.ref C) "__init__" = some (some (.ref f)):=by k_is) (i:PySem.W.isFn K (.ref f)=true:=by k_is) (kc:PySem.W.keepIn K (.ref C)=true:=by k_is)
  (l:K.lookup f=some ⟨oc,od,.func (PySem.W.fnOf "__init__" qual (defArgs st) (defBody st) (defScope st) .none kV doc pm an cdv ct),osl⟩:=by k_is) (c:PySem.W.codeIn K cdv qual=true:=by k_is) (kp:PySem.W.keepIn K (.ref f)=true:=by k_is) (hb:BindsBy "__init__" qual st ps:=by intro _ _ _ _ _ _ us hl;rcases us with _ | ⟨a,_ | ⟨b,_ | ⟨c,_ | ⟨d,_ | ⟨e,_ | ⟨f,r⟩⟩⟩⟩⟩⟩ <;> first | exact rfl | cases hl):MakAt K mg x C qual st ps :=
 ⟨f,_,PySem.W.mg_of X G aC,⟨mk,a,i,kc⟩,(yz5 l c kp).binds hb,yz5 l c kp⟩
theorem DefAt.call (D:DefAt K mg x st ps) (F:∀ f fd,Fun K x x st f fd→FnOk P w K mg base CX0 k f fd ps sp):CallOk P w K mg base x k ps sp:=by
 obtain ⟨f,fd,h1,h2,h3,h4⟩:=D.ex
 exact ⟨f,fd,h1,h2,h3,F f fd h4⟩
theorem MetAt.meth (D:MetAt K C m qual st ps) (cl:Cls K C) (F:∀ f fd,Fun K m qual st f fd→FnOk P w K mg base CX0 k f fd ps sp):MethOk P w K mg base C m k ps sp:=by
 obtain ⟨f,fd,h1,h2,h3⟩:=D.ex
 exact ⟨cl,f,fd,h1,h2,F f fd h3⟩
theorem MakAt.make (D:MakAt K mg x C qual st ps) (F:∀ f fd,Fun K "__init__" qual st f fd→FnOk P w K mg base CX0 k f fd ps sp):MakeOk P w K mg base x C k ps sp:=by
 obtain ⟨f,fd,h1,h2,h3,h4⟩:=D.ex
 exact ⟨f,fd,h1,h2,h3,F f fd h4⟩
theorem zc1 {y:Str} (e:PySem.W.findIn K (.ref C) y=some none:=by k_is):NoAttr K C y:=e
theorem yk8 (X:K.In h) (x:Str) (e:PySem.W.nsIn K mainGlobals x=some (some (.ref C)):=by k_is) (pg:PySem.W.plainGet K C Str.empty=true:=by k_is) (hd:PySem.W.hasDictIn K C=true:=by k_is) (po:PySem.W.plainOver K C=true:=by k_is) (sa:PySem.W.findIn K (.ref C) "__setattr__" = some (some (.builtin "object.__setattr__")):=by k_is):PySem.W.nsIn K mainGlobals x=some (some (.ref C))∧Cls K C:=⟨e,pg,hd,po,sa⟩
theorem zs6 (X:K.In h) (G:h.Ns mainGlobals mg) {i:Int} {t:Tok} (e:PySem.W.nsIn K mainGlobals x=some (some (.int i t)):=by k_is):GVal mg x (.int i):=⟨_,PySem.W.mg_of X G e,⟨t,rfl⟩⟩
theorem vals_abs:∀ {us:List Value} {xs:List V},us.map absV=xs.map some→Vals xs us
 | [],[],_ => .nil
 | [],_ :: _,h=>nomatch h
 | _ :: _,[],h=>nomatch h
 | u :: us,x :: xs,h=>by
  rw [List.map_cons,List.map_cons] at h
  obtain ⟨h1,h2⟩:=List.cons.inj h
  refine .cons ?_ (vals_abs h2)
  cases u <;> cases h1 <;> first | exact rfl | exact ⟨_,rfl⟩
theorem zd2 {its:Array Value} {n:Nat} {sl:Array (Option Value)} {a:Addr} {xs:List V} (l:K.lookup a=some ⟨.type "tuple",od,.seq its n,sl⟩:=by k_is) (r:its.toList.map absV=xs.map some:=by rfl) (z:its.size≤1000:=by decide):∀ H:Hp,SqT K H a xs:=fun H =>
 .inr ⟨_,its,n,l,rfl,rfl,Nat.le_trans z (by decide),vals_abs r⟩
end
end L2
namespace FPP
open PySem PySem.Spec PyProof.Rows L2
section
variable {P:Program} {w:World} {K:PySem.W.Frag} {mg:Str→Option Value} {h:Heap}
theorem ranges_mk (X:K.In h) (G:h.Ns mainGlobals mg) {a t0 t1 t2 t3 t4 t5 t6 t7 t8 t9 t10 t11:Addr} {k0 k1 k2 k3 k4 k5 k6 k7 k8 k9 k10 k11:Tok} {ep:Nat} (e:PySem.W.nsIn K mainGlobals "RANGES" = some (some (.ref a)))
  (l:K.lookup a=some { cls := .type "dict",data := .dict #[{ hash:=PyData.keyHash w.params "slow",key := .str "slow" k0,val := .ref t0 },{ hash:=PyData.keyHash w.params "fast",key := .str "fast" k1,val := .ref t1 },{ hash:=PyData.keyHash w.params "grain",key := .str "grain" k2,val := .ref t2 },{ hash:=PyData.keyHash w.params "least",key := .str "least" k3,val := .ref t3 },{ hash:=PyData.keyHash w.params "greatest",key := .str "greatest" k4,val := .ref t4 },{ hash:=PyData.keyHash w.params "stamp",key := .str "stamp" k5,val := .ref t5 },{ hash:=PyData.keyHash w.params "span",key := .str "span" k6,val := .ref t6 },{ hash:=PyData.keyHash w.params "time",key := .str "time" k7,val := .ref t7 },{ hash:=PyData.keyHash w.params "box",key := .str "box" k8,val := .ref t8 },{ hash:=PyData.keyHash w.params "event",key := .str "event" k9,val := .ref t9 },{ hash:=PyData.keyHash w.params "message",key := .str "message" k10,val := .ref t10 },{ hash:=PyData.keyHash w.params "evidence",key := .str "evidence" k11,val := .ref t11 }] ep })
  (s0:∀ H:Hp,SqT K H t0 [V.int (1),V.int (100000)])
  (s1:∀ H:Hp,SqT K H t1 [V.int (1),V.int (100000)])
  (s2:∀ H:Hp,SqT K H t2 [V.int (0),V.int (1000)])
  (s3:∀ H:Hp,SqT K H t3 [V.int (0),V.int (1000000000000)])
  (s4:∀ H:Hp,SqT K H t4 [V.int (-1),V.int (1000000000000)])
  (s5:∀ H:Hp,SqT K H t5 [V.int (0),V.int (1000000000)])
  (s6:∀ H:Hp,SqT K H t6 [V.int (-1000000000000000),V.int (1000000000000000)])
  (s7:∀ H:Hp,SqT K H t7 [V.int (-1000000000000000),V.int (1000000000000000)])
  (s8:∀ H:Hp,SqT K H t8 [V.int (0),V.int (7)])
  (s9:∀ H:Hp,SqT K H t9 [V.int (0),V.int (15)])
  (s10:∀ H:Hp,SqT K H t10 [V.int (0),V.int (11)])
  (s11:∀ H:Hp,SqT K H t11 [V.int (0),V.int (23)])
  : RangesOk P w K mg:=by
 refine ⟨a,strAt [("slow",k0,.ref t0),("fast",k1,.ref t1),("grain",k2,.ref t2),("least",k3,.ref t3),("greatest",k4,.ref t4),("stamp",k5,.ref t5),("span",k6,.ref t6),("time",k7,.ref t7),("box",k8,.ref t8),("event",k9,.ref t9),("message",k10,.ref t10),("evidence",k11,.ref t11)],PySem.W.mg_of X G e,kdict_strs _ l,fun k lo hi q=>?_⟩
 unfold rngs at q
 by_cases c0:k = "slow"
 ·subst c0
  obtain ⟨rfl,rfl⟩:=Prod.mk.inj (Option.some.inj ((by decide +kernel:rngs.lookup ("slow" : Str)=some (1,100000)).symm.trans q))
  refine ⟨t0,?_,s0⟩
  exact rfl
 by_cases c1:k = "fast"
 ·subst c1
  obtain ⟨rfl,rfl⟩:=Prod.mk.inj (Option.some.inj ((by decide +kernel:rngs.lookup ("fast" : Str)=some (1,100000)).symm.trans q))
  refine ⟨t1,?_,s1⟩
  exact rfl
 by_cases c2:k = "grain"
 ·subst c2
  obtain ⟨rfl,rfl⟩:=Prod.mk.inj (Option.some.inj ((by decide +kernel:rngs.lookup ("grain" : Str)=some (0,1000)).symm.trans q))
  refine ⟨t2,?_,s2⟩
  exact rfl
 by_cases c3:k = "least"
 ·subst c3
  obtain ⟨rfl,rfl⟩:=Prod.mk.inj (Option.some.inj ((by decide +kernel:rngs.lookup ("least" : Str)=some (0,1000000000000)).symm.trans q))
  refine ⟨t3,?_,s3⟩
  exact rfl
 by_cases c4:k = "greatest"
 ·subst c4
  obtain ⟨rfl,rfl⟩:=Prod.mk.inj (Option.some.inj ((by decide +kernel:rngs.lookup ("greatest" : Str)=some (-1,1000000000000)).symm.trans q))
  refine ⟨t4,?_,s4⟩
  exact rfl
 by_cases c5:k = "stamp"
 ·subst c5
  obtain ⟨rfl,rfl⟩:=Prod.mk.inj (Option.some.inj ((by decide +kernel:rngs.lookup ("stamp" : Str)=some (0,1000000000)).symm.trans q))
  refine ⟨t5,?_,s5⟩
  exact rfl
 by_cases c6:k = "span"
 ·subst c6
  obtain ⟨rfl,rfl⟩:=Prod.mk.inj (Option.some.inj ((by decide +kernel:rngs.lookup ("span" : Str)=some (-1000000000000000,1000000000000000)).symm.trans q))
  refine ⟨t6,?_,s6⟩
  exact rfl
 by_cases c7:k = "time"
 ·subst c7
  obtain ⟨rfl,rfl⟩:=Prod.mk.inj (Option.some.inj ((by decide +kernel:rngs.lookup ("time" : Str)=some (-1000000000000000,1000000000000000)).symm.trans q))
  refine ⟨t7,?_,s7⟩
  exact rfl
 by_cases c8:k = "box"
 ·subst c8
  obtain ⟨rfl,rfl⟩:=Prod.mk.inj (Option.some.inj ((by decide +kernel:rngs.lookup ("box" : Str)=some (0,7)).symm.trans q))
  refine ⟨t8,?_,s8⟩
  exact rfl
 by_cases c9:k = "event"
 ·subst c9
  obtain ⟨rfl,rfl⟩:=Prod.mk.inj (Option.some.inj ((by decide +kernel:rngs.lookup ("event" : Str)=some (0,15)).symm.trans q))
  refine ⟨t9,?_,s9⟩
  exact rfl
 by_cases c10:k = "message"
 ·subst c10
  obtain ⟨rfl,rfl⟩:=Prod.mk.inj (Option.some.inj ((by decide +kernel:rngs.lookup ("message" : Str)=some (0,11)).symm.trans q))
  refine ⟨t10,?_,s10⟩
  exact rfl
 by_cases c11:k = "evidence"
 ·subst c11
  obtain ⟨rfl,rfl⟩:=Prod.mk.inj (Option.some.inj ((by decide +kernel:rngs.lookup ("evidence" : Str)=some (0,23)).symm.trans q))
  refine ⟨t11,?_,s11⟩
  exact rfl
 simp only [List.lookup_cons,List.lookup_nil,beq_eq_false_iff_ne.mpr c0,beq_eq_false_iff_ne.mpr c1,beq_eq_false_iff_ne.mpr c2,beq_eq_false_iff_ne.mpr c3,beq_eq_false_iff_ne.mpr c4,beq_eq_false_iff_ne.mpr c5,beq_eq_false_iff_ne.mpr c6,beq_eq_false_iff_ne.mpr c7,beq_eq_false_iff_ne.mpr c8,beq_eq_false_iff_ne.mpr c9,beq_eq_false_iff_ne.mpr c10,beq_eq_false_iff_ne.mpr c11] at q
 cases q
theorem kinds_mk (X:K.In h) (G:h.Ns mainGlobals mg) {a t0 t1 t2 t3 t4 t5 t6 t7 t8 t9 t10 t11 t12 t13 t14 t15 t16 t17 t18 t19 t20 t21 t22 t23:Addr} (e:PySem.W.nsIn K mainGlobals "KINDS" = some (some (.ref a))) (l:∀ H:Hp,SqT K H a [V.ref t0,V.ref t1,V.ref t2,V.ref t3,V.ref t4,V.ref t5,V.ref t6,V.ref t7,V.ref t8,V.ref t9,V.ref t10,V.ref t11,V.ref t12,V.ref t13,V.ref t14,V.ref t15,V.ref t16,V.ref t17,V.ref t18,V.ref t19,V.ref t20,V.ref t21,V.ref t22,V.ref t23])
  (s0:∀ H:Hp,SqT K H t0 [V.str "slow",V.str "fast",V.str "grain"])
  (s1:∀ H:Hp,SqT K H t1 [V.str "box",V.str "box",V.str "least",V.str "greatest"])
  (s2:∀ H:Hp,SqT K H t2 [V.str "box",V.str "stamp"])
  (s3:∀ H:Hp,SqT K H t3 [V.str "box",V.str "stamp"])
  (s4:∀ H:Hp,SqT K H t4 [V.str "event"])
  (s5:∀ H:Hp,SqT K H t5 [V.str "message",V.str "event"])
  (s6:∀ H:Hp,SqT K H t6 [V.str "event",V.str "event",V.str "span",V.str "span"])
  (s7:∀ H:Hp,SqT K H t7 [V.str "evidence"])
  (s8:∀ H:Hp,SqT K H t8 [])
  (s9:∀ H:Hp,SqT K H t9 [V.str "event",V.str "event"])
  (s10:∀ H:Hp,SqT K H t10 [V.str "event",V.str "event"])
  (s11:∀ H:Hp,SqT K H t11 [V.str "event",V.str "event"])
  (s12:∀ H:Hp,SqT K H t12 [])
  (s13:∀ H:Hp,SqT K H t13 [])
  (s14:∀ H:Hp,SqT K H t14 [])
  (s15:∀ H:Hp,SqT K H t15 [V.str "event"])
  (s16:∀ H:Hp,SqT K H t16 [])
  (s17:∀ H:Hp,SqT K H t17 [V.str "event",V.str "event"])
  (s18:∀ H:Hp,SqT K H t18 [V.str "message",V.str "box",V.str "stamp"])
  (s19:∀ H:Hp,SqT K H t19 [])
  (s20:∀ H:Hp,SqT K H t20 [V.str "box",V.str "stamp"])
  (s21:∀ H:Hp,SqT K H t21 [V.str "box"])
  (s22:∀ H:Hp,SqT K H t22 [])
  (s23:∀ H:Hp,SqT K H t23 [])
  : KindsOk K mg:=by
 refine ⟨a,[t0,t1,t2,t3,t4,t5,t6,t7,t8,t9,t10,t11,t12,t13,t14,t15,t16,t17,t18,t19,t20,t21,t22,t23],PySem.W.mg_of X G e,l,fun c ks q=>?_⟩
 match c,q with
 | 0,q=>cases q;exact ⟨t0,rfl,s0⟩
 | 1,q=>cases q;exact ⟨t1,rfl,s1⟩
 | 2,q=>cases q;exact ⟨t2,rfl,s2⟩
 | 3,q=>cases q;exact ⟨t3,rfl,s3⟩
 | 4,q=>cases q;exact ⟨t4,rfl,s4⟩
 | 5,q=>cases q;exact ⟨t5,rfl,s5⟩
 | 6,q=>cases q;exact ⟨t6,rfl,s6⟩
 | 7,q=>cases q;exact ⟨t7,rfl,s7⟩
 | 8,q=>cases q;exact ⟨t8,rfl,s8⟩
 | 9,q=>cases q;exact ⟨t9,rfl,s9⟩
 | 10,q=>cases q;exact ⟨t10,rfl,s10⟩
 | 11,q=>cases q;exact ⟨t11,rfl,s11⟩
 | 12,q=>cases q;exact ⟨t12,rfl,s12⟩
 | 13,q=>cases q;exact ⟨t13,rfl,s13⟩
 | 14,q=>cases q;exact ⟨t14,rfl,s14⟩
 | 15,q=>cases q;exact ⟨t15,rfl,s15⟩
 | 16,q=>cases q;exact ⟨t16,rfl,s16⟩
 | 17,q=>cases q;exact ⟨t17,rfl,s17⟩
 | 18,q=>cases q;exact ⟨t18,rfl,s18⟩
 | 19,q=>cases q;exact ⟨t19,rfl,s19⟩
 | 20,q=>cases q;exact ⟨t20,rfl,s20⟩
 | 21,q=>cases q;exact ⟨t21,rfl,s21⟩
 | 22,q=>cases q;exact ⟨t22,rfl,s22⟩
 | 23,q=>cases q;exact ⟨t23,rfl,s23⟩
 | c + 24,q=>simp [kinds] at q
theorem tycls_mk {C:Addr} (c:Cls K C) (ha:PySem.W.findIn K (.ref C) "__class__" = some (some (.builtin "object.__class__")):=by k_is) (hn:PySem.W.specialIn K (.builtin "object.__class__") "__get__" = some (some (.builtin "getset_descriptor.__get__")):=by k_is) (htk:PySem.W.takesIn K (.builtin "object.__class__")=some true:=by k_is) (hm:PySem.W.mroIn K C (.type "object")=some true:=by k_is):TyCls K C:=⟨ha,hn,htk,hm⟩
theorem kit_mk {C D:Addr} (c:Cls K C) (d:Cls K D) {b:Bool} (e:PySem.W.kitOne K (.ref C) (.ref D)=some b):PySem.W.kitOne K (.ref C) (.ref D)=some b:=e
theorem xa1 (X:K.In h) (G:h.Ns mainGlobals mg) {x:Str} {a:Addr} {ns:List Int} (e:PySem.W.nsIn K mainGlobals x=some (some (.ref a))) (l:∀ H:Hp,SqT K H a (ns.map V.int)):TupOk K mg x ns:=⟨a,PySem.W.mg_of X G e,l⟩
end
set_option maxHeartbeats 4000000 in
theorem assemble {P:Program} {w:World} {K:PySem.W.Frag} {mg:Str→Option Value} {h:Heap} {fa aBox aEvent aWire aHearing aLimit aRecord aBound aSurvey aCall:Addr} (hfa:mg "answers" = some (.ref fa))
  (cBox:Cls K aBox) (n_Box_slow:NoAttr K aBox "slow") (n_Box_fast:NoAttr K aBox "fast") (n_Box_grain:NoAttr K aBox "grain") (n_Box_team:NoAttr K aBox "team") (n_Box_woken:NoAttr K aBox "woken")
  (cEvent:Cls K aEvent) (n_Event_box:NoAttr K aEvent "box") (n_Event_stamp:NoAttr K aEvent "stamp") (n_Event_kind:NoAttr K aEvent "kind")
  (cWire:Cls K aWire) (n_Wire_least:NoAttr K aWire "least") (n_Wire_greatest:NoAttr K aWire "greatest")
  (cHearing:Cls K aHearing) (n_Hearing_message:NoAttr K aHearing "message") (n_Hearing_event:NoAttr K aHearing "event")
  (cLimit:Cls K aLimit) (n_Limit_start:NoAttr K aLimit "start") (n_Limit_end:NoAttr K aLimit "end") (n_Limit_least:NoAttr K aLimit "least") (n_Limit_most:NoAttr K aLimit "most")
  (cRecord:Cls K aRecord) (n_Record_boxes:NoAttr K aRecord "boxes") (n_Record_events:NoAttr K aRecord "events") (n_Record_messages:NoAttr K aRecord "messages") (n_Record_evidence:NoAttr K aRecord "evidence") (n_Record_wires:NoAttr K aRecord "wires")
  (cBound:Cls K aBound) (n_Bound_start:NoAttr K aBound "start") (n_Bound_end:NoAttr K aBound "end") (n_Bound_weight:NoAttr K aBound "weight")
  (cSurvey:Cls K aSurvey) (n_Survey_size:NoAttr K aSurvey "size") (n_Survey_bounds:NoAttr K aSurvey "bounds") (n_Survey_sums:NoAttr K aSurvey "sums")
  (cCall:Cls K aCall) (n_Call_number:NoAttr K aCall "number") (n_Call_given:NoAttr K aCall "given") (n_Call_row:NoAttr K aCall "row") (n_Call_end:NoAttr K aCall "end")
  (tyH:TyCls K aHearing) (tyL:TyCls K aLimit) (hh:PySem.W.kitOne K (.ref aHearing) (.ref aHearing)=some true) (lh:PySem.W.kitOne K (.ref aLimit) (.ref aHearing)=some false)
  (g_Hearing:mg "Hearing" = some (.ref aHearing))
  (hne:aSurvey≠aRecord∧aSurvey≠aBox∧aSurvey≠aEvent∧aSurvey≠aWire∧aSurvey≠aHearing∧aSurvey≠aLimit) (hnb:aSurvey≠aBound) (hbx:aBox≠aEvent∧aBox≠aWire∧aBox≠aHearing∧aBox≠aLimit∧aBox≠aRecord) (hcb:aCall≠aBox)
  (g_all:mg "all" = none) (g_any:mg "any" = none) (g_enumerate:mg "enumerate" = none) (g_isinstance:mg "isinstance" = none) (g_len:mg "len" = none) (g_max:mg "max" = none) (g_min:mg "min" = none) (g_range:mg "range" = none) (g_sum:mg "sum" = none) (g_zip:mg "zip" = none)
  (g_ALIKE:GVal mg "ALIKE" (.int (-5))) (g_FALLS_BACK:GVal mg "FALLS_BACK" (.int (-3))) (g_FULL:GVal mg "FULL" (.int (-7))) (g_NOT_AS_TOLD:GVal mg "NOT_AS_TOLD" (.int (-2))) (g_NOT_BEFORE:GVal mg "NOT_BEFORE" (.int (-9))) (g_NOT_THERE:GVal mg "NOT_THERE" (.int (-4))) (g_NO_DELAY:GVal mg "NO_DELAY" (.int (-6))) (g_NO_HISTORY:GVal mg "NO_HISTORY" (.int (-8))) (g_NO_PRESS:GVal mg "NO_PRESS" (.int (-9))) (g_OUT_OF_RANGE:GVal mg "OUT_OF_RANGE" (.int (-1))) (g_PLAIN:GVal mg "PLAIN" (.int (0))) (g_PRESS:GVal mg "PRESS" (.int (1))) (g_REPORT:GVal mg "REPORT" (.int (2))) (g_WOKEN:GVal mg "WOKEN" (.int (-11))) (g_WOULD_BREAK:GVal mg "WOULD_BREAK" (.int (-10)))
  (R:RangesOk P w K mg) (Kk:KindsOk K mg) (o_WITH_ROW:TupOk K mg "WITH_ROW" [12,16,19]) (o_TELLS:TupOk K mg "TELLS" [0,1,2,3,4,5,6,7,20,21]) (o_SHOWS:TupOk K mg "SHOWS" [13,16,19,23]) (o_RULES:TupOk K mg "RULES" [12,17,18,22])
  (d_lesser:DefAt K mg "lesser" yq1 zz1)
  (d_no_bounds_sums:DefAt K mg "no_bounds_sums" zj8 ze0)
  (d_led_through:DefAt K mg "led_through" zp9 zm2)
  (d_one_bound_more:DefAt K mg "one_bound_more" zj7 ze9)
  (d_leads_on:DefAt K mg "leads_on" yd0 zw7)
  (d_least_number:DefAt K mg "least_number" zn1 zj4)
  (d_least_numbers:DefAt K mg "least_numbers" zl3 zf5)
  (d_told_way:DefAt K mg "told_way" yc7 zw3)
  (d_least_sums:DefAt K mg "least_sums" zn9 zo8)
  (d_told_ring:DefAt K mg "told_ring" zr1 zr5)
  (d_Record_team_of:MetAt K aRecord "team_of" "Record.team_of" zp1 zd1)
  (d_Bound_init:MakAt K mg "Bound" aBound "Bound.__init__" zu8 zh9)
  (d_Record_wire_between:MetAt K aRecord "wire_between" "Record.wire_between" zh6 zf2)
  (d_hearing_bounds:DefAt K mg "hearing_bounds" zj9 zg8)
  (d_pair_bounds:DefAt K mg "pair_bounds" zp8 zm1)
  (d_evidence_bounds:DefAt K mg "evidence_bounds" zi4 zf6)
  (d_clock_bounds:DefAt K mg "clock_bounds" zn2 zj5)
  (d_all_bounds:DefAt K mg "all_bounds" zu5 zg1)
  (d_Survey_init:MakAt K mg "Survey" aSurvey "Survey.__init__" zq2 ze1)
  (d_Survey_has_history:MetAt K aSurvey "has_history" "Survey.has_history" zi8 zc5)
  (d_Survey_is_before:MetAt K aSurvey "is_before" "Survey.is_before" zl5 zd8)
  (d_Survey_is_not_behind:MetAt K aSurvey "is_not_behind" "Survey.is_not_behind" zh3 zd7)
  (d_in_ranges:DefAt K mg "in_ranges" zr2 zk6)
  (d_counted:DefAt K mg "counted" yi8 zh8)
  (d_ask_fits:DefAt K mg "ask_fits" yd5 zx1)
  (d_ask_most:DefAt K mg "ask_most" yd3 zw9)
  (d_ask_sure:DefAt K mg "ask_sure" yd2 zw8)
  (d_ask_way:DefAt K mg "ask_way" yi9 yb4)
  (d_Record_things_of:MetAt K aRecord "things_of" "Record.things_of" zl6 zf3)
  (d_Record_is_full:MetAt K aRecord "is_full" "Record.is_full" zp2 zc9)
  (d_Record_has_all:MetAt K aRecord "has_all" "Record.has_all" zp3 zk1)
  (d_Call_init:MakAt K mg "Call" aCall "Call.__init__" zy7 zs3)
  (d_read_call:DefAt K mg "read_call" zy5 zs1)
  (d_put_behind:DefAt K mg "put_behind" zu4 ze2)
  (d_tell_sent:DefAt K mg "tell_sent" zy2 zr7)
  (d_Limit_init:MakAt K mg "Limit" aLimit "Limit.__init__" zu6 zo9)
  (d_Hearing_init:MakAt K mg "Hearing" aHearing "Hearing.__init__" zn4 zh2)
  (d_Event_init:MakAt K mg "Event" aEvent "Event.__init__" zu7 zk7)
  (d_tell_limit:DefAt K mg "tell_limit" zt7 zo1)
  (d_hearing_refusal:DefAt K mg "hearing_refusal" zi3 ze4)
  (d_tell_heard:DefAt K mg "tell_heard" zt8 zo2)
  (d_tell_drop:DefAt K mg "tell_drop" zy3 zr8)
  (d_Record_last_stamp:MetAt K aRecord "last_stamp" "Record.last_stamp" zk4 zg3)
  (d_event_refusal:DefAt K mg "event_refusal" zl4 zf7)
  (d_tell_event:DefAt K mg "tell_event" zt9 zo3)
  (d_Box_init:MakAt K mg "Box" aBox "Box.__init__" yd6 zq6)
  (d_tell_box:DefAt K mg "tell_box" yc8 zw4)
  (d_Wire_init:MakAt K mg "Wire" aWire "Wire.__init__" zy6 zs2)
  (d_tell_wire:DefAt K mg "tell_wire" zy1 zr6)
  (d_Record_init:MakAt K mg "Record" aRecord "Record.__init__" zq3 zi6)
  (d_least_to:DefAt K mg "least_to" zw2 zw6)
  (d_ask_history:DefAt K mg "ask_history" zi5 zm4)
  (d_ask_late:DefAt K mg "ask_late" yd4 zx0)
  (d_Record_presses:MetAt K aRecord "presses" "Record.presses" zk0 zf0)
  (d_Record_teams:MetAt K aRecord "teams" "Record.teams" zn3 zn6)
  (d_Record_last_report:MetAt K aRecord "last_report" "Record.last_report" zi9 zf4)
  (d_Record_but_with:MetAt K aRecord "but_with" "Record.but_with" zm9 zf8)
  (d_tell_wakes:DefAt K mg "tell_wakes" zt6 zo0)
  (d_show_bounds:DefAt K mg "show_bounds" zp7 zl9)
  (d_show_told:DefAt K mg "show_told" zy4 zr9)
  (d_show_check:DefAt K mg "show_check" zu0 zo4)
  (d_is_way:DefAt K mg "is_way" yi7 yj3)
  (d_show_adds:DefAt K mg "show_adds" zk3 zs0)
  (d_has_one_before:DefAt K mg "has_one_before" zg6 zg9)
  (d_may_be_first:DefAt K mg "may_be_first" zj1 zh1)
  (d_first_of:DefAt K mg "first_of" yd1 zq5)
  (d_are_rising_events:DefAt K mg "are_rising_events" zg2 ze5)
  (d_rule_first:DefAt K mg "rule_first" zu3 zo7)
  (d_less_one:DefAt K mg "less_one" yc9 zw5)
  (d_rule_needed:DefAt K mg "rule_needed" zl2 zm0)
  (d_would_refusal:DefAt K mg "would_refusal" zl1 zh7)
  (d_rule_would:DefAt K mg "rule_would" zu1 zo5)
  (d_is_unclosed:DefAt K mg "is_unclosed" zq0 zm3)
  (d_unclosed_teams:DefAt K mg "unclosed_teams" zg5 zg7)
  (d_rule_ruled:DefAt K mg "rule_ruled" zu2 zo6)
  (d_tell:DefAt K mg "tell" s_tell p_tell)
  (d_show:DefAt K mg "show" s_show p_show)
  (d_rule:DefAt K mg "rule" s_rule p_rule)
  (d_ask:DefAt K mg "ask" s_ask p_ask)
  (d_answer_call:DefAt K mg "answer_call" zq1 zm5)
  (d_answers:DefAt K mg "answers" yj0 yj4)
  : ∃ fd:FuncData,(∀ (s:Shared) (us:List Value),us.length=(["calls"]:List Str).length→BindsTo s fd ⟨us,[]⟩ ((["calls"]:List Str).zip us))∧∀ base:Heap,K.In base→base.Ns mainGlobals mg→FnOk P w K mg base CX0 11 fa fd ["calls"] (spAns K):=by
 obtain ⟨C,hC⟩:∃ C:Clss,C=⟨aBox,aEvent,aWire,aHearing,aLimit,aRecord,aBound,aSurvey,aCall⟩:=⟨_,rfl⟩
 have eBox:aBox=C.box:=by rw [hC]
 have eEvent:aEvent=C.event:=by rw [hC]
 have eWire:aWire=C.wire:=by rw [hC]
 have eHearing:aHearing=C.hearing:=by rw [hC]
 have eLimit:aLimit=C.limit:=by rw [hC]
 have eRecord:aRecord=C.record:=by rw [hC]
 have eBound:aBound=C.bound:=by rw [hC]
 have eSurvey:aSurvey=C.survey:=by rw [hC]
 have eCall:aCall=C.call:=by rw [hC]
 clear hC
 subst eBox eEvent eWire eHearing eLimit eRecord eBound eSurvey eCall
 have T:ClssOk K C:=⟨cBox,cEvent,cWire,cHearing,cLimit,cRecord,n_Box_slow,n_Box_fast,n_Box_grain,n_Box_team,n_Box_woken,n_Event_box,n_Event_stamp,n_Event_kind,n_Wire_least,n_Wire_greatest,n_Hearing_message,n_Hearing_event,n_Limit_start,n_Limit_end,n_Limit_least,n_Limit_most,n_Record_boxes,n_Record_events,n_Record_messages,n_Record_evidence,n_Record_wires,⟨cBound,n_Bound_start,n_Bound_end,n_Bound_weight⟩,⟨cSurvey,n_Survey_size,n_Survey_bounds,n_Survey_sums⟩⟩
 have Tc:CCls K C.call:=⟨cCall,n_Call_number,n_Call_given,n_Call_row,n_Call_end⟩
 have IH:IsHearing K C:=⟨tyH,tyL,hh,lh⟩
 have gH:GVal mg "Hearing" (.ref C.hearing):=⟨_,g_Hearing,rfl⟩
 have A0:BoxApart C:=⟨hbx.1,hbx.2.1,hbx.2.2.1,hbx.2.2.2.1,hbx.2.2.2.2⟩
 have Rr:RowsOk K mg:=by
  obtain ⟨a,h1,h2⟩:=o_WITH_ROW.ex
  exact ⟨a,h1,h2⟩
 obtain ⟨f,fd,z1,z2,z3,z4⟩:=d_answers.ex
 have e:=hfa.symm.trans z1
 cases e
 refine ⟨fd,fun s us hu=>?_,fun base _ _=>?_⟩
 ·have z5:=z4
  obtain ⟨oc,od,kV,doc,pm,an,cdv,ct,osl,rfl,lk,hcd⟩:=z5.ex
  exact match us,hu with | [_],_ => .of_eq rfl
 ·have c_lesser:=d_lesser.call (P:=P) (w:=w) (base:=base) fun f fd F=>ok_lesser F
  have c_no_bounds_sums:=d_no_bounds_sums.call (P:=P) (w:=w) (base:=base) fun f fd F=>yl9 F
  have c_led_through:=d_led_through.call (P:=P) (w:=w) (base:=base) fun f fd F=>yw4 F c_lesser g_zip
  have c_one_bound_more:=d_one_bound_more.call (P:=P) (w:=w) (base:=base) fun f fd F=>yl8 (C:=C.bound) F c_lesser g_len T.bound
  have c_leads_on:=d_leads_on.call (P:=P) (w:=w) (base:=base) fun f fd F=>ok_leads_on (C:=C.bound) F T.bound
  have c_least_number:=d_least_number.call (P:=P) (w:=w) (base:=base) fun f fd F=>yt8 (C:=C.bound) F c_leads_on
  have c_least_numbers:=d_least_numbers.call (P:=P) (w:=w) (base:=base) fun f fd F=>yo9 (C:=C.bound) F T.bound c_least_number g_len g_range
  have c_told_way:=d_told_way.call (P:=P) (w:=w) (base:=base) fun f fd F=>ok_told_way (C:=C.bound) (CS:=C.survey) F T.survey c_no_bounds_sums c_one_bound_more c_least_numbers
  have c_least_sums:=d_least_sums.call (P:=P) (w:=w) (base:=base) fun f fd F=>xc0 (C:=C.bound) F T.bound c_no_bounds_sums c_lesser c_led_through g_range
  have c_told_ring:=d_told_ring.call (P:=P) (w:=w) (base:=base) fun f fd F=>ok_told_ring (C:=C.bound) (CS:=C.survey) F T.survey c_no_bounds_sums c_one_bound_more c_least_numbers g_range
  have mt_team_of:=d_Record_team_of.meth (P:=P) (w:=w) (mg:=mg) (base:=base) cRecord fun f fd F=>ok_team_of (C:=C) F T
  have m_Bound:=d_Bound_init.make (P:=P) (w:=w) (base:=base) fun f fd F=>xc4 (C:=C.bound) F T.bound
  have mt_wire_between:=d_Record_wire_between.meth (P:=P) (w:=w) (mg:=mg) (base:=base) cRecord fun f fd F=>yt6 (C:=C) F T mt_team_of
  have c_hearing_bounds:=d_hearing_bounds.call (P:=P) (w:=w) (base:=base) fun f fd F=>ym0 (C:=C) F T mt_wire_between m_Bound
  have c_pair_bounds:=d_pair_bounds.call (P:=P) (w:=w) (base:=base) fun f fd F=>yw3 (C:=C) F T m_Bound g_max
  have c_evidence_bounds:=d_evidence_bounds.call (P:=P) (w:=w) (base:=base) fun f fd F=>yj9 (C:=C) F T IH gH g_isinstance c_hearing_bounds m_Bound
  have c_clock_bounds:=d_clock_bounds.call (P:=P) (w:=w) (base:=base) fun f fd F=>yu0 (C:=C) F T mt_team_of c_pair_bounds g_len g_range
  have c_all_bounds:=d_all_bounds.call (P:=P) (w:=w) (base:=base) fun f fd F=>xc6 (C:=C) F T c_clock_bounds c_evidence_bounds
  have m_Survey:=d_Survey_init.make (P:=P) (w:=w) (base:=base) fun f fd F=>yv9 (C:=C) F T hne hnb c_all_bounds c_least_sums g_len
  have mt_has_history:=d_Survey_has_history.meth (P:=P) (w:=w) (mg:=mg) (base:=base) cSurvey fun f fd F=>yw7 (C:=C) F T g_range
  have mt_is_before:=d_Survey_is_before.meth (P:=P) (w:=w) (mg:=mg) (base:=base) cSurvey fun f fd F=>ok_is_before (C:=C) F T
  have mt_is_not_behind:=d_Survey_is_not_behind.meth (P:=P) (w:=w) (mg:=mg) (base:=base) cSurvey fun f fd F=>yp0 (C:=C) F T
  have c_in_ranges:=d_in_ranges.call (P:=P) (w:=w) (base:=base) fun f fd F=>ok_in_ranges F R g_zip
  have c_counted:=d_counted.call (P:=P) (w:=w) (base:=base) fun f fd F=>ok_counted F g_len
  have c_ask_fits:=d_ask_fits.call (P:=P) (w:=w) (base:=base) fun f fd F=>ok_ask_fits (C:=C) F mt_has_history c_told_ring c_counted
  have c_ask_most:=d_ask_most.call (P:=P) (w:=w) (base:=base) fun f fd F=>ok_ask_most (C:=C) F T.survey
  have c_ask_sure:=d_ask_sure.call (P:=P) (w:=w) (base:=base) fun f fd F=>ok_ask_sure (C:=C) F mt_is_before mt_is_not_behind
  have c_ask_way:=d_ask_way.call (P:=P) (w:=w) (base:=base) fun f fd F=>ok_ask_way (C:=C) F T.survey c_told_way c_counted
  have mt_things_of:=d_Record_things_of.meth (P:=P) (w:=w) (mg:=mg) (base:=base) cRecord fun f fd F=>ok_things_of (C:=C) F T
  have mt_is_full:=d_Record_is_full.meth (P:=P) (w:=w) (mg:=mg) (base:=base) cRecord fun f fd F=>ok_is_full (C:=C) F R mt_things_of g_len
  have mt_has_all:=d_Record_has_all.meth (P:=P) (w:=w) (mg:=mg) (base:=base) cRecord fun f fd F=>ok_has_all (C:=C) F mt_things_of g_zip g_len
  have m_Call:=d_Call_init.make (P:=P) (w:=w) (base:=base) fun f fd F=>ok_call_init (C:=C.call) F Tc
  have c_read_call:=d_read_call.call (P:=P) (w:=w) (base:=base) fun f fd F=>ok_read_call (C:=C) F Kk Rr m_Call g_len
  have c_put_behind:=d_put_behind.call (P:=P) (w:=w) (base:=base) fun f fd F=>xb8 F g_len
  have c_tell_sent:=d_tell_sent.call (P:=P) (w:=w) (base:=base) fun f fd F=>ok_tell_sent (C:=C) F T g_FULL mt_is_full c_put_behind
  have m_Limit:=d_Limit_init.make (P:=P) (w:=w) (base:=base) fun f fd F=>xb9 (C:=C) F T
  have m_Hearing:=d_Hearing_init.make (P:=P) (w:=w) (base:=base) fun f fd F=>yt9 (C:=C) F T
  have m_Event:=d_Event_init.make (P:=P) (w:=w) (base:=base) fun f fd F=>xc3 (C:=C) F T
  have c_tell_limit:=d_tell_limit.call (P:=P) (w:=w) (base:=base) fun f fd F=>xb1 (C:=C) F T g_ALIKE g_NO_DELAY g_FULL mt_is_full c_put_behind m_Limit
  have c_hearing_refusal:=d_hearing_refusal.call (P:=P) (w:=w) (base:=base) fun f fd F=>yj8 (C:=C) F T g_ALIKE g_NO_DELAY mt_team_of
  have c_tell_heard:=d_tell_heard.call (P:=P) (w:=w) (base:=base) fun f fd F=>xb2 (C:=C) F T g_FULL mt_team_of c_hearing_refusal mt_is_full c_put_behind m_Hearing
  have c_tell_drop:=d_tell_drop.call (P:=P) (w:=w) (base:=base) fun f fd F=>ok_tell_drop (C:=C) F T g_len
  have mt_last_stamp:=d_Record_last_stamp.meth (P:=P) (w:=w) (mg:=mg) (base:=base) cRecord fun f fd F=>xc1 (C:=C) F T
  have c_event_refusal:=d_event_refusal.call (P:=P) (w:=w) (base:=base) fun f fd F=>yp1 (C:=C) F T g_WOKEN g_FALLS_BACK g_FULL mt_last_stamp mt_is_full
  have c_tell_event:=d_tell_event.call (P:=P) (w:=w) (base:=base) fun f fd F=>xb3 (C:=C) F T c_event_refusal c_put_behind m_Event
  have m_Box:=d_Box_init.make (P:=P) (w:=w) (base:=base) fun f fd F=>ok_box_init (C:=C) F T
  have c_tell_box:=d_tell_box.call (P:=P) (w:=w) (base:=base) fun f fd F=>ok_tell_box (C:=C) F T g_OUT_OF_RANGE g_FULL g_len mt_is_full c_put_behind m_Box
  have m_Wire:=d_Wire_init.make (P:=P) (w:=w) (base:=base) fun f fd F=>ok_wire_init (C:=C) F T
  have c_tell_wire:=d_tell_wire.call (P:=P) (w:=w) (base:=base) fun f fd F=>ok_tell_wire (C:=C) F T g_ALIKE g_NO_DELAY m_Wire
  have m_Record:=d_Record_init.make (P:=P) (w:=w) (base:=base) fun f fd F=>yw2 (C:=C) F T
  have c_least_to:=d_least_to.call (P:=P) (w:=w) (base:=base) fun f fd F=>ok_least_to (C:=C) F T.survey g_min
  have c_ask_history:=d_ask_history.call (P:=P) (w:=w) (base:=base) fun f fd F=>yw8 (C:=C) F T.survey g_min g_range c_least_to c_counted
  have c_ask_late:=d_ask_late.call (P:=P) (w:=w) (base:=base) fun f fd F=>ok_ask_late (C:=C) F T.survey c_counted
  have mt_presses:=d_Record_presses.meth (P:=P) (w:=w) (mg:=mg) (base:=base) cRecord fun f fd F=>ok_presses (C:=C) F T g_PRESS g_enumerate
  have mt_teams:=d_Record_teams.meth (P:=P) (w:=w) (mg:=mg) (base:=base) cRecord fun f fd F=>ok_teams (C:=C) F T g_enumerate
  have mt_last_report:=d_Record_last_report.meth (P:=P) (w:=w) (mg:=mg) (base:=base) cRecord fun f fd F=>yw5 (C:=C) F T g_REPORT g_enumerate mt_team_of
  have mt_but_with:=d_Record_but_with.meth (P:=P) (w:=w) (mg:=mg) (base:=base) cRecord fun f fd F=>ok_but_with (C:=C) F T m_Record
  have c_tell_wakes:=d_tell_wakes.call (P:=P) (w:=w) (base:=base) fun f fd F=>xb0 (C:=C) F T A0 g_WOKEN g_FULL mt_is_full c_put_behind m_Box
  have c_show_bounds:=d_show_bounds.call (P:=P) (w:=w) (base:=base) fun f fd F=>yw0 (C:=C) F T g_len c_all_bounds
  have c_show_told:=d_show_told.call (P:=P) (w:=w) (base:=base) fun f fd F=>ok_show_told (C:=C) F T g_len
  have c_in_rangesL:=d_in_ranges.call (P:=P) (w:=w) (base:=base) fun f fd F=>xc2 F R g_zip
  have c_show_check:=d_show_check.call (P:=P) (w:=w) (base:=base) fun f fd F=>xb4 (C:=C) F T g_len g_enumerate g_NOT_AS_TOLD c_in_rangesL c_all_bounds
  have c_is_way:=d_is_way.call (P:=P) (w:=w) (base:=base) fun f fd F=>ok_is_way (C:=C) F T g_len g_zip g_all
  have c_show_adds:=d_show_adds.call (P:=P) (w:=w) (base:=base) fun f fd F=>ok_show_adds (C:=C) F T g_len g_all g_sum g_NOT_AS_TOLD c_is_way c_all_bounds
  have c_has_one_before:=d_has_one_before.call (P:=P) (w:=w) (base:=base) fun f fd F=>ok_has_one (C:=C) F g_any mt_is_before
  have c_may_be_first:=d_may_be_first.call (P:=P) (w:=w) (base:=base) fun f fd F=>yt7 (C:=C) F c_has_one_before
  have c_first_of:=d_first_of.call (P:=P) (w:=w) (base:=base) fun f fd F=>ok_first_of (C:=C) F g_len c_may_be_first c_counted
  have c_are_rising_events:=d_are_rising_events.call (P:=P) (w:=w) (base:=base) fun f fd F=>xc5 (C:=C) F T g_len
  have c_rule_first:=d_rule_first.call (P:=P) (w:=w) (base:=base) fun f fd F=>xb7 (C:=C) F g_len g_NOT_AS_TOLD g_NO_HISTORY g_NO_PRESS c_are_rising_events m_Survey mt_has_history mt_presses c_first_of
  have c_less_one:=d_less_one.call (P:=P) (w:=w) (base:=base) fun f fd F=>ok_less_one (C:=C) F T mt_but_with
  have c_rule_needed:=d_rule_needed.call (P:=P) (w:=w) (base:=base) fun f fd F=>yw1 (C:=C) F T g_len g_range g_NO_HISTORY g_NOT_BEFORE m_Survey mt_has_history mt_is_before c_less_one c_counted
  have c_would_refusal:=d_would_refusal.call (P:=P) (w:=w) (base:=base) fun f fd F=>yo8 (C:=C) F T g_FULL c_event_refusal mt_is_full c_hearing_refusal
  have c_rule_would:=d_rule_would.call (P:=P) (w:=w) (base:=base) fun f fd F=>xb5 (C:=C) F T g_len g_NO_PRESS g_WOULD_BREAK g_PLAIN c_would_refusal mt_presses m_Hearing m_Event mt_but_with m_Survey mt_has_history c_first_of
  have c_is_unclosed:=d_is_unclosed.call (P:=P) (w:=w) (base:=base) fun f fd F=>yw6 (C:=C) F mt_team_of mt_last_report mt_is_not_behind
  have c_unclosed_teams:=d_unclosed_teams.call (P:=P) (w:=w) (base:=base) fun f fd F=>yl7 (C:=C) F mt_teams c_is_unclosed
  have c_rule_ruled:=d_rule_ruled.call (P:=P) (w:=w) (base:=base) fun f fd F=>xb6 (C:=C) F g_len g_NO_HISTORY g_NO_PRESS m_Survey mt_has_history mt_presses c_may_be_first c_unclosed_teams c_counted
  have c_tell:=d_tell.call (P:=P) (w:=w) (base:=base) fun f fd F=>ok_tell (C:=C) F g_PLAIN g_PRESS g_REPORT c_tell_box c_tell_wire c_tell_event c_tell_sent c_tell_heard c_tell_limit c_tell_drop c_tell_wakes
  have c_show:=d_show.call (P:=P) (w:=w) (base:=base) fun f fd F=>ok_show (C:=C) F c_show_bounds c_show_check c_show_adds c_show_told
  have c_rule:=d_rule.call (P:=P) (w:=w) (base:=base) fun f fd F=>ok_rule (C:=C) F c_rule_first c_rule_needed c_rule_would c_rule_ruled
  have c_ask:=d_ask.call (P:=P) (w:=w) (base:=base) fun f fd F=>ok_ask (C:=C) F g_NO_HISTORY m_Survey mt_has_history c_ask_fits c_ask_most c_ask_sure c_ask_way c_ask_history c_ask_late
  have c_answer_call:=d_answer_call.call (P:=P) (w:=w) (base:=base) fun f fd F=>yw9 (C:=C) F Tc Kk o_TELLS o_SHOWS o_RULES g_OUT_OF_RANGE g_NOT_THERE c_in_ranges mt_has_all c_tell c_show c_rule c_ask
  exact ok_answers (C:=C) z4 Tc hcb g_len m_Record c_read_call c_answer_call
end FPP
open PySem PySem.W PyProof.Rows
set_option maxRecDepth 100000 in
set_option maxHeartbeats 0 in
theorem PySem.Challenge.cw_firstpress_s01_answers_holds : PySem.Challenge.rw_firstpress_s01_answers.Holds := by
 w_on;k_headS;(case hw=>exact ⟨[.list [.int 23]],by decide +kernel,by decide +kernel⟩)
 k_fillS
 refine L2.walk_specK (r:=PySem.Challenge.rw_firstpress_s01_answers) (k:=11) (CX:=L2.CX0) (ps:=["calls"]) (sp:=FPP.spAns) (by decide +kernel) rfl rfl ⟨rfl,by decide,by decide⟩ (fun w h Y=>PySem.W.kIn_of Y) ?F ?S (fun _ _ _ _ z=>z)
 case F =>
  intro w mg fa h Y KX G hmg
  have cBox:=L2.yk8 KX "Box"
  have cEvent:=L2.yk8 KX "Event"
  have cWire:=L2.yk8 KX "Wire"
  have cHearing:=L2.yk8 KX "Hearing"
  have cLimit:=L2.yk8 KX "Limit"
  have cRecord:=L2.yk8 KX "Record"
  have cBound:=L2.yk8 KX "Bound"
  have cSurvey:=L2.yk8 KX "Survey"
  have cCall:=L2.yk8 KX "Call"
  have tyH:=FPP.tycls_mk cHearing.2
  have tyL:=FPP.tycls_mk cLimit.2
  have hh:=FPP.kit_mk cHearing.2 cHearing.2 (b:=true) (by kit_is)
  have lh:=FPP.kit_mk cLimit.2 cHearing.2 (b:=false) (by kit_is)
  have g_Hearing:=PySem.W.mg_of KX G cHearing.1
  have g_all:mg "all" = none:=PySem.W.mg_none_of KX G (by k_is)
  have g_any:mg "any" = none:=PySem.W.mg_none_of KX G (by k_is)
  have g_enumerate:mg "enumerate" = none:=PySem.W.mg_none_of KX G (by k_is)
  have g_isinstance:mg "isinstance" = none:=PySem.W.mg_none_of KX G (by k_is)
  have g_len:mg "len" = none:=PySem.W.mg_none_of KX G (by k_is)
  have g_max:mg "max" = none:=PySem.W.mg_none_of KX G (by k_is)
  have g_min:mg "min" = none:=PySem.W.mg_none_of KX G (by k_is)
  have g_range:mg "range" = none:=PySem.W.mg_none_of KX G (by k_is)
  have g_sum:mg "sum" = none:=PySem.W.mg_none_of KX G (by k_is)
  have g_zip:mg "zip" = none:=PySem.W.mg_none_of KX G (by k_is)
  have g_ALIKE:L2.GVal mg "ALIKE" (.int (-5)):=L2.zs6 KX G
  have g_FALLS_BACK:L2.GVal mg "FALLS_BACK" (.int (-3)):=L2.zs6 KX G
  have g_FULL:L2.GVal mg "FULL" (.int (-7)):=L2.zs6 KX G
  have g_NOT_AS_TOLD:L2.GVal mg "NOT_AS_TOLD" (.int (-2)):=L2.zs6 KX G
  have g_NOT_BEFORE:L2.GVal mg "NOT_BEFORE" (.int (-9)):=L2.zs6 KX G
  have g_NOT_THERE:L2.GVal mg "NOT_THERE" (.int (-4)):=L2.zs6 KX G
  have g_NO_DELAY:L2.GVal mg "NO_DELAY" (.int (-6)):=L2.zs6 KX G
  have g_NO_HISTORY:L2.GVal mg "NO_HISTORY" (.int (-8)):=L2.zs6 KX G
  have g_NO_PRESS:L2.GVal mg "NO_PRESS" (.int (-9)):=L2.zs6 KX G
  have g_OUT_OF_RANGE:L2.GVal mg "OUT_OF_RANGE" (.int (-1)):=L2.zs6 KX G
  have g_PLAIN:L2.GVal mg "PLAIN" (.int (0)):=L2.zs6 KX G
  have g_PRESS:L2.GVal mg "PRESS" (.int (1)):=L2.zs6 KX G
  have g_REPORT:L2.GVal mg "REPORT" (.int (2)):=L2.zs6 KX G
  have g_WOKEN:L2.GVal mg "WOKEN" (.int (-11)):=L2.zs6 KX G
  have g_WOULD_BREAK:L2.GVal mg "WOULD_BREAK" (.int (-10)):=L2.zs6 KX G
  have R:=FPP.ranges_mk (P:=PySem.Challenge.rw_firstpress_s01_answers.prog) (w:=w) KX G (by k_is) (by k_is) L2.zd2 L2.zd2 L2.zd2 L2.zd2 L2.zd2 L2.zd2 L2.zd2 L2.zd2 L2.zd2 L2.zd2 L2.zd2 L2.zd2
  have Kk:=FPP.kinds_mk KX G (by k_is) L2.zd2 L2.zd2 L2.zd2 L2.zd2 L2.zd2 L2.zd2 L2.zd2 L2.zd2 L2.zd2 L2.zd2 L2.zd2 L2.zd2 L2.zd2 L2.zd2 L2.zd2 L2.zd2 L2.zd2 L2.zd2 L2.zd2 L2.zd2 L2.zd2 L2.zd2 L2.zd2 L2.zd2 L2.zd2
  have o_WITH_ROW:=FPP.xa1 (x := "WITH_ROW") (ns:=[12,16,19]) KX G (by k_is) L2.zd2
  have o_TELLS:=FPP.xa1 (x := "TELLS") (ns:=[0,1,2,3,4,5,6,7,20,21]) KX G (by k_is) L2.zd2
  have o_SHOWS:=FPP.xa1 (x := "SHOWS") (ns:=[13,16,19,23]) KX G (by k_is) L2.zd2
  have o_RULES:=FPP.xa1 (x := "RULES") (ns:=[12,17,18,22]) KX G (by k_is) L2.zd2
  have d_lesser:L2.DefAt _ mg "lesser" FPP.yq1 FPP.zz1:=L2.zc4 KX G
  have d_no_bounds_sums:L2.DefAt _ mg "no_bounds_sums" FPP.zj8 FPP.ze0:=L2.zc4 KX G
  have d_led_through:L2.DefAt _ mg "led_through" FPP.zp9 FPP.zm2:=L2.zc4 KX G
  have d_one_bound_more:L2.DefAt _ mg "one_bound_more" FPP.zj7 FPP.ze9:=L2.zc4 KX G
  have d_leads_on:L2.DefAt _ mg "leads_on" FPP.yd0 FPP.zw7:=L2.zc4 KX G
  have d_least_number:L2.DefAt _ mg "least_number" FPP.zn1 FPP.zj4:=L2.zc4 KX G
  have d_least_numbers:L2.DefAt _ mg "least_numbers" FPP.zl3 FPP.zf5:=L2.zc4 KX G
  have d_told_way:L2.DefAt _ mg "told_way" FPP.yc7 FPP.zw3:=L2.zc4 KX G
  have d_least_sums:L2.DefAt _ mg "least_sums" FPP.zn9 FPP.zo8:=L2.zc4 KX G
  have d_told_ring:L2.DefAt _ mg "told_ring" FPP.zr1 FPP.zr5:=L2.zc4 KX G
  have d_Bound_init:L2.MakAt _ mg "Bound" _ "Bound.__init__" FPP.zu8 FPP.zh9:=L2.yk5 KX G cBound.1
  have d_hearing_bounds:L2.DefAt _ mg "hearing_bounds" FPP.zj9 FPP.zg8:=L2.zc4 KX G
  have d_pair_bounds:L2.DefAt _ mg "pair_bounds" FPP.zp8 FPP.zm1:=L2.zc4 KX G
  have d_evidence_bounds:L2.DefAt _ mg "evidence_bounds" FPP.zi4 FPP.zf6:=L2.zc4 KX G
  have d_clock_bounds:L2.DefAt _ mg "clock_bounds" FPP.zn2 FPP.zj5:=L2.zc4 KX G
  have d_all_bounds:L2.DefAt _ mg "all_bounds" FPP.zu5 FPP.zg1:=L2.zc4 KX G
  have d_Survey_init:L2.MakAt _ mg "Survey" _ "Survey.__init__" FPP.zq2 FPP.ze1:=L2.yk5 KX G cSurvey.1
  have d_in_ranges:L2.DefAt _ mg "in_ranges" FPP.zr2 FPP.zk6:=L2.zc4 KX G
  have d_counted:L2.DefAt _ mg "counted" FPP.yi8 FPP.zh8:=L2.zc4 KX G
  have d_ask_fits:L2.DefAt _ mg "ask_fits" FPP.yd5 FPP.zx1:=L2.zc4 KX G
  have d_ask_most:L2.DefAt _ mg "ask_most" FPP.yd3 FPP.zw9:=L2.zc4 KX G
  have d_ask_sure:L2.DefAt _ mg "ask_sure" FPP.yd2 FPP.zw8:=L2.zc4 KX G
  have d_ask_way:L2.DefAt _ mg "ask_way" FPP.yi9 FPP.yb4:=L2.zc4 KX G
  have d_Call_init:L2.MakAt _ mg "Call" _ "Call.__init__" FPP.zy7 FPP.zs3:=L2.yk5 KX G cCall.1
  have d_read_call:L2.DefAt _ mg "read_call" FPP.zy5 FPP.zs1:=L2.zc4 KX G
  have d_put_behind:L2.DefAt _ mg "put_behind" FPP.zu4 FPP.ze2:=L2.zc4 KX G
  have d_tell_sent:L2.DefAt _ mg "tell_sent" FPP.zy2 FPP.zr7:=L2.zc4 KX G
  have d_Limit_init:L2.MakAt _ mg "Limit" _ "Limit.__init__" FPP.zu6 FPP.zo9:=L2.yk5 KX G cLimit.1
  have d_Hearing_init:L2.MakAt _ mg "Hearing" _ "Hearing.__init__" FPP.zn4 FPP.zh2:=L2.yk5 KX G cHearing.1
  have d_Event_init:L2.MakAt _ mg "Event" _ "Event.__init__" FPP.zu7 FPP.zk7:=L2.yk5 KX G cEvent.1
  have d_tell_limit:L2.DefAt _ mg "tell_limit" FPP.zt7 FPP.zo1:=L2.zc4 KX G
  have d_hearing_refusal:L2.DefAt _ mg "hearing_refusal" FPP.zi3 FPP.ze4:=L2.zc4 KX G
  have d_tell_heard:L2.DefAt _ mg "tell_heard" FPP.zt8 FPP.zo2:=L2.zc4 KX G
  have d_tell_drop:L2.DefAt _ mg "tell_drop" FPP.zy3 FPP.zr8:=L2.zc4 KX G
  have d_event_refusal:L2.DefAt _ mg "event_refusal" FPP.zl4 FPP.zf7:=L2.zc4 KX G
  have d_tell_event:L2.DefAt _ mg "tell_event" FPP.zt9 FPP.zo3:=L2.zc4 KX G
  have d_Box_init:L2.MakAt _ mg "Box" _ "Box.__init__" FPP.yd6 FPP.zq6:=L2.yk5 KX G cBox.1
  have d_tell_box:L2.DefAt _ mg "tell_box" FPP.yc8 FPP.zw4:=L2.zc4 KX G
  have d_Wire_init:L2.MakAt _ mg "Wire" _ "Wire.__init__" FPP.zy6 FPP.zs2:=L2.yk5 KX G cWire.1
  have d_tell_wire:L2.DefAt _ mg "tell_wire" FPP.zy1 FPP.zr6:=L2.zc4 KX G
  have d_Record_init:L2.MakAt _ mg "Record" _ "Record.__init__" FPP.zq3 FPP.zi6:=L2.yk5 KX G cRecord.1
  have d_least_to:L2.DefAt _ mg "least_to" FPP.zw2 FPP.zw6:=L2.zc4 KX G
  have d_ask_history:L2.DefAt _ mg "ask_history" FPP.zi5 FPP.zm4:=L2.zc4 KX G
  have d_ask_late:L2.DefAt _ mg "ask_late" FPP.yd4 FPP.zx0:=L2.zc4 KX G
  have d_tell_wakes:L2.DefAt _ mg "tell_wakes" FPP.zt6 FPP.zo0:=L2.zc4 KX G
  have d_show_bounds:L2.DefAt _ mg "show_bounds" FPP.zp7 FPP.zl9:=L2.zc4 KX G
  have d_show_told:L2.DefAt _ mg "show_told" FPP.zy4 FPP.zr9:=L2.zc4 KX G
  have d_show_check:L2.DefAt _ mg "show_check" FPP.zu0 FPP.zo4:=L2.zc4 KX G
  have d_is_way:L2.DefAt _ mg "is_way" FPP.yi7 FPP.yj3:=L2.zc4 KX G
  have d_show_adds:L2.DefAt _ mg "show_adds" FPP.zk3 FPP.zs0:=L2.zc4 KX G
  have d_has_one_before:L2.DefAt _ mg "has_one_before" FPP.zg6 FPP.zg9:=L2.zc4 KX G
  have d_may_be_first:L2.DefAt _ mg "may_be_first" FPP.zj1 FPP.zh1:=L2.zc4 KX G
  have d_first_of:L2.DefAt _ mg "first_of" FPP.yd1 FPP.zq5:=L2.zc4 KX G
  have d_are_rising_events:L2.DefAt _ mg "are_rising_events" FPP.zg2 FPP.ze5:=L2.zc4 KX G
  have d_rule_first:L2.DefAt _ mg "rule_first" FPP.zu3 FPP.zo7:=L2.zc4 KX G
  have d_less_one:L2.DefAt _ mg "less_one" FPP.yc9 FPP.zw5:=L2.zc4 KX G
  have d_rule_needed:L2.DefAt _ mg "rule_needed" FPP.zl2 FPP.zm0:=L2.zc4 KX G
  have d_would_refusal:L2.DefAt _ mg "would_refusal" FPP.zl1 FPP.zh7:=L2.zc4 KX G
  have d_rule_would:L2.DefAt _ mg "rule_would" FPP.zu1 FPP.zo5:=L2.zc4 KX G
  have d_is_unclosed:L2.DefAt _ mg "is_unclosed" FPP.zq0 FPP.zm3:=L2.zc4 KX G
  have d_unclosed_teams:L2.DefAt _ mg "unclosed_teams" FPP.zg5 FPP.zg7:=L2.zc4 KX G
  have d_rule_ruled:L2.DefAt _ mg "rule_ruled" FPP.zu2 FPP.zo6:=L2.zc4 KX G
  have d_tell:L2.DefAt _ mg "tell" FPP.s_tell FPP.p_tell:=L2.zc4 KX G
  have d_show:L2.DefAt _ mg "show" FPP.s_show FPP.p_show:=L2.zc4 KX G
  have d_rule:L2.DefAt _ mg "rule" FPP.s_rule FPP.p_rule:=L2.zc4 KX G
  have d_ask:L2.DefAt _ mg "ask" FPP.s_ask FPP.p_ask:=L2.zc4 KX G
  have d_answer_call:L2.DefAt _ mg "answer_call" FPP.zq1 FPP.zm5:=L2.zc4 KX G
  have d_answers:L2.DefAt _ mg "answers" FPP.yj0 FPP.yj4:=L2.zc4 KX G
  exact FPP.assemble (h:=h) hmg cBox.2 L2.zc1 L2.zc1 L2.zc1 L2.zc1 L2.zc1 cEvent.2 L2.zc1 L2.zc1 L2.zc1 cWire.2 L2.zc1 L2.zc1 cHearing.2 L2.zc1 L2.zc1 cLimit.2 L2.zc1 L2.zc1 L2.zc1 L2.zc1 cRecord.2 L2.zc1 L2.zc1 L2.zc1 L2.zc1 L2.zc1 cBound.2 L2.zc1 L2.zc1 L2.zc1 cSurvey.2 L2.zc1 L2.zc1 L2.zc1 cCall.2 L2.zc1 L2.zc1 L2.zc1 L2.zc1 tyH tyL hh lh g_Hearing (by decide) (by decide) (by decide) (by decide) g_all g_any g_enumerate g_isinstance g_len g_max g_min g_range g_sum g_zip g_ALIKE g_FALLS_BACK g_FULL g_NOT_AS_TOLD g_NOT_BEFORE g_NOT_THERE g_NO_DELAY g_NO_HISTORY g_NO_PRESS g_OUT_OF_RANGE g_PLAIN g_PRESS g_REPORT g_WOKEN g_WOULD_BREAK R Kk o_WITH_ROW o_TELLS o_SHOWS o_RULES d_lesser d_no_bounds_sums d_led_through d_one_bound_more d_leads_on d_least_number d_least_numbers d_told_way d_least_sums d_told_ring L2.zx4 d_Bound_init L2.zx4 d_hearing_bounds d_pair_bounds d_evidence_bounds d_clock_bounds d_all_bounds d_Survey_init L2.zx4 L2.zx4 L2.zx4 d_in_ranges d_counted d_ask_fits d_ask_most d_ask_sure d_ask_way L2.zx4 L2.zx4 L2.zx4 d_Call_init d_read_call d_put_behind d_tell_sent d_Limit_init d_Hearing_init d_Event_init d_tell_limit d_hearing_refusal d_tell_heard d_tell_drop L2.zx4 d_event_refusal d_tell_event d_Box_init d_tell_box d_Wire_init d_tell_wire d_Record_init d_least_to d_ask_history d_ask_late L2.zx4 L2.zx4 L2.zx4 L2.zx4 d_tell_wakes d_show_bounds d_show_told d_show_check d_is_way d_show_adds d_has_one_before d_may_be_first d_first_of d_are_rising_events d_rule_first d_less_one d_rule_needed d_would_refusal d_rule_would d_is_unclosed d_unclosed_teams d_rule_ruled d_tell d_show d_rule d_ask d_answer_call d_answers
 case S =>
  intro K H xs a hO hwi hask hx
  cases hx with
  | cons h1 h2 =>
   cases h2
   cases h1 with
   | lst hs ha =>
    have e:=L2.ints_dw a.1 _ ha
    subst e
    have hask:PyVbqzab.answers_asked a.1=true:=hask
    exact ⟨_,a.1,rfl,hs,hask,fun H' p hp => .lst (L2.SqL.of hp) (L2.dw_ints _)⟩
#print axioms PySem.Challenge.cw_firstpress_s01_answers_holds
