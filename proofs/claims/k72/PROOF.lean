import PyProof.Rows.All
import Wide.All
import OpenK.AllK
import Wide.FinOn
import Lean
import PyProof.EqAt
import PyProof.EqKinds
import PyProof.TupleCall
import PyProof.ListMulRoad
import PyProof.FactsAll.tuple
import PyProof.MaxThree
import PyProof.SeqI3
import PyProof.Draws
import PyProof.ZipIter
import PyProof.NeKinds
import PyProof.Rows.SortShell
import PyProof.ListRange
import PyProof.DictTable
import PyProof.Rows.Range3
import PyProof.FactsAll.range_2
import PyProof.Rows.SeqMore2
import PySem.Challenge.RW_fewbits_k72_least_stays
set_option compiler.extract_closed false
set_option genInjectivity false
set_option genSizeOf false
abbrev wB:=@PySem.wpAny_bind
abbrev wP:=@PySem.wpAny_pure
abbrev hpS:=@PySem.Heap.get?_push_of_some
theorem gIm {α:Type _}{l:List α}{i:Nat}{a:α}:l[i]? = some a->∃ h,l[i]=a:=List.getElem?_eq_some_iff.mp
abbrev dqF:=@decide_eq_false
abbrev dqT:=@decide_eq_true
abbrev oqT:=@of_decide_eq_true
abbrev FrG:=PySem.W.Frag
abbrev xAa:=@PySem.Heap.lt_size
abbrev xAb:=@List.getElem?_map
abbrev xAc:=@Nat.lt_of_lt_of_le
abbrev xAd:=@List.mem_cons_self
abbrev xAe:=@PySem.Heap.get?_push_size
abbrev xAf:=@Nat.two_pow_pos
abbrev xAg:=@List.mem_cons_of_mem
abbrev xAh:=@List.getD_eq_getElem?_getD
abbrev xAi:=@Nat.le_trans
abbrev xAj:=@Nat.lt_of_le_of_lt
abbrev xAk:=@Nat.ne_of_lt
abbrev xAl:=@List.mem_of_getElem?
abbrev xAm:=@Nat.eq_of_testBit_eq
abbrev xAn:=@List.getElem?_append_left
abbrev xAo:=@List.length_append
abbrev xAp:=@Nat.testBit_or
abbrev xAq:=@List.mem_append_right
set_option Elab.async false
set_option linter.all false
set_option maxRecDepth 100000
namespace L2
open PySem PySem.Spec PyProof.Rows
noncomputable abbrev fL:=Sum Int Str
noncomputable def oT:fL->Value->Bool
 | .inl k,v=>Value.isInt k v
 | .inr x,v=>Value.isStrOf x v
noncomputable def aUa(w:World):fL->Int
 | .inl k=>hashInt k
 | .inr x=>hashStr w x
theorem lG:∀ {k:fL}{v:Value},oT k v=true->(∃ i t,k=Sum.inl i/\v=Value.int i t)\/(∃ x t,k=Sum.inr x/\v=Value.str x t)
 | .inl i,v,h=>by
   obtain⟨t,e⟩:=Value.isInt_shape (k:=i) (v:=v) h;exact .inl ⟨i,t,rfl,e⟩
 | .inr x,v,h=>by
   obtain⟨t,e⟩:=Value.isStrOf_shape (x:=x) (v:=v) h;exact .inr ⟨x,t,rfl,e⟩
theorem aEW(x:Str)(t:Tok):oT (.inr x) (.str x t)=true:=by simp[oT,Value.isStrOf]
theorem aPA(a b:Int):decide ((Sum.inl a:fL)=Sum.inl b)=(a==b):=by
 by_cases e:a=b
 ·subst e;simp
 ·have h:¬ (Sum.inl a:fL)=Sum.inl b:=λ q=>e (Sum.inl.inj q)
  rw[dqF h];exact(beq_eq_false_iff_ne.mpr e).symm
theorem aQO(a b:Str):decide ((Sum.inr a:fL)=Sum.inr b)=decide (a=b):=by
 by_cases e:a=b
 ·subst e;simp
 ·have h:¬ (Sum.inr a:fL)=Sum.inr b:=λ q=>e (Sum.inr.inj q)
  rw[dqF h,dqF e]
theorem aQL(a:Int)(b:Str):decide ((Sum.inl a:fL)=Sum.inr b)=false:=dqF (λ q=>nomatch q)
theorem aQ0(a:Str)(b:Int):decide ((Sum.inr a:fL)=Sum.inl b)=false:=dqF (λ q=>nomatch q)
noncomputable def mR(prog:Program)(w:World):PySem.KeyKind prog w fL where
 is:=oT
 hash:=aUa w
 inj:=λ v a b ha hb=>by
  rcases lG ha with ⟨i,t,rfl,rfl⟩ | ⟨x,t,rfl,rfl⟩
  ·rcases lG hb with ⟨j,u,rfl,e⟩ | ⟨y,u,rfl,e⟩
   ·injection e with e1 _;rw[e1]
   ·exact nomatch e
  ·rcases lG hb with ⟨j,u,rfl,e⟩ | ⟨y,u,rfl,e⟩
   ·exact nomatch e
   ·injection e with e1 _;rw[e1]
 byValue:=λ k v h=>by
  rcases lG h with ⟨i,t,rfl,rfl⟩ | ⟨x,t,rfl,rfl⟩<;>rfl
 pyHash:=λ hv h=>by
  rcases lG hv with ⟨i,t,rfl,rfl⟩ | ⟨x,t,rfl,rfl⟩
  ·exact wpAny_pyHash_int h
  ·exact wpAny_pyHash_str h
 eqBool:=λ hu hv h=>by
  rcases lG hu with ⟨i,t,rfl,rfl⟩ | ⟨x,t,rfl,rfl⟩
  ·rcases lG hv with ⟨j,u,rfl,rfl⟩ | ⟨y,u,rfl,rfl⟩
   ·rw[aPA] at h;exact wpAny_eqBool_int h
   ·rw[aQL] at h;exact SeqAt.EqAt.int_str i t y u _ _ _ _ h
  ·rcases lG hv with ⟨j,u,rfl,rfl⟩ | ⟨y,u,rfl,rfl⟩
   ·rw[aQ0] at h;exact SeqAt.EqAt.str_int x t j u _ _ _ _ h
   ·rw[aQO] at h;exact wpAny_eqBool_str h
 «strs»:=λ k x t v h=>by
  rcases lG h with ⟨i,u,rfl,e⟩ | ⟨y,u,rfl,e⟩
  ·exact nomatch e
  ·injection e with e1 _
   subst e1;cases v<;>rfl
end L2
namespace L2
open PySem PySem.Spec PyProof.Rows
inductive V where
 | non | bl (b:Bool) | int (i:Int) | str (x:Str) | byt (b:Array UInt8) | flt (b:UInt64) | ref (a:Addr) | ty (n:String)
 deriving DecidableEq
noncomputable def aZ:V->Value->Prop
 | .non,u=>u=Value.none
 | .bl b,u=>u=Value.bool b
 | .int i,u=>∃ t,u=Value.int i t
 | .str x,u=>∃ t,u=Value.str x t
 | .byt b,u=>∃ t,u=Value.bytes b t
 | .flt b,u=>∃ t,u=Value.float b t
 | .ref a,u=>u=Value.ref a
 | .ty n,u=>u=Value.type n
noncomputable abbrev aW:List V->List Value->Prop:=Paired aZ
theorem aW.length{xs:List V}{us:List Value}(r:aW xs us):xs.length=us.length:=Paired.length r
theorem aW.get:∀ {xs:List V}{us:List Value}{i:Nat}{x:V},aW xs us->xs[i]? = some x->∃ u,us[i]? = some u/\aZ x u
 | _,_,_,_,.nil,e=>by simp at e
 | _,_,0,_,.cons r _,e=>by simp at e;subst e;exact⟨_,rfl,r⟩
 | _,_,i+1,x,.cons _ t,e=>by
   obtain⟨u,h1,h2⟩:=aW.get (i:=i) (x:=x) t (by simpa using e)
   exact⟨u,by simpa using h1,h2⟩
theorem aW.set{x:V}{u:Value}(r:aZ x u):∀ {xs:List V}{us:List Value} (i:Nat),aW xs us->aW (xs.set i x) (us.set i u)
 | _,_,_,.nil=>.nil
 | _,_,0,.cons _ t=>.cons r t
 | _,_,i+1,.cons q t=>.cons q (aW.set r i t)
theorem aW.append:∀ {xs ys:List V}{us ws:List Value},aW xs us->aW ys ws->aW (xs++ys) (us++ws)
 | _,_,_,_,.nil,s=>s
 | _,_,_,_,.cons r t,s=>.cons r (aW.append t s)
theorem aW.take:∀ {xs:List V}{us:List Value} (n:Nat),aW xs us->aW (xs.take n) (us.take n)
 | _,_,0,_=>.nil
 | _,_,_+1,.nil=>.nil
 | _,_,n+1,.cons r t=>.cons r (aW.take n t)
theorem aW.drop:∀ {xs:List V}{us:List Value} (n:Nat),aW xs us->aW (xs.drop n) (us.drop n)
 | _,_,0,r=>r
 | _,_,_+1,.nil=>.nil
 | _,_,n+1,.cons _ t=>aW.drop n t
noncomputable def aJe:Option V->Option Value->Prop
 | some v,some u=>aZ v u
 | none,none=>True
 | _,_=>False
noncomputable def KV{κ:Type}:List (κ × V)->List (κ × Value)->Prop:=Paired λ(p:κ × V) (q:κ × Value)=>p.1=q.1/\aZ p.2 q.2
noncomputable def kV:fL->V
 | .inl i=>.int i
 | .inr x=>.str x
inductive HO where
 | lst (xs:List V)
 | tup (xs:List V)
 | dK (aU:List (fL × V)) | dT (aU:List (List fL × V))
 | set (S:Int->Bool) (n:Nat)
 | ins (C dx:Addr) (fs:List (Str × V))
 | own (x:Addr)
 | xd (fs:List (Str × V))
 | met (f x:Addr)
 | rng (lo hi:Int)
 | frz (o:Obj) (u:HO)
 | tbl (ps:Array Value)
 | ext (φ:Heap->Prop)
noncomputable abbrev Hp:=Addr->Option HO
noncomputable def bB(H:Hp)(a:Addr)(o:HO):Hp:=λ b=>if b=a then some o else H b
theorem cV{H:Hp}{a:Addr}{o:HO}:bB H a o a=some o:=by unfold bB;rw[if_pos rfl]
theorem bJ{H:Hp}{a b:Addr}{o:HO}(h:b≠a):bB H a o b=H b:=by unfold bB;rw[if_neg h]
theorem dW{H:Hp}{a b:Addr}{o:HO}(h:H a=some o)(h':H b=none):a≠b:=by
 intro e;subst e;rw[h] at h';cases h'
section
variable (P : Program)(w : World)
noncomputable def gZ(H:Hp)(h:Heap)(a:Addr):HO->Prop
 | .lst xs=>xs.length<=sizeLine/\∃ (aE:List Value) (n:Nat),aW xs aE/\h.get? a=some {cls:=.type "list",data:=.seq aE.toArray n }
 | .tup xs=>xs.length<=sizeLine/\∃ aE:List Value,aW xs aE/\IsTup h a aE.toArray
 | .dK aU=>aU.length<=sizeLine/\(a==sysModules)=false/\∃ vs,KV aU vs/\h.DictOf (mR P w) a vs
 | .dT aU=>aU.length<=sizeLine/\(a==sysModules)=false/\∃ xs:List (List fL × Addr × Value),
    Paired (λ(p:List fL × V) (q:List fL × Addr × Value)=>p.1=q.1/\H q.2.1=some (.tup (p.1.map kV))/\aZ p.2 q.2.2) aU xs /\
    ∃ o es ep,h.get? a=some o/\o.ExactDict/\o.data=.dict es ep/\es.toList=xs.map (entryOfKey (tupleKind (mR P w)))/\(xs.map (·.1)).Nodup
 | .set S n=>h.SetOf (intKind P w) a S n
 | .ins C dx fs=>H dx=some (.own a)/\fs.length<=1000/\dx≠a/\h.get? a=some (PySem.W.instObj C dx) /\
    ∃ mA,h.Ns1 dx mA/\(∀ f,aJe (fs.lookup f) (mA f))/\PySem.Within mA (fs.map (·.1))
 | .own _=>∃ o,h.get? a=some o
 | .xd fs=>∃ mA,h.Ns1 a mA/\∀ f,aJe (fs.lookup f) (mA f)
 | .rng lo hi=>∃ t u v,h.get? a=some {cls:=.type "range",data:=.fields #[.int lo t,.int hi u,.int 1 v] }
 | .frz o u=>h.get? a=some o/\gZ H h a u
 | .tbl ps=>h.get? a=some {cls:=.none,data:=.fields ps }
 | .met f x=>h.get? a=some (PySem.W.methodObj (.ref f) (.ref x))
 | .ext φ=>φ h/\(∃ o,h.get? a=some o)/\∀ h1 h2:Heap,φ h1->(∀ o,h1.get? a=some o->h2.get? a=some o)->φ h2
def dH(H:Hp)(h:Heap):Prop:=∀ a o,H a=some o->gZ P w H h a o
end
section
variable {P : Program}{w : World}{H H' : Hp}{h h' : Heap}{a : Addr}{o : HO}
theorem gZ.lt(x:gZ P w H h a o):a < h.objs.size:=by
 cases o with
 | lst xs=>obtain⟨_,_,_,_,e⟩:=x;exact xAa e
 | tup xs=>obtain⟨_,_,_,p⟩:=x;exact p.lt
 | dK aU=>obtain⟨_,_,_,_,o,_,_,e,_⟩:=x;exact xAa e
 | dT aU=>obtain⟨_,_,_,_,o,_,_,e,_⟩:=x;exact xAa e
 | set S n=>obtain⟨o,_,_,_,e,_⟩:=x;exact xAa e
 | ins C dx fs=>obtain⟨_,_,_,e,_⟩:=x;exact xAa e
 | own y=>obtain⟨_,e⟩:=x;exact xAa e
 | xd fs=>obtain⟨_,⟨_,_,_,e,_⟩,_⟩:=x;exact xAa e
 | rng lo hi=>obtain⟨_,_,_,e⟩:=x;exact xAa e
 | frz ob u=>obtain⟨e,_⟩:=x;exact xAa e
 | tbl ps=>exact xAa (show h.get? a=some _ from x)
 | met f y=>exact xAa (show h.get? a=some _ from x)
 | ext φ=>obtain⟨_,⟨_,e⟩,_⟩:=x;exact xAa e
theorem Paired.mapP{α β:Type}{F G:α->β->Prop}:∀ {l₁:List α}{l₂:List β},Paired F l₁ l₂->(∀ a b,F a b->G a b)->Paired G l₁ l₂
 | _,_,.nil,_=>.nil
 | _,_,.cons r t,f=>.cons (f _ _ r) (Paired.mapP t f)
theorem gZ.stay(x:gZ P w H h a o)(k:∀ b u,(b=a\/H b=some (.own a))->h.get? b=some u->h'.get? b=some u)
 (ho:∀ b,H b=some (.own a)->H' b=some (.own a)) (ht:∀ b xs,H b=some (.tup xs)->H' b=some (.tup xs)):gZ P w H' h' a o:=by
 induction o with
 | lst xs=>obtain⟨z,aE,n,r,e⟩:=x;exact⟨z,aE,n,r,k _ _ (.inl rfl) e⟩
 | tup xs=>obtain⟨z,aE,r,ob,e,c⟩:=x;exact⟨z,aE,r,ob,k _ _ (.inl rfl) e,c⟩
 | dK aU=>obtain⟨z,y,vs,r,ob,es,ep,e,c⟩:=x;exact⟨z,y,vs,r,ob,es,ep,k _ _ (.inl rfl) e,c⟩
 | dT aU =>
   obtain⟨z,y,xs,r,ob,es,ep,e,c⟩:=x;exact⟨z,y,xs,Paired.mapP r λ p q z=>⟨z.1,ht _ _ z.2.1,z.2.2⟩,ob,es,ep,k _ _ (.inl rfl) e,c⟩
 | set S n=>obtain⟨ob,es,ep,t,e,c⟩:=x;exact⟨ob,es,ep,t,k _ _ (.inl rfl) e,c⟩
 | ins C dx fs =>
   obtain⟨d,z,ne,e,mA,⟨od,es,ep,e2,c⟩,r⟩:=x;exact⟨ho _ d,z,ne,k _ _ (.inl rfl) e,mA,⟨od,es,ep,k _ _ (.inr d) e2,c⟩,r⟩
 | own y=>obtain⟨ob,e⟩:=x;exact⟨ob,k _ _ (.inl rfl) e⟩
 | xd fs=>obtain⟨mA,⟨od,es,ep,e,c⟩,r⟩:=x;exact⟨mA,⟨od,es,ep,k _ _ (.inl rfl) e,c⟩,r⟩
 | rng lo hi=>obtain⟨t,u,v,e⟩:=x;exact⟨t,u,v,k _ _ (.inl rfl) e⟩
 | frz ob u ih=>obtain⟨e,q⟩:=x;exact⟨k _ _ (.inl rfl) e,ih q⟩
 | tbl ps =>
   have e:h.get? a=some {cls:=.none,data:=.fields ps }:=x;show h'.get? a=some {cls:=.none,data:=.fields ps };exact k a _ (.inl rfl) e
 | met f y =>
   have e:h.get? a=some (PySem.W.methodObj (.ref f) (.ref y)):=x;show h'.get? a=some (PySem.W.methodObj (.ref f) (.ref y));exact k a _ (.inl rfl) e
 | ext φ=>obtain⟨p,⟨o,e⟩,st⟩:=x;exact⟨st _ _ p λ o q=>k _ _ (.inl rfl) q,⟨o,k _ _ (.inl rfl) e⟩,st⟩
theorem dH.lt(x:dH P w H h)(e:H a=some o):a < h.objs.size:=(x a o e).lt
theorem dH.fresh(x:dH P w H h)(e:h.objs.size<=a):H a=none:=by
 cases q:H a with
 | none=>rfl
 | some u=>exact absurd (xAc (x.lt q) e) (Nat.lt_irrefl _)
theorem dH.kept(x:dH P w H h)(k:∀ b u,h.get? b=some u->h'.get? b=some u):dH P w H h':=λ a o e =>
 (x a o e).stay (λ b u _ q=>k b u q) (λ _ q=>q) λ _ _ q=>q
theorem dH.laid(x:dH P w H h)(k:∀ b u,h.get? b=some u->h'.get? b=some u)(hp:h.objs.size<=a)(new:gZ P w (bB H a o) h' a o):dH P w (bB H a o) h':=λ b u e=>by
 have hn:=x.fresh hp
 by_cases hb:b=a
 ·subst hb;rw[cV] at e;cases e;exact new
 ·rw[bJ hb] at e;exact(x b u e).stay (λ c v _ q=>k c v q) (λ c q=>by rw[bJ (dW q hn)];exact q) λ c xs q=>by rw[bJ (dW q hn)];exact q
end
def Rd(H:Hp)(a:Addr)(u:HO):Prop:=H a=some u\/∃ o,H a=some (.frz o u)
theorem Rd.ok{P:Program}{w:World}{H:Hp}{h:Heap}{a:Addr}{u:HO}(r:Rd H a u)(x:dH P w H h):gZ P w H h a u:=by
 rcases r with r | ⟨o,r⟩
 ·exact x a u r
 ·obtain⟨_,q⟩:=x a _ r;exact q
noncomputable def Mut:Option HO->Prop
 | some (.lst _)=>True
 | some (.dK _)=>True
 | some (.dT _)=>True
 | some (.set _ _)=>True
 | some (.ins _ _ _)=>True
 | some (.ext _)=>True
 | _=>False
section
variable {P : Program}{w : World}{H : Hp}{h h' : Heap}{x e : Addr}{o' : HO}
theorem dH.write(ok:dH P w H h)(mu:Mut (H x))(he:e=x\/H e=some (.own x))(k:∀ b u,b≠e->h.get? b=some u->h'.get? b=some u)(heo:∃ u,h'.get? e=some u)
 (new:gZ P w (bB H x o') h' x o'):dH P w (bB H x o') h':=λ b u q=>by
 have nown:∀ c y,H c=some (.own y)->c≠x:=λ c y r z=>by subst z;rw[r] at mu;exact mu
 have ntup:∀ c xs,H c=some (.tup xs)->c≠x:=λ c xs r z=>by subst z;rw[r] at mu;exact mu
 by_cases hb:b=x
 ·subst hb;rw[cV] at q;cases q;exact new
 ·rw[bJ hb] at q
  by_cases hbe:b=e
  ·have q':H b=some (.own x):=by
    rcases he with z | z
    ·exact absurd (hbe.trans z) hb
    ·rw[hbe];exact z
   rw[q] at q';cases q';obtain⟨v,hv⟩:=heo;exact⟨v,by rw[hbe];exact hv⟩
  ·refine(ok b u q).stay (λ c v hc r=>k c v ?_ r) (λ c r=>by rw[bJ (nown c b r)];exact r) λ c xs r=>by rw[bJ (ntup c xs r)];exact r
   rcases hc with rfl | hc
   ·exact hbe
   ·rintro rfl;rcases he with z | z
    ·exact nown c b hc z
    ·rw[hc] at z;cases z;exact hb rfl
end
structure Un(fs ex:List Addr)(H H':Hp)(h h':Heap):Prop where
 keep:∀ b o,h.get? b=some o->H b=none->b ∉ fs->b ∉ ex->h'.get? b=some o
 slot:∀ b o,h.get? b=some o->H b=none->b∈fs->b ∉ ex->∃ sl,h'.get? b=some {o with slots:=sl }
 free:∀ b o,h.get? b=some o->H b=none->b ∉ ex->H' b=none
 there:∀ b o,h.get? b=some o->b ∉ ex->∃ o',h'.get? b=some o'
 tups:∀ b xs,H b=some (.tup xs)->H' b=some (.tup xs)
 frzs:∀ b o u,H b=some (.frz o u)->H' b=some (.frz o u)
 tbls:∀ b ps,H b=some (.tbl ps)->∃ more,H' b=some (.tbl (ps++more))
section
variable {fs fs' ex ex' : List Addr}{H H1 H2 : Hp}{h h1 h2 h' : Heap}{a x e : Addr}{o : HO}
theorem Un.any(u:Un fs ex H H1 h h1){b:Addr}{ob:Obj}(q:h.get? b=some ob)(n:H b=none)(hx:b ∉ ex):∃ sl,h1.get? b=some {ob with slots:=sl }:=by
 by_cases hb:b∈fs
 ·exact u.slot b ob q n hb hx
 ·exact⟨ob.slots,u.keep b ob q n hb hx⟩
theorem Un.kept(k:∀ b u,h.get? b=some u->h'.get? b=some u):Un fs ex H H h h':=
 ⟨λ b ob q _ _ _=>k b ob q,λ b ob q _ _ _=>⟨ob.slots,k b ob q⟩,λ _ _ _ n _=>n,λ b ob q _=>⟨ob,k b ob q⟩,λ _ _ q=>q,λ _ _ _ q=>q,λ _ ps q=>⟨#[],by rw[q];simp⟩⟩
theorem Un.refl:Un fs ex H H h h:=Un.kept λ _ _ q=>q
theorem Un.laid(k:∀ b u,h.get? b=some u->h'.get? b=some u)(hp:h.objs.size<=a)(hn:H a=none):Un fs ex H (bB H a o) h h' where
 keep:=λ b u q _ _ _=>k b u q
 slot:=λ b u q _ _ _=>⟨u.slots,k b u q⟩
 free:=λ b u q n _=>by rw[bJ (xAk (xAc (xAa q) hp))];exact n
 there:=λ b u q _=>⟨u,k b u q⟩
 tups:=λ b xs q=>by rw[bJ (dW q hn)];exact q
 frzs:=λ b u xs q=>by rw[bJ (dW q hn)];exact q
 tbls:=λ b ps q=>⟨#[],by rw[bJ (dW q hn),q];simp⟩
theorem Un.write(mu:Mut (H x))(he:e=x\/H e=some (.own x))(k:∀ b u,b≠e->h.get? b=some u->h'.get? b=some u)(heo:∃ u,h'.get? e=some u):Un fs ex H (bB H x o) h h':=by
 have hx:∀ b,H b=none->b≠x:=λ b n z=>by subst z;rw[n] at mu;exact mu
 have hb:∀ b,H b=none->b≠e:=λ b n z=>by
  subst z;rcases he with r | r
  ·exact hx b n r
  ·rw[n] at r;cases r
 have hm:∀ b u,H b=some u->¬ Mut (some u)->b≠x:=λ b u q nm z=>by subst z;rw[q] at mu;exact nm mu
 refine⟨λ b u q n _ _=>k b u (hb b n) q,λ b u q n _ _=>⟨u.slots,k b u (hb b n) q⟩,λ b u q n _=>by rw[bJ (hx b n)];exact n,λ b u q _=>?_,
  λ b xs q=>by rw[bJ (hm b _ q λ z=>z)];exact q,λ b u xs q=>by rw[bJ (hm b _ q λ z=>z)];exact q,λ b ps q=>⟨#[],by rw[bJ (hm b _ q λ z=>z),q];simp⟩⟩
 by_cases hbe:b=e
 ·subst hbe;exact heo
 ·exact⟨u,k b u hbe q⟩
end
noncomputable def trk(h:Heap)(H:Hp):List Addr:=(List.range h.objs.size).filter λ a=>(H a).isSome
noncomputable def lW(h:Heap)(H:Hp):Heap:=PySem.W.hideAll h (trk h H)
theorem aL3(h:Heap)(H:Hp):(lW h H).objs.size=h.objs.size:=PySem.W.hideAll_size _ _
theorem aMu{h:Heap}{H:Hp}{b:Addr}{o:Obj}(e:h.get? b=some o)(n:H b=none):(lW h H).get? b=some o:=
 PySem.W.hideAll_get _ e λ hm=>by
  have q:(H b).isSome=true:=(List.mem_filter.mp hm).2;rw[n] at q;simp at q
theorem aOi{h:Heap}{H:Hp}{b:Addr}{o:Obj}(e:(lW h H).get? b=some o):h.get? b=some o/\H b=none:=by
 have e':h.get? b=some o:=PySem.W.of_hideAll (trk h H) e;refine⟨e',?_⟩;cases q:H b with
 | none=>rfl
 | some x =>
   have hm:b∈trk h H:=List.mem_filter.mpr ⟨List.mem_range.mpr (xAa e'),by simp[q]⟩
   have z:(lW h H).get? b=none:=PySem.W.hideAll_none (trk h H) hm;rw[z] at e;cases e
noncomputable def aO7(g h:Heap)(L:Addr):List (Addr × Obj):=(List.range h.objs.size).filterMap λ a=>if a=L\/(g.get? a).isSome=true then none else (h.get? a).map λ o=>(a,o)
noncomputable def cS(g h:Heap)(L d:Addr):List (Addr × Obj):=(aO7 g h L).filter λ p=>decide (p.1≠d)
end L2
namespace L2
open PySem PySem.Spec PyProof.Rows
structure Mod(K:FrG)(mg:Str->Option Value)(base:Heap):Prop where
 kin:K.In base
 glob:base.Ns mainGlobals mg
 blt:∃ mb,base.Ns builtinsNs mb/\∀ x:Str,x ≠ "__name__" -> mb x=bootBuiltins x
 nolimit:base.NoLimit
structure Cx where
 prog:Program
 w:World
 K:FrG
 mg:Str->Option Value
 base:Heap
 A:Around
 N:List Str
 s₀:Shared
 H₀:Hp
 env:Env
 outer:List Env
 stack:List Env
 ex:List Addr
 fn:Str->Bool
 calm:Bool
 pn:List (Addr × Obj)
 xe:Value->Shared->Prop
noncomputable def iA(l:List Env):List Addr:=l.filterMap (·.frame)
noncomputable abbrev Cx.fs(X:Cx):List Addr:=iA X.outer
def vR(sc:Scope)(x:Str):Prop:=sc.names.lookup x=some .local\/sc.names.lookup x=some .cell\/sc.names.lookup x=some .free
def Loc(sc:Scope)(x:Str):Prop:=sc.names.lookup x=some .local\/sc.names.lookup x=some .cell
def aUs(env:Env)(h:Heap)(m:Str->Option Value)(x:Str)(u:Value):Prop:=
 (env.kindOf x=some .local/\m x=some u)\/((env.kindOf x=some .cell\/env.kindOf x=some .free)/\∃ c,env.cells.lookup x=some c/\h.IsCell c (some u))
structure Cx.Ok(X:Cx):Prop where
 mod:Mod X.K X.mg X.base
 kind:X.env.scope.kind=.function
 glob:X.env.globals=mainGlobals
 blt:X.env.builtins=builtinsNs
 above:X.s₀.heap.objs.size<=X.env.locals
 inj:∀ x y c,X.env.cells.lookup x=some c->X.env.cells.lookup y=some c->x=y
 has:∀ x,(X.env.kindOf x=some .cell\/X.env.kindOf x=some .free)->∃ c,X.env.cells.lookup x=some c
 cab:∀ x c,X.fn x=true->X.env.cells.lookup x=some c->X.s₀.heap.objs.size<=c
 hd:X.calm=true->X.A.handled=none
 frames:X.A.frames=some X.stack
 stk:X.stack=X.outer\/(X.stack=X.env::X.outer/\X.env.frame=some X.env.locals)
 exf:∀ b∈X.ex,b≠X.env.locals/\∀ x c,X.env.cells.lookup x=some c->c≠b
 bs:∀ b o,X.base.get? b=some o->X.s₀.heap.get? b=some o/\X.H₀ b=none
 bsz:X.base.objs.size<=X.s₀.heap.objs.size
 noex:∀ b o,X.base.get? b=some o->b ∉ X.ex
 exfs:∀ b∈X.ex,b ∉ X.fs
 funs:X.s₀.heap.FunFrames X.base X.outer
 frf:∀ b∈X.fs,X.H₀ b=none
structure Inv(X:Cx)(aB:List (Addr × Obj))(σ:List (Option V))(H:Hp)(s:Shared):Prop where
 ok:X.Ok
 os:s.os=X.s₀.os
 bare:AllBare s.gens
 base:Un X.fs X.ex X.H₀ H X.s₀.heap s.heap
 loc:∃ m,s.heap.Ns X.env.locals m/\∀ (i:Nat) (x:Str) (v:V),X.N[i]? = some x->σ[i]? = some (some v)->vR X.env.scope x->∃ u,aZ v u/\aUs X.env s.heap m x u
 cell:∀ x c,X.env.cells.lookup x=some c->∃ v,s.heap.IsCell c v
 free:H X.env.locals=none
 freeC:∀ x c,X.env.cells.lookup x=some c->H c=none
 pin:∀ p∈X.pn++aB,s.heap.get? p.1=some p.2/\H p.1=none/\p.1≠X.env.locals/\p.1 ∉ X.fs/\∀ v,p.2.data≠.cell v
 hok:dH X.prog X.w H s.heap
 len:σ.length=X.N.length
section
variable {X : Cx}{aB : List (Addr × Obj)}{σ : List (Option V)}{H H' : Hp}{s : Shared}{h' : Heap}
theorem Cx.Ok.nofr(ok:X.Ok){b:Addr}{o:Obj}(e:X.base.get? b=some o):b ∉ X.fs:=λ hb=>by
 have:=(ok.funs.mem hb).1;rw[e] at this;cases this
theorem Inv.bs(I:Inv X aB σ H s):∀ b o,X.base.get? b=some o->s.heap.get? b=some o/\H b=none:=λ b o e =>
 ⟨I.base.keep b o (I.ok.bs b o e).1 (I.ok.bs b o e).2 (I.ok.nofr e) (I.ok.noex b o e),I.base.free b o (I.ok.bs b o e).1 (I.ok.bs b o e).2 (I.ok.noex b o e)⟩
theorem Inv.bk(I:Inv X aB σ H s):∀ b o,X.base.get? b=some o->s.heap.get? b=some o:=λ b o e=>(I.bs b o e).1
theorem Inv.mod(I:Inv X aB σ H s):Mod X.K X.mg X.base:=I.ok.mod
theorem Inv.kIn(I:Inv X aB σ H s):X.K.In s.heap:=I.ok.mod.kin.keeps I.bk
theorem Inv.lt(I:Inv X aB σ H s):X.env.locals < s.heap.objs.size:=let ⟨_,hn,_⟩:=I.loc;hn.lt
theorem Inv.sz(I:Inv X aB σ H s):X.s₀.heap.objs.size<=s.heap.objs.size:=xAi I.ok.above (Nat.le_of_lt I.lt)
theorem Inv.nofs(I:Inv X aB σ H s){a:Addr}(h:s.heap.objs.size<=a):a ∉ X.fs:=λ hb=>by
 obtain⟨_,o,ho,_⟩:=I.ok.funs.mem hb;exact absurd (xAc (xAa ho) (xAi I.sz h)) (Nat.lt_irrefl _)
theorem Inv.cne(I:Inv X aB σ H s):∀ x c,X.env.cells.lookup x=some c->c≠X.env.locals:=λ x c e z=>by
 obtain⟨v,o,ho,hd⟩:=I.cell x c e;obtain⟨m,⟨o',es,ep,ho',hd',_⟩,_⟩:=I.loc;rw[z,ho'] at ho;cases ho;rw[hd'] at hd;cases hd
theorem Inv.funs(I:Inv X aB σ H s):s.heap.FunFrames X.base X.outer:=by
 have all:∀ (l:List Env),(∀ b∈iA l,b∈X.fs)->X.s₀.heap.FunFrames X.base l->s.heap.FunFrames X.base l:=by
  intro l
  induction l with
  | nil=>intro _ _;trivial
  | cons env r ih =>
    intro hs hl;obtain⟨hk,⟨L,o,hf,hn,ho,hd⟩,hr⟩:=hl;have hL:L∈X.fs:=hs L (by unfold iA;rw[List.filterMap_cons,hf];exact xAd)
    obtain⟨sl,e⟩:=I.base.slot L o ho (I.ok.frf L hL) hL λ z=>I.ok.exfs L z hL
    exact⟨hk,⟨L,_,hf,hn,e,hd⟩,ih (λ b hb=>hs b (by unfold iA;rw[List.filterMap_cons,hf];exact xAg _ hb)) hr⟩
 exact all X.outer (λ _ hb=>hb) I.ok.funs
theorem Inv.stack(I:Inv X aB σ H s):s.heap.FunFrames X.base X.stack:=by
 rcases I.ok.stk with e | ⟨e,hf⟩
 ·rw[e];exact I.funs
 ·rw[e];obtain⟨m,hn,_⟩:=I.loc;refine .cons (by rw[I.ok.kind];decide) hf hn ?_ I.funs
  exact Heap.get?_none_of_le (xAi I.ok.bsz I.ok.above)
theorem Inv.stkSub(I:Inv X aB σ H s):∀ b∈iA X.stack,b∈X.env.locals::X.fs:=λ b hb=>by
 rcases I.ok.stk with e | ⟨e,hf⟩
 ·rw[e] at hb;exact xAg _ hb
 ·rw[e] at hb;unfold iA at hb;rw[List.filterMap_cons,hf] at hb;exact hb
theorem Inv.stkFree(I:Inv X aB σ H s):∀ b∈iA X.stack,H b=none:=λ b hb=>by
 rcases List.mem_cons.mp (I.stkSub b hb) with e | hb
 ·rw[e];exact I.free
 ·obtain⟨_,o,ho,_⟩:=I.ok.funs.mem hb;exact I.base.free b o ho (I.ok.frf b hb) λ z=>I.ok.exfs b z hb
theorem Inv.step{g':Array GenState}{t':Nat}{d':Drawn}{ch:List Addr}(I:Inv X aB σ H s)
 (hch:∀ b∈ch,(b∈X.ex\/X.s₀.heap.objs.size<=b)/\b≠X.env.locals/\(∀ x c,X.env.cells.lookup x=some c->c≠b)/\∀ p∈X.pn++aB,p.1≠b)
 (keep:∀ b o,b≠X.env.locals->b ∉ X.fs->b ∉ ch->s.heap.get? b=some o->H b=none->h'.get? b=some o)
 (slot:∀ b o,b≠X.env.locals->b∈X.fs->b ∉ ch->s.heap.get? b=some o->H b=none->∃ sl,h'.get? b=some {o with slots:=sl }) (free:∀ b o,b ∉ ch->s.heap.get? b=some o->H b=none->H' b=none)
 (there:∀ b o,b ∉ ch->s.heap.get? b=some o->∃ o',h'.get? b=some o')
 (tups:∀ b xs,H b=some (.tup xs)->H' b=some (.tup xs)) (frzs:∀ b o u,H b=some (.frz o u)->H' b=some (.frz o u)) (tbls:∀ b ps,H b=some (.tbl ps)->∃ more,H' b=some (.tbl (ps++more)))
 (ns:∀ m,s.heap.Ns X.env.locals m->h'.Ns X.env.locals m) (hok:dH X.prog X.w H' h') (hg:AllBare g') :
 Inv X aB σ H' {s with heap:=h',gens:=g',drawn:=d',toks:=t' }:=by
 have neL:∀ b o,X.s₀.heap.get? b=some o->b≠X.env.locals:=λ b o e=>xAk (xAc (xAa e) I.ok.above)
 have neC:∀ b o,X.s₀.heap.get? b=some o->b ∉ X.ex->b ∉ ch:=λ b o e hx hb=>by
  rcases (hch b hb).1 with z | z
  ·exact hx z
  ·exact absurd (xAc (xAa e) z) (Nat.lt_irrefl _)
 have cellK:∀ x c,X.env.cells.lookup x=some c->∀ v,s.heap.IsCell c v->h'.IsCell c v:=λ x c e v aP=>by
  obtain⟨o,ho,hd⟩:=aP;have nch:c ∉ ch:=λ z=>(hch c z).2.2.1 x c e rfl
  by_cases hc:c∈X.fs
  ·obtain⟨sl,q⟩:=slot c o (I.cne x c e) hc nch ho (I.freeC x c e);exact⟨_,q,hd⟩
  ·exact⟨o,keep c o (I.cne x c e) hc nch ho (I.freeC x c e),hd⟩
 refine⟨I.ok,I.os,hg,⟨λ b o e n hb hx=>?_,λ b o e n hb hx=>?_,λ b o e n hx=>?_,λ b o e hx=>?_,λ b xs e=>tups b xs (I.base.tups b xs e),λ b o xs e=>frzs b o xs (I.base.frzs b o xs e),λ b ps e=>?_⟩,?_,λ x c e=>?_,?_,λ x c e=>?_,λ p hp=>?_,hok,I.len⟩
 ·exact keep b o (neL b o e) hb (neC b o e hx) (I.base.keep b o e n hb hx) (I.base.free b o e n hx)
 ·obtain⟨sl,e1⟩:=I.base.slot b o e n hb hx;obtain⟨sl',e2⟩:=slot b _ (neL b o e) hb (neC b o e hx) e1 (I.base.free b o e n hx);exact⟨sl',e2⟩
 ·obtain⟨o',e1⟩:=I.base.there b o e hx;exact free b o' (neC b o e hx) e1 (I.base.free b o e n hx)
 ·obtain⟨o',e1⟩:=I.base.there b o e hx;exact there b o' (neC b o e hx) e1
 ·obtain⟨m1,e1⟩:=I.base.tbls b ps e;obtain⟨m2,e2⟩:=tbls b _ e1;exact⟨m1++m2,by rw[e2,Array.append_assoc]⟩
 ·obtain⟨m,hn,hl⟩:=I.loc;refine⟨m,ns m hn,λ i x v e1 e2 e3=>?_⟩
  obtain⟨u,r,l⟩:=hl i x v e1 e2 e3;refine⟨u,r,?_⟩;rcases l with l | ⟨k,c,e,z⟩
  ·exact .inl l
  ·exact .inr ⟨k,c,e,cellK x c e _ z⟩
 ·obtain⟨v,z⟩:=I.cell x c e;exact⟨v,cellK x c e v z⟩
 ·obtain⟨m,⟨o,_,_,ho,_⟩,_⟩:=I.loc;exact free _ o (λ z=>(hch _ z).2.1 rfl) ho I.free
 ·obtain⟨v,o,ho,hd⟩:=I.cell x c e;exact free c o (λ z=>(hch c z).2.2.1 x c e rfl) ho (I.freeC x c e)
 ·obtain⟨e,n,ne,nf,d⟩:=I.pin p hp;have nch:p.1 ∉ ch:=λ z=>(hch p.1 z).2.2.2 p hp rfl
  exact⟨keep p.1 p.2 ne nf nch e n,free p.1 p.2 nch e n,ne,nf,d⟩
theorem Inv.un{t':Nat}(I:Inv X aB σ H s)(u:Un X.fs [] H H' s.heap h')(hok:dH X.prog X.w H' h'):Inv X aB σ H' {s with heap:=h',toks:=t' }:=by
 obtain⟨m,⟨o,es,ep,ho,r⟩,_⟩:=id I.loc;obtain⟨sl,hL⟩:=u.any ho I.free (by simp)
 exact I.step (g':=s.gens) (d':=s.drawn) (ch:=[]) (λ _ z=>nomatch z) (λ b o _ hb _ e n=>u.keep b o e n hb (by simp)) (λ b o _ hb _ e n=>u.slot b o e n hb (by simp)) (λ b o _ e n=>u.free b o e n (by simp)) (λ b o _ e=>u.there b o e (by simp)) u.tups u.frzs u.tbls (λ m' hm=>by
  obtain⟨o',es',ep',ho',r'⟩:=hm;rw[ho] at ho';cases ho';exact⟨_,es',ep',hL,r'⟩) hok I.bare
theorem Inv.call{g':Array GenState}{t':Nat}{d':Drawn}{ch:List Addr}(I:Inv X aB σ H s)(u:Un (iA X.stack) ch H H' s.heap h')(hok:dH X.prog X.w H' h')(hg:AllBare g')
 (hch:∀ b∈ch,(b∈X.ex\/X.s₀.heap.objs.size<=b)/\b≠X.env.locals/\(∀ x c,X.env.cells.lookup x=some c->c≠b)/\∀ p∈X.pn++aB,p.1≠b) :
 Inv X aB σ H' {s with heap:=h',gens:=g',drawn:=d',toks:=t' }:=by
 obtain⟨m,⟨o,es,ep,ho,r⟩,_⟩:=id I.loc;obtain⟨sl,hL⟩:=u.any ho I.free λ z=>(hch _ z).2.1 rfl
 exact I.step (ch:=ch) hch (λ b o hL hb hc e n=>u.keep b o e n (λ z=>(List.mem_cons.mp (I.stkSub b z)).elim hL hb) hc) (λ b o _ _ hc e n=>u.any e n hc) (λ b o hc e n=>u.free b o e n hc) (λ b o hc e=>u.there b o e hc) u.tups u.frzs u.tbls (λ m' hm=>by
  obtain⟨o',es',ep',ho',r'⟩:=hm;rw[ho] at ho';cases ho';exact⟨_,es',ep',hL,r'⟩) hok hg
theorem Inv.turned{t':Nat}{it:Addr}(I:Inv X aB σ H s)(k:∀ b o,b≠it->s.heap.get? b=some o->h'.get? b=some o)(hn:H it=none)(hL:it≠X.env.locals)
 (h1:it∈X.ex\/X.s₀.heap.objs.size<=it) (h2:∀ x c,X.env.cells.lookup x=some c->c≠it) (h3:∀ p∈X.pn++aB,p.1≠it):Inv X aB σ H {s with heap:=h',toks:=t' }:=by
 have nit:∀ b u,H b=some u->b≠it:=λ b u e z=>by rw[z,hn] at e;cases e
 refine I.step (g':=s.gens) (d':=s.drawn) (ch:=[it]) (λ b hb=>?_) (λ b o _ _ hc e _=>k b o (λ z=>hc (by simp[z])) e) (λ b o _ _ hc e _=>⟨o.slots,k b o (λ z=>hc (by simp[z])) e⟩) (λ _ _ _ _ n=>n)
  (λ b o hc e=>⟨o,k b o (λ z=>hc (by simp[z])) e⟩) (λ _ _ e=>e) (λ _ _ _ e=>e) (λ b ps e=>⟨#[],by rw[e];simp⟩) (λ m hm=>?_) (λ b u e=>?_) I.bare
 ·have e:b=it:=by simpa using hb
  subst e;exact⟨h1,hL,h2,h3⟩
 ·obtain⟨o,es,ep,ho,r⟩:=hm;exact⟨o,es,ep,k _ o (Ne.symm hL) ho,r⟩
 ·refine(I.hok b u e).stay (λ c v hc q=>k c v ?_ q) (λ _ q=>q) λ _ _ q=>q
  rcases hc with z | z
  ·rw[z];exact nit b u e
  ·exact nit c _ z
theorem Inv.tok(I:Inv X aB σ H s)(t:Nat):Inv X aB σ H {s with toks:=t }:=I.un (h':=s.heap) (t':=t) Un.refl I.hok
theorem Inv.kept{t':Nat}(I:Inv X aB σ H s)(k:∀ b u,s.heap.get? b=some u->h'.get? b=some u):Inv X aB σ H {s with heap:=h',toks:=t' }:=I.un (Un.kept k) (I.hok.kept k)
theorem Inv.laid{a:Addr}{o:HO}{t':Nat}(I:Inv X aB σ H s)(k:∀ b u,s.heap.get? b=some u->h'.get? b=some u)(hp:s.heap.objs.size<=a)(new:gZ X.prog X.w (bB H a o) h' a o) :
 Inv X aB σ (bB H a o) {s with heap:=h',toks:=t' }:=I.un (Un.laid k hp (I.hok.fresh hp)) (I.hok.laid k hp new)
theorem Inv.write{x e:Addr}{o:HO}{t':Nat}(I:Inv X aB σ H s)(mu:Mut (H x))(he:e=x\/H e=some (.own x))(k:∀ b u,b≠e->s.heap.get? b=some u->h'.get? b=some u)(heo:∃ u,h'.get? e=some u)
 (new:gZ X.prog X.w (bB H x o) h' x o):Inv X aB σ (bB H x o) {s with heap:=h',toks:=t' }:=I.un (Un.write mu he k heo) (I.hok.write mu he k heo new)
theorem Inv.pins_of{pins':List (Addr × Obj)}(I:Inv X aB σ H s)(h:∀ p∈pins',s.heap.get? p.1=some p.2/\H p.1=none/\p.1≠X.env.locals/\p.1 ∉ X.fs/\∀ v,p.2.data≠.cell v):Inv X pins' σ H s:=
 ⟨I.ok,I.os,I.bare,I.base,I.loc,I.cell,I.free,I.freeC,λ p hp=>(List.mem_append.mp hp).elim (λ z=>I.pin p (List.mem_append_left _ z)) (h p),I.hok,I.len⟩
theorem aFG{N:List Str}(hN:N.Nodup){i j:Nat}{x:Str}(a:N[i]? = some x)(b:N[j]? = some x):i=j:=by
 obtain⟨h1,e1⟩:=gIm a;obtain⟨h2,e2⟩:=gIm b;exact(List.getElem_inj hN).mp (e1.trans e2.symm)
theorem aL7{M:Model}{A:Around}{E:Value->Shared->Prop}{i:Nat}{x:Str}{v:V}{u:Value}{Q:Unit->Shared->Prop}(I:Inv X aB σ H s)(hN:X.N.Nodup)(hi:X.N[i]? = some x)(hx:Loc X.env.scope x)(r:aZ v u)
 (h:∀ s',Inv X aB (σ.set i (some v)) H s'->(∃ a,Heap.SameBut a s.heap s'.heap/\(a=X.env.locals\/X.env.cells.lookup x=some a))->Q () s') (hf:X.fn x=true\/X.env.scope.names.lookup x=some .local:=by first | exact .inl rfl | exact .inr rfl | assumption):wpAny M A (storeName X.env x u) Q E s:=by
 obtain⟨m,hn,hl⟩:=id I.loc;have hcls:(X.env.scope.kind==.class||(X.env.scope.kind==.module&&X.env.locals != X.env.globals))=false:=by rw[I.ok.kind];rfl
 have hiσ:i < σ.length:=by rw[I.len];exact(gIm hi).1
 have cne:=I.cne;have tracked:∀ {a:Addr}{h':Heap},(∃ o,s.heap.get? a=some o/\H a=none)->Heap.SameBut a s.heap h'->dH X.prog X.w H h':=λ {a h'} ha hs b ob e=>by
  obtain⟨_,_,hfree⟩:=ha;refine(I.hok b ob e).stay (λ c w' hc q=>(hs.2 c ?_).trans q) (λ _ q=>q) λ _ _ q=>q
  rintro rfl;rcases hc with rfl | hc
  ·rw[hfree] at e;cases e
  ·rw[hfree] at hc;cases hc
 rcases hx with hk | hk
 ·refine wpAny_storeName_local hk hn (λ h' hn' hs=>?_) hcls
  obtain⟨oL,_,_,hoL,_⟩:=id hn;refine h _ ⟨I.ok,I.os,I.bare,⟨λ b o e n hb hx=>?_,λ b o e n hb hx=>?_,I.base.free,λ b o e hx=>?_,I.base.tups,I.base.frzs,I.base.tbls⟩,⟨_,hn',λ j y v' e1 e2 e3=>?_⟩,λ y c e=>?_,I.free,I.freeC,λ p hp=>?_,tracked ⟨oL,hoL,I.free⟩ hs,by simpa using I.len⟩ ⟨_,hs,.inl rfl⟩
  ·exact(hs.2 b (xAk (xAc (xAa e) I.ok.above))).trans (I.base.keep b o e n hb hx)
  ·obtain⟨sl,e1⟩:=I.base.slot b o e n hb hx;exact⟨sl,(hs.2 b (xAk (xAc (xAa e) I.ok.above))).trans e1⟩
  ·obtain⟨o',e1⟩:=I.base.there b o e hx;exact⟨o',(hs.2 b (xAk (xAc (xAa e) I.ok.above))).trans e1⟩
  ·by_cases hj:j=i
   ·subst hj;rw[hi] at e1;cases e1;rw[List.getElem?_set_self hiσ] at e2;cases e2;exact⟨u,r,.inl ⟨hk,by simp⟩⟩
   ·rw[List.getElem?_set_ne (Ne.symm hj)] at e2;obtain⟨u',r',q⟩:=hl j y v' e1 e2 e3;refine⟨u',r',?_⟩;rcases q with ⟨k,e⟩ | ⟨k,c,e,z⟩
    ·refine .inl ⟨k,?_⟩;have:y≠x:=λ e=>hj (aFG hN e1 (e▸hi))
     simp[this,e]
    ·exact .inr ⟨k,c,e,z.sameBut hs (cne y c e)⟩
  ·obtain⟨w',z⟩:=I.cell y c e;exact⟨w',z.sameBut hs (cne y c e)⟩
  ·obtain⟨e,n,ne,nf,d⟩:=I.pin p hp;exact⟨(hs.2 p.1 ne).trans e,n,ne,nf,d⟩
 ·have hfn:X.fn x=true:=by
   rcases hf with z | z
   ·exact z
   ·rw[z] at hk;cases hk
  obtain⟨c,hc⟩:=I.ok.has x (.inl hk);obtain⟨w',z⟩:=I.cell x c hc;refine wpAny_storeName_cell I.ok.kind hk hc z (λ h' hc' hs=>?_)
  obtain⟨oc,hoc,hocd⟩:=id z;refine h {s with heap:=h' } ⟨I.ok,I.os,I.bare,⟨λ b o e n hb hx=>?_,λ b o e n hb hx=>?_,I.base.free,λ b o e hx=>?_,I.base.tups,I.base.frzs,I.base.tbls⟩,⟨m,hn.sameBut hs (Ne.symm (cne x c hc)),λ j y v' e1 e2 e3=>?_⟩,λ y c' e=>?_,I.free,I.freeC,λ p hp=>?_,tracked ⟨oc,hoc,I.freeC x c hc⟩ hs,by simpa using I.len⟩ ⟨c,hs,.inr hc⟩
  ·exact(hs.2 b (xAk (xAc (xAa e) (I.ok.cab x c hfn hc)))).trans (I.base.keep b o e n hb hx)
  ·obtain⟨sl,e1⟩:=I.base.slot b o e n hb hx;exact⟨sl,(hs.2 b (xAk (xAc (xAa e) (I.ok.cab x c hfn hc)))).trans e1⟩
  ·obtain⟨o',e1⟩:=I.base.there b o e hx;exact⟨o',(hs.2 b (xAk (xAc (xAa e) (I.ok.cab x c hfn hc)))).trans e1⟩
  ·by_cases hj:j=i
   ·subst hj;rw[hi] at e1;cases e1;rw[List.getElem?_set_self hiσ] at e2;cases e2;exact⟨u,r,.inr ⟨.inl hk,c,hc,hc'⟩⟩
   ·rw[List.getElem?_set_ne (Ne.symm hj)] at e2;obtain⟨u',r',q⟩:=hl j y v' e1 e2 e3;refine⟨u',r',?_⟩;rcases q with q | ⟨k,c',e,z'⟩
    ·exact .inl q
    ·refine .inr ⟨k,c',e,z'.sameBut hs ?_⟩;rintro rfl;exact hj (aFG hN e1 (I.ok.inj _ _ _ e hc▸hi))
  ·by_cases hcc:c'=c
   ·subst hcc;exact⟨_,hc'⟩
   ·obtain⟨w2,z2⟩:=I.cell y c' e;exact⟨w2,z2.sameBut hs hcc⟩
  ·obtain⟨e,n,ne,nf,d⟩:=I.pin p hp;refine⟨(hs.2 p.1 ?_).trans e,n,ne,nf,d⟩;intro q;rw[q,hoc] at e;have q':oc=p.2:=Option.some.inj e;exact d w' (by rw[<- q'];exact hocd)
theorem aFo{M:Model}{A:Around}{E:Value->Shared->Prop}{i:Nat}{x:Str}{v:V}{u:Value}{Q:Unit->Shared->Prop}(I:Inv X aB σ H s)(hN:X.N.Nodup)(hi:X.N[i]? = some x)(hx:Loc X.env.scope x)(r:aZ v u)
 (h:∀ s',Inv X aB (σ.set i (some v)) H s'->Q () s') (hf:X.fn x=true\/X.env.scope.names.lookup x=some .local:=by first | exact .inl rfl | exact .inr rfl | assumption):wpAny M A (storeName X.env x u) Q E s:=
 aL7 I hN hi hx r (λ s' I' _=>h s' I') hf
theorem Inv.call'{s':Shared}{ch:List Addr}(I:Inv X aB σ H s)(ho:s'.os=s.os)(u:Un (iA X.stack) ch H H' s.heap s'.heap)(hok:dH X.prog X.w H' s'.heap)(hg:AllBare s'.gens)
 (hch:∀ b∈ch,(b∈X.ex\/X.s₀.heap.objs.size<=b)/\b≠X.env.locals/\(∀ x c,X.env.cells.lookup x=some c->c≠b)/\∀ p∈X.pn++aB,p.1≠b):Inv X aB σ H' s':=by
 obtain⟨h',g',d',t',o'⟩:=s';have e:o'=s.os:=ho;subst e;exact I.call (g':=g') (t':=t') (d':=d') u hok hg hch
end
noncomputable abbrev XK:=Value->Option Addr->Hp->Prop
noncomputable abbrev St:=List (Option V)
noncomputable abbrev VK:=V->Hp->Prop
noncomputable abbrev TE:=St->Hp->VK->Prop
noncomputable abbrev TT:=St->Hp->(Bool->Hp->Prop)->Prop
noncomputable abbrev TA:=St->Hp->(List V->Hp->Prop)->Prop
structure Ends where
 nx:St->Hp->Prop
 rt:VK
 bk:St->Hp->Prop:=λ _ _=>False
 ct:St->Hp->Prop:=λ _ _=>False
noncomputable abbrev TS:=Ends->St->Hp->Prop
def EP(X:Cx)(aB:List (Addr × Obj))(σ:St)(Q:VK)(u:Value)(s':Shared):Prop:=∃ v H',Inv X aB σ H' s'/\aZ v u/\Q v H'
def TP(X:Cx)(aB:List (Addr × Obj))(σ:St)(Q:Bool->Hp->Prop)(b:Bool)(s':Shared):Prop:=∃ H',Inv X aB σ H' s'/\Q b H'
def AP(X:Cx)(aB:List (Addr × Obj))(σ:St)(Q:List V->Hp->Prop)(us:List Value)(s':Shared):Prop:=∃ vs H',Inv X aB σ H' s'/\aW vs us/\Q vs H'
def SP(X:Cx)(aB:List (Addr × Obj))(D:Ends)(f:Flow)(s':Shared):Prop:=
 match f with
 | .next=>∃ σ' H',Inv X aB σ' H' s'/\D.nx σ' H'
 | .brk=>∃ σ' H',Inv X aB σ' H' s'/\D.bk σ' H'
 | .cont=>∃ σ' H',Inv X aB σ' H' s'/\D.ct σ' H'
 | .ret u=>∃ v σ' H',Inv X aB σ' H' s'/\aZ v u/\D.rt v H'
def PE(X:Cx)(e:Expr)(t:TE):Prop:=
 ∀ (aB:List (Addr × Obj)) (s:Shared) (σ:St) (H:Hp) (Q:VK),Inv X aB σ H s->t σ H Q->wpAny (model X.prog X.w) X.A (eval e X.env) (EP X aB σ Q) X.xe s
def PT(X:Cx)(e:Expr)(t:TT):Prop:=
 ∀ (aB:List (Addr × Obj)) (s:Shared) (σ:St) (H:Hp) (Q:Bool->Hp->Prop),Inv X aB σ H s->t σ H Q->wpAny (model X.prog X.w) X.A (isTrue e X.env (eval e X.env)) (TP X aB σ Q) X.xe s
def PW(X:Cx)(e:Expr)(t:TT):Prop:=
 ∀ (fF:Sem Value) (aB:List (Addr × Obj)) (s:Shared) (σ:St) (H:Hp) (Q:Bool->Hp->Prop),Inv X aB σ H s->t σ H Q->wpAny (model X.prog X.w) X.A (isTrue e X.env fF) (TP X aB σ Q) X.xe s
theorem PW.pt{X:Cx}{e:Expr}{t:TT}(h:PW X e t):PT X e t:=h _
def PA(X:Cx)(es:List Expr)(t:TA):Prop:=
 ∀ (pos:Pos) (aB:List (Addr × Obj)) (s:Shared) (σ:St) (H:Hp) (Q:List V->Hp->Prop),Inv X aB σ H s->t σ H Q->wpAny (model X.prog X.w) X.A (spliced (backTo pos (starEach es X.env))) (AP X aB σ Q) X.xe s
def PS(X:Cx)(st:Stmt)(t:TS):Prop:=
 ∀ (aB:List (Addr × Obj)) (s:Shared) (σ:St) (H:Hp) (D:Ends),Inv X aB σ H s->t D σ H->wpAny (model X.prog X.w) X.A (exec st X.env) (SP X aB D) X.xe s
def dN(X:Cx)(st:List Stmt)(t:TS):Prop:=
 ∀ (aB:List (Addr × Obj)) (s:Shared) (σ:St) (H:Hp) (D:Ends),Inv X aB σ H s->t D σ H->wpAny (model X.prog X.w) X.A (execs st X.env) (SP X aB D) X.xe s
theorem bA{α:Type}{t:Sem α}{Q Q':α->Shared->Prop}{M:Model}{A:Around}{E:Value->Shared->Prop}{s:Shared}(h:wpAny M A t Q E s)(hQ:∀ a s,Q a s->Q' a s):wpAny M A t Q' E s:=wpAny_mono h hQ λ _ _ x=>x
end L2
namespace L2
open PySem PySem.Spec PyProof.Rows
section
variable {X : Cx}
theorem bin{a b:Expr}{ta tb:TE}(ha:PE X a ta)(hb:PE X b tb){aB:List (Addr × Obj)}{s:Shared}{σ:St}{H:Hp}{R:V->V->Hp->Prop}(I:Inv X aB σ H s)(h:ta σ H λ x H1=>tb σ H1 λ y H2=>R x y H2)
 {α:Type}{Q:α->Shared->Prop}{f:Value->Value->Sem α}
 (hf:∀ v u s2 x y H2,Inv X aB σ H2 s2->aZ x v->aZ y u->R x y H2->wpAny (model X.prog X.w) X.A (f v u) Q X.xe s2) :
 wpAny (model X.prog X.w) X.A (eval a X.env) (λ v s₁=>wpAny (model X.prog X.w) X.A (eval b X.env) (λ u s₂=>wpAny (model X.prog X.w) X.A (f v u) Q X.xe s₂) X.xe s₁) X.xe s:=by
 refine bA (ha aB s σ H _ I h) λ v s1 hPq0=>?_
 obtain⟨x,H1,I1,r1,q1⟩:=hPq0;refine bA (hb aB s1 σ H1 _ I1 q1) λ u s2 hPq1=>?_
 obtain⟨y,H2,I2,r2,q2⟩:=hPq1;exact hf v u s2 x y H2 I2 r1 r2 q2
noncomputable def aUr(i:Nat):TE:=λ σ H Q=>∃ v,σ[i]? = some (some v)/\Q v H
noncomputable def tC(v:V):TE:=λ _ H Q=>Q v H
theorem aPn{i:Nat}{x:Str}{pos:Pos}(hN:X.N[i]? = some x)(hv:vR X.env.scope x)(hd:(x==("__debug__" : Str))=false:=by decide)(hcd:(x==("__classdict__" : Str))=false:=by decide):PE X (.Name x pos) (aUr i):=by
 intro aB s σ H Q I h;obtain⟨v,e,h⟩:=h;obtain⟨m,hn,hl⟩:=I.loc;obtain⟨u,r,l⟩:=hl i x v hN e hv;have bK:EP X aB σ Q u s:=⟨v,H,I,r,h⟩;rcases l with ⟨hk,hm⟩ | ⟨hk,c,hc,hcell⟩
 ·exact wpAny_Name (wpAny_loadName_local I.ok.kind hk hn hm bK) hd
 ·rcases hk with hk | hk
  ·exact wpAny_Name (wpAny_loadName_cell I.ok.kind hk hc hcell bK) hd
  ·exact wpAny_Name (wpAny_loadName_free I.ok.kind hk hc hcell bK hcd) hd
theorem aP8{i j pos}:PE X (.Constant (.int i) j pos) (tC (.int i)):=λ _ _ _ H _ I h=>wpAny_Constant_int ⟨.int i,H,I.tok _,⟨_,rfl⟩,h⟩
theorem aTP{b j pos}:PE X (.Constant (.bool b) j pos) (tC (.bl b)):=λ _ _ _ H _ I h=>Constant_bool ⟨.bl b,H,I,rfl,h⟩
theorem aPY{j pos}:PE X (.Constant .none j pos) (tC .non):=λ _ _ _ H _ I h=>Constant_none ⟨.non,H,I,rfl,h⟩
theorem aQS{x j pos}:PE X (.Constant (.str x) j pos) (tC (.str x)):=λ _ _ _ H _ I h=>Calls.Constant_str ⟨.str x,H,I.tok _,⟨_,rfl⟩,h⟩
def Gl(X:Cx)(x:Str):Prop:=X.env.kindOf x=some .globalImplicit
theorem aBR{E:Value->Shared->Prop}{aB:List (Addr × Obj)}{s:Shared}{σ:St}{H:Hp}{x:Str}{u:Value}{pos:Pos}{Q:Value->Shared->Prop}(I:Inv X aB σ H s)(hg:Gl X x)(hm:X.mg x=some u)(h:Q u s)
 (hd:(x==("__debug__" : Str))=false:=by decide):wpAny (model X.prog X.w) X.A (eval (.Name x pos) X.env) Q E s:=
 Calls.Name_function_global I.ok.kind hg (Calls.loadGlobal_global (by rw[I.ok.glob];exact I.mod.glob.keeps I.bk) hm h) hd
theorem jH{E:Value->Shared->Prop}{aB:List (Addr × Obj)}{s:Shared}{σ:St}{H:Hp}{x:Str}{u:Value}{pos:Pos}{Q:Value->Shared->Prop}(I:Inv X aB σ H s)(hg:Gl X x)(hm:X.mg x=none)(hv:bootBuiltins x=some u)(h:Q u s)
 (hn:x ≠ "__name__":=by decide) (hd:(x==("__debug__" : Str))=false:=by decide):wpAny (model X.prog X.w) X.A (eval (.Name x pos) X.env) Q E s:=by
 obtain⟨mb,h1,h2⟩:=I.mod.blt;exact Calls.Name_function_global I.ok.kind hg (Calls.loadGlobal_builtin (by rw[I.ok.glob];exact I.mod.glob.keeps I.bk) hm (by rw[I.ok.blt];exact h1.keeps I.bk) ((h2 x hn).trans hv) h) hd
theorem aGB{x:Str}{v:V}{u:Value}{pos:Pos}(hg:Gl X x)(hm:X.mg x=some u)(r:aZ v u)(hd:(x==("__debug__" : Str))=false:=by decide):PE X (.Name x pos) (tC v):=
 λ _ _ _ H _ I h=>aBR I hg hm ⟨v,H,I,r,h⟩ hd
theorem aNl{x:Str}{v:V}{u:Value}{pos:Pos}(hg:Gl X x)(hm:X.mg x=none)(hv:bootBuiltins x=some u)(r:aZ v u)(hn:x ≠ "__name__":=by decide)(hd:(x==("__debug__" : Str))=false:=by decide):PE X (.Name x pos) (tC v):=
 λ _ _ _ H _ I h=>jH I hg hm hv ⟨v,H,I,r,h⟩ hn hd
variable {a b : Expr}{ta tb : TE}{pos : Pos}
variable {tA tB' : TT}{cS : List Expr}
noncomputable def aJd(t u:TT):TT:=λ σ H Q=>t σ H λ c H1=>if c=true then u σ H1 Q else Q false H1
noncomputable def tOr(t u:TT):TT:=λ σ H Q=>t σ H λ c H1=>if c=true then Q true H1 else u σ H1 Q
noncomputable def aUH(t:TT):TT:=λ σ H Q=>t σ H λ c H1=>Q (!c) H1
theorem aOS(ha:PT X a tA):PW X (.BoolOp .And [a] pos) tA:=by
 intro wh aB s σ H Q I h;refine isTrue_and (bA (ha aB s σ H Q I h) λ c s1 e=>?_)
 cases c with
 | true=>exact isTrue_and_nil e
 | false=>exact e
theorem aPC(ha:PT X a tA):PW X (.BoolOp .Or [a] pos) tA:=by
 intro wh aB s σ H Q I h;refine isTrue_or (bA (ha aB s σ H Q I h) λ c s1 e=>?_)
 cases c with
 | false=>exact isTrue_or_nil e
 | true=>exact e
theorem aHT(ha:PT X a tA)(hb:PW X (.BoolOp .And (b::cS) pos) tB'):PW X (.BoolOp .And (a::b::cS) pos) (aJd tA tB'):=by
 intro wh aB s σ H Q I h;refine isTrue_and (bA (ha aB s σ H _ I h) λ c s1 hPq2=>?_)
 obtain⟨H1,I1,q1⟩:=hPq2;cases c with
 | true=>exact hb wh aB s1 σ H1 Q I1 q1
 | false=>exact⟨H1,I1,q1⟩
theorem aIb(ha:PT X a tA)(hb:PW X (.BoolOp .Or (b::cS) pos) tB'):PW X (.BoolOp .Or (a::b::cS) pos) (tOr tA tB'):=by
 intro wh aB s σ H Q I h;refine isTrue_or (bA (ha aB s σ H _ I h) λ c s1 hPq3=>?_)
 obtain⟨H1,I1,q1⟩:=hPq3;cases c with
 | true=>exact⟨H1,I1,q1⟩
 | false=>exact hb wh aB s1 σ H1 Q I1 q1
theorem aQw(ha:PT X a tA):PT X (.UnaryOp .Not a pos) (aUH tA):=by
 intro aB s σ H Q I h;exact isTrue_not (ha aB s σ H (λ c H1=>Q (!c) H1) I h)
noncomputable def aIM(ta tb:TE):TE:=λ σ H Q=>ta σ H λ x H1=>∃ c,x=.bl c/\if c=true then tb σ H1 Q else Q (.bl false) H1
noncomputable def aJq(ta tb:TE):TE:=λ σ H Q=>ta σ H λ x H1=>∃ c,x=.bl c/\if c=true then Q (.bl true) H1 else tb σ H1 Q
noncomputable def aSj(ta:TE):TE:=λ σ H Q=>ta σ H λ x H1=>∃ c,x=.bl c/\Q (.bl (!c)) H1
theorem aHS{op}{t:TE}(h:PE X a t):PE X (.BoolOp op [a] pos) t:=λ aB s σ H Q I hw=>BoolOp_one (h aB s σ H Q I hw)
theorem aHJ(ha:PE X a ta)(hb:PE X (.BoolOp .And (b::cS) pos) tb):PE X (.BoolOp .And (a::b::cS) pos) (aIM ta tb):=by
 intro aB s σ H Q I h;refine BoolOp_and (bA (ha aB s σ H _ I h) λ v s1 hPq4=>?_)
 obtain⟨x,H1,I1,r1,q1⟩:=hPq4;obtain⟨c,rfl,q1⟩:=q1;cases r1;refine wpAny_truthy_bool ?_;cases c with
 | true=>exact hb aB s1 σ H1 Q I1 q1
 | false=>exact⟨.bl false,H1,I1,rfl,q1⟩
theorem aIO(ha:PE X a ta)(hb:PE X (.BoolOp .Or (b::cS) pos) tb):PE X (.BoolOp .Or (a::b::cS) pos) (aJq ta tb):=by
 intro aB s σ H Q I h;refine BoolOp_or (bA (ha aB s σ H _ I h) λ v s1 hPq5=>?_)
 obtain⟨x,H1,I1,r1,q1⟩:=hPq5;obtain⟨c,rfl,q1⟩:=q1;cases r1;refine wpAny_truthy_bool ?_;cases c with
 | false=>exact hb aB s1 σ H1 Q I1 q1
 | true=>exact⟨.bl true,H1,I1,rfl,q1⟩
theorem aQK(ha:PE X a ta):PE X (.UnaryOp .Not a pos) (aSj ta):=by
 intro aB s σ H Q I h;refine UnaryOp_ (bA (ha aB s σ H _ I h) λ v s1 hPq6=>?_)
 obtain⟨x,H1,I1,r1,q1⟩:=hPq6;obtain⟨c,rfl,q1⟩:=q1;cases r1;exact not_of (wpAny_truthy_bool ⟨.bl (!c),H1,I1,rfl,q1⟩)
noncomputable def tIf(t:TT)(ta tb:TE):TE:=λ σ H Q=>t σ H λ c H1=>if c=true then ta σ H1 Q else tb σ H1 Q
theorem aMD{c:Expr}(hc:PT X c tA)(ha:PE X a ta)(hb:PE X b tb):PE X (.IfExp c a b pos) (tIf tA ta tb):=by
 intro aB s σ H Q I h;refine wpAny_IfExp (bA (hc aB s σ H _ I h) λ d s1 hPq7=>?_)
 obtain⟨H1,I1,q1⟩:=hPq7;cases d with
 | true=>exact ha aB s1 σ H1 Q I1 q1
 | false=>exact hb aB s1 σ H1 Q I1 q1
end
end L2
namespace L2
open PySem PySem.Spec PyProof.Rows
def bR(K:FrG)(H:Hp)(a:Addr)(xs:List V):Prop:=
 Rd H a (.lst xs) \/
  ∃ (o:Obj) (aE:Array Value) (n:Nat),K.lookup a=some o/\o.cls=.type "list" /\ o.dict=none/\o.data=.seq aE n/\aE.size<=sizeLine/\aW xs aE.toList
def bS(K:FrG)(H:Hp)(a:Addr)(xs:List V):Prop:=
 Rd H a (.tup xs) \/
  ∃ (o:Obj) (aE:Array Value) (n:Nat),K.lookup a=some o/\o.cls=.type "tuple" /\ o.data=.seq aE n/\aE.size<=sizeLine/\aW xs aE.toList
noncomputable def aUD:Value->Option V
 | .none=>some .non
 | .bool b=>some (.bl b)
 | .int i _=>some (.int i)
 | .str x _=>some (.str x)
 | .bytes b _=>some (.byt b)
 | .float b _=>some (.flt b)
 | .ref a=>some (.ref a)
 | .type n=>some (.ty n)
 | _=>none
theorem aZ.abs{x:V}{u:Value}(r:aZ x u):aUD u=some x:=by
 cases x with
 | non=>cases r;rfl
 | bl _=>cases r;rfl
 | int _=>obtain⟨t,rfl⟩:=r;rfl
 | str _=>obtain⟨t,rfl⟩:=r;rfl
 | byt _=>obtain⟨t,rfl⟩:=r;rfl
 | flt _=>obtain⟨t,rfl⟩:=r;rfl
 | ref _=>cases r;rfl
 | ty _=>cases r;rfl
theorem aZ.inj{x y:V}{u:Value}(r:aZ x u)(q:aZ y u):x=y:=Option.some.inj (r.abs.symm.trans q.abs)
theorem aW.inj:∀ {xs ys:List V}{us:List Value},aW xs us->aW ys us->xs=ys
 | _,_,_,.nil,.nil=>rfl
 | _,_,_,.cons r t,.cons r' t'=>by rw[r.inj r',aW.inj t t']
section
variable {X : Cx}{aB : List (Addr × Obj)}{σ : St}{H : Hp}{s : Shared}{a : Addr}{xs ys : List V}
theorem bR.of{K:FrG}(h:H a=some (.lst xs)):bR K H a xs:=.inl (.inl h)
theorem bS.of{K:FrG}(h:H a=some (.tup xs)):bS K H a xs:=.inl (.inl h)
theorem Inv.list(I:Inv X aB σ H s)(h:bR X.K H a xs):∃ aE:List Value,aW xs aE/\PlainL s.heap a aE.toArray/\xs.length<=sizeLine:=by
 rcases h with h | ⟨o,aE,n,hk,hc,hd,hs,hz,r⟩
 ·obtain⟨z,aE,n,r,e⟩:=h.ok I.hok;exact⟨aE,r,⟨_,n,e,rfl,rfl,rfl⟩,z⟩
 ·refine⟨aE.toList,r,⟨o,n,I.kIn a o hk,hc,hd,by simpa using hs⟩,?_⟩
  have e:=r.length;simp only[Array.length_toList] at e;omega
theorem Inv.tuple(I:Inv X aB σ H s)(h:bS X.K H a xs):∃ aE:List Value,aW xs aE/\IsTup s.heap a aE.toArray/\xs.length<=sizeLine:=by
 rcases h with h | ⟨o,aE,n,hk,hc,hs,hz,r⟩
 ·obtain⟨z,aE,r,p⟩:=h.ok I.hok;exact⟨aE,r,p,z⟩
 ·refine⟨aE.toList,r,⟨o,I.kIn a o hk,hc,n,by simpa using hs⟩,?_⟩
  have e:=r.length;simp only[Array.length_toList] at e;omega
theorem Inv.list_inj(I:Inv X aB σ H s)(h:bR X.K H a xs)(h':bR X.K H a ys):xs=ys:=by
 obtain⟨aE,r,⟨o,n,e,_,_,d⟩,_⟩:=I.list h;obtain⟨its',r',⟨o',n',e',_,_,d'⟩,_⟩:=I.list h';rw[e] at e';cases e';rw[d] at d';injection d' with d1 _
 have:aE=its':=by simpa using congrArg Array.toList d1
 subst this;exact r.inj r'
theorem Inv.tuple_inj(I:Inv X aB σ H s)(h:bS X.K H a xs)(h':bS X.K H a ys):xs=ys:=by
 obtain⟨aE,r,⟨o,e,_,n,d⟩,_⟩:=I.tuple h;obtain⟨its',r',⟨o',e',_,n',d'⟩,_⟩:=I.tuple h';rw[e] at e';cases e';rw[d] at d';injection d' with d1 _
 have:aE=its':=by simpa using congrArg Array.toList d1
 subst this;exact r.inj r'
end
noncomputable abbrev Cx.wish(X:Cx)(E:Value->Shared->Prop):Cx:={X with xe:=E }
noncomputable abbrev Cx.nox(X:Cx):Cx:=X.wish λ _ _=>False
theorem Cx.Ok.wish{X:Cx}(ok:X.Ok)(E:Value->Shared->Prop):(X.wish E).Ok:=
 ⟨ok.mod,ok.kind,ok.glob,ok.blt,ok.above,ok.inj,ok.has,ok.cab,ok.hd,ok.frames,ok.stk,ok.exf,ok.bs,ok.bsz,ok.noex,ok.exfs,ok.funs,ok.frf⟩
theorem Cx.Ok.unwish{X:Cx}{E:Value->Shared->Prop}(ok:(X.wish E).Ok):X.Ok:=
 ⟨ok.mod,ok.kind,ok.glob,ok.blt,ok.above,ok.inj,ok.has,ok.cab,ok.hd,ok.frames,ok.stk,ok.exf,ok.bs,ok.bsz,ok.noex,ok.exfs,ok.funs,ok.frf⟩
section
variable {X : Cx}{aB : List (Addr × Obj)}{σ : St}{H : Hp}{s : Shared}{E : Value -> Shared -> Prop}
theorem Inv.wish(I:Inv X aB σ H s)(E:Value->Shared->Prop):Inv (X.wish E) aB σ H s:=⟨I.ok.wish E,I.os,I.bare,I.base,I.loc,I.cell,I.free,I.freeC,I.pin,I.hok,I.len⟩
theorem Inv.unwish(I:Inv (X.wish E) aB σ H s):Inv X aB σ H s:=⟨I.ok.unwish,I.os,I.bare,I.base,I.loc,I.cell,I.free,I.freeC,I.pin,I.hok,I.len⟩
theorem SP.unwish{D:Ends}{f:Flow}{s':Shared}(h:SP (X.wish E) aB D f s'):SP X aB D f s':=by
 cases f with
 | next=>obtain⟨σ',H',I,q⟩:=h;exact⟨σ',H',I.unwish,q⟩
 | brk=>obtain⟨σ',H',I,q⟩:=h;exact⟨σ',H',I.unwish,q⟩
 | cont=>obtain⟨σ',H',I,q⟩:=h;exact⟨σ',H',I.unwish,q⟩
 | ret u=>obtain⟨v,σ',H',I,r,q⟩:=h;exact⟨v,σ',H',I.unwish,r,q⟩
theorem dN.nox{st:List Stmt}{t:TS}(h:dN X.nox st t):dN X st t:=λ aB s σ H D I hw =>
 wpAny_mono (h aB s σ H D (I.wish _) hw) (λ _ _ q=>q.unwish) λ _ _ z=>False.elim z
end
section
variable {X : Cx}{st : Stmt}{cS : List Stmt}{t u : TS}{e : Expr}{te : TE}{pos : Pos}
noncomputable def aTC:TS:=λ D σ H=>D.nx σ H
noncomputable def aUQ(t u:TS):TS:=λ D σ H=>t {D with nx:=u D } σ H
theorem aOd:dN X [] aTC:=λ _ _ σ H _ I h=>wpAny_execs_nil ⟨σ,H,I,h⟩
theorem aMX(h1:PS X st t)(h2:dN X cS u):dN X (st::cS) (aUQ t u):=by
 intro aB s σ H D I h;refine wpAny_execs_cons (bA (h1 aB s σ H {D with nx:=u D } I h) λ f s1 q=>?_)
 cases f with
 | next =>
   obtain⟨σ',H',I',q⟩:=q;exact h2 aB s1 σ' H' D I' q
 | ret v=>exact q
 | brk=>exact q
 | cont=>exact q
theorem Inv.quiet{aB:List (Addr × Obj)}{σ:St}{H:Hp}{s:Shared}(I:Inv X aB σ H s):interactive X.env=false:=by simp[interactive,I.ok.kind]
noncomputable def aTS(te:TE):TS:=λ D σ H=>te σ H λ _ H1=>D.nx σ H1
theorem aOJ(he:PE X e te)(hs:swapsWith e none pos.line X.env=pure false:=by rfl):PS X (.Expr e pos) (aTS te):=by
 intro aB s σ H D I h;exact wpAny_Expr_any (bA (he aB s σ H _ I h) λ v s1 ⟨x,H1,I1,r1,q1⟩=>⟨σ,H1,I1,q1⟩) I.quiet hs
noncomputable def aU4(te:TE):TS:=λ D σ H=>te σ H D.rt
theorem aPs(he:PE X e te):PS X (.Return (some e) pos) (aU4 te):=by
 intro aB s σ H D I h;exact wpAny_Return_some (bA (he aB s σ H _ I h) λ v s1 ⟨x,H1,I1,r1,q1⟩=>⟨x,σ,H1,I1,r1,q1⟩)
noncomputable def aU2(c:TT)(t u:TS):TS:=λ D σ H=>c σ H λ b H1=>if b=true then t D σ H1 else u D σ H1
theorem aTp{c:Expr}{a b:List Stmt}{tc:TT}(hc:PT X c tc)(ha:dN X a t)(hb:dN X b u):PS X (.If c a b pos) (aU2 tc t u):=by
 intro aB s σ H D I h;refine wpAny_If (bA (hc aB s σ H _ I h) λ d s1 hPq8=>?_)
 obtain⟨H1,I1,q1⟩:=hPq8;cases d with
 | true=>exact ha aB s1 σ H1 D I1 q1
 | false=>exact hb aB s1 σ H1 D I1 q1
end
noncomputable abbrev TG:=V->St->Hp->(St->Hp->Prop)->Prop
noncomputable abbrev iQ:=List V->St->Hp->(St->Hp->Prop)->Prop
def PG(X:Cx)(target:Expr)(t:TG):Prop:=
 ∀ (aB:List (Addr × Obj)) (s:Shared) (σ:St) (H:Hp) (v:V) (u:Value) (Q:St->Hp->Prop),Inv X aB σ H s->aZ v u->t v σ H Q ->
  wpAny (model X.prog X.w) X.A (assign target X.env u) (λ _ s'=>∃ σ' H',Inv X aB σ' H' s'/\Q σ' H') X.xe s
def pK(X:Cx)(ts:List Expr)(t:iQ):Prop:=
 ∀ (aB:List (Addr × Obj)) (s:Shared) (σ:St) (H:Hp) (vs:List V) (us:List Value) (Q:St->Hp->Prop),Inv X aB σ H s->aW vs us->t vs σ H Q ->
  wpAny (model X.prog X.w) X.A (assignInOrder ((assignEach ts X.env).map (·.2)) us) (λ _ s'=>∃ σ' H',Inv X aB σ' H' s'/\Q σ' H') X.xe s
noncomputable abbrev aC7:=V->V->V->Hp->(Hp->Prop)->Prop
def aIZ(X:Cx)(t:aC7):Prop:=
 ∀ (aB:List (Addr × Obj)) (s:Shared) (σ:St) (H:Hp) (o i v:V) (ov iv u:Value) (Q:Hp->Prop),Inv X aB σ H s->aZ o ov->aZ i iv->aZ v u->t o i v H Q ->
  wpAny (model X.prog X.w) X.A (setItem ov iv u) (λ _ s'=>∃ H',Inv X aB σ H' s'/\Q H') X.xe s
section
variable {X : Cx}{pos : Pos}
noncomputable def nE(i:Nat):TG:=λ v σ H Q=>Q (σ.set i (some v)) H
theorem aBO{i:Nat}{x:Str}(hN:X.N.Nodup)(hi:X.N[i]? = some x)(hx:Loc X.env.scope x)(hf:X.fn x=true\/X.env.scope.names.lookup x=some .local:=by first | exact .inl rfl | exact .inr rfl | assumption):PG X (.Name x pos) (nE i):=by
 intro aB s σ H v u Q I r h;exact wpAny_assign_Name (aFo I hN hi hx r (λ s' I'=>⟨_,H,I',h⟩) hf)
noncomputable def aCV:iQ:=λ vs σ H Q=>vs=[]/\Q σ H
noncomputable def aCI(t:TG)(u:iQ):iQ:=λ vs σ H Q=>∃ v r,vs=v::r/\t v σ H λ σ' H'=>u r σ' H' Q
theorem aNA:pK X [] aCV:=by
 intro aB s σ H vs us Q I r h;obtain⟨e,h⟩:=h;subst e;cases r;exact assignInOrder_nil ⟨σ,H,I,h⟩
theorem aNi{e:Expr}{es:List Expr}{t:TG}{u:iQ}(h1:PG X e t)(h2:pK X es u)
 (hs:(assignEach (e::es) X.env).map (·.2)=assign e X.env::(assignEach es X.env).map (·.2):=by rfl):pK X (e::es) (aCI t u):=by
 intro aB s σ H vs us Q I r h;obtain⟨v,vr,e1,h⟩:=h;subst e1;cases r with
 | cons r rr =>
   rw[hs];refine assignInOrder_cons (bA (h1 aB s σ H _ _ _ I r h) λ _ s1 hPq9=>?_)
   obtain⟨σ1,H1,I1,q1⟩:=hPq9;exact h2 aB s1 σ1 H1 _ _ Q I1 rr q1
noncomputable def aU6(K:FrG)(n:Nat)(t:iQ):TG:=λ v σ H Q=>∃ a xs,v=.ref a/\bS K H a xs/\xs.length=n/\t xs σ H Q
theorem aQa{es:List Expr}{k:Nat}{t:iQ}{n:Nat}(hc:X.calm=true)(h:pK X es t)
 (hn:(assignEach es X.env).length=n:=by rfl) (hst:(assignEach es X.env).findIdx? (·.1)=none:=by rfl):PG X (.Tuple es k pos) (aU6 X.K n t):=by
 intro aB s σ H v u Q I r hw;obtain⟨a,xs,e1,hq,hl,hw⟩:=hw;subst e1;cases r;obtain⟨aE,rv,ht,hz⟩:=I.tuple hq;refine assign_Tuple_tuple (I.ok.hd hc) ht (by simp[hn,<- hl,rv.length]) hst λ h' hx=>?_
 have I1:Inv X aB σ H {s with heap:=h' }:=I.kept (t':=s.toks) λ b o e=>hx b o (xAk (xAa e)) e
 exact h aB _ σ H xs _ Q I1 (by simpa using rv) hw
noncomputable def aJo(to ti:TE)(t:aC7):TG:=λ v σ H Q=>to σ H λ o H1=>ti σ H1 λ i H2=>t o i v H2 λ H3=>Q σ H3
theorem aP3{o i:Expr}{to ti:TE}{t:aC7}(ho:PE X o to)(hi:PE X i ti)(hs:aIZ X t)
 (ha:∀ v,assign (.Subscript o i pos) X.env v=(do
   let ov <- holding [v] (eval o X.env)
   let iv <- holding [v,ov] (eval i X.env)
   standAt pos
   holding [v,ov,iv] (setItem ov iv v)
   release [v,ov,iv] []):=by intro _;rfl):PG X (.Subscript o i pos) (aJo to ti t):=by
 intro aB s σ H v u Q I r h;rw[ha];refine wB (wpAny_holding (bA (ho aB s σ H _ I h) λ ov s1 hPq10=>?_))
 obtain⟨x,H1,I1,r1,q1⟩:=hPq10;refine wB (wpAny_holding (bA (hi aB s1 σ H1 _ I1 q1) λ iv s2 hPq11=>?_))
 obtain⟨y,H2,I2,r2,q2⟩:=hPq11;refine wB (wpAny_standAt (wB (wpAny_holding (bA (hs aB s2 σ H2 x y v ov iv u _ I2 r1 r2 r q2) λ _ s3 hPq12=>?_))))
 obtain⟨H3,I3,q3⟩:=hPq12;exact wpAny_release ⟨σ,H3,I3,q3⟩
noncomputable def uS(te:TE)(g:TG):TS:=λ D σ H=>te σ H λ x H1=>g x σ H1 D.nx
theorem aH3{tg e:Expr}{te:TE}{g:TG}(he:PE X e te)(hg:PG X tg g)(hs:swapsWithSole [tg] e pos.line X.env=pure false:=by rfl)(hw:swappedStores [tg] e X.env=pure none:=by rfl)
 (h1:(assignEach [tg] X.env).map (·.2)=[assign tg X.env]:=by rfl):PS X (.Assign [tg] e pos) (uS te g):=by
 intro aB s σ H D I h;refine wpAny_Assign_stores (bA (he aB s σ H _ I h) λ v s1 hPq13=>?_) hs hw
 obtain⟨x,H1,I1,r1,q1⟩:=hPq13;rw[h1];exact bA (hg aB s1 σ H1 x v _ I1 r1 q1) λ _ s2 q=>q
theorem aPD{i:Nat}{x:Str}{e:Expr}{te:TE}{pos':Pos}(hN:X.N.Nodup)(hi:X.N[i]? = some x)(hx:Loc X.env.scope x)(he:PE X e te)(hs:swapsWith e (some (.Name x pos')) pos.line X.env=pure false:=by rfl)(hf:X.fn x=true\/X.env.scope.names.lookup x=some .local:=by first | exact .inl rfl | exact .inr rfl | assumption) :
 PS X (.Assign [.Name x pos'] e pos) (uS te (nE i)):=by
 intro aB s σ H D I h;refine wpAny_Assign_Name (bA (he aB s σ H _ I h) λ v s1 hPq14=>?_) hs
 obtain⟨y,H1,I1,r1,q1⟩:=hPq14;exact aFo I1 hN hi hx r1 (λ s2 I2=>⟨_,H1,I2,q1⟩) hf
end
section
variable {X : Cx}{pos : Pos}
end
structure It where
 go:Nat->Hp->Prop
 yld:Nat->Hp->V->Hp->Prop
 stop:Nat->Hp->Prop
def gI(X:Cx)(aB:List (Addr × Obj))(H:Hp)(b:Addr):Prop:=
 H b=none/\b≠X.env.locals/\b ∉ X.fs/\(b∈X.ex\/X.s₀.heap.objs.size<=b)/\(∀ x c,X.env.cells.lookup x=some c->c≠b)/\∀ p∈X.pn++aB,p.1≠b
theorem Inv.fpOk{X:Cx}{aB:List (Addr × Obj)}{σ:St}{H H':Hp}{s:Shared}{b:Addr}(I:Inv X aB σ H s)(hb:s.heap.objs.size<=b)(hn:H' b=none):gI X aB H' b:=by
 refine⟨hn,Nat.ne_of_gt (xAc I.lt hb),I.nofs hb,.inr (xAi I.sz hb),λ x c e z=>?_,λ p hp z=>?_⟩
 ·obtain⟨v,q⟩:=I.cell x c e;exact absurd (xAc q.lt (by rw[z];exact hb)) (Nat.lt_irrefl _)
 ·exact absurd (xAc (xAa (I.pin p hp).1) (by rw[z];exact hb)) (Nat.lt_irrefl _)
structure Turn(P:Program)(w:World)(K:FrG)(tg:Expr)(J:It)(fp:List Addr)(it:Addr)(tn:Nat->Heap->Prop):Prop where
 mem:it∈fp
 obj:∀ i h,tn i h->∀ b∈fp,∃ o,h.get? b=some o/\∀ v,o.data≠.cell v
 keep:∀ i h h',tn i h->(∀ b∈fp,∀ o,h.get? b=some o->h'.get? b=some o)->tn i h'
 item:∀ (X:Cx),X.prog=P->X.w=w->X.K=K->X.calm=true->∀ (i:Nat) (aB:List (Addr × Obj)) (s:Shared) (σ:St) (H:Hp) (E:Value->Shared->Prop),Inv X aB σ H s->(∀ b∈fp,gI X aB H b)->tn i s.heap->J.go i H ->
  wpAny (model P w) X.A (pyNext (.ref it)) (λ r s1=>∃ u,r=some u /\
   wpAny (model P w) X.A (letOwnedTupleGo tg (.ref it) u) (λ _ s2=>∃ x H',Inv X aB σ H' s2/\aZ x u/\J.yld i H x H'/\tn (i+1) s2.heap/\∀ b∈fp,H' b=none) E s1) E s
 done:∀ (X:Cx),X.prog=P->X.w=w->X.K=K->X.calm=true->∀ (i:Nat) (aB:List (Addr × Obj)) (s:Shared) (σ:St) (H:Hp) (E:Value->Shared->Prop),Inv X aB σ H s->(∀ b∈fp,gI X aB H b)->tn i s.heap->J.stop i H ->
  wpAny (model P w) X.A (pyNext (.ref it)) (λ r s1=>r=none/\Inv X aB σ H s1) E s
 self:∀ (A:Around) (i:Nat) (s:Shared) (Q:Value->Shared->Prop) (E:Value->Shared->Prop),tn i s.heap->Q (.ref it) s->wpAny (model P w) A (pyIter (.ref it)) Q E s
noncomputable abbrev TI:=St->Hp->(It->Hp->Prop)->Prop
def PIE(X:Cx)(aB:List (Addr × Obj))(σ:St)(tg:Expr)(R:It->Hp->Prop)(itv:Value)(s2:Shared):Prop:=
 ∃ (it:Addr) (fp:List Addr) (tn:Nat->Heap->Prop) (J:It) (H':Hp),itv=.ref it/\Inv X aB σ H' s2/\Turn X.prog X.w X.K tg J fp it tn/\tn 0 s2.heap/\(∀ b∈fp,gI X aB H' b)/\R J H'
def PI(X:Cx)(tg iter:Expr)(wi:TI):Prop:=
 ∀ (aB:List (Addr × Obj)) (s:Shared) (σ:St) (H:Hp) (R:It->Hp->Prop),Inv X aB σ H s->wi σ H R ->
  wpAny (model X.prog X.w) X.A (eval iter X.env) (λ v s1=>wpAny (model X.prog X.w) X.A (pyIter v) (PIE X aB σ tg R) X.xe s1) X.xe s
theorem zH{M:Model}{A:Around}{E:Value->Shared->Prop}{s:Shared}{tg:Expr}{it:Addr}{u:Value}{o:Obj}{n:String}{vs:Array Value}{Q:Unit->Shared->Prop}(ho:s.heap.get? it=some o)(hc:o.cls=.type n)(hd:o.data=.fields vs)
 (hn:["enumerate", "zip", "dict_itemiterator", "dict_reverseitemiterator", "odict_iterator", "itertools.zip_longest", "itertools.pairwise"].contains n=false) (hQ:Q () s):wpAny M A (letOwnedTupleGo tg (.ref it) u) Q E s:=by
 unfold letOwnedTupleGo;cases tg<;>first
  | exact wP hQ
  | (cases u<;>first
      | exact wP hQ
      | (refine wB (wpAny_load ho ?_)
         rw[hc,hd];show wpAny M A (if (["enumerate", "zip", "dict_itemiterator", "dict_reverseitemiterator", "odict_iterator", "itertools.zip_longest", "itertools.pairwise"].contains n&&vs[0]? == some (rawInt _))=true then _ else _) Q E s
         rw[if_neg (by intro h;rw[hn,Bool.false_and] at h;cases h)]
         exact wP hQ))
noncomputable def Itl(K:FrG)(a:Addr):It:=
 ⟨λ i H=>∃ xs x,bR K H a xs/\xs[i]? = some x,λ i H x H'=>H'=H/\∀ xs,bR K H a xs->xs[i]? = some x,λ i H=>∃ xs,bR K H a xs/\xs.length<=i⟩
noncomputable def Itt(K:FrG)(a:Addr):It:=
 ⟨λ i H=>∃ xs x,bS K H a xs/\xs[i]? = some x,λ i H x H'=>H'=H/\∀ xs,bS K H a xs->xs[i]? = some x,λ i H=>∃ xs,bS K H a xs/\xs.length<=i⟩
noncomputable def vP(lo:Int)(n:Nat):It:=⟨λ i _=>i < n,λ i H x H'=>H'=H/\x=.int (lo+i),λ i _=>n<=i⟩
theorem aLn{P:Program}{w:World}{K:FrG}{tg:Expr}(a it:Addr):Turn P w K tg (Itl K a) [it] it (λ i h=>h.IsListIter it a i) where
 mem:=by simp
 obj:=λ i h st b hb=>by
  have e:b=it:=by simpa using hb
  subst e;obtain⟨o,e,c,d⟩:=st;exact⟨o,e,λ v z=>by rw[d] at z;cases z⟩
 keep:=λ i h h' st k=>st.at λ o e=>k it (by simp) o e
 item:=by
  intro X hP hw hK hc i aB s σ H E I hf st hg;subst hP hw hK;obtain⟨xs,x,hq,hx⟩:=hg;obtain⟨aE,rv,p,hz⟩:=I.list hq;obtain⟨u,hu,ru⟩:=rv.get hx;obtain⟨f0,f1,f2,f3,f4,f5⟩:=hf it (by simp)
  refine wpAny_pyNext_list_item st p.isList (x:=u) (by simpa using hu) λ h' st' sb=>?_
  have I1:Inv X aB σ H {s with heap:=h' }:=I.turned (t':=s.toks) (λ b o hb e=>(sb.2 b hb).trans e) f0 f1 f3 f4 f5
  obtain⟨o,e,c,d⟩:=id st';exact⟨u,rfl,zH (s:={s with heap:=h' }) e c d (by decide) ⟨x,H,I1,ru,⟨rfl,λ ys hy=>by rw[I.list_inj hy hq];exact hx⟩,st',λ b hb=>(hf b hb).1⟩⟩
 done:=by
  intro X hP hw hK hc i aB s σ H E I hf st hg;subst hP hw hK;obtain⟨xs,hq,hx⟩:=hg;obtain⟨aE,rv,p,hz⟩:=I.list hq;obtain⟨f0,f1,f2,f3,f4,f5⟩:=hf it (by simp)
  have hl:=rv.length;exact wpAny_pyNext_list_end (I.ok.hd hc) st p.isList (by simp;omega) λ h' eb=>⟨rfl,I.turned (t':=s.toks) (λ b o hb e=>eb b o hb e) f0 f1 f3 f4 f5⟩
 self:=λ _ _ _ _ _ st h=>wpAny_pyIter_listiter st h
theorem aLa{P:Program}{w:World}{K:FrG}{tg:Expr}(a it:Addr):Turn P w K tg (Itt K a) [it] it (λ i h=>h.IsTupleIter it a i) where
 mem:=by simp
 obj:=λ i h st b hb=>by
  have e:b=it:=by simpa using hb
  subst e;obtain⟨o,e,c,d⟩:=st;exact⟨o,e,λ v z=>by rw[d] at z;cases z⟩
 keep:=λ i h h' st k=>st.at λ o e=>k it (by simp) o e
 item:=by
  intro X hP hw hK hc i aB s σ H E I hf st hg;subst hP hw hK;obtain⟨xs,x,hq,hx⟩:=hg;obtain⟨aE,rv,p,hz⟩:=I.tuple hq;obtain⟨u,hu,ru⟩:=rv.get hx;obtain⟨f0,f1,f2,f3,f4,f5⟩:=hf it (by simp)
  refine wpAny_pyNext_tuple_item st (show s.heap.IsTuple a aE.toArray from p) (x:=u) (by simpa using hu) λ h' st' sb=>?_
  have I1:Inv X aB σ H {s with heap:=h' }:=I.turned (t':=s.toks) (λ b o hb e=>(sb.2 b hb).trans e) f0 f1 f3 f4 f5
  obtain⟨o,e,c,d⟩:=id st';exact⟨u,rfl,zH (s:={s with heap:=h' }) e c d (by decide) ⟨x,H,I1,ru,⟨rfl,λ ys hy=>by rw[I.tuple_inj hy hq];exact hx⟩,st',λ b hb=>(hf b hb).1⟩⟩
 done:=by
  intro X hP hw hK hc i aB s σ H E I hf st hg;subst hP hw hK;obtain⟨xs,hq,hx⟩:=hg;obtain⟨aE,rv,p,hz⟩:=I.tuple hq;obtain⟨f0,f1,f2,f3,f4,f5⟩:=hf it (by simp)
  have hl:=rv.length;exact wpAny_pyNext_tuple_end (I.ok.hd hc) st (show s.heap.IsTuple a aE.toArray from p) (by simp;omega) λ h' eb=>⟨rfl,I.turned (t':=s.toks) (λ b o hb e=>eb b o hb e) f0 f1 f3 f4 f5⟩
 self:=λ _ _ _ _ _ st h=>wpAny_pyIter_tupleiter st h
theorem aKY{P:Program}{w:World}{K:FrG}{tg:Expr}(it:Addr)(lo:Int)(n:Nat):Turn P w K tg (vP lo n) [it] it (λ i h=>IsRangeIter h it (lo+(i:Nat)*1) ((n:Int) - (i:Nat)) 1) where
 mem:=by simp
 obj:=λ i h st b hb=>by
  have e:b=it:=by simpa using hb
  subst e;exact⟨_,st,λ v z=>by
   have z':Data.fields _=Data.cell v:=z;cases z'⟩
 keep:=λ i h h' st k=>k it (by simp) _ st
 item:=by
  intro X hP hw hK hc i aB s σ H E I hf st hg;subst hP hw hK;obtain⟨f0,f1,f2,f3,f4,f5⟩:=hf it (by simp)
  have W:=Walks.range (prog:=X.prog) (w:=X.w) (I.ok.hd hc) it lo 1 n;refine W.item i s _ _ hg st λ v h' tk hv st' kk=>?_
  obtain⟨t,rfl⟩:=hv;have I1:Inv X aB σ H {s with heap:=h',toks:=tk }:=I.turned (λ b o hb e=>kk b o (by simpa using hb) e) f0 f1 f3 f4 f5
  refine⟨_,rfl,zH (s:={s with heap:=h',toks:=tk }) (n:="range_iterator") st' rfl rfl (by decide) ⟨.int (lo+i),H,I1,⟨t,?_⟩,⟨rfl,rfl⟩,st',λ b hb=>(hf b hb).1⟩⟩
  rw[Int.mul_one]
 done:=by
  intro X hP hw hK hc i aB s σ H E I hf st hg;subst hP hw hK;obtain⟨f0,f1,f2,f3,f4,f5⟩:=hf it (by simp)
  exact wpAny_pyNext_range_end (I.ok.hd hc) st (by have:n<=i:=hg;omega) λ h' eb=>⟨rfl,I.turned (t':=s.toks) (λ b o hb e=>eb b o hb e) f0 f1 f3 f4 f5⟩
 self:=λ _ _ _ _ _ st h=>wpAny_pyIter_rangeiter st h
end L2
namespace L2
open PySem PySem.Spec PyProof.Rows
section
variable {X : Cx}{tg : Expr}
noncomputable def aTL(K:FrG)(tl:TE):TI:=λ σ H R=>tl σ H λ x H1=>∃ a,x=.ref a/\(∃ xs,bR K H1 a xs)/\R (Itl K a) H1
noncomputable def aUu(K:FrG)(tl:TE):TI:=λ σ H R=>tl σ H λ x H1=>∃ a,x=.ref a/\(∃ xs,bS K H1 a xs)/\R (Itt K a) H1
theorem aOw{l:Expr}{tl:TE}(hl:PE X l tl):PI X tg l (aTL X.K tl):=by
 intro aB s σ H R I h;refine bA (hl aB s σ H _ I h) λ v s1 hPq15=>?_
 obtain⟨x,H1,I1,r1,q1⟩:=hPq15;obtain⟨a,e,⟨xs,hq⟩,q⟩:=q1;subst e;cases r1;obtain⟨aE,rv,p,hz⟩:=I1.list hq;refine wpAny_pyIter_list p.isList ?_;refine⟨s1.heap.objs.size,[s1.heap.objs.size],_,_,H1,rfl,I1.kept (t':=s1.toks) λ b o e=>hpS _ e,aLn a _,⟨_,xAe _ rfl,rfl,rfl⟩,λ b hb=>?_,q⟩
 have e:b=s1.heap.objs.size:=by simpa using hb
 subst e;exact I1.fpOk (Nat.le_refl _) (I1.hok.fresh (Nat.le_refl _))
theorem aPI{l:Expr}{tl:TE}(hl:PE X l tl):PI X tg l (aUu X.K tl):=by
 intro aB s σ H R I h;refine bA (hl aB s σ H _ I h) λ v s1 hPq16=>?_
 obtain⟨x,H1,I1,r1,q1⟩:=hPq16;obtain⟨a,e,⟨xs,hq⟩,q⟩:=q1;subst e;cases r1;obtain⟨aE,rv,p,hz⟩:=I1.tuple hq;refine wpAny_pyIter_tuple (show s1.heap.IsTuple a aE.toArray from p) ?_
 refine⟨s1.heap.objs.size,[s1.heap.objs.size],_,_,H1,rfl,I1.kept (t':=s1.toks) λ b o e=>hpS _ e,aLa a _,⟨_,xAe _ rfl,rfl,rfl⟩,λ b hb=>?_,q⟩
 have e:b=s1.heap.objs.size:=by simpa using hb
 subst e;exact I1.fpOk (Nat.le_refl _) (I1.hok.fresh (Nat.le_refl _))
theorem aFI{aB:List (Addr × Obj)}{σ:St}{H:Hp}{s:Shared}{R:It->Hp->Prop}{E:Value->Shared->Prop}{lo hi:Int}{t u v:Tok}{tk:Nat}(I:Inv X aB σ H s)(h1 : -(2^62)<=lo)(h2:lo < 2^62)(h3 : -(2^62)<=hi)(h4:hi < 2^62)
 (q:R (vP lo (hi - lo).toNat) H):wpAny (model X.prog X.w) X.A (pyIter (.ref s.heap.objs.size)) (PIE X aB σ tg R) E {s with heap:=s.heap.push {cls:=.type "range",data:=.fields #[.int lo t,.int hi u,.int 1 v] },toks:=tk }:=by
 refine wpAny_pyIter_range (IsRange.new ..) (small_one h1 h2 h3 h4) ?_;have I1:Inv X aB σ H {s with heap:=s.heap.push {cls:=.type "range",data:=.fields #[.int lo t,.int hi u,.int 1 v] },toks:=tk }:=I.kept λ b o e=>hpS _ e
 refine⟨(s.heap.push {cls:=.type "range",data:=.fields #[.int lo t,.int hi u,.int 1 v] }).objs.size,[(s.heap.push {cls:=.type "range",data:=.fields #[.int lo t,.int hi u,.int 1 v] }).objs.size],_,_,H,rfl,
  I1.kept (t':=tk) λ b o e=>hpS _ e,aKY _ lo (hi - lo).toNat,?_,λ b hb=>?_,q⟩
 ·have e1:lo+((0:Nat):Int)*1=lo:=by simp
  have e2:(((hi - lo).toNat:Nat):Int) - ((0:Nat):Int)=Builtin.Range.rangeSize lo hi 1:=by rw[rangeSize_one];split<;>omega
  show IsRangeIter _ _ (lo+((0:Nat):Int)*1) ((((hi - lo).toNat:Nat):Int) - ((0:Nat):Int)) 1;rw[e1,e2];exact xAe _ rfl
 ·have e:b=(s.heap.push {cls:=.type "range",data:=.fields #[.int lo t,.int hi u,.int 1 v] }).objs.size:=by simpa using hb
  subst e;exact I1.fpOk (Nat.le_refl _) (I1.hok.fresh (Nat.le_refl _))
noncomputable def aIK(ta:TA):TI:=λ σ H R=>ta σ H λ vs H1=>∃ j:Int,vs=[.int j] /\ -(2^62)<=j/\j < 2^62/\R (vP 0 j.toNat) H1
noncomputable def aIP(ta:TA):TI:=λ σ H R=>ta σ H λ vs H1=>∃ i j:Int,vs=[.int i,.int j]/\(-(2^62)<=i/\i < 2^62 /\ -(2^62)<=j/\j < 2^62)/\R (vP i (j - i).toNat) H1
theorem aMd{a:Expr}{ta:TA}{p pos:Pos}(hg:Gl X "range")(hm:X.mg "range" = none)(ha:PA X [a] ta)(hs:starEach [a] X.env=[(false,eval a X.env)]:=by rfl):PI X tg (.Call (.Name "range" p) [a] [] pos) (aIK ta):=by
 intro aB s σ H R I h;refine Call_ (jH I hg hm boot_range (PyProof.Rows.callWith_type1 (bA (ha pos aB s σ H _ I h) λ us s1 hPq17=>?_) hs rfl))
 obtain⟨vs,H1,I1,r1,q1⟩:=hPq17;obtain⟨j,e,q1,q2,q⟩:=q1;subst e;cases r1 with
 | cons r rr =>
   cases rr;obtain⟨t,rfl⟩:=r;exact call_range_1 (aFI I1 (by omega) (by omega) q1 q2 (by simpa using q))
theorem aLH{a b:Expr}{ta:TA}{p pos:Pos}(hg:Gl X "range")(hm:X.mg "range" = none)(ha:PA X [a,b] ta)(hs:starEach [a,b] X.env=[(false,eval a X.env),(false,eval b X.env)]:=by rfl)(hs2:starEach [b] X.env=[(false,eval b X.env)]:=by rfl) :
 PI X tg (.Call (.Name "range" p) [a,b] [] pos) (aIP ta):=by
 intro aB s σ H R I h;refine Call_ (jH I hg hm boot_range (PyProof.Rows.callWith_type1 (bA (ha pos aB s σ H _ I h) λ us s1 hPq18=>?_) (by rw[hs,hs2]) (by rw[hs2];rfl)))
 obtain⟨vs,H1,I1,r1,q1⟩:=hPq18;obtain⟨i,j,e,⟨q1,q2,q3,q4⟩,q⟩:=q1;subst e;cases r1 with
 | cons r rr =>
   cases rr with
   | cons r' rr =>
     cases rr;obtain⟨t,rfl⟩:=r;obtain⟨t',rfl⟩:=r';exact call_range_2 (aFI I1 q1 q2 q3 q4 q)
noncomputable def aUf(wi:TI)(g:TG)(tb:TS):TS:=λ D σ H=>wi σ H λ J H1=>∃ W:Nat->Nat->St->Hp->Prop,(∃ m,W 0 m σ H1)/\∀ i m σ H,W i m σ H ->
 (J.stop i H/\D.nx σ H)\/(J.go i H/\∃ N:St->Hp->Prop,(∀ σ' H',N σ' H'->∃ m',m' < m/\W (i+1) m' σ' H')/\∀ x H',J.yld i H x H'->g x σ H' λ σ2 H2=>tb {D with nx:=N,ct:=N,bk:=D.nx } σ2 H2)
noncomputable def tL(fp:List Addr)(h:Heap):List (Addr × Obj):=fp.filterMap λ b=>(h.get? b).map λ o=>(b,o)
theorem sD{fp:List Addr}{h:Heap}{b:Addr}{o:Obj}(hb:b∈fp)(e:h.get? b=some o):(b,o)∈tL fp h:=List.mem_filterMap.mpr ⟨b,hb,by rw[e];rfl⟩
theorem aLN{fp:List Addr}{h:Heap}{p:Addr × Obj}(hp:p∈tL fp h):p.1∈fp/\h.get? p.1=some p.2:=by
 obtain⟨b,hb,e⟩:=List.mem_filterMap.mp hp;cases q:h.get? b with
 | none=>rw[q] at e;cases e
 | some o =>
   rw[q] at e;have e':(b,o)=p:=Option.some.inj e;subst e';exact⟨hb,q⟩
theorem Inv.pinned{aB:List (Addr × Obj)}{σ:St}{H:Hp}{s:Shared}{fp:List Addr}(I:Inv X aB σ H s)(hf:∀ b∈fp,gI X aB H b)(ho:∀ b∈fp,∃ o,s.heap.get? b=some o/\∀ v,o.data≠.cell v):Inv X (aB++tL fp s.heap) σ H s:=
 I.pins_of λ p hp=>(List.mem_append.mp hp).elim (λ z=>I.pin p (xAq _ z)) λ z=>by
  obtain⟨hb,e⟩:=aLN z;obtain⟨f0,f1,f2,_⟩:=hf p.1 hb;obtain⟨o,e',d⟩:=ho p.1 hb;rw[e] at e';cases e';exact⟨e,f0,f1,f2,d⟩
theorem Inv.unpinned{aB pl:List (Addr × Obj)}{σ:St}{H:Hp}{s:Shared}(I:Inv X (aB++pl) σ H s):Inv X aB σ H s:=I.pins_of λ p hp=>I.pin p (xAq _ (List.mem_append_left _ hp))
theorem aQU{iter:Expr}{body:List Stmt}{wi:TI}{g:TG}{tb:TS}{pos:Pos}(hp:PassesOwn (model X.prog X.w) X.A X.env X.xe)(hc:X.calm=true)(hi:PI X tg iter wi)(hg:PG X tg g)(hb:dN X body tb)
 (hs:∀ x,foldedSetIterable iter X.env x=pure x:=by intro _;rfl):PS X (.For tg iter body [] pos) (aUf wi g tb):=by
 intro aB s σ H D I h;refine wpAny_For (bA (hi aB s σ H _ I h) λ v s1 h1=>bA h1 λ itv s2 h2=>?_) hs
 obtain⟨it,fp,tn,J,H2,e,I2,T,st2,f2,W,⟨m0,w0⟩,turn⟩:=h2;subst e;have stat:∀ {H':Hp},(∀ b∈fp,H' b=none)->∀ b∈fp,gI X aB H' b:=λ hn b hb=>⟨hn b hb,(f2 b hb).2⟩
 refine codeAny_forLoop_any (λ n s'=>∃ i σ' H',Inv X aB σ' H' s'/\tn i s'.heap/\(∀ b∈fp,H' b=none)/\W i n σ' H') ?_ m0 ⟨0,σ,H2,I2,st2,λ b hb=>(f2 b hb).1,w0⟩
 rintro n s3 ⟨i,σ3,H3,I3,st3,fr3,w3⟩;rcases turn i n σ3 H3 w3 with ⟨stop,qn⟩ | ⟨go,N,hN,step⟩
 ·refine wpAny_passesOwn hp (bA (T.done X rfl rfl rfl hc i aB s3 σ3 H3 X.xe I3 (stat fr3) st3 stop) λ r s4 hPq19=>?_)
  obtain⟨hr,I4⟩:=hPq19;subst hr;exact wpAny_execs_nil ⟨σ3,H3,I4,qn⟩
 ·refine wpAny_passesOwn hp (bA (T.item X rfl rfl rfl hc i aB s3 σ3 H3 X.xe I3 (stat fr3) st3 go) λ r s4 hPq20=>?_)
  obtain⟨u,hr,h4⟩:=hPq20;subst hr;refine wpAny_passesOwn hp (bA h4 λ _ s5 hPq21=>?_)
  obtain⟨x,H5,I5,r5,y5,st5,fr5⟩:=hPq21;have I5':=I5.pinned (stat fr5) (T.obj _ _ st5);refine wpAny_passesOwn hp (bA (hg _ s5 σ3 H5 x u _ I5' r5 (step x H5 y5)) λ _ s6 hPq22=>?_)
  obtain⟨σ6,H6,I6,q6⟩:=hPq22;refine wpAny_passesOwn hp (bA (hb _ s6 σ6 H6 _ I6 q6) λ f s7 q7=>?_)
  have again:∀ {σ7:St}{H7:Hp},Inv X (aB++tL fp s5.heap) σ7 H7 s7->N σ7 H7->∃ m,m < n/\∃ i σ' H',Inv X aB σ' H' s7/\tn i s7.heap/\(∀ b∈fp,H' b=none)/\W i m σ' H':=λ {σ7 H7} I7 n7=>by
   obtain⟨m',hm,w7⟩:=hN σ7 H7 n7;refine⟨m',hm,i+1,σ7,H7,I7.unpinned,T.keep _ _ _ st5 λ b hb o e=>(I7.pin (b,o) (xAq _ (xAq _ (sD hb e)))).1,λ b hb=>?_,w7⟩
   obtain⟨o,e,d⟩:=T.obj _ _ st5 b hb;exact(I7.pin (b,o) (xAq _ (xAq _ (sD hb e)))).2.1
  cases f with
  | next=>obtain⟨σ7,H7,I7,n7⟩:=q7;exact again I7 n7
  | cont=>obtain⟨σ7,H7,I7,n7⟩:=q7;exact again I7 n7
  | brk=>obtain⟨σ7,H7,I7,q7⟩:=q7;exact⟨σ7,H7,I7.unpinned,q7⟩
  | ret v=>obtain⟨x7,σ7,H7,I7,r7,q7⟩:=q7;exact⟨x7,σ7,H7,I7.unpinned,r7,q7⟩
end
end L2
namespace L2
open PySem PySem.Spec PyProof.Rows
noncomputable abbrev R2:=V->V->Hp->VK->Prop
def cO(X:Cx)(f:Value->Value->Sem Value)(r:R2):Prop:=
 ∀ (aB:List (Addr × Obj)) (s:Shared) (σ:St) (H:Hp) (x y:V) (v u:Value) (Q:VK),Inv X aB σ H s->aZ x v->aZ y u->r x y H Q ->
  wpAny (model X.prog X.w) X.A (f v u) (EP X aB σ Q) X.xe s
def UnR(X:Cx)(f:Value->Sem Value)(r:V->Hp->VK->Prop):Prop:=
 ∀ (aB:List (Addr × Obj)) (s:Shared) (σ:St) (H:Hp) (x:V) (v:Value) (Q:VK),Inv X aB σ H s->aZ x v->r x H Q ->
  wpAny (model X.prog X.w) X.A (f v) (EP X aB σ Q) X.xe s
def dY(X:Cx)(f:Value)(r:List V->Hp->VK->Prop):Prop:=
 ∀ (aB:List (Addr × Obj)) (s:Shared) (σ:St) (H:Hp) (xs:List V) (us:List Value) (Q:VK),Inv X aB σ H s->aW xs us->r xs H Q ->
  wpAny (model X.prog X.w) X.A (call f us) (EP X aB σ Q) X.xe s
def aUN(X:Cx)(r:V->Hp->(Bool->Hp->Prop)->Prop):Prop:=
 ∀ (aB:List (Addr × Obj)) (s:Shared) (σ:St) (H:Hp) (x:V) (v:Value) (Q:Bool->Hp->Prop),Inv X aB σ H s->aZ x v->r x H Q ->
  wpAny (model X.prog X.w) X.A (truthy v) (TP X aB σ Q) X.xe s
noncomputable def vS(r:R2)(ta tb:TE):TE:=λ σ H Q=>ta σ H λ x H1=>tb σ H1 λ y H2=>r x y H2 Q
noncomputable def tUn(r:V->Hp->VK->Prop)(ta:TE):TE:=λ σ H Q=>ta σ H λ x H1=>r x H1 Q
noncomputable def rI(C:Int->Int->Prop)(g:Int->Int->V):R2:=λ x y H Q=>∃ i j,x=.int i/\y=.int j/\C i j/\Q (g i j) H
noncomputable def jE(g:Int->Int->V):R2:=λ x y H Q=>∃ i j,x=.int i/\y=.int j/\Q (g i j) H
noncomputable def rU(g:Int->V):V->Hp->VK->Prop:=λ x H Q=>∃ i,x=.int i/\Q (g i) H
section
variable {X : Cx}{a b c : Expr}{ta tb tc : TE}{pos : Pos}
theorem aC9(ha:PE X a ta)(hb:PE X b tb){aB:List (Addr × Obj)}{s:Shared}{σ:St}{H:Hp}{R:V->V->Hp->Prop}(I:Inv X aB σ H s)
 (h:ta σ H λ x H1=>tb σ H1 λ y H2=>R x y H2) {Q:Value->Shared->Prop}{f:Value->Value->Sem Value}
 (hf:∀ v u s2 x y H2,Inv X aB σ H2 s2->aZ x v->aZ y u->R x y H2->wpAny (model X.prog X.w) X.A (f v u) Q X.xe s2) :
 wpAny (model X.prog X.w) X.A (eval a X.env) (λ v s₁=>wpAny (model X.prog X.w) X.A (eval b X.env) (λ u s₂=>wpAny (model X.prog X.w) X.A (f v u) Q X.xe s₂) X.xe s₁) X.xe s:=by
 refine bA (ha aB s σ H _ I h) λ v s1 hPq23=>?_
 obtain⟨x,H1,I1,r1,q1⟩:=hPq23;refine bA (hb aB s1 σ H1 _ I1 q1) λ u s2 hPq24=>?_
 obtain⟨y,H2,I2,r2,q2⟩:=hPq24;exact hf v u s2 x y H2 I2 r1 r2 q2
theorem aIN{op:Operator}{r:R2}(ho:cO X (binaryOp op) r)(ha:PE X a ta)(hb:PE X b tb):PE X (.BinOp a op b pos) (vS r ta tb):=by
 intro aB s σ H Q I h;exact wpAny_BinOp (aC9 ha hb I h λ v u s2 x y H2 I2 rx ry q=>ho aB s2 σ H2 x y v u Q I2 rx ry q)
theorem aSd{op:UnaryOp}{r:V->Hp->VK->Prop}(ho:UnR X (unaryOp op) r)(ha:PE X a ta):PE X (.UnaryOp op a pos) (tUn r ta):=by
 intro aB s σ H Q I h;exact UnaryOp_ (bA (ha aB s σ H _ I h) λ v s1 ⟨x,H1,I1,r1,q1⟩=>ho aB s1 σ H1 x v Q I1 r1 q1)
theorem vO{f:Value->Value->Sem Value}{C:Int->Int->Prop}{g:Int->Int->Int}
 (rule:∀ (i j:Int) (t u:Tok) (s:Shared) (Q:Value->Shared->Prop) (E:Value->Shared->Prop),C i j->Q (.int (g i j) s.toks) {s with toks:=s.toks+1 }->wpAny (model X.prog X.w) X.A (f (.int i t) (.int j u)) Q E s) :
 cO X f (rI C λ i j=>.int (g i j)):=by
 intro aB s σ H x y v u Q I rx ry h;obtain⟨i,j,rfl,rfl,hc,q⟩:=h;obtain⟨t,rfl⟩:=rx;obtain⟨t',rfl⟩:=ry;exact rule i j t t' s _ _ hc ⟨.int (g i j),H,I.tok _,⟨_,rfl⟩,q⟩
theorem uX{f:Value->Value->Sem Value}{g:Int->Int->Int}
 (rule:∀ (i j:Int) (t u:Tok) (s:Shared) (Q:Value->Shared->Prop) (E:Value->Shared->Prop),Q (.int (g i j) s.toks) {s with toks:=s.toks+1 }->wpAny (model X.prog X.w) X.A (f (.int i t) (.int j u)) Q E s) :
 cO X f (jE λ i j=>.int (g i j)):=by
 intro aB s σ H x y v u Q I rx ry h;obtain⟨i,j,rfl,rfl,q⟩:=h;obtain⟨t,rfl⟩:=rx;obtain⟨t',rfl⟩:=ry;exact rule i j t t' s _ _ ⟨.int (g i j),H,I.tok _,⟨_,rfl⟩,q⟩
theorem aAf{f:Value->Value->Sem Value}{g:Int->Int->Bool}
 (rule:∀ (i j:Int) (t u:Tok) (s:Shared) (Q:Value->Shared->Prop) (E:Value->Shared->Prop),Q (.bool (g i j)) s->wpAny (model X.prog X.w) X.A (f (.int i t) (.int j u)) Q E s) :
 cO X f (jE λ i j=>.bl (g i j)):=by
 intro aB s σ H x y v u Q I rx ry h;obtain⟨i,j,rfl,rfl,q⟩:=h;obtain⟨t,rfl⟩:=rx;obtain⟨t',rfl⟩:=ry;exact rule i j t t' s _ _ ⟨.bl (g i j),H,I,rfl,q⟩
def aVe(i j:Int):Prop:=0<=j/\j<=1000000/\i.natAbs < 2^64
theorem aK5(k:Nat):(0:Int)<=2^k:=by
 rw[two_pow_cast];exact Int.natCast_nonneg _
theorem aRg:cO X (binaryOp .Add) (jE λ i j=>.int (i+j)):=uX λ _ _ _ _ _ _ _ q=>add_int q
theorem aQZ:cO X (binaryOp .Sub) (jE λ i j=>.int (i - j)):=uX λ _ _ _ _ _ _ _ q=>sub_int q
theorem aOA:cO X (binaryOp .Mod) (rI (λ _ j=>j≠0) λ i j=>.int (i.fmod j)):=vO λ _ _ _ _ _ _ _ hc q=>mod_int' hc q
theorem aPP:cO X (binaryOp .Pow) (rI aVe λ i j=>.int (i^j.toNat)):=vO λ _ _ _ _ _ _ _ hc q=>pow_int_small hc.1 hc.2.1 hc.2.2 q
theorem aRE:cO X (binaryOp .RShift) (rI (λ _ j=>0<=j) λ i j=>.int (i / 2^j.toNat)):=vO λ i j _ _ _ _ _ hc q =>
 rshift_int hc (by rw[Int.fdiv_eq_ediv_of_nonneg i (aK5 _)];exact q)
theorem aQC:cO X (binaryOp .BitAnd) (jE λ i j=>.int (Builtin.bitAnd i j)):=uX λ _ _ _ _ _ _ _ q=>and_int q
theorem aRW:cO X (binaryOp .BitOr) (jE λ i j=>.int (Builtin.bitOr i j)):=uX λ _ _ _ _ _ _ _ q=>or_int q
theorem aPl:cO X (binaryOp .BitXor) (jE λ i j=>.int (Builtin.bitXor i j)):=uX λ _ _ _ _ _ _ _ q=>xor_int q
theorem unI{f:Value->Sem Value}{g:Int->Int}
 (rule:∀ (i:Int) (t:Tok) (s:Shared) (Q:Value->Shared->Prop) (E:Value->Shared->Prop),Q (.int (g i) s.toks) {s with toks:=s.toks+1 }->wpAny (model X.prog X.w) X.A (f (.int i t)) Q E s) :
 UnR X f (rU λ i=>.int (g i)):=by
 intro aB s σ H x v Q I rx h;obtain⟨i,rfl,q⟩:=h;obtain⟨t,rfl⟩:=rx;exact rule i t s _ _ ⟨.int (g i),H,I.tok _,⟨_,rfl⟩,q⟩
theorem aP2:UnR X (unaryOp .USub) (rU λ i=>.int (-i)):=unI λ _ _ _ _ _ q=>neg_int q
theorem aPQ:UnR X (unaryOp .Invert) (rU λ i=>.int (Builtin.bitNot i)):=unI λ _ _ _ _ _ q=>invert_int q
end
section
variable {X : Cx}{a b c : Expr}{ta tb tc : TE}{pos : Pos}
theorem aHZ{aB:List (Addr × Obj)}{σ:St}{H:Hp}{s:Shared}{Q:VK}{k k':Bool}(I:Inv X aB σ H s)(q:Q (.bl k) H)(e:k=k'):EP X aB σ Q (.bool k') s:=by
 subst e;exact⟨.bl k,H,I,rfl,q⟩
theorem aS9:cO X (compareOp .Lt) (jE λ i j=>.bl (decide (i < j))):=aAf λ _ _ _ _ _ _ _ q=>lt_int q
theorem aSJ:cO X (compareOp .LtE) (jE λ i j=>.bl (decide (i<=j))):=aAf λ _ _ _ _ _ _ _ q=>le_int q
theorem aSs:cO X (compareOp .Gt) (jE λ i j=>.bl (decide (j < i))):=aAf λ _ _ _ _ _ _ _ q=>gt_int q
theorem aSv:cO X (compareOp .GtE) (jE λ i j=>.bl (decide (j<=i))):=aAf λ _ _ _ _ _ _ _ q=>ge_int q
theorem aPe:cO X (compareOp .Is) (λ x y H Q=>y=.non/\Q (.bl (decide (x=.non))) H):=by
 intro aB s σ H x y v u Q I rx ry h;obtain⟨rfl,q⟩:=h;cases ry;refine is_none_gen (aHZ I q ?_);cases x<;>first
  | (cases rx;rfl)
  | (obtain⟨t,rfl⟩:=rx;rfl)
theorem aN4:cO X (compareOp .IsNot) (λ x y H Q=>y=.non/\Q (.bl (!decide (x=.non))) H):=by
 intro aB s σ H x y v u Q I rx ry h;obtain⟨rfl,q⟩:=h;cases ry;refine isnot_none_gen (aHZ I q ?_);cases x<;>first
  | (cases rx;rfl)
  | (obtain⟨t,rfl⟩:=rx;rfl)
theorem aVn(b:Expr){op:CmpOp}(h:op≠.In:=by decide)(h2:op≠.NotIn:=by decide):behindInMarks op b=false:=by
 have e1:(op==CmpOp.In)=false:=by cases op<;>first | rfl | exact absurd rfl h
 have e2:(op==CmpOp.NotIn)=false:=by cases op<;>first | rfl | exact absurd rfl h2
 cases b<;>simp[behindInMarks,e1,e2]
theorem aNC{op:CmpOp}{r:R2}(ho:cO X (compareOp op) r)(ha:PE X a ta)(hb:PE X b tb)(hm:behindInMarks op b=false):PE X (.Compare a [op] [b] pos) (vS r ta tb):=by
 intro aB s σ H Q I h;exact wpAny_Compare1 (aC9 ha hb I h λ v u s2 x y H2 I2 rx ry q=>ho aB s2 σ H2 x y v u Q I2 rx ry q) hm
noncomputable def aTq(t:TE):TT:=λ σ H Q=>t σ H λ x H'=>∃ k,x=.bl k/\Q k H'
theorem aNx{op:CmpOp}{r:R2}(ho:cO X (compareOp op) r)(ha:PE X a ta)(hb:PE X b tb)(hm:behindInMarks op b=false):PT X (.Compare a [op] [b] pos) (aTq (vS r ta tb)):=by
 intro aB s σ H Q I h;refine wpAny_isTrue_Compare1 (bA (ha aB s σ H _ I h) λ v s1 ⟨x,H1,I1,r1,q1⟩=>bA (hb aB s1 σ H1 _ I1 q1) λ u s2 ⟨y,H2,I2,r2,q2⟩ =>
  bA (ho aB s2 σ H2 x y v u _ I2 r1 r2 q2) λ c s3 ⟨z,H3,I3,r3,k,e,q3⟩=>?_) hm
 subst e;cases r3;exact wpAny_truthy_bool ⟨H3,I3,q3⟩
def aC3(K:FrG)(x:V)(H:Hp)(k:Bool):Prop:=
 match x with
 | .non=>k=false
 | .bl b=>k=b
 | .int i=>k=(i != 0)
 | .str y=>y.length<=sizeLine/\k=((y.length:Int) != 0)
 | .byt y=>y.size<=sizeLine/\k=((y.size:Int) != 0)
 | .ref p=>(∃ xs,bR K H p xs/\k = !xs.isEmpty)\/(∃ xs,bS K H p xs/\k = !xs.isEmpty)\/∃ aU,H p=some (.dK aU)/\k = !aU.isEmpty
 | _=>False
theorem aKT{κ:Type}{aU:List (κ × V)}{vs:List (κ × Value)}(r:KV aU vs):(!vs.isEmpty) = !aU.isEmpty:=by
 cases r<;>rfl
theorem aEA{xs:List V}{aE:List Value}(r:aW xs aE):(!aE.toArray.isEmpty) = !xs.isEmpty:=by
 cases r<;>simp
theorem mX:(sizeLine:Nat) < 2^63:=by rw[sizeLine_eq];decide
theorem aQk:aUN X (λ x H Q=>∃ k,aC3 X.K x H k/\Q k H):=by
 intro aB s σ H x v Q I rx h;obtain⟨k,e,q⟩:=h;have hl:=mX;have hs:sizeLine=16777216:=sizeLine_eq;cases x with
 | non =>
   cases rx;have e':k=false:=e;subst e';exact truthy_none ⟨H,I,q⟩
 | bl b =>
   cases rx;have e':k=b:=e;subst e';exact wpAny_truthy_bool ⟨H,I,q⟩
 | int i =>
   obtain⟨t,rfl⟩:=rx;have e':k=(i != 0):=e;subst e';exact PySem.P.truthy_int ⟨H,I,q⟩
 | str y =>
   obtain⟨t,rfl⟩:=rx;obtain⟨hy,e'⟩:y.length<=sizeLine/\k=((y.length:Int) != 0):=e;subst e';exact PySem.P.truthy_str (by omega) ⟨H,I.tok _,q⟩
 | byt y =>
   obtain⟨t,rfl⟩:=rx;obtain⟨hy,e'⟩:y.size<=sizeLine/\k=((y.size:Int) != 0):=e;subst e';exact PySem.W.truthy_bytes (by omega) ⟨H,I.tok _,q⟩
 | ref p =>
   cases rx;have e':(∃ xs,bR X.K H p xs/\k = !xs.isEmpty)\/(∃ xs,bS X.K H p xs/\k = !xs.isEmpty)\/∃ aU,H p=some (.dK aU)/\k = !aU.isEmpty:=e;rcases e' with ⟨xs,hx,e'⟩ | ⟨xs,hx,e'⟩ | ⟨aU,hx,e'⟩
   ·subst e';obtain⟨aE,r,pl,hz⟩:=I.list hx;have cH:=r.length;exact wpAny_truthy_list pl.isList (by simp only[List.size_toArray];omega) ⟨H,I.tok _,by rw[aEA r];exact q⟩
   ·subst e';obtain⟨aE,r,pl,hz⟩:=I.tuple hx;have cH:=r.length;exact truthy_tuple pl (by simp only[List.size_toArray];omega) ⟨H,I.tok _,by rw[aEA r];exact q⟩
   ·subst e';obtain⟨hz,hS,vs,r,m⟩:aU.length<=sizeLine/\(p==sysModules)=false/\∃ vs,KV aU vs/\s.heap.DictOf (mR X.prog X.w) p vs:=I.hok p _ hx;have cH:aU.length=vs.length:=Paired.length r;exact wpAny_truthy_dict hS m (by omega) ⟨H,I.tok _,by rw[aKT r];exact q⟩
 | _=>exact(show False from e).elim
theorem aNh(ha:PE X a ta)(he:∀ fF,isTrue a X.env fF=(do let v <- fF;standAt a.pos;holding [v] (truthy v))) :
 PT X a (λ σ H Q=>ta σ H λ x H'=>∃ k,aC3 X.K x H' k/\Q k H'):=by
 intro aB s σ H Q I h;exact isTrue_plain (bA (ha aB s σ H _ I h) λ v s1 ⟨x,H1,I1,r1,q1⟩=>aQk aB s1 σ H1 x v Q I1 r1 q1) (he _)
theorem aLi:cO X (binaryOp .Add) (λ x y H Q=>∃ i j,x=.str i/\y=.str j/\i.length+j.length<=sizeLine/\Q (.str (i++j)) H):=by
 intro aB s σ H x y v u Q I rx ry h;obtain⟨i,j,rfl,rfl,hz,q⟩:=h;obtain⟨t,rfl⟩:=rx;obtain⟨t',rfl⟩:=ry;exact add_str (λ t' tk=>⟨.str (i++j),H,I.tok _,⟨_,rfl⟩,q⟩) hz
theorem iW{x:V}{us:List Value}(r:aW [x] us):∃ u,us=[u]/\aZ x u:=by
 cases r with
 | cons r1 r2=>cases r2;exact⟨_,rfl,r1⟩
theorem tZ{x y:V}{us:List Value}(r:aW [x,y] us):∃ u w',us=[u,w']/\aZ x u/\aZ y w':=by
 cases r with
 | cons r1 r2 =>
   cases r2 with
   | cons r3 r4=>cases r4;exact⟨_,_,rfl,r1,r3⟩
theorem aNa:dY X (.builtin "abs") (λ xs H Q=>∃ i,xs=[.int i]/\Q (.int (if i < 0 then -i else i)) H):=by
 intro aB s σ H xs us Q I r h;obtain⟨i,rfl,q⟩:=h;obtain⟨u,rfl,t,rfl⟩:=iW r;exact call_abs_int λ u tk=>⟨.int (if i < 0 then -i else i),H,I.tok _,⟨_,rfl⟩,q⟩
theorem aLS(hc:X.calm=true):dY X (.builtin "max") (λ xs H Q=>∃ i j,xs=[.int i,.int j]/\Q (.int (if j > i then j else i)) H):=by
 intro aB s σ H xs us Q I r h;obtain⟨i,j,rfl,q⟩:=h;obtain⟨u,w',rfl,⟨t,rfl⟩,⟨t',rfl⟩⟩:=tZ r;refine max_two_ints (I.ok.hd hc) λ h' tk k=>⟨_,H,I.kept k,?_,q⟩
 by_cases hj:j > i
 ·rw[if_pos hj,if_pos hj];exact⟨_,rfl⟩
 ·rw[if_neg hj,if_neg hj];exact⟨_,rfl⟩
theorem aLD(hc:X.calm=true):dY X (.builtin "min") (λ xs H Q=>∃ i j,xs=[.int i,.int j]/\Q (.int (if j < i then j else i)) H):=by
 intro aB s σ H xs us Q I r h;obtain⟨i,j,rfl,q⟩:=h;obtain⟨u,w',rfl,⟨t,rfl⟩,⟨t',rfl⟩⟩:=tZ r;refine min_two_ints (I.ok.hd hc) λ h' tk k=>⟨_,H,I.kept k,?_,q⟩
 by_cases hj:j < i
 ·rw[if_pos hj,if_pos hj];exact⟨_,rfl⟩
 ·rw[if_neg hj,if_neg hj];exact⟨_,rfl⟩
theorem aE2:dY X (.type "int") (λ xs H Q=>(∃ i,xs=[.int i]/\Q (.int i) H)\/∃ k,xs=[.bl k]/\Q (.int (if k then 1 else 0)) H):=by
 intro aB s σ H xs us Q I r h;rcases h with ⟨i,rfl,q⟩ | ⟨k,rfl,q⟩
 ·obtain⟨u,rfl,t,rfl⟩:=iW r;exact call_int_int ⟨.int i,H,I,⟨_,rfl⟩,q⟩
 ·obtain⟨u,rfl,r1⟩:=iW r;cases r1;exact call_int_bool ⟨.int (if k then 1 else 0),H,I.tok _,⟨_,rfl⟩,q⟩
end
end L2
namespace L2
open PySem PySem.Spec PyProof.Rows
structure ObjM(h:Heap)(x dx C:Addr)(mA:Str->Option Value):Prop where
 obj:h.get? x=some (PySem.W.instObj C dx)
 ns:h.Ns1 dx mA
 ne:dx≠x
section
variable {prog : Program}{w : World}{A : Around}{E : Value -> Shared -> Prop}{s : Shared}{K : FrG}{x dx C f : Addr}{mA : Str -> Option Value}{name : Str}{v : Value}
end
section
variable {P : Program}{w : World}{H H' : Hp}{h h' : Heap}{a C dx : Addr}{fs fs' : List (Str × V)}
end
structure Cls(K:FrG)(C:Addr):Prop where
 pg:PySem.W.plainGet K C Str.empty=true
 hd:PySem.W.hasDictIn K C=true
 po:PySem.W.plainOver K C=true
 sa:PySem.W.findIn K (.ref C) "__setattr__" = some (some (.builtin "object.__setattr__"))
structure Con(K:FrG)(C:Addr)(f:Str)(v:V)(u:Value):Prop where
 at_:PySem.W.findIn K (.ref C) f=some (some u)
 rel:aZ v u
 get:PySem.W.specialIn K u "__get__" = some none
 cp:PySem.W.copiedNames.contains f=false
structure Meth(K:FrG)(C:Addr)(m:Str)(f:Addr):Prop where
 at_:PySem.W.findIn K (.ref C) m=some (some (.ref f))
 fn:PySem.W.isFn K (.ref f)=true
 kp:PySem.W.keepIn K (.ref f)=true
section
variable {X : Cx}{aB : List (Addr × Obj)}{σ : St}{H : Hp}{s : Shared}{a C dx : Addr}{fs : List (Str × V)}{f : Str}{v : V}{A : Around}{E : Value -> Shared -> Prop}
end
section
variable {X : Cx}{o e value : Expr}{f : Str}{pos pos' tpos : Pos}{ta tv : TE}
end
section
variable {X : Cx}{aB : List (Addr × Obj)}{σ : St}{H : Hp}{s : Shared}{A : Around}{E : Value -> Shared -> Prop}{Q : Value -> Shared -> Prop}{c : Value}{b : Bool}
inductive TyOf (K:FrG) (H:Hp):V->Value->Prop where
 | non:TyOf K H .non (.type "NoneType")
 | bl (x:Bool):TyOf K H (.bl x) (.type "bool")
 | int (i:Int):TyOf K H (.int i) (.type "int")
 | str (x:Str):TyOf K H (.str x) (.type "str")
 | flt (x:UInt64):TyOf K H (.flt x) (.type "float")
 | lst {a:Addr}{xs:List V} (e:H a=some (.lst xs)):TyOf K H (.ref a) (.type "list")
 | frz {a:Addr}{o:Obj}{xs:List V} (e:H a=some (.frz o (.lst xs))):TyOf K H (.ref a) (.type "list")
 | tup {a:Addr}{xs:List V} (e:H a=some (.tup xs)):TyOf K H (.ref a) (.type "tuple")
 | dK {a:Addr}{aU:List (fL × V)} (e:H a=some (.dK aU)):TyOf K H (.ref a) (.type "dict")
 | dT {a:Addr}{aU:List (List fL × V)} (e:H a=some (.dT aU)):TyOf K H (.ref a) (.type "dict")
 | ins {a C dx:Addr}{fs:List (Str × V)} (e:H a=some (.ins C dx fs)) (cl:Cls K C) (ha:PySem.W.findIn K (.ref C) "__class__" = some (some (.builtin "object.__class__")))
    (hn:PySem.W.specialIn K (.builtin "object.__class__") "__get__" = some (some (.builtin "getset_descriptor.__get__"))) (htk:PySem.W.takesIn K (.builtin "object.__class__")=some true)
    (hm:PySem.W.mroIn K C (.type "object")=some true):TyOf K H (.ref a) (.ref C)
end
end L2
namespace L2
open PySem PySem.Spec PyProof.Rows
structure Room(k:Nat)(A:Around):Prop where
 hd:A.handled=none
 dp:A.depth+3*k+5 < recursionLimit
 un:A.units+16*k+200 < cLine
theorem Room.deeper{k:Nat}{A:Around}(r:Room (k+1) A)(env:Env):Room k (A.deeper env):=
 ⟨r.hd,by have:=r.dp;show A.depth+1+3*k+5 < _;omega,by have:=r.un;show A.units+3+16*k+200 < _;omega⟩
theorem Room.depth{k:Nat}{A:Around}(r:Room k A):A.depth < recursionLimit:=by have:=r.dp;omega
theorem Room.units{k:Nat}{A:Around}(r:Room k A):A.units+64 < cLine:=by have:=r.un;omega
noncomputable def aJF:TA:=λ _ H Q=>Q [] H
noncomputable def aSk(ta:TE)(tr:TA):TA:=λ σ H Q=>ta σ H λ x H1=>tr σ H1 λ xs H2=>Q (x::xs) H2
section
variable {X : Cx}{e : Expr}{es : List Expr}{te : TE}{t : TA}{pos : Pos}
theorem aHd:PA X [] aJF:=λ _ _ _ _ H Q I h=>Calls.spliced_nil ⟨[],H,I,.nil,h⟩
theorem aBJ(ha:PE X e te)(hr:PA X es t)(hs:starEach (e::es) X.env=(false,eval e X.env)::starEach es X.env:=by rfl):PA X (e::es) (aSk te t):=by
 intro pos aB s σ H Q I h;rw[hs];show wpAny _ _ (spliced ((false,eval e X.env)::backTo pos (starEach es X.env))) _ _ s;refine Calls.spliced_cons (bA (ha aB s σ H _ I h) λ u s1 hPq25=>?_)
 obtain⟨x,H1,I1,r1,q1⟩:=hPq25;exact bA (hr pos aB s1 σ H1 _ I1 q1) λ us s2 ⟨xs,H2,I2,r2,q2⟩=>⟨x::xs,H2,I2,.cons r1 r2,q2⟩
noncomputable def aUC(t:TA):TE:=λ σ H Q=>t σ H λ xs H1=>xs.length<=sizeLine/\∀ p,H1 p=none->Q (.ref p) (bB H1 p (.tup xs))
noncomputable def aUF(t:TA):TE:=λ σ H Q=>t σ H λ xs H1=>xs.length<=sizeLine/\∀ p,H1 p=none->Q (.ref p) (bB H1 p (.lst xs))
theorem aRC{x1}(h:PA X es t):PE X (.Tuple es x1 pos) (aUC t):=by
 intro aB s σ H Q I hq;refine wpAny_Tuple_spliced (bA (h pos aB s σ H _ I hq) λ us s1 ⟨xs,H1,I1,r,z,q⟩=>⟨by rw[<- r.length];exact z,?_⟩)
 have hf:H1 s1.heap.objs.size=none:=I1.hok.fresh (Nat.le_refl _);refine⟨.ref s1.heap.objs.size,bB H1 s1.heap.objs.size (.tup xs),I1.laid (t':=s1.toks) (λ b u e=>hpS _ e) (Nat.le_refl _) ?_,rfl,q _ hf⟩
 exact⟨z,us,r,⟨_,xAe _ rfl,rfl,_,rfl⟩⟩
theorem aPm(h:PA X es t):PE X (.List es pos) (aUF t):=by
 intro aB s σ H Q I hq;refine wpAny_List_spliced (bA (h pos aB s σ H _ I hq) λ us s1 ⟨xs,H1,I1,r,z,q⟩=>⟨by rw[<- r.length];exact z,?_⟩)
 have hf:H1 s1.heap.objs.size=none:=I1.hok.fresh (Nat.le_refl _);refine⟨.ref s1.heap.objs.size,bB H1 s1.heap.objs.size (.lst xs),I1.laid (t':=s1.toks) (λ b u e=>hpS _ e) (Nat.le_refl _) ?_,rfl,q _ hf⟩
 exact⟨z,us,0,r,xAe _ rfl⟩
end
noncomputable abbrev Sp:=List V->Hp->VK->XK->Prop
noncomputable abbrev lB:=List Env->Hp->Shared->XK->Value->Shared->Prop
structure Env0(P:Program)(w:World)(K:FrG)(mg:Str->Option Value)(base:Heap)(A:Around)(outer:List Env)(s:Shared)(H:Hp):Prop where
 frames:A.frames=some outer
 mod:Mod K mg base
 bs:∀ b o,base.get? b=some o->s.heap.get? b=some o/\H b=none
 bsz:base.objs.size<=s.heap.objs.size
 funs:s.heap.FunFrames base outer
 frf:∀ b∈iA outer,H b=none
 hok:dH P w H s.heap
 bare:AllBare s.gens
def CE(outer:List Env)(P:Program)(w:World)(H:Hp)(s:Shared)(Q:VK)(u:Value)(s':Shared):Prop:=
 ∃ v H',s'.os=s.os/\AllBare s'.gens/\Un (iA outer) [] H H' s.heap s'.heap/\dH P w H' s'.heap/\aZ v u/\Q v H'
def CR(CX:lB)(outer:List Env)(P:Program)(w:World)(H:Hp)(s:Shared)(Q:VK)(E:XK)(r:Result)(s':Shared):Prop:=
 match r with
 | .ok (.ret u)=>CE outer P w H s Q u s'
 | .ok _=>False
 | .error e=>CX outer H s E e s'
structure FnOk(P:Program)(w:World)(K:FrG)(mg:Str->Option Value)(base:Heap)(CX:lB)(k:Nat)(f:Addr)(fd:FuncData)(ps:List Str)(sp:Sp):Prop where
 len:∀ vs H Q E,sp vs H Q E->vs.length=ps.length
 run:∀ (A:Around) (outer:List Env) (s:Shared) (H:Hp) (args:Args) (us:List Value) (vs:List V) (Q:VK) (E:XK),Room k A->Env0 P w K mg base A outer s H->BindsTo s fd args (ps.zip us)->aW vs us->sp vs H Q E ->
  codeAny (model P w) A (.call (.ref f) args) (CR CX outer P w H s Q E) s
section
variable {X : Cx}{aB : List (Addr × Obj)}{σ : St}{H : Hp}{s s' : Shared}
theorem Inv.env0(I:Inv X aB σ H s):Env0 X.prog X.w X.K X.mg X.base X.A X.stack s H:=
 ⟨I.ok.frames,I.ok.mod,I.bs,xAi I.ok.bsz I.sz,I.stack,I.stkFree,I.hok,I.bare⟩
theorem Inv.after{Q:VK}{u:Value}(I:Inv X aB σ H s)(h:CE X.stack X.prog X.w H s Q u s'):EP X aB σ Q u s':=by
 obtain⟨v,H',os,bare,un,hok,r,q⟩:=h;obtain⟨hh,g,d,t,os'⟩:=s';obtain rfl:os'=s.os:=os;exact⟨v,H',I.call (h':=hh) (g':=g) (d':=d) (t':=t) (ch:=[]) un hok bare (λ b z=>absurd z (by simp)),r,q⟩
end
noncomputable def zN(sp:Sp)(dvs:List V)(E:XK)(t:TA):TE:=λ σ H Q=>t σ H λ vs H1=>sp (vs++dvs) H1 Q E
def lU(K:FrG)(fd:FuncData)(ps:List Str)(ds:List Value):Prop:=
 ∀ (s:Shared) (us:List Value),K.In s.heap->(us++ds).length=ps.length->BindsTo s fd ⟨us,[]⟩ (ps.zip (us++ds))
theorem lU.all{K:FrG}{fd:FuncData}{ps:List Str}(h:∀ us:List Value,us.length=ps.length->bindArgs fd ⟨us,[]⟩=pure (ps.zip us)):lU K fd ps []:=λ s us _ hl=>by
 rw[List.append_nil] at hl ⊢;exact .of_eq (h us hl)
def yS(CX:lB)(X:Cx)(E:XK):Prop:=∀ (aB:List (Addr × Obj)) (σ:St) (H:Hp) (s:Shared) (e:Value) (s':Shared),Inv X aB σ H s->CX X.stack H s E e s'->X.xe e s'
section
variable {X : Cx}{CX : lB}{k : Nat}{f C : Addr}{fd : FuncData}{ps : List Str}{sp : Sp}{dvs : List V}{ds : List Value}{E : XK}{x m : Str}{p pos apos : Pos}{e o : Expr}{es : List Expr}{ta : TE}{t : TA}
theorem aH7{aB:List (Addr × Obj)}{σ:St}{H:Hp}{s:Shared}{Q:VK}{us:List Value}{vs:List V}(F:FnOk X.prog X.w X.K X.mg X.base CX k f fd ps sp)(hr:Room k X.A)(hb:lU X.K fd ps ds)(hd:aW dvs ds)(hx:yS CX X E)
 (I:Inv X aB σ H s) (r:aW vs us) (h:sp (vs++dvs) H Q E):wpAny (model X.prog X.w) X.A (call (.ref f) us) (EP X aB σ Q) X.xe s:=by
 have r2:aW (vs++dvs) (us++ds):=r.append hd;have hl:(us++ds).length=ps.length:=by rw[<- r2.length];exact F.len _ _ _ _ h
 refine wpAny_call (codeAny_mono (F.run X.A X.stack s H ⟨us,[]⟩ (us++ds) (vs++dvs) Q E hr I.env0 (hb s us I.kIn hl) r2 h) λ r s' hq=>?_)
 cases r with
 | error e=>exact hx aB σ H s e s' I hq
 | ok fl =>
   cases fl with
   | ret u=>exact I.after hq
   | next=>exact False.elim hq
   | brk=>exact False.elim hq
   | cont=>exact False.elim hq
theorem aOZ(F:FnOk X.prog X.w X.K X.mg X.base CX k f fd ps sp)(hr:Room k X.A)(hg:Gl X x)(hm:X.mg x=some (.ref f))(hk:PySem.W.keepIn X.K (.ref f)=true)(hb:lU X.K fd ps ds)(hd:aW dvs ds)(hx:yS CX X E)
 (ha:PA X (e::es) t) (hdb:(x==("__debug__" : Str))=false:=by decide) (he:starEach (e::es) X.env=(false,eval e X.env)::starEach es X.env:=by rfl) (hpl:(backTo pos (starEach es X.env)).any (·.1)=false:=by rfl) :
 PE X (.Call (.Name x p) (e::es) [] pos) (zN sp dvs E t):=by
 intro aB s σ H Q I h;refine wpAny_Call_Name_kw (aBR I hg hm ?_ hdb);refine PySem.W.callWith_K (h₀:=X.base) I.ok.mod.kin hk (bA (ha pos aB s σ H _ I h) λ us s1 ⟨vs,H1,I1,r,q⟩=>⟨I1.kIn,?_⟩) he hpl
 exact aH7 F hr hb hd hx I1 r q
theorem aM4(F:FnOk X.prog X.w X.K X.mg X.base CX k f fd ps sp)(hr:Room k X.A)(hg:Gl X x)(hm:X.mg x=some (.ref f))(hk:PySem.W.keepIn X.K (.ref f)=true)(hb:lU X.K fd ps ds)(hd:aW dvs ds)(hx:yS CX X E)
 (hdb:(x==("__debug__" : Str))=false:=by decide):PE X (.Call (.Name x p) [] [] pos) (zN sp dvs E aJF):=by
 intro aB s σ H Q I h;refine wpAny_Call_Name_kw (aBR I hg hm ?_ hdb);exact PySem.W.callWith_K0 I.kIn hk (aH7 (us:=[]) F hr hb hd hx I .nil h)
structure Mk(K:FrG)(C f:Addr):Prop where
 makes:PySem.W.makesIn K C=true
 init:PySem.W.findIn K (.ref C) "__init__" = some (some (.ref f))
 fn:PySem.W.isFn K (.ref f)=true
 kp:PySem.W.keepIn K (.ref C)=true
end
section
variable {X : Cx}{CX : lB}{k : Nat}{f C : Addr}{fd : FuncData}{ps ks : List Str}{sp : Sp}{E : XK}{x m : Str}{p pos apos kpos : Pos}{e o : Expr}{es : List Expr}{kws : List Keyword}{te ta : TE}{t tk : TA}{nm : Option Str}
structure KBinds(K:FrG)(fd:FuncData)(ps ks:List Str)(g:List Value->List Value->List Value)(gV:List V->List V->List V):Prop where
 to:∀ (s:Shared) (us ws:List Value),K.In s.heap->(g us ws).length=ps.length->BindsTo s fd ⟨us,ks.zip ws⟩ (ps.zip (g us ws))
 rel:∀ {vs:List V}{us:List Value}{zs:List V}{ws:List Value},aW vs us->aW zs ws->aW (gV vs zs) (g us ws)
variable {g : List Value -> List Value -> List Value}{gV : List V -> List V -> List V}
end
structure FnScope(N P:List Str)(sc:Scope):Prop where
 kind:sc.kind=.function
 co:sc.isCoroutine=false
 gen:sc.isGenerator=false
 nd:N.Nodup
 pre:N.take P.length=P
 par:∀ x∈P,sc.names.lookup x=some .local\/sc.names.lookup x=some .cell
 nofree:∀ y∈sc.names,y.2≠.free
theorem aEG{kindOf:Str->Option NameKind}{x:Str}:∀ {binds:List (Str × Value)}{m:Str->Option Value},(∀ v,(x,v) ∉ binds)->bindL kindOf binds m x=m x
 | [],_,_=>rfl
 | (n,v)::r,m,h=>by
   unfold bindL;rw[aEG λ w hw=>h w (xAg _ hw)]
   split
   ·have:x≠n:=by rintro rfl;exact h v xAd
    simp[this]
   ·rfl
theorem aE5{kindOf:Str->Option NameKind}{x:Str}:∀ {binds:List (Str × Value)}{m:Str->Option Value},(∀ v,(x,v) ∉ binds)->bindC kindOf binds m x=m x
 | [],_,_=>rfl
 | (n,v)::r,m,h=>by
   unfold bindC;rw[aE5 λ w hw=>h w (xAg _ hw)]
   split
   ·rfl
   ·have:x≠n:=by rintro rfl;exact h v xAd
    simp[this]
theorem aE8{kindOf:Str->Option NameKind}{x:Str}{v:Value}:∀ {P:List Str}{vs:List Value}{i:Nat}{m:Str->Option Value},P.Nodup->P[i]? = some x->vs[i]? = some v->kindOf x=some .local ->
 bindL kindOf (P.zip vs) m x=some v
 | [],_,_,_,_,h,_,_=>by simp at h
 | _::_,[],_,_,_,_,h,_=>by simp at h
 | p::P,w::vs,0,m,nd,h1,h2,hk=>by
   simp at h1 h2;subst h1;subst h2;show bindL kindOf ((p,w)::P.zip vs) m p=_;unfold bindL;rw[aEG λ v hv=>(List.nodup_cons.mp nd).1 (List.of_mem_zip hv).1,if_pos hk]
   simp
 | p::P,w::vs,i+1,m,nd,h1,h2,hk=>by
   show bindL kindOf ((p,w)::P.zip vs) m x=_;unfold bindL;exact aE8 (i:=i) (List.nodup_cons.mp nd).2 (by simpa using h1) (by simpa using h2) hk
theorem aFi{kindOf:Str->Option NameKind}{x:Str}{v:Value}:∀ {P:List Str}{vs:List Value}{i:Nat}{m:Str->Option Value},P.Nodup->P[i]? = some x->vs[i]? = some v->kindOf x≠some .local ->
 bindC kindOf (P.zip vs) m x=some v
 | [],_,_,_,_,h,_,_=>by simp at h
 | _::_,[],_,_,_,_,h,_=>by simp at h
 | p::P,w::vs,0,m,nd,h1,h2,hk=>by
   simp at h1 h2;subst h1;subst h2;show bindC kindOf ((p,w)::P.zip vs) m p=_;unfold bindC;rw[aE5 λ v hv=>(List.nodup_cons.mp nd).1 (List.of_mem_zip hv).1,if_neg hk]
   simp
 | p::P,w::vs,i+1,m,nd,h1,h2,hk=>by
   show bindC kindOf ((p,w)::P.zip vs) m x=_;unfold bindC;exact aFi (i:=i) (List.nodup_cons.mp nd).2 (by simpa using h1) (by simpa using h2) hk
noncomputable def start(N:List Str)(vs:List V):St:=vs.map some++List.replicate (N.length - vs.length) none
noncomputable def rA(CX:lB)(P:Program)(w:World)(K:FrG)(mg:Str->Option Value)(base:Heap)(N:List Str)(cI:Str)(scope:Scope)(f:Addr)(cd:Value)(A:Around)(outer:List Env)(s:Shared)(H:Hp)(E:XK):Cx where
 prog:=P
 w:=w
 K:=K
 mg:=mg
 base:=base
 A:=A.deeper (envOfC cI scope s.heap.objs.size f cd)
 N:=N
 s₀:=s
 H₀:=H
 env:=envOfC cI scope s.heap.objs.size f cd
 outer:=outer
 stack:=envOfC cI scope s.heap.objs.size f cd::outer
 ex:=[]
 calm:=true
 fn:=λ _=>true
 pn:=[]
 xe:=λ e s'=>wpAny (model P w) (A.deeper (envOfC cI scope s.heap.objs.size f cd)) (leaving (envOfC cI scope s.heap.objs.size f cd) e) (λ _ s''=>CX outer H s E e s'') (λ e' s''=>CX outer H s E e' s'') s'
theorem aFY{sc:Scope}{n:Nat}{x:Str}(h:sc.names.lookup x=some .cell):∃ c,(cellsFrom n sc.names []).lookup x=some c:=by
 have q:=PySem.W.cellsFrom_some sc.names n [] (.inl h);exact Option.isSome_iff_exists.mp q
theorem aMb{CX:lB}{P:Program}{w:World}{K:FrG}{mg:Str->Option Value}{base:Heap}{N ps:List Str}{cI:Str}{scope:Scope}{f:Addr}{cd:Value}{A:Around}{outer:List Env}{s s1:Shared}{H:Hp}{E:XK}{us:List Value}{vs:List V}
 (S:FnScope N ps scope) (hd:A.handled=none) (e0:Env0 P w K mg base A outer s H) (hl:vs.length=ps.length) (r:aW vs us)
 (x:InCallC s s.heap.objs.size (bindL (envOfC cI scope s.heap.objs.size f cd).kindOf (ps.zip us) λ _=>none) (cellsFrom (s.heap.objs.size+1) scope.names []) (bindC (envOfC cI scope s.heap.objs.size f cd).kindOf (ps.zip us) λ _=>none) s1) :
 Inv (rA CX P w K mg base N cI scope f cd A outer s H E) [] (start N vs) H s1:=by
 have hpl:ps.length<=N.length:=by have:=congrArg List.length S.pre;rw[List.length_take] at this;omega
 obtain⟨h1,tk,rfl,hk⟩:=x.done;have noA:∀ b:Addr,b ∉ (rA CX P w K mg base N cI scope f cd A outer s H E).ex:=λ b z=>absurd (show b∈([]:List Addr) from z) (by simp)
 refine⟨⟨e0.mod,S.kind,rfl,rfl,Nat.le_refl _,λ y z c h1 h2=>?_,λ y hy=>?_,λ y c _ h=>?_,λ _=>hd,Around.frames_deeper e0.frames,.inr ⟨rfl,rfl⟩,λ b z=>absurd z (noA b),e0.bs,e0.bsz,λ b _ _=>noA b,λ b z=>absurd z (noA b),e0.funs,e0.frf⟩,
  rfl,e0.bare,Un.kept hk,⟨_,x.toInCall.ns,λ i y v h1 h2 h3=>?_⟩,λ y c h=>⟨_,x.cell y c h⟩,e0.hok.fresh (Nat.le_refl _),λ y c h=>?_,λ p hp=>absurd (show p∈([]:List (Addr × Obj)) from hp) (by simp),e0.hok.kept hk,?_⟩
 ·exact name_of_addr x.apart (PySem.mem_of_lookup h1) (PySem.mem_of_lookup h2)
 ·have hy:scope.names.lookup y=some .cell\/scope.names.lookup y=some .free:=hy;rcases hy with hy | hy
  ·exact aFY hy
  ·exact absurd rfl (S.nofree _ (PySem.mem_of_lookup hy))
 ·exact Nat.le_of_lt (x.above y c (PySem.mem_of_lookup h))
 ·have hi:i < vs.length:=by
   unfold start at h2
   by_cases hi:i < vs.length
   ·exact hi
   ·rw[List.getElem?_append_right (by simpa using hi)] at h2
    rw[List.getElem?_replicate] at h2
    split at h2<;>cases h2
  have ha:vs[i]? = some v:=by
   unfold start at h2;rw[xAn (by simpa using hi),xAb] at h2
   cases e:vs[i]? with
   | none=>rw[e] at h2;cases h2
   | some a=>rw[e] at h2;cases h2;rfl
  obtain⟨u,hu,rv⟩:=r.get ha;have hp:ps[i]? = some y:=by
   rw[<- S.pre,List.getElem?_take_of_lt (by omega)];exact h1
  have ndP:ps.Nodup:=by rw[<- S.pre];exact S.nd.sublist (List.take_sublist _ _)
  refine⟨u,rv,?_⟩;rcases S.par y (xAl hp) with k | k
  ·exact .inl ⟨k,aE8 ndP hp hu k⟩
  ·obtain⟨c,e⟩:=aFY (n:=s.heap.objs.size+1) k;refine .inr ⟨.inl k,c,e,?_⟩;have q:=x.cell y c e;rw[aFi ndP hp hu (by show scope.names.lookup y≠_;rw[k];decide)] at q
   exact q
 ·exact e0.hok.fresh (Nat.le_of_lt (x.above y c (PySem.mem_of_lookup h)))
 ·unfold start;show _=N.length;rw[xAo,List.length_map,List.length_replicate];omega
theorem aTF{CX:lB}{P:Program}{w:World}{K:FrG}{mg:Str->Option Value}{base:Heap}{k:Nat}{f:Addr}{name cI:Str}{params:Arguments}{body:List Stmt}{scope:Scope}{dV kV doc pm cdv ct oc:Value}{an od:Option Addr}
 {osl:Array (Option Value)}{N ps:List Str}{sp:Sp} (lk:K.lookup f=some ⟨oc,od,.func (PySem.W.fnOf name cI params body scope dV kV doc pm an cdv ct),osl⟩) (hcd:PySem.W.codeIn K cdv cI=true) (S:FnScope N ps scope)
 (len:∀ vs H Q E,sp vs H Q E->vs.length=ps.length)
 (hbody:∀ (A:Around) (outer:List Env) (s:Shared) (H:Hp) (vs:List V) (Q:VK) (E:XK),Room k (A.deeper (envOfC cI scope s.heap.objs.size f cdv))->sp vs H Q E ->
   ∃ t,dN (rA CX P w K mg base N cI scope f cdv A outer s H E) body t/\t {nx:=λ _ H'=>Q .non H',rt:=Q } (start N vs) H) :
 FnOk P w K mg base CX (k+1) f (PySem.W.fnOf name cI params body scope dV kV doc pm an cdv ct) ps sp:=by
 refine⟨len,λ A outer s H args us vs Q E hr e0 hb r hsp=>?_⟩
 have hl:=len _ _ _ _ hsp;have KX:K.In s.heap:=e0.mod.kin.keeps λ b o e=>(e0.bs b o e).1
 have lim:s.heap.NoLimit:=e0.mod.nolimit.keeps λ b o e=>(e0.bs b o e).1
 have hkind:∀ y∈ps.zip us,scope.names.lookup y.1=some .local\/(scope.names.lookup y.1=some .cell/\((cellsFrom (s.heap.objs.size+1) scope.names []).lookup y.1).isSome=true):=λ aP hy=>by
  obtain⟨n,v⟩:=aP;rcases S.par n (List.of_mem_zip hy).1 with q | q
  ·exact .inl q
  ·exact .inr ⟨q,PySem.W.cellsFrom_some _ _ _ (.inl q)⟩
 refine codeAny_call_function hr.depth (KX _ _ lk) rfl S.co S.gen rfl (PySem.W.codeRec_of KX hcd) (hb _ _ _ _ ?_);refine wpAny_newFunctionEnv_cells S.kind hkind λ env he s1 x=>?_
 subst he;refine⟨lim.keeps x.toInCall.keep,codeAny_func ?_⟩;obtain⟨t,ht,hq⟩:=hbody A outer s H vs Q E (hr.deeper _) hsp;have I:Inv (rA CX P w K mg base N cI scope f cdv A outer s H E) [] (start N vs) H s1:=aMb S hr.hd e0 hl r x;refine wpAny_mono (ht [] s1 (start N vs) H _ I hq) (λ fl s' hs=>?_) λ e s' hs=>hs
 have bK:∀ {σ':St}{H':Hp}{v:V}{u:Value},Inv (rA CX P w K mg base N cI scope f cdv A outer s H E) [] σ' H' s'->aZ v u->Q v H'->CE outer P w H s Q u s':=
  λ {σ' H' v u} J rv q=>⟨v,H',J.os,J.bare,J.base,J.hok,rv,q⟩
 cases fl with
 | ret u =>
   obtain⟨v,σ',H',J,rv,q⟩:=hs;exact bK J rv q
 | next =>
   obtain⟨σ',H',J,q⟩:=hs;exact bK (v:=V.non) (u:=Value.none) J rfl q
 | brk =>
   obtain⟨_,_,_,q⟩:=hs;exact False.elim q
 | cont =>
   obtain⟨_,_,_,q⟩:=hs;exact False.elim q
end L2
namespace L2
open PySem PySem.Spec PyProof.Rows
section
variable {X : Cx}{x : Str}{p pos : Pos}{e : Expr}{es : List Expr}{t : TA}{id T : String}{r : List V -> Hp -> VK -> Prop}
noncomputable def tCB(r:List V->Hp->VK->Prop)(t:TA):TE:=λ σ H Q=>t σ H λ vs H1=>r vs H1 Q
theorem mN(hc:dY X (.builtin id) r)(hg:Gl X x)(hm:X.mg x=none)(hv:bootBuiltins x=some (.builtin id))(ha:PA X (e::es) t)(hn:x ≠ "__name__":=by decide)(hdb:(x==("__debug__" : Str))=false:=by decide)
 (he:starEach (e::es) X.env=(false,eval e X.env)::starEach es X.env:=by rfl) (hpl:(backTo pos (starEach es X.env)).any (·.1)=false:=by rfl):PE X (.Call (.Name x p) (e::es) [] pos) (tCB r t):=by
 intro aB s σ H Q I h;refine wpAny_Call_Name_kw (jH I hg hm hv ?_ hn hdb);exact PyProof.Rows.callWith_builtin1 (bA (ha pos aB s σ H _ I h) λ us s1 ⟨vs,H1,I1,r1,q1⟩=>hc aB s1 σ H1 vs us Q I1 r1 q1) he hpl
theorem aFf(hc:dY X (.type T) r)(hg:Gl X x)(hm:X.mg x=none)(hv:bootBuiltins x=some (.type T))(ha:PA X (e::es) t)(hn:x ≠ "__name__":=by decide)(hdb:(x==("__debug__" : Str))=false:=by decide)
 (he:starEach (e::es) X.env=(false,eval e X.env)::starEach es X.env:=by rfl) (hpl:(backTo pos (starEach es X.env)).any (·.1)=false:=by rfl):PE X (.Call (.Name x p) (e::es) [] pos) (tCB r t):=by
 intro aB s σ H Q I h;refine wpAny_Call_Name_kw (jH I hg hm hv ?_ hn hdb);exact PyProof.Rows.callWith_type1 (bA (ha pos aB s σ H _ I h) λ us s1 ⟨vs,H1,I1,r1,q1⟩=>hc aB s1 σ H1 vs us Q I1 r1 q1) he hpl
end
end L2
namespace HT
open PySem PyProof.Rows
section
open PySem.SeqAt
open PySem.AutoSeq1 (wpAny_loadPart')
open PySem.MeetsSeq PySem.MeetsSeq2 PySem.MeetsSeq3
end
section
variable {prog : Program}{w : World}{A : Around}{E : Value -> Shared -> Prop}{s : Shared}
theorem cat_tup{t b:Addr}{vs ws:List Value}{Q:Value->Shared->Prop}(ht:IsTup s.heap t vs.toArray)(hb:IsTup s.heap b ws.toArray)(hv:vs≠[])
 (h1:ws=[]->Q (.ref t) s) (h2:ws≠[]->Q (.ref s.heap.objs.size) {s with heap:=s.heap.push {cls:=.type "tuple",data:=.seq (vs++ws).toArray } })
 (hsz:vs.length+ws.length<=sizeLine):wpAny (model prog w) A (binaryOp .Add (.ref t) (.ref b)) Q E s:=by
 obtain⟨⟨cls,dd,data,sl⟩,ho,hc,n,hd⟩:=id ht;obtain⟨⟨cls2,dd2,data2,sl2⟩,ho2,hc2,n2,hd2⟩:=id hb;simp only at hc hd hc2 hd2;subst hc hd hc2 hd2;have e:vs.toArray++ws.toArray=(vs++ws).toArray:=by simp
 by_cases hw:ws=[]
 ·exact concat_meets ⟨_,ho,rfl⟩ ⟨_,ho2,rfl⟩ noFill_tuple_add seq_tuple_add PySem.F.slot_tuple_add PySem.F.entry_tuple_add (PySem.F.args_tuple_add_2 _ _)
   (tuple_addW1 t b vs.toArray ws.toArray n n2 dd dd2 sl sl2 (by simpa using hv) (by simp[hw])) ⟨ho,ho2,h1 hw⟩
 ·refine concat_meets ⟨_,ho,rfl⟩ ⟨_,ho2,rfl⟩ noFill_tuple_add seq_tuple_add PySem.F.slot_tuple_add PySem.F.entry_tuple_add (PySem.F.args_tuple_add_2 _ _)
   (tuple_addW2 t b vs.toArray ws.toArray n n2 dd dd2 sl sl2 (by simpa using hv) (by simpa using hw) (by rw[List.size_toArray,List.size_toArray];exact hsz)) ⟨ho,ho2,?_⟩
  rw[e];exact h2 hw
noncomputable def sIx(n d:Nat):Option Int->Nat
 | none=>d
 | some v=>if v < 0 then (v+(n:Int)).toNat else min v.toNat n
theorem sIx_none(n d:Nat):sIx n d none=d:=rfl
theorem sIx_nat(n d k:Nat):sIx n d (some (k:Int))=min k n:=by
 show(if (k:Int) < 0 then ((k:Int)+(n:Int)).toNat else min (k:Int).toNat n)=min k n
 rw[if_neg (by omega),Int.toNat_natCast]
theorem aQu(n d:Nat)(hd:d<=n)(o:Option Int):sIx n d o<=n:=by
 cases o with
 | none=>exact hd
 | some v =>
   show(if v < 0 then (v+(n:Int)).toNat else min v.toNat n)<=n
   by_cases hv:v < 0
   ·rw[if_pos hv];omega
   ·rw[if_neg hv];exact Nat.min_le_right _ _
theorem aF7(v:Int)(n d:Nat):(if v < 0 then max (v+(n:Int)) 0 else min v (n:Int))=((sIx n d (some v):Nat):Int):=by
 show(if v < 0 then max (v+(n:Int)) 0 else min v (n:Int))=(((if v < 0 then (v+(n:Int)).toNat else min v.toNat n):Nat):Int)
 by_cases hv:v < 0
 ·simp only[if_pos hv];omega
 ·simp only[if_neg hv];omega
theorem aK6(lo hi:Option Int)(n:Nat):Builtin.Slice.sliceAdjust lo hi 1 (n:Int)=(((sIx n 0 lo:Nat):Int),((sIx n n hi:Nat):Int)):=by
 have h1:¬ ((1:Int) < 0):=by omega
 unfold Builtin.Slice.sliceAdjust;simp only[h1,if_false];refine Prod.ext ?_ ?_
 ·cases lo with
  | none=>rfl
  | some v=>exact aF7 v n 0
 ·cases hi with
  | none=>rfl
  | some v=>exact aF7 v n n
theorem aK0(i j:Nat):Builtin.Slice.slicePlaces (i:Int) (j:Int) 1=j - i:=by
 unfold Builtin.Slice.slicePlaces;have h1:(1:Int) > 0:=by omega
 simp only[h1,if_true,Int.ediv_one]
 split<;>omega
theorem aEy{v:Value}{o:Option Int}{Q:Option Int->Shared->Prop}(p:IsPart v o)(h:Q o s):wpAny (model prog w) A (Builtin.Slice.slicePartIndex v) Q E s:=by
 cases p with
 | none=>exact slicePart_none h
 | int i t=>exact slicePart_int h
theorem sliceApplied_gen{sl:Addr}{vl vu:Value}{lo hi:Option Int}{n:Nat}{Q:Int × Int × Nat->Shared->Prop}(hs:s.heap.IsSliceOf sl vl vu .none)(pl:IsPart vl lo)(pu:IsPart vu hi)
 (h:Q (((sIx n 0 lo:Nat):Int),1,sIx n n hi - sIx n 0 lo) s):wpAny (model prog w) A (Builtin.Slice.sliceApplied (.ref sl) (pure (n:Int))) Q E s:=by
 obtain⟨os,hos,hcs,hds⟩:=id hs;unfold Builtin.Slice.sliceApplied Builtin.Slice.sliceFields;refine wB (wB (wpAny_field hos hds (x:=vl) rfl (wB (wpAny_field hos hds (x:=vu) rfl (wB (wpAny_field hos hds (x:=.none) rfl (wP ?_)))))));refine wB (slicePart_none ?_);show wpAny _ _ (if ((1:Int)==0)=true then _ else _) _ _ s
 rw[if_neg (by decide)]
 refine wB (aEy pl (wB (aEy pu (wB (wP ?_)))));show wpAny _ _ (match Builtin.Slice.sliceAdjust lo hi 1 (n:Int) with | (lo,hi)=>pure (lo,(1:Int),Builtin.Slice.slicePlaces lo hi 1)) _ _ s
 rw[aK6 lo hi n];show wpAny _ _ (pure (((sIx n 0 lo:Nat):Int),(1:Int),Builtin.Slice.slicePlaces ((sIx n 0 lo:Nat):Int) ((sIx n n hi:Nat):Int) 1)) _ _ s;rw[aK0];exact wP h
theorem aMA(xs:Array Value)(i k:Nat):((List.range k).filterMap λ(m:Nat)=>xs[((i:Int)+(m:Int)*1).toNat]?).toArray=((xs.toList.drop i).take k).toArray:=by
 have e:(λ(m:Nat)=>xs[((i:Int)+(m:Int)*1).toNat]?)=λ m=>xs[i+m]?:=by
  funext m
  have:((i:Int)+(m:Int)*1).toNat=i+m:=by omega
  rw[this]
 rw[e];have:=pick_run xs i k;rw[List.filterMap_map] at this;have e2:((λ x=>xs[x]?) ∘ λ x=>i+x)=λ m=>xs[i+m]?:=rfl
 rw[e2] at this;rw[this]
theorem getItem_tuple_cut{t sl:Addr}{aM:Array Value}{vl vu:Value}{lo hi:Option Int}{Q:Value->Shared->Prop}(ht:IsTup s.heap t aM)(hs:s.heap.IsSliceOf sl vl vu .none)(pl:IsPart vl lo)(pu:IsPart vu hi)
 (hw:¬ (sIx aM.size 0 lo=0/\sIx aM.size aM.size hi=aM.size))
 (h:Q (.ref s.heap.objs.size) {s with heap:=s.heap.push {cls:=.type "tuple",data:=.seq ((aM.toList.drop (sIx aM.size 0 lo)).take (sIx aM.size aM.size hi - sIx aM.size 0 lo)).toArray } })
 (hsz:aM.size<=sizeLine):wpAny (model prog w) A (getItem (.ref t) (.ref sl)) Q E s:=by
 have htake:sizeOk (.seq ((aM.toList.drop (sIx aM.size 0 lo)).take (sIx aM.size aM.size hi - sIx aM.size 0 lo)).toArray):=by
  show((aM.toList.drop (sIx aM.size 0 lo)).take (sIx aM.size aM.size hi - sIx aM.size 0 lo)).toArray.size<=sizeLine;rw[List.size_toArray,List.length_take,List.length_drop,Array.length_toList];omega
 have hj:sIx aM.size aM.size hi<=aM.size:=aQu _ _ (Nat.le_refl _) hi;obtain⟨os,hos,hcs,hds⟩:=id hs;have hTs:s.TypeIs (.ref sl) "slice":=⟨os,hos,hcs⟩;unfold getItem
 try with_reducible refine wpAny_holding ?_
 first | refine wB (wP ?_) | skip
 refine wB (wpAny_sequenceKey ht.typeIs (by decide) ?_)
 refine wB (wpAny_callSpecial?_slot (name:=Str.ofString "__getitem__") ht.typeIs PyProof.Rows.slot_tuple_getitem
  (wpAny_call_entry PyProof.Rows.slot_tuple_getitem ht.typeIs entry_tuple_getitem ?_ (args_tuple_getitem _ _)))
 show wpAny _ _ (Builtin.Tuple.tupleItemsOf (.ref t) >>= _) _ _ s;refine wB (tupleItemsOf_ ht ?_);refine wB (wpAny_typeOf hTs ?_);rw[if_pos (by decide)]
 refine wB (sliceApplied_gen hs pl pu ?_);have hno:¬ ((((sIx aM.size 0 lo:Nat):Int)==0&&(1:Int)==1&&(sIx aM.size aM.size hi - sIx aM.size 0 lo)==aM.size)=true):=by
  intro q;rw[Bool.and_eq_true,Bool.and_eq_true] at q;have q1:((sIx aM.size 0 lo:Nat):Int)=0:=eq_of_beq q.1.1;have q2:sIx aM.size aM.size hi - sIx aM.size 0 lo=aM.size:=eq_of_beq q.2;exact hw ⟨by omega,by omega⟩
 show wpAny _ _ (if (((sIx aM.size 0 lo:Nat):Int)==0&&(1:Int)==1&&(sIx aM.size aM.size hi - sIx aM.size 0 lo)==aM.size)=true then _ else _) _ _ s
 rw[if_neg hno,aMA]
 first
  | exact wB (m:=Builtin.Tuple.tupleExact _) (wpAny_newObj_type (wP ⟨_,rfl,wP h⟩) htake)
  | exact wB (m:=Builtin.Tuple.tupleExact _) (wpAny_newObj_type (wB (wP (wP ⟨_,rfl,wP h⟩))) htake)
  | exact wB (wB (m:=Builtin.Tuple.tupleExact _) (wpAny_newObj_type (wP (wP ⟨_,rfl,wP h⟩)) htake))
  | exact wB (wB (m:=Builtin.Tuple.tupleExact _) (wpAny_newObj_type (wP ⟨_,rfl,wP h⟩) htake))
end
end HT
namespace L2
open PySem PySem.Spec PyProof.Rows
noncomputable abbrev TO:=St->Hp->(Option Int->Hp->Prop)->Prop
def PO(X:Cx)(e:Option Expr)(t:TO):Prop:=
 ∀ (aB:List (Addr × Obj)) (s:Shared) (σ:St) (H:Hp) (Q:Option Int->Hp->Prop),Inv X aB σ H s->t σ H Q ->
  wpAny (model X.prog X.w) X.A (evalPart e X.env) (λ u s'=>∃ o H',Inv X aB σ H' s'/\IsPart u o/\Q o H') X.xe s
noncomputable def aO2:TO:=λ _ H Q=>Q none H
noncomputable def aST(t:TE):TO:=λ σ H Q=>t σ H λ x H1=>∃ i,x=.int i/\Q (some i) H1
theorem aLb{ns:List Int}:∀ {us:List Value},aW (ns.map V.int) us->IntsAre us ns:=by
 induction ns with
 | nil=>intro us r;rw[List.map_nil] at r;cases r;exact .nil
 | cons n ns ih =>
   intro us r;rw[List.map_cons] at r;cases r with
   | cons r1 r2 =>
     obtain⟨t,e⟩:=r1;subst e;exact .cons n t (ih r2)
section
variable {X : Cx}{e : Expr}{te : TE}{lo hi : Option Expr}{tl th : TO}{pos p2 : Pos}
theorem aOE:PO X none aO2:=by
 intro aB s σ H Q I h;rw[evalPart_none];exact wP ⟨none,H,I,.none,h⟩
theorem aNN(h:PE X e te):PO X (some e) (aST te):=by
 intro aB s σ H Q I hw;rw[evalPart_some];refine bA (h aB s σ H _ I hw) λ u s1 hPq26=>?_
 obtain⟨x,H1,I1,r1,q1⟩:=hPq26;obtain⟨i,rfl,q⟩:=q1;obtain⟨t,rfl⟩:=r1;exact⟨some i,H1,I1,.int i t,q⟩
def SlR(X:Cx)(r:V->Option Int->Option Int->Hp->VK->Prop):Prop:=
 ∀ (aB:List (Addr × Obj)) (s:Shared) (σ:St) (H:Hp) (x:V) (v vl vu:Value) (lo hi:Option Int) (sl:Addr) (Q:VK),Inv X aB σ H s->aZ x v->s.heap.IsSliceOf sl vl vu .none->IsPart vl lo->IsPart vu hi->r x lo hi H Q ->
  ∃ T id,typeLookup (.type T) "__getitem__" = pure (some (.builtin id))/\s.TypeIs v T/\wpAny (model X.prog X.w) X.A (getItem v (.ref sl)) (EP X aB σ Q) X.xe s
noncomputable def tSl(r:V->Option Int->Option Int->Hp->VK->Prop)(te:TE)(tl th:TO):TE:=λ σ H Q=>te σ H λ x H1=>tl σ H1 λ l H2=>th σ H2 λ u H3=>r x l u H3 Q
theorem aFD{r:V->Option Int->Option Int->Hp->VK->Prop}(hr:SlR X r)(he:PE X e te)(hl:PO X lo tl)(hu:PO X hi th):PE X (.Subscript e (.Slice lo hi none p2) pos) (tSl r te tl th):=by
 intro aB s σ H Q I h;refine Subscript_ (bA (he aB s σ H _ I h) λ v s1 hPq27=>?_)
 obtain⟨x,H1,I1,r1,q1⟩:=hPq27;refine wpAny_Slice (bA (hl aB s1 σ H1 _ I1 q1) λ vl s2 ⟨l,H2,I2,pl,q2⟩=>bA (hu aB s2 σ H2 _ I2 q2) λ vu s3 hPq28=>?_)
 obtain⟨u,H3,I3,pu,q3⟩:=hPq28;rw[evalPart_none];refine wP ?_;have I4:Inv X aB σ H3 {s3 with heap:=s3.heap.push {cls:=.type "slice",data:=.fields #[vl,vu,.none] } }:=I3.kept (t':=s3.toks) λ b ob q=>hpS _ q
 obtain⟨T,id,hT,ht,hg⟩:=hr aB {s3 with heap:=s3.heap.push {cls:=.type "slice",data:=.fields #[vl,vu,.none] } } σ H3 x v vl vu l u s3.heap.objs.size Q I4 r1 (Heap.IsSliceOf.new ..) pl pu q3
 show wpAny (model X.prog X.w) X.A (subscriptTail e (.Slice lo hi none p2) v (.ref s3.heap.objs.size)) (EP X aB σ Q) X.xe {s3 with heap:=s3.heap.push {cls:=.type "slice",data:=.fields #[vl,vu,.none] } }
 exact tail_any (ops:=[.ref s3.heap.objs.size,v]) ht hT hg (by with_unfolding_all rfl)
noncomputable def lZ(xs:List V)(lo hi:Option Int):List V:=(xs.drop (HT.sIx xs.length 0 lo)).take (HT.sIx xs.length xs.length hi - HT.sIx xs.length 0 lo)
theorem aEd(xs:List V)(lo hi:Option Int):(lZ xs lo hi).length<=xs.length:=by
 unfold lZ;rw[List.length_take,List.length_drop];omega
noncomputable def aT9(K:FrG):V->Option Int->Option Int->Hp->VK->Prop:=λ x lo hi H Q=>∃ a xs,x=.ref a/\bS K H a xs /\
 ¬ (HT.sIx xs.length 0 lo=0/\HT.sIx xs.length xs.length hi=xs.length)/\∀ p,H p=none->Q (.ref p) (bB H p (.tup (lZ xs lo hi)))
theorem aRk:SlR X (aT9 X.K):=by
 intro aB s σ H x v vl vu lo hi sl Q I rx hs pl pu h;obtain⟨a,xs,rfl,hx,hw,q⟩:=h;cases rx;obtain⟨aE,r,ht,hz⟩:=I.tuple hx;have cH:aE.toArray.size=xs.length:=by rw[List.size_toArray];exact r.length.symm
 refine⟨"tuple",_,PyProof.Rows.slot_tuple_getitem.lookup,ht.typeIs,?_⟩;refine HT.getItem_tuple_cut ht hs pl pu (by rw[cH];exact hw) ?_ (by rw[cH];exact hz)
 rw[cH];refine⟨.ref s.heap.objs.size,_,I.laid (t':=s.toks) (o:=.tup (lZ xs lo hi)) (λ b ob q=>hpS _ q) (Nat.le_refl _) ?_,rfl,q _ (I.hok.fresh (Nat.le_refl _))⟩
 exact⟨xAi (aEd xs lo hi) hz,_,(r.drop (HT.sIx xs.length 0 lo)).take (HT.sIx xs.length xs.length hi - HT.sIx xs.length 0 lo),IsTup.new _ _⟩
noncomputable def aTv(K:FrG):R2:=λ x y H Q=>∃ a b xs ys,x=.ref a/\y=.ref b/\bS K H a xs/\bS K H b ys/\xs≠[]/\xs.length+ys.length<=sizeLine /\
 (ys=[]->Q (.ref a) H)/\(ys≠[]->∀ p,H p=none->Q (.ref p) (bB H p (.tup (xs++ys))))
theorem aW.nil_iff{xs:List V}{us:List Value}(r:aW xs us):us=[] ↔ xs=[]:=by
 cases r with
 | nil=>simp
 | cons _ _=>simp
theorem aNH:cO X (binaryOp .Add) (aTv X.K):=by
 intro aB s σ H x y v u Q I rx ry h;obtain⟨a,b,xs,ys,rfl,rfl,ha,hb,hx,hz,q1,q2⟩:=h;cases rx;cases ry;obtain⟨aE,r1,p1,_⟩:=I.tuple ha;obtain⟨cP,r2,p2,_⟩:=I.tuple hb;refine HT.cat_tup p1 p2 (λ z=>hx (r1.nil_iff.mp z)) (λ z=>⟨.ref a,H,I,rfl,q1 (r2.nil_iff.mp z)⟩) (λ z=>?_) (by rw[<- r1.length,<- r2.length];exact hz)
 refine⟨.ref s.heap.objs.size,_,I.laid (t':=s.toks) (o:=.tup (xs++ys)) (λ b ob q=>hpS _ q) (Nat.le_refl _) ?_,rfl,q2 (λ w=>z (r2.nil_iff.mpr w)) _ (I.hok.fresh (Nat.le_refl _))⟩
 exact⟨by rw[xAo];exact hz,_,r1.append r2,IsTup.new _ _⟩
end
end L2
namespace L2
open PySem PySem.Spec PyProof.Rows
noncomputable def jB(n:Nat)(i:Int):Option Nat:=if 0<=i then (if i < n then some i.toNat else none) else if -(n:Int)<=i then some (i+n).toNat else none
noncomputable def jZ{α:Type}(xs:List α)(i:Int):Option α:=(jB xs.length i).bind λ j=>xs[j]?
theorem aGC{n:Nat}{i:Int}{j:Nat}(h:jB n i=some j):seqIndex? i n=some j/\j < n /\ -(n:Int)<=i/\i < n:=by
 unfold jB at h
 by_cases h0:0<=i
 ·rw[if_pos h0] at h
  by_cases h1:i < n
  ·rw[if_pos h1] at h;have e:i.toNat=j:=Option.some.inj h;exact⟨by rw[seqIndex_of h0 h1,e],by omega,by omega,h1⟩
  ·rw[if_neg h1] at h;cases h
 ·rw[if_neg h0] at h
  by_cases h1 : -(n:Int)<=i
  ·rw[if_pos h1] at h;have e:(i+n).toNat=j:=Option.some.inj h;exact⟨by rw[seqIndex_neg (by omega) h1,e],by omega,h1,by omega⟩
  ·rw[if_neg h1] at h;cases h
theorem aBX{α:Type}{xs:List α}{i:Int}{v:α}(h:jZ xs i=some v):∃ j,seqIndex? i xs.length=some j/\xs[j]? = some v/\j < xs.length /\ -(xs.length:Int)<=i/\i < xs.length:=by
 unfold jZ at h;cases e:jB xs.length i with
 | none=>rw[e] at h;cases h
 | some j =>
   rw[e] at h;obtain⟨h1,h2,h3,h4⟩:=aGC e;exact⟨j,h1,h,h2,h3,h4⟩
def xP(b:Expr):Prop:=∀ o i,subscripted b false o i=operate [o,i] (getItem o i)
def rP(X:Cx)(r:R2):Prop:=
 ∀ (value lF:Expr) (aB:List (Addr × Obj)) (s:Shared) (σ:St) (H:Hp) (x y:V) (v u:Value) (Q:VK),Inv X aB σ H s->aZ x v->aZ y u->r x y H Q ->
  subscripted lF false v u=operate [v,u] (getItem v u)->wpAny (model X.prog X.w) X.A (subscriptTail value lF v u) (EP X aB σ Q) X.xe s
def MtR(X:Cx)(id:String)(r:V->List V->Hp->VK->Prop):Prop:=
 ∀ (aB:List (Addr × Obj)) (s:Shared) (σ:St) (H:Hp) (x:V) (xs:List V) (v:Value) (us:List Value) (Q:VK),Inv X aB σ H s->aZ x v->aW xs us->r x xs H Q ->
  wpAny (model X.prog X.w) X.A (call (.builtin id) (v::us)) (EP X aB σ Q) X.xe s
section
variable {X : Cx}{a b : Expr}{ta tb : TE}{pos : Pos}
theorem aII{r:R2}(hr:rP X r)(ha:PE X a ta)(hb:PE X b tb)(hs:xP b):PE X (.Subscript a b pos) (vS r ta tb):=by
 intro aB s σ H Q I h;exact Subscript_ (aC9 ha hb I h λ v u s2 x y H2 I2 rx ry q=>hr a b aB s2 σ H2 x y v u Q I2 rx ry q (hs _ _))
noncomputable def aUv(K:FrG):R2:=λ x y H Q=>∃ p xs i v,x=.ref p/\y=.int i/\bR K H p xs/\jZ xs i=some v/\Q v H
noncomputable def aT7(K:FrG):R2:=λ x y H Q=>∃ p xs i v,x=.ref p/\y=.int i/\bS K H p xs/\jZ xs i=some v/\Q v H
noncomputable def aUP:R2:=λ x y H Q=>∃ z i c,x=.str z/\y=.int i/\z.length<=sizeLine/\jZ z.cps.toList i=some c/\Q (.str ⟨#[c]⟩) H
theorem aOl:rP X (aUv X.K):=by
 intro value lF aB s σ H x y v u Q I rx ry h hs;obtain⟨p,xs,i,z,rfl,rfl,hq,he,q⟩:=h;cases rx;obtain⟨t,rfl⟩:=ry;obtain⟨aE,r,pl,hz⟩:=I.list hq;obtain⟨j,h1,h2,h3,h4,h5⟩:=aBX he;obtain⟨w,ew,rw'⟩:=r.get h2;have hl:=r.length;have hn:=mX;have bK:EP X aB σ Q w s:=⟨z,H,I,rw',q⟩
 by_cases h0:0<=i
 ·have hj:i.toNat=j:=by
   rw[seqIndex_of h0 h5] at h1;exact Option.some.inj h1
  exact item_listR pl.isList h0 (by omega) (by rw[hj];simpa using ew) bK hs
 ·have hj:(i+(aE.toArray.size:Int)).toNat=j:=by
   rw[seqIndex_neg (by omega) h4] at h1
   rw[List.size_toArray,<- hl];exact Option.some.inj h1
  exact subscriptTail_builtinR (x:=w) pl.isList.typeIs slot_list_getitem.lookup
   (wpAny_getItem_list_neg (Q:=λ r s'=>r=w/\EP X aB σ Q r s') pl.isList (by omega) (by rw[List.size_toArray]<;>omega) (by omega) (by rw[hj];simpa using ew) ⟨rfl,bK⟩) hs
theorem aQI:rP X (aT7 X.K):=by
 intro value lF aB s σ H x y v u Q I rx ry h hs;obtain⟨p,xs,i,z,rfl,rfl,hq,he,q⟩:=h;cases rx;obtain⟨t,rfl⟩:=ry;obtain⟨aE,r,pl,hz⟩:=I.tuple hq;obtain⟨j,h1,h2,h3,h4,h5⟩:=aBX he;obtain⟨w,ew,rw'⟩:=r.get h2;have hl:=r.length;have hn:=mX;have bK:EP X aB σ Q w s:=⟨z,H,I,rw',q⟩;exact subscriptTail_builtinR (x:=w) pl.typeIs slot_tuple_getitem.lookup
  (getItem_tuple (j:=j) (Q:=λ r s'=>r=w/\EP X aB σ Q r s') pl (by omega) (by omega) (by rw[List.size_toArray,<- hl];exact h1) (by simpa using ew) ⟨rfl,bK⟩) hs
theorem aRA:rP X aUP:=by
 intro value lF aB s σ H x y v u Q I rx ry h hs;obtain⟨z,i,c,rfl,rfl,hz,he,q⟩:=h;obtain⟨t,rfl⟩:=rx;obtain⟨t',rfl⟩:=ry;obtain⟨j,h1,h2,h3,h4,h5⟩:=aBX he;have hl:z.cps.toList.length=z.length:=by simp[Str.length]
 rw[hl] at h1 h4 h5;have hn:=mX;exact tail_any (typeIs_str s z t) slot_str_getitem.lookup (getItem_str (c:=c) (by
  have e1:decide (i < -(2^63:Int))=false:=dqF (by omega)
  have e2:decide (i ≥ 2^63)=false:=dqF (by omega)
  rw[e1,e2,Bool.or_false]) (by rw[h1];simpa using h2) ⟨.str ⟨#[c]⟩,H,I.tok _,⟨_,rfl⟩,q⟩) hs
theorem aLc(aE:List Value)(n j:Nat)(u:Value):Obj.mapSeq (·.setIfInBounds j u) {cls:=.type "list",data:=.seq aE.toArray n }={cls:=.type "list",data:=.seq (aE.set j u).toArray n }:=by
 simp[Obj.mapSeq]
theorem Inv.lst{aB:List (Addr × Obj)}{σ:St}{H:Hp}{s:Shared}{p:Addr}{xs:List V}(I:Inv X aB σ H s)(h:H p=some (.lst xs)) :
 ∃ (aE:List Value) (n:Nat),aW xs aE/\s.heap.get? p=some {cls:=.type "list",data:=.seq aE.toArray n }/\xs.length<=sizeLine:=by
 obtain⟨z,aE,n,r,e⟩:=I.hok p _ h;exact⟨aE,n,r,e,z⟩
theorem Inv.lstUpd{aB:List (Addr × Obj)}{σ:St}{H:Hp}{s:Shared}{p:Addr}{xs ys:List V}{aE its':List Value}{n n':Nat}{f:Obj->Obj}(I:Inv X aB σ H s)(h:H p=some (.lst xs))
 (ho:s.heap.get? p=some {cls:=.type "list",data:=.seq aE.toArray n }) (hf:f {cls:=.type "list",data:=.seq aE.toArray n }={cls:=.type "list",data:=.seq its'.toArray n' }) (r:aW ys its') (hz:ys.length<=sizeLine) (t:Nat) :
 Inv X aB σ (bB H p (.lst ys)) {s with heap:=s.heap.update p f,toks:=t }:=by
 have e:(s.heap.update p f).get? p=some {cls:=.type "list",data:=.seq its'.toArray n' }:=by
  rw[Heap.get?_update_self f ho (by rw[hf]<;>rfl),hf]
 refine I.write (x:=p) (e:=p) (by rw[h];trivial) (.inl rfl) (λ b u hb q=>(Heap.get?_update_other _ _ (Ne.symm hb)).trans q) ⟨_,e⟩ ?_
 exact⟨hz,its',n',r,e⟩
noncomputable def aIm:V->V->V->Hp->(Hp->Prop)->Prop:=λ o i v H Q=>∃ p xs k j,o=.ref p/\i=.int k/\H p=some (.lst xs)/\jB xs.length k=some j/\Q (bB H p (.lst (xs.set j v)))
theorem aMz:aIZ X aIm:=by
 intro aB s σ H o i v ov iv u Q I ro ri rv h;obtain⟨p,xs,k,j,rfl,rfl,hp,hj,q⟩:=h;cases ro;obtain⟨t,rfl⟩:=ri;obtain⟨aE,n,r,ho,hz⟩:=I.lst hp;obtain⟨h1,h2,h3,h4⟩:=aGC hj;have hl:=r.length;have hn:=mX;have I':Inv X aB σ (bB H p (.lst (xs.set j v))) {s with heap:=s.heap.update p (Obj.mapSeq (·.setIfInBounds j u)) }:=
  I.lstUpd hp ho (aLc aE n j u) (r.set rv j) (by rw[List.length_set];exact hz) s.toks
 by_cases h0:0<=k
 ·have hk:k.toNat=j:=by
   rw[seqIndex_of h0 h4] at h1;exact Option.some.inj h1
  exact PySem.W.ki_setAt ho h0 (by omega) (by rw[List.size_toArray,<- hl];exact h4) (by rw[hk];exact⟨_,I',q⟩)
 ·have hk:(k+(aE.toArray.size:Int)).toNat=j:=by
   rw[seqIndex_neg (by omega) h3] at h1
   rw[List.size_toArray,<- hl];exact Option.some.inj h1
  exact PySem.W.ki_setBack ho (by omega) (by rw[List.size_toArray,<- hl];exact h3) (by omega) (by rw[hk];exact⟨_,I',q⟩)
theorem aKv(lo hi:Option Int)(n:Nat):(sliceBounds lo hi none n).1=((HT.sIx n 0 lo:Nat):Int)/\(sliceBounds lo hi none n).2.1=((HT.sIx n n hi:Nat):Int)/\(sliceBounds lo hi none n).2.2=1:=by
 refine⟨?_,?_,rfl⟩
 ·cases lo with
  | none=>simp[sliceBounds,HT.sIx]
  | some i =>
    simp only[sliceBounds,HT.sIx,Option.getD_none,show(1:Int) > 0 by decide,if_true]
    by_cases h:i < 0
    ·simp only[h,if_true]<;>omega
    ·simp only[h,if_false]<;>omega
 ·cases hi with
  | none=>simp[sliceBounds,HT.sIx]
  | some i =>
    simp only[sliceBounds,HT.sIx,Option.getD_none,show(1:Int) > 0 by decide,if_true]
    by_cases h:i < 0
    ·simp only[h,if_true]<;>omega
    ·simp only[h,if_false]<;>omega
theorem aKl(aE:List Value)(lo hi:Option Int):slicePick aE.toArray lo hi none=((aE.drop (HT.sIx aE.length 0 lo)).take (HT.sIx aE.length aE.length hi - HT.sIx aE.length 0 lo)).toArray:=by
 obtain⟨h1,h2,h3⟩:=aKv lo hi aE.toArray.size;unfold slicePick;rw[h1,h2,h3];simp only[sliceRange_one,pick_run,List.size_toArray]<;>rfl
noncomputable def aVb(K:FrG):V->Option Int->Option Int->Hp->VK->Prop:=λ x lo hi H Q=>∃ a xs,x=.ref a/\bR K H a xs/\∀ p,H p=none->Q (.ref p) (bB H p (.lst (lZ xs lo hi)))
theorem aNw:SlR X (aVb X.K):=by
 intro aB s σ H x v vl vu lo hi sl Q I rx hs pl pu h;obtain⟨a,xs,rfl,hx,q⟩:=h;cases rx;obtain⟨aE,r,ht,hz⟩:=I.list hx;have cH:=r.length;refine⟨"list",_,slot_list_getitem.lookup,ht.isList.typeIs,?_⟩;refine wpAny_getItem_list_slice ht.isList hs pl pu .none (by simp) ?_ (by rw[List.size_toArray]<;>omega)
 rw[aKl,<- cH];refine⟨.ref s.heap.objs.size,_,I.laid (t':=s.toks) (o:=.lst (lZ xs lo hi)) (λ b ob q=>hpS _ q) (Nat.le_refl _) ?_,rfl,q _ (I.hok.fresh (Nat.le_refl _))⟩
 exact⟨xAi (aEd xs lo hi) hz,_,0,(r.drop (HT.sIx xs.length 0 lo)).take (HT.sIx xs.length xs.length hi - HT.sIx xs.length 0 lo),xAe _ rfl⟩
noncomputable def kU:V->Bool
 | .non=>true
 | .bl _=>true
 | .int _=>true
 | .str _=>true
 | _=>false
noncomputable def mG:V->V->Bool
 | .non,.non=>true
 | .bl a,.bl b=>a==b
 | .bl a,.int b=>(if a then 1 else 0)==b
 | .int a,.bl b=>a==(if b then 1 else 0)
 | .int a,.int b=>a==b
 | .str a,.str b=>a==b
 | _,_=>false
theorem aQb{A:Around}{s:Shared}{y x:V}{u v:Value}(ry:aZ y u)(rx:aZ x v)(fy:kU y=true)(fx:kU x=true):SeqAt.EqAt A s u v (mG y x):=by
 cases y with
 | non =>
   cases ry;cases x with
   | non=>cases rx;exact SeqAt.EqAt.same _
   | bl b=>cases rx;exact SeqAt.EqAt.none_bool b
   | int b=>obtain⟨t,rfl⟩:=rx;exact SeqAt.EqAt.none_int b t
   | str b=>obtain⟨t,rfl⟩:=rx;exact SeqAt.EqAt.none_str b t
   | _=>exact absurd (show false=true from fx) Bool.false_ne_true
 | bl a =>
   cases ry;cases x with
   | non=>cases rx;exact SeqAt.EqAt.bool_none a
   | bl b=>cases rx;exact SeqAt.EqAt.bool_bool a b
   | int b=>obtain⟨t,rfl⟩:=rx;exact SeqAt.EqAt.bool_int a b t
   | str b=>obtain⟨t,rfl⟩:=rx;exact SeqAt.EqAt.bool_str a b t
   | _=>exact absurd (show false=true from fx) Bool.false_ne_true
 | int a =>
   obtain⟨t',rfl⟩:=ry;cases x with
   | non=>cases rx;exact SeqAt.EqAt.int_none a t'
   | bl b=>cases rx;exact SeqAt.EqAt.int_bool a t' b
   | int b=>obtain⟨t,rfl⟩:=rx;exact SeqAt.EqAt.int_int a t' b t
   | str b=>obtain⟨t,rfl⟩:=rx;exact SeqAt.EqAt.int_str a t' b t
   | _=>exact absurd (show false=true from fx) Bool.false_ne_true
 | str a =>
   obtain⟨t',rfl⟩:=ry;cases x with
   | non=>cases rx;exact SeqAt.EqAt.str_none a t'
   | bl b=>cases rx;exact SeqAt.EqAt.str_bool a t' b
   | int b=>obtain⟨t,rfl⟩:=rx;exact SeqAt.EqAt.str_int a t' b t
   | str b=>obtain⟨t,rfl⟩:=rx;exact SeqAt.EqAt.str_str a t' b t
   | _=>exact absurd (show false=true from fx) Bool.false_ne_true
 | _=>exact absurd (show false=true from fy) Bool.false_ne_true
noncomputable def gR(x:V)(u:Value):Bool:=match u with
 | .none=>mG .non x
 | .bool b=>mG (.bl b) x
 | .int i _=>mG (.int i) x
 | .str z _=>mG (.str z) x
 | _=>false
theorem aH0{x y:V}{u:Value}(r:aZ y u)(f:kU y=true):gR x u=mG y x:=by
 cases y with
 | non=>cases r;rfl
 | bl b=>cases r;rfl
 | int i=>obtain⟨t,rfl⟩:=r;rfl
 | str z=>obtain⟨t,rfl⟩:=r;rfl
 | _=>exact absurd (show false=true from f) Bool.false_ne_true
theorem tB{x:V}:∀ {xs:List V}{us:List Value},aW xs us->xs.all kU=true->us.any (gR x)=xs.any λ y=>mG y x
 | _,_,.nil,_=>rfl
 | y::xs,u::us,.cons r t,f=>by
   rw[List.all_cons,Bool.and_eq_true] at f;rw[List.any_cons,List.any_cons,aH0 r f.1,tB t f.2]
theorem sN{A:Around}{s:Shared}{x:V}{v:Value}(rx:aZ x v)(fx:kU x=true):∀ {xs:List V}{us:List Value},aW xs us->xs.all kU=true->∀ u∈us,SeqAt.EqAt A s u v (gR x u)
 | _,_,.nil,_=>λ u hu=>by cases hu
 | y::xs,u::us,.cons r t,f=>λ u' hu=>by
   rw[List.all_cons,Bool.and_eq_true] at f;rcases List.mem_cons.mp hu with rfl | hu
   ·rw[aH0 r f.1];exact aQb r rx f.1 fx
   ·exact sN rx fx t f.2 u' hu
noncomputable def rM(x:V)(xs:List V):Bool:=xs.any λ y=>mG y x
noncomputable def rIn(K:FrG)(neg:Bool):R2:=λ x y H Q=>∃ p xs,y=.ref p/\(bR K H p xs\/bS K H p xs)/\kU x=true/\xs.all kU=true/\Q (.bl (if neg then !rM x xs else rM x xs)) H
theorem aLA:cO X (compareOp .In) (rIn X.K false):=by
 intro aB s σ H x y v u Q I rx ry h;obtain⟨p,xs,rfl,hq,fx,fs,q⟩:=h;cases ry;rcases hq with hq | hq
 ·obtain⟨aE,r,pl,hz⟩:=I.list hq;refine SeqAt.in_listAt (gR x) pl.isList (λ w hw=>sN rx fx r fs w (by simpa using hw)) ⟨.bl _,H,I,rfl,?_⟩
  rw[show aE.toArray.any (gR x)=aE.any (gR x) by simp,tB r fs]
  exact q
 ·obtain⟨aE,r,pl,hz⟩:=I.tuple hq;refine SeqAt.in_tupleAt (gR x) pl (λ w hw=>sN rx fx r fs w (by simpa using hw)) ⟨.bl _,H,I,rfl,?_⟩
  rw[show aE.toArray.any (gR x)=aE.any (gR x) by simp,tB r fs]
  exact q
theorem aKz:cO X (compareOp .NotIn) (rIn X.K true):=by
 intro aB s σ H x y v u Q I rx ry h;obtain⟨p,xs,rfl,hq,fx,fs,q⟩:=h;cases ry;rcases hq with hq | hq
 ·obtain⟨aE,r,pl,hz⟩:=I.list hq;refine SeqAt.notIn_listAt (gR x) pl.isList (λ w hw=>sN rx fx r fs w (by simpa using hw)) ⟨.bl _,H,I,rfl,?_⟩
  rw[show aE.toArray.any (gR x)=aE.any (gR x) by simp,tB r fs]
  exact q
 ·obtain⟨aE,r,pl,hz⟩:=I.tuple hq;refine SeqAt.notIn_tupleAt (gR x) pl (λ w hw=>sN rx fx r fs w (by simpa using hw)) ⟨.bl _,H,I,rfl,?_⟩
  rw[show aE.toArray.any (gR x)=aE.any (gR x) by simp,tB r fs]
  exact q
theorem aD3:dY X (.builtin "len") (λ xs H Q=>∃ p ys,xs=[.ref p]/\(bR X.K H p ys\/bS X.K H p ys)/\Q (.int ys.length) H):=by
 intro aB s σ H xs us Q I r h;obtain⟨p,ys,rfl,hq,q⟩:=h;obtain⟨u,rfl,rx⟩:=iW r;cases rx;have hn:=mX;rcases hq with hq | hq
 ·obtain⟨aE,r',pl,hz⟩:=I.list hq;have cH:=r'.length;exact Calls.call_len_list pl.isList (by simp only[List.size_toArray]<;>omega) ⟨.int ys.length,H,I.tok _,⟨s.toks+1,by rw[List.size_toArray,cH]⟩,q⟩
 ·obtain⟨aE,r',pl,hz⟩:=I.tuple hq;have cH:=r'.length;exact len_tuple pl (by simp only[List.size_toArray]<;>omega) ⟨.int ys.length,H,I.tok _,⟨s.toks+1,by rw[List.size_toArray,cH]⟩,q⟩
theorem aKD:dY X (.builtin "len") (λ xs H Q=>∃ z,xs=[.str z]/\z.length<=sizeLine/\Q (.int z.length) H):=by
 intro aB s σ H xs us Q I r h;obtain⟨z,rfl,hz,q⟩:=h;obtain⟨u,rfl,t,rfl⟩:=iW r;have hn:=mX;exact len_str (by omega) ⟨.int z.length,H,I.tok _,⟨_,rfl⟩,q⟩
theorem aDX:dY X (.type "tuple") (λ xs H Q=>∃ p ys,xs=[.ref p]/\((bR X.K H p ys/\∀ l,H l=none->Q (.ref l) (bB H l (.tup ys)))\/(bS X.K H p ys/\Q (.ref p) H))):=by
 intro aB s σ H xs us Q I r h;obtain⟨p,ys,rfl,h⟩:=h;obtain⟨u,rfl,rx⟩:=iW r;cases rx;rcases h with ⟨hq,q⟩ | ⟨hq,q⟩
 ·obtain⟨aE,r',pl,hz⟩:=I.list hq;have cH:=r'.length;refine call_tuple_list pl.isList (λ h' kp=>?_) (by simp only[List.size_toArray]<;>omega)
  have I1:Inv X aB σ H {s with heap:=h' }:=I.kept (t':=s.toks) kp
  have I2:Inv X aB σ (bB H h'.objs.size (.tup ys)) {s with heap:=h'.push {cls:=.type "tuple",data:=.seq aE.toArray } }:=
   I1.laid (t':=s.toks) (λ b o e=>hpS _ e) (Nat.le_refl _) (show gZ X.prog X.w _ _ _ (.tup ys) from ⟨hz,aE,r',IsTup.new _ _⟩)
  exact⟨.ref h'.objs.size,_,I2,rfl,q _ (I1.hok.fresh (Nat.le_refl _))⟩
 ·obtain⟨aE,r',pl,hz⟩:=I.tuple hq;exact call_tuple_same pl ⟨.ref p,H,I,rfl,q⟩
def tyV(K:FrG)(T:String)(x:V)(H:Hp):Prop:=match x with
 | .str _=>T = "str"
 | .int _=>T = "int"
 | .ref p=>(T = "list" /\ ∃ xs,bR K H p xs)\/(T = "tuple" /\ ∃ o,K.lookup p=some o/\o.cls=.type "tuple" /\ o.dict=none) \/
    (T = "dict" /\ ((∃ aU,H p=some (.dK aU))\/∃ aU,H p=some (.dT aU)))\/(T = "set" /\ ∃ S n,H p=some (.set S n))
 | _=>False
theorem aHz{aB:List (Addr × Obj)}{σ:St}{H:Hp}{s:Shared}{T:String}{x:V}{v:Value}(I:Inv X aB σ H s)(r:aZ x v)(ty:tyV X.K T x H) :
 s.TypeIs v T/\∀ a,v=.ref a->∃ ob,s.heap.get? a=some ob/\ob.dict=none:=by
 cases x with
 | str z =>
   obtain⟨t,rfl⟩:=r;cases (show T = "str" from ty)
   exact⟨typeIs_str s z t,λ _ e=>nomatch e⟩
 | int i =>
   obtain⟨t,rfl⟩:=r;cases (show T = "int" from ty)
   exact⟨typeIs_int s i t,λ _ e=>nomatch e⟩
 | ref p =>
   cases r;rcases ty with ⟨rfl,xs,hq⟩ | ⟨rfl,o,hk,hc,hd⟩ | ⟨rfl,hk⟩ | ⟨rfl,S,n,hk⟩
   ·obtain⟨aE,_,pl,_⟩:=I.list hq;refine⟨pl.isList.typeIs,λ a e=>?_⟩
    cases e;obtain⟨o,n,e,c,hd,_⟩:=pl;exact⟨o,e,hd⟩
   ·refine⟨⟨o,I.kIn p o hk,hc⟩,λ a e=>?_⟩
    cases e;exact⟨o,I.kIn _ o hk,hd⟩
   ·have z:∃ o,s.heap.get? p=some o/\o.ExactDict:=by
     rcases hk with ⟨aU,hk⟩ | ⟨aU,hk⟩
     ·obtain⟨_,_,_,_,o,_,_,e,ex,_⟩:=I.hok p _ hk;exact⟨o,e,ex⟩
     ·obtain⟨_,_,_,_,o,_,_,e,ex,_⟩:=I.hok p _ hk;exact⟨o,e,ex⟩
    obtain⟨o,e,ex⟩:=z;refine⟨⟨o,e,ex.1⟩,λ a e2=>?_⟩
    cases e2;exact⟨o,e,ex.2.1⟩
   ·obtain⟨o,_,_,_,e,ex,_⟩:=I.hok p _ hk;refine⟨⟨o,e,ex.1⟩,λ a e2=>?_⟩
    cases e2;exact⟨o,e,ex.2.1⟩
 | _=>exact False.elim ty
noncomputable def aUJ(K:FrG)(T:String)(r:V->List V->Hp->VK->Prop)(to:TE):TE:=λ σ H Q=>to σ H λ x H1=>tyV K T x H1/\r x [] H1 Q
noncomputable def tBM(K:FrG)(T:String)(r:V->List V->Hp->VK->Prop)(to:TE)(t:TA):TE:=λ σ H Q=>to σ H λ x H1=>tyV K T x H1/\t σ H1 λ xs H2=>r x xs H2 Q
variable {o e : Expr}{es : List Expr}{to : TE}{t : TA}{name : Str}{apos cpos : Pos}{T id : String}{r : V -> List V -> Hp -> VK -> Prop}
theorem aP0(pa:PlainAttrs T)(slot:Slot T name id)(hty:typeOf (.builtin id)=pure (.type "method_descriptor"))(hm:MtR X id r)(ho:PE X o to)
 (hbase:attributeBase o name X.env (eval o X.env)=eval o X.env:=by rfl) (hline:(apos.endLine==cpos.line)=true:=by rfl):PE X (.Call (.Attribute o name apos) [] [] cpos) (aUJ X.K T r to):=by
 intro aB s σ H Q I h;refine wpAny_Call_method0_late hbase hline (bA (ho aB s σ H _ I h) λ v s1 hPq29=>?_)
 obtain⟨x,H1,I1,r1,ty,q1⟩:=hPq29;obtain⟨h1,h2⟩:=aHz I1 r1 ty;exact⟨T,id,pa,slot,hty,h1,h2,Calls.callWith_builtin rfl (PySem.evalArgs_none (hm aB s1 σ H1 x [] v [] Q I1 r1 .nil q1))⟩
theorem aId(pa:PlainAttrs T)(slot:Slot T name id)(hty:typeOf (.builtin id)=pure (.type "method_descriptor"))(hm:MtR X id r)(ho:PE X o to)(ha:PA X (e::es) t)
 (hbase:attributeBase o name X.env (eval o X.env)=eval o X.env:=by rfl)
 (hfew:((backTo cpos (starEach (e::es) X.env)).all (λ x=>!x.1)&&(backToKw cpos (keywordEach [] X.env)).all (λ x=>x.1.isSome)
   && decide ((e::es).length+([]:List Keyword).length+(if ([]:List Keyword).isEmpty then 0 else 1) < 30))=true:=by rfl)
 (hline:(apos.endLine==cpos.line)=true:=by rfl) (hs:starEach (e::es) X.env=(false,eval e X.env)::starEach es X.env:=by rfl) (hplain:(backTo cpos (starEach es X.env)).any (·.1)=false:=by rfl) :
 PE X (.Call (.Attribute o name apos) (e::es) [] cpos) (tBM X.K T r to t):=by
 intro aB s σ H Q I h;refine wpAny_Call_method_late hbase hfew hline rfl (bA (ho aB s σ H _ I h) λ v s1 hPq30=>?_)
 obtain⟨x,H1,I1,r1,ty,q1⟩:=hPq30;obtain⟨h1,h2⟩:=aHz I1 r1 ty;refine⟨T,id,pa,slot,hty,h1,h2,?_⟩;have hA:=ha cpos aB s1 σ H1 _ I1 q1;rw[hs] at hA ⊢;refine Calls.callWith_builtin (by show(false||(backTo cpos (starEach es X.env)).any (·.1))=false;rw[hplain]<;>rfl) (Calls.evalArgs_plain ?_)
 exact bA hA λ us s2 ⟨vs,H2,I2,r2,q2⟩=>hm aB s2 σ H2 x vs v us Q I2 r1 r2 q2
end
end L2
namespace L2
open PySem PySem.Spec PyProof.Rows
def MtM(X:Cx)(id:String)(r:V->List V->Hp->VK->Prop):Prop:=
 ∀ (aB:List (Addr × Obj)) (s:Shared) (σ:St) (H:Hp) (x:V) (xs:List V) (v:Value) (us:List Value) (Q:VK),Inv X aB σ H s->aZ x v->aW xs us->r x xs H Q ->
  wpAny (model X.prog X.w) X.A (call (.builtin id) (v::us)) (EP X aB σ Q) X.xe s
theorem aW.one:∀ {x:V}{us:List Value},aW [x] us->∃ u,us=[u]/\aZ x u
 | _,_,.cons r .nil=>⟨_,rfl,r⟩
theorem aW.rep{xs:List V}{us:List Value}(h:aW xs us):∀ k:Nat,aW (List.replicate k xs).flatten (List.replicate k us).flatten
 | 0=>.nil
 | k+1=>by
   rw[List.replicate_succ,List.replicate_succ,List.flatten_cons,List.flatten_cons];exact aW.append h (aW.rep h k)
theorem xE(aE:List Value):∀ (k:Nat) (aF:List Value),
 List.foldl (λ x1 x2=>x1++x2) aF.toArray (List.replicate k aE.toArray)=(aF++(List.replicate k aE).flatten).toArray
 | 0,aF=>by simp
 | k+1,aF=>by
   have e:aF.toArray++aE.toArray=(aF++aE).toArray:=by simp
   have e2:(aF++aE)++(List.replicate k aE).flatten=aF++(List.replicate (k+1) aE).flatten:=by
    rw[List.replicate_succ,List.flatten_cons,List.append_assoc]
   rw[<- e2,<- xE aE k (aF++aE),<- e,List.replicate_succ,List.foldl_cons]
section
variable {X : Cx}{aB : List (Addr × Obj)}{σ : St}{H : Hp}{s : Shared}{l b : Addr}{xs ys zs : List V}
theorem Inv.lset{aE its':List Value}{n:Nat}{f:Array Value->Array Value}{t':Nat}(I:Inv X aB σ H s)(hH:H l=some (.lst xs))
 (e:s.heap.get? l=some {cls:=.type "list",data:=.seq aE.toArray n }) (hf:f aE.toArray=its'.toArray) (hv:aW ys its') (hz:ys.length<=sizeLine) :
 Inv X aB σ (bB H l (.lst ys)) {s with heap:=s.heap.update l (Obj.mapSeq f),toks:=t' }:=by
 have q:=PySem.IsL.update e f;rw[hf] at q;refine I.write (x:=l) (e:=l) (by rw[hH];exact trivial) (.inl rfl) (λ b' u hb hu=>(Heap.get?_update_other s.heap (Obj.mapSeq f) (Ne.symm hb)).trans hu) ⟨_,q⟩ ?_
 exact⟨hz,its',_,hv,q⟩
theorem Inv.lnew{aE:List Value}{t':Nat}(I:Inv X aB σ H s)(hv:aW ys aE)(hz:ys.length<=sizeLine) :
 Inv X aB σ (bB H s.heap.objs.size (.lst ys)) {s with heap:=s.heap.push {cls:=.type "list",data:=.seq aE.toArray },toks:=t' }:=
 I.laid (λ _ _ q=>hpS _ q) (Nat.le_refl _) ⟨hz,aE,0,hv,xAe _ rfl⟩
theorem Inv.fresh(I:Inv X aB σ H s):H s.heap.objs.size=none:=I.hok.fresh (Nat.le_refl _)
theorem Inv.lstM(I:Inv X aB σ H s)(hH:H l=some (.lst xs)):xs.length<=sizeLine/\∃ (aE:List Value) (n:Nat),aW xs aE/\xs.length=aE.length/\s.heap.get? l=some {cls:=.type "list",data:=.seq aE.toArray n }:=by
 obtain⟨z,aE,n,r,e⟩:=I.hok l _ hH;exact⟨z,aE,n,r,r.length,e⟩
end
section
variable {X : Cx}
noncomputable def aGu:V->List V->Hp->VK->Prop:=λ x vs H Q=>∃ l xs y,x=.ref l/\vs=[y]/\H l=some (.lst xs)/\xs.length < sizeLine/\Q .non (bB H l (.lst (xs++[y])))
theorem aEY:MtM X "list.append" aGu:=by
 intro aB s σ H x vs v us Q I rx rv h;obtain⟨l,xs,y,rfl,rfl,hH,hz,q⟩:=h;cases rx;obtain⟨u,rfl,ru⟩:=rv.one;obtain⟨z,aE,n,r,hl,e⟩:=I.lstM hH;refine call_meets F.slot_list_append ⟨_,e,rfl⟩ F.entry_list_append (F.args_list_append_2 _ _) (PySem.list_append l aE.toArray n u (by rw[List.size_toArray];omega)) ⟨e,?_⟩
 refine⟨.non,_,I.lset (its':=aE++[u]) hH e (by simp) (r.append (.cons ru .nil)) ?_,rfl,q⟩
 rw[xAo,List.length_singleton];omega
theorem aNq{α:Type}(xs:List α)(k:Nat):(List.replicate k xs).flatten.length=k*xs.length:=by
 induction k with
 | zero=>simp
 | succ k ih=>rw[List.replicate_succ,List.flatten_cons,xAo,ih,Nat.succ_mul,Nat.add_comm]
end
section
variable {prog : Program}{w : World}{A : Around}{E : Value -> Shared -> Prop}{s : Shared}
end
section
variable {X : Cx}
end
end L2
namespace Att
open PySem PySem.W PySem.Calls PyProof.Rows
theorem aKd{P:Params}{h:Heap}:∀ (ns:List Int) (vs:List Value),WellAll P h vs (ns.map WData.int)->IntsAre vs ns:=by
 intro ns
 induction ns with
 | nil =>
   intro vs w;rw[List.map_nil] at w;cases w;exact .nil
 | cons n ns ih =>
   intro vs w;rw[List.map_cons] at w;cases w with
   | cons a b =>
     cases a;exact .cons _ _ (ih _ b)
theorem script_of{l:OpenLaw}{n:Nat}(hn:l.most=some n){P:Params}{h:Heap}{args:List WData}{vals:List Value}
 (hpre:l.row.toRowW.claim.pre args=true) (hwl:WellAll P h vals args) :
 ∃ a vs ns,vals=[Value.ref a]/\args=[WData.list (ns.map WData.int)]/\h.get? a=some {cls:=.type "list",data:=.seq vs.toArray }/\IntsAre vs ns/\ns.length<=n:=by
 have hsh:WShape.hasAll [] args [.list .int]=true:=(pre_splitW hpre).1;have hc:l.pre.holds [] {args:=args }=true:=(pre_splitW hpre).2;obtain⟨d,r,rfl,h1,h2⟩:=hasAllW_cons hsh;obtain rfl:=hasAllW_nil h2;obtain⟨xs,rfl,h3⟩:=hasW_list h1;obtain⟨ns,rfl⟩:=items_int h3;have cH:ns.length<=n:=by
  unfold OpenLaw.pre at hc;have h4:(WTm.not (.lt (.lit (.int (n:Int))) (.len (.arg 0)))).holds [] {args:=[.list (ns.map .int)] }=true:=by
   have h4:=(holds_andW hc).1;rw[hn] at h4;exact h4
  have h5:=condW_of h4 (w_not (w_lt w_lit (w_len_list (w_arg rfl))));rw[List.length_map] at h5;refine Nat.le_of_not_lt λ q=>?_
  have q':(n:Int) < ((ns.length:Nat):Int):=by omega
  first
   | (rw[dqT q'] at h5;exact absurd h5 (by decide))
   | (simp at h5;omega)
 cases hwl with
 | cons w1 w2 =>
   cases w2;cases w1 with
   | list ho hall=>exact⟨_,_,ns,rfl,rfl,ho,aKd ns _ hall,cH⟩
theorem post_true(l:OpenLaw)(args:List WData):l.row.toRowW.claim.post args (.bool true) args=true:=
 postW_of (r:=l.row.toRowW) (X:=(true==true))
  (show WShape.has [] (.bool true) .bool=true by first | rfl | decide | simp[WShape.has,WShape.arms,WShape.armsAll])
  (show(WTm.eq .res (.lit (.bool true))).value [] {args:=args,res:=some (.bool true),after:=args }=some (.bool (true==true)) from w_eq_bool (w_res rfl) w_lit) rfl
section
variable {prog : Program}{w : World}{A : Around}{E : Value -> Shared -> Prop}{s : Shared}{K : Frag}
noncomputable def aVo(h:Heap)(L d:Addr):List (Addr × Obj):=(List.range h.objs.size).filterMap λ a=>if a=L\/a=d then none else (h.get? a).map λ o=>(a,o)
end
end Att
namespace L2
open PySem PySem.Spec PyProof.Rows
theorem aED:∀ {vs:List Value}{ns:List Int},IntsAre vs ns->aW (ns.map V.int) vs
 | _,_,.nil=>.nil
 | _,_,.cons n t h=>.cons ⟨t,rfl⟩ (aED h)
def aJk(H:Hp):Prop:=∀ b,H b=none\/∃ o xs,H b=some (.frz o (.lst xs))
theorem law_call{P:Program}{w:World}{K:FrG}{mg mb:Str->Option Value}{CX:lB}{k:Nat}{fa a:Addr}{fd:FuncData}{x:Str}{sp:Sp}{s₁:Shared}{vs:List Value}{ns:List Int}
 (KX:K.In s₁.heap) (hns:s₁.heap.Ns mainGlobals mg) (hb:s₁.heap.Ns builtinsNs mb) (hbb:∀ x:Str,x ≠ "__name__" -> mb x=bootBuiltins x) (hlim:s₁.heap.NoLimit) (hg:s₁.gens = #[])
 (ha:s₁.heap.get? a=some {cls:=.type "list",data:=.seq vs.toArray }) (hi:IntsAre vs ns) (hl:ns.length<=sizeLine) (hr:Room k callerA)
 (F:∀ base:Heap,K.In base->base.Ns mainGlobals mg->FnOk P w K mg base CX k fa fd [x] sp) (hbind:∀ (s:Shared) (u:Value),BindsTo s fd ⟨[u],[]⟩ [(x,u)])
 (hsp:∀ H:Hp,aJk H->bR K H a (ns.map V.int)->sp [.ref a] H (λ v _=>v=.bl true) λ _ _ _=>False)
 (hCX:∀ H e s',CX [] H s₁ (λ _ _ _=>False) e s'->False) :
 codeAny (model P w) callerA (.call (.ref fa) ⟨[.ref a],[]⟩) (λ r s'=>r=.ok (.ret (.bool true))/\OldK s₁.heap s'.heap/\s'.os=s₁.os/\AllBare s'.gens) s₁:=by
 have rv:=aED hi;have lenV:=hi.length;have core:∀ H:Hp,aJk H->bR K H a (ns.map V.int)->dH P w H s₁.heap->(∀ b,H b≠none->b=a)->(H a≠none->K.lookup a=none) ->
  codeAny (model P w) callerA (.call (.ref fa) ⟨[.ref a],[]⟩) (λ r s'=>r=.ok (.ret (.bool true))/\OldK s₁.heap s'.heap/\s'.os=s₁.os/\AllBare s'.gens) s₁:=by
  intro H hO hS hok hA hK;have qC:∀ {b:Addr}{o:Obj},s₁.heap.get? b=some o->H b=none->(lW s₁.heap H).get? b=some o:=λ e n=>aMu e n
  have noA:∀ {b:Addr}{o:Obj}{es:Array DictEntry}{ep:Nat},s₁.heap.get? b=some o->o.data=.dict es ep->H b=none:=λ {b o es ep} e d=>by
   cases q:H b with
   | none=>rfl
   | some u =>
     have e':b=a:=hA b (by rw[q];simp)
     subst e';rw[ha] at e;cases e;have d':Data.seq vs.toArray _=Data.dict es ep:=d;cases d'
  have nsK:∀ {b:Addr}{m:Str->Option Value},s₁.heap.Ns b m->(lW s₁.heap H).Ns b m:=λ {b m} ⟨o,es,ep,e,d,r⟩=>⟨o,es,ep,qC e (noA e d),d,r⟩
  have hKb:K.In (lW s₁.heap H):=λ b o e=>qC (KX b o e) (by
   cases q:H b with
   | none=>rfl
   | some u =>
     have e':b=a:=hA b (by rw[q];simp)
     subst e';rw[hK (by rw[q];simp)] at e;cases e)
  have hM:Mod K mg (lW s₁.heap H):=⟨hKb,nsK hns,⟨mb,nsK hb,hbb⟩,let ⟨mc,h1,h2⟩:=hlim;⟨mc,nsK h1,h2⟩⟩;have e0:Env0 P w K mg (lW s₁.heap H) callerA [] s₁ H:=⟨rfl,hM,λ b o e=>aOi e,Nat.le_of_eq (aL3 _ _),trivial,λ b hb=>absurd (show b∈([]:List Addr) from hb) (by simp),hok,.of_eq hg⟩
  refine codeAny_mono ((F _ hKb (nsK hns)).run callerA [] s₁ H ⟨[.ref a],[]⟩ [.ref a] [.ref a] _ _ hr e0 (hbind s₁ (.ref a)) (.cons rfl .nil) (hsp H hO hS)) λ r s' h=>?_
  cases r with
  | error e=>exact(hCX H e s' h).elim
  | ok fl =>
    cases fl with
    | next=>exact False.elim h
    | brk=>exact False.elim h
    | cont=>exact False.elim h
    | ret u =>
      obtain⟨v,H',os,bare,un,hok',r',q⟩:=h;have q':v=.bl true:=q;subst q';obtain rfl:u=Value.bool true:=r';refine⟨rfl,OldK.of_keep λ b o e=>?_,os,bare⟩
      cases q:H b with
      | none=>exact un.keep b o e q (by intro z;exact absurd (show b∈([]:List Addr) from z) (by simp)) (by simp)
      | some u =>
        rcases hO b with z | ⟨ob,xs,z⟩
        ·rw[q] at z;cases z
        ·have z2:=un.frzs b ob _ z;obtain⟨e1,_⟩:=hok b _ z;obtain⟨e2,_⟩:=hok' b _ z2;rw[e] at e1;cases e1;exact e2
 cases hk:K.lookup a with
 | some o =>
   have e:=KX a o hk;rw[ha] at e;cases e;refine core (λ _=>none) (λ _=>.inl rfl) (.inr ⟨_,vs.toArray,_,hk,rfl,rfl,rfl,by rw[List.size_toArray,lenV];exact hl,by simpa using rv⟩) (λ b u z=>by have z':(none:Option HO)=some u:=z;cases z') (λ b z=>absurd rfl z) λ z=>absurd rfl z
 | none =>
   refine core (λ b=>if b=a then some (.frz {cls:=.type "list",data:=.seq vs.toArray } (.lst (ns.map V.int))) else none) (λ b=>?_) (.inl (.inr ⟨{cls:=.type "list",data:=.seq vs.toArray },if_pos rfl⟩)) (λ b u z=>?_) (λ b z=>?_) λ _=>hk
   ·by_cases hb:b=a
    ·exact .inr ⟨_,_,if_pos hb⟩
    ·exact .inl (if_neg hb)
   ·by_cases hb:b=a
    ·have z':=(if_pos hb).symm.trans z;cases z';subst hb;exact⟨ha,by rw[List.length_map];exact hl,vs,_,rv,ha⟩
    ·have z':=(if_neg hb).symm.trans z;cases z'
   ·by_cases hb:b=a
    ·exact hb
    ·exact absurd (if_neg hb) z
end L2
namespace L2
open PySem PySem.Spec PyProof.Rows
noncomputable abbrev KOf{K:FrG}{h:Heap}(_:K.In h):FrG:=K
end L2
namespace L2
open PySem PySem.Spec PyProof.Rows
noncomputable def mO(s:Stmt):Arguments:=match s with
 | .FunctionDef _ a _ _ _ _ _ _ _ _=>a
 | _=>{posonlyargs:=[],args:=[],vararg:=none,kwonlyargs:=[],kw_defaults:=[],kwarg:=none,defaults:=[] }
noncomputable def kJ(s:Stmt):List Stmt:=match s with
 | .FunctionDef _ _ b _ _ _ _ _ _ _=>b
 | _=>[]
noncomputable def eK(s:Stmt):Scope:=match s with
 | .FunctionDef _ _ _ _ _ _ sc _ _ _=>sc
 | _=>{kind:=.function,names:=[],isGenerator:=false,isCoroutine:=false }
noncomputable abbrev rS:lB:=λ _ _ _ _ _ _=>False
noncomputable abbrev E0:XK:=λ _ _ _=>False
theorem aIS{X:Cx}:yS rS X E0:=λ _ _ _ _ _ _ _ h=>h.elim
structure Fun(K:FrG)(x cI:Str)(st:Stmt)(f:Addr)(fd:FuncData):Prop where
 ex:∃ (oc:Value) (od:Option Addr) (kV doc pm:Value) (an:Option Addr) (cdv ct:Value) (osl:Array (Option Value)),
  fd=PySem.W.fnOf x cI (mO st) (kJ st) (eK st) .none kV doc pm an cdv ct/\K.lookup f=some ⟨oc,od,.func fd,osl⟩/\PySem.W.codeIn K cdv cI=true
 kp:PySem.W.keepIn K (.ref f)=true
section
variable {P : Program}{w : World}{K : FrG}{mg : Str -> Option Value}{base : Heap}
theorem Fun.ok{x cI:Str}{st:Stmt}{f:Addr}{fd:FuncData}{N ps:List Str}{k:Nat}{sp:Sp}(F:Fun K x cI st f fd)(S:FnScope N ps (eK st))(len:∀ vs H Q E,sp vs H Q E->vs.length=ps.length)
 (hbody:∀ (cdv:Value) (A:Around) (outer:List Env) (s:Shared) (H:Hp) (vs:List V) (Q:VK) (E:XK),Room k (A.deeper (envOfC cI (eK st) s.heap.objs.size f cdv))->sp vs H Q E ->
   ∃ t,dN (rA rS P w K mg base N cI (eK st) f cdv A outer s H E).nox (kJ st) t/\t {nx:=λ _ H'=>Q .non H',rt:=Q } (start N vs) H):FnOk P w K mg base rS (k+1) f fd ps sp:=by
 obtain⟨oc,od,kV,doc,pm,an,cdv,ct,osl,rfl,lk,hcd⟩:=F.ex;refine aTF lk hcd S len λ A outer s H vs Q E hr hsp=>?_
 obtain⟨t,h,q⟩:=hbody cdv A outer s H vs Q E hr hsp;exact⟨t,h.nox,q⟩
theorem Fun.binds{x cI:Str}{st:Stmt}{f:Addr}{fd:FuncData}{ps:List Str}(F:Fun K x cI st f fd)
 (h:∀ (kV doc pm:Value) (an:Option Addr) (cdv ct:Value) (us:List Value),us.length=ps.length->bindArgs (PySem.W.fnOf x cI (mO st) (kJ st) (eK st) .none kV doc pm an cdv ct) ⟨us,[]⟩=pure (ps.zip us)):lU K fd ps []:=by
 obtain⟨oc,od,kV,doc,pm,an,cdv,ct,osl,rfl,lk,hcd⟩:=F.ex;exact .all (h kV doc pm an cdv ct)
theorem aQJ{x cI:Str}{st:Stmt}{f:Addr}{oc:Value}{od an:Option Addr}{osl:Array (Option Value)}{kV doc pm cdv ct:Value}(l:K.lookup f=some ⟨oc,od,.func (PySem.W.fnOf x cI (mO st) (kJ st) (eK st) .none kV doc pm an cdv ct),osl⟩)
 (c:PySem.W.codeIn K cdv cI=true) (k:PySem.W.keepIn K (.ref f)=true):Fun K x cI st f (PySem.W.fnOf x cI (mO st) (kJ st) (eK st) .none kV doc pm an cdv ct):=⟨⟨oc,od,kV,doc,pm,an,cdv,ct,osl,rfl,l,c⟩,k⟩
end
section
variable {X : Cx}
end
theorem qW{A B:Prop}(h:B):if false=true then A else B:=by
 rw[if_neg Bool.false_ne_true];exact h
theorem qZ{A B:Prop}(h:A):if true=true then A else B:=by
 rw[if_pos rfl];exact h
def cC(H H':Hp):Prop:=∀ b o,H b=some o->H' b=some o
theorem cC.refl(H:Hp):cC H H:=λ _ _ h=>h
theorem cC.trans{H H1 H2:Hp}(a:cC H H1)(b:cC H1 H2):cC H H2:=λ c o h=>b c o (a c o h)
theorem cC.free{H H':Hp}(e:cC H H'){l:Addr}(h:H' l=Option.none):H l=Option.none:=by
 cases q:H l with
 | none=>rfl
 | some o =>
   rw[e l o q] at h;cases h
theorem cC.seq{K:FrG}{H H':Hp}{a:Addr}{xs:List V}(e:cC H H')(h:bR K H a xs):bR K H' a xs:=by
 rcases h with (h | ⟨o,h⟩) | h
 ·exact .inl (.inl (e _ _ h))
 ·exact .inl (.inr ⟨o,e _ _ h⟩)
 ·exact .inr h
end L2
set_option maxHeartbeats 4000000
namespace EV
open PySem L2 PySem.Spec PyProof.Rows
noncomputable abbrev D:=PyData
inductive W where
 | d (x:D) | loc (n:Nat)
noncomputable abbrev aC:=List (Option (List D))
noncomputable abbrev aT:=List (Option W)
noncomputable abbrev St:=L2.St
section
variable (K : FrG)(F : Hp)
mutual
inductive Den:D->V->Prop
 | non:Den .none .non
 | bl (b:Bool):Den (.bool b) (.bl b)
 | int (i:Int):Den (.int i) (.int i)
 | str (x:Str):Den (.str x) (.str x)
 | lst {a:Addr}{xs:List V}{ds:List D}:bR K F a xs->DenL ds xs->Den (.list ds) (.ref a)
 | tup {a:Addr}{xs:List V}{ds:List D}:bS K F a xs->DenL ds xs->Den (.tuple ds) (.ref a)
inductive DenL:List D->List V->Prop
 | nil:DenL [] []
 | cons {d:D}{ds:List D}{x:V}{xs:List V}:Den d x->DenL ds xs->DenL (d::ds) (x::xs)
end
end
theorem iE{K:FrG}{H H':Hp}{a:Addr}{xs:List V}(e:cC H H')(h:bS K H a xs):bS K H' a xs:=by
 rcases h with (h | ⟨o,h⟩) | h
 ·exact .inl (.inl (e _ _ h))
 ·exact .inl (.inr ⟨o,e _ _ h⟩)
 ·exact .inr h
section
variable {K : FrG}{F F' : Hp}
mutual
theorem Den.mono(e:cC F F'):∀ {d:D}{v:V},Den K F d v->Den K F' d v
 | _,_,.non=>.non
 | _,_,.bl b=>.bl b
 | _,_,.int i=>.int i
 | _,_,.str x=>.str x
 | _,_,.lst h r=>.lst (e.seq h) (DenL.mono e r)
 | _,_,.tup h r=>.tup (iE e h) (DenL.mono e r)
theorem DenL.mono(e:cC F F'):∀ {ds:List D}{xs:List V},DenL K F ds xs->DenL K F' ds xs
 | _,_,.nil=>.nil
 | _,_,.cons h r=>.cons (Den.mono e h) (DenL.mono e r)
end
theorem DenL.length:∀ {ds:List D}{xs:List V},DenL K F ds xs->ds.length=xs.length
 | _,_,.nil=>rfl
 | _,_,.cons _ r=>congrArg (· + 1) (DenL.length r)
theorem DenL.get:∀ {ds:List D}{xs:List V}{i:Nat}{d:D},DenL K F ds xs->ds[i]? = some d->∃ x,xs[i]? = some x/\Den K F d x
 | _,_,_,_,.nil,e=>by simp at e
 | _,_,0,_,.cons h _,e=>by simp at e;subst e;exact⟨_,rfl,h⟩
 | _,_,i+1,d,.cons _ r,e=>by
   obtain⟨x,h1,h2⟩:=DenL.get (i:=i) (d:=d) r (by simpa using e)
   exact⟨x,by simpa using h1,h2⟩
theorem DenL.append:∀ {ds es:List D}{xs ys:List V},DenL K F ds xs->DenL K F es ys->DenL K F (ds++es) (xs++ys)
 | _,_,_,_,.nil,s=>s
 | _,_,_,_,.cons h r,s=>.cons h (DenL.append r s)
theorem DenL.take:∀ {ds:List D}{xs:List V} (n:Nat),DenL K F ds xs->DenL K F (ds.take n) (xs.take n)
 | _,_,0,_=>.nil
 | _,_,_+1,.nil=>.nil
 | _,_,n+1,.cons h r=>.cons h (DenL.take n r)
theorem DenL.drop:∀ {ds:List D}{xs:List V} (n:Nat),DenL K F ds xs->DenL K F (ds.drop n) (xs.drop n)
 | _,_,0,r=>r
 | _,_,_+1,.nil=>.nil
 | _,_,n+1,.cons _ r=>DenL.drop n r
theorem DenL.set:∀ {ds:List D}{xs:List V} (i:Nat) {d:D}{x:V},DenL K F ds xs->Den K F d x->DenL K F (ds.set i d) (xs.set i x)
 | _,_,_,_,_,.nil,_=>.nil
 | _,_,0,_,_,.cons _ r,h=>.cons h r
 | _,_,i+1,_,_,.cons q r,h=>.cons q (DenL.set i r h)
theorem DenL.rep{ds:List D}{xs:List V}(h:DenL K F ds xs):∀ n:Nat,DenL K F (List.replicate n ds).flatten (List.replicate n xs).flatten
 | 0=>.nil
 | n+1=>by
   rw[List.replicate_succ,List.replicate_succ,List.flatten_cons,List.flatten_cons];exact h.append (DenL.rep h n)
theorem DenL.of_ints:∀ (ns:List Int),DenL K F (ns.map PyData.int) (ns.map V.int)
 | []=>.nil
 | n::r=>.cons (.int n) (DenL.of_ints r)
end
structure Rel(K:FrG)(F:Hp)(L:List Addr)(S:aC)(H:Hp):Prop where
 sub:cC F H
 nd:L.Nodup
 len:L.length=S.length
 loc:∀ (n:Nat) (a:Addr) (ds:List D),L[n]? = some a->S[n]? = some (some ds)->F a=none/\∃ xs,H a=some (.lst xs)/\DenL K F ds xs
 tr:∀ (n:Nat) (a:Addr),L[n]? = some a->∃ xs,H a=some (.lst xs)
noncomputable def eJ(K:FrG)(F:Hp)(L:List Addr):W->V->Prop
 | .d x,v=>Den K F x v
 | .loc n,v=>∃ a,L[n]? = some a/\v=.ref a
structure EnvR(K:FrG)(F:Hp)(L:List Addr)(env:aT)(σ:St):Prop where
 len:env.length=σ.length
 get:∀ (i:Nat) (w:W),env[i]? = some (some w)->∃ v,σ[i]? = some (some v)/\eJ K F L w v
structure Gr(F:Hp)(L:List Addr)(F':Hp)(L':List Addr):Prop where
 f:cC F F'
 l:∃ M,L'=L++M
section
variable {K : FrG}{F F' F'' H H' : Hp}{L L' L'' : List Addr}{S S' : aC}
theorem Gr.refl:Gr F L F L:=⟨cC.refl _,[],by simp⟩
theorem Gr.trans(a:Gr F L F' L')(b:Gr F' L' F'' L''):Gr F L F'' L'':=by
 obtain⟨f1,M,rfl⟩:=a;obtain⟨f2,N,rfl⟩:=b;exact⟨f1.trans f2,M++N,by rw[List.append_assoc]⟩
theorem Gr.get(g:Gr F L F' L'){n:Nat}{a:Addr}(h:L[n]? = some a):L'[n]? = some a:=by
 obtain⟨_,M,rfl⟩:=g;rw[xAn (gIm h).1];exact h
theorem eJ.mono(g:Gr F L F' L'){w:W}{v:V}(h:eJ K F L w v):eJ K F' L' w v:=by
 cases w with
 | d x=>exact Den.mono g.f h
 | loc n=>obtain⟨a,e,r⟩:=h;exact⟨a,g.get e,r⟩
theorem EnvR.mono(g:Gr F L F' L'){env:aT}{σ:St}(h:EnvR K F L env σ):EnvR K F' L' env σ:=
 ⟨h.len,λ i w e=>let ⟨v,e1,r⟩:=h.get i w e;⟨v,e1,r.mono g⟩⟩
theorem EnvR.set{env:aT}{σ:St}(h:EnvR K F L env σ)(i:Nat){w:W}{v:V}(r:eJ K F L w v):EnvR K F L (env.set i (some w)) (σ.set i (some v)):=by
 refine⟨by rw[List.length_set,List.length_set];exact h.len,λ j u e=>?_⟩
 by_cases hj:i=j
 ·subst hj;have hl:i < env.length:=by
   rcases Nat.lt_or_ge i env.length with q | q
   ·exact q
   ·rw[List.getElem?_eq_none (by rw[List.length_set];exact q)] at e;cases e
  rw[List.getElem?_set_self hl] at e;cases e;exact⟨v,List.getElem?_set_self (by rw[<- h.len];exact hl),r⟩
 ·rw[List.getElem?_set_ne hj] at e;obtain⟨x,e1,r1⟩:=h.get j u e;exact⟨x,by rw[List.getElem?_set_ne hj];exact e1,r1⟩
theorem cQ{p:Addr}{o:HO}(h:H p=none):cC H (bB H p o):=λ b u q=>by rw[bJ (dW q h)];exact q
theorem Rel.new(r:Rel K F L S H){p:Addr}{o:HO}(h:H p=none):Rel K (bB F p o) L S (bB H p o):=by
 have hF:F p=none:=r.sub.free h;refine⟨λ b u q=>?_,r.nd,r.len,λ n a ds e1 e2=>?_,λ n a e=>?_⟩
 ·by_cases hb:b=p
  ·subst hb;rw[cV] at q ⊢;exact q
  ·rw[bJ hb] at q ⊢;exact r.sub _ _ q
 ·obtain⟨f,xs,e3,dl⟩:=r.loc n a ds e1 e2;have ne:a≠p:=dW e3 h;exact⟨by rw[bJ ne];exact f,xs,by rw[bJ ne];exact e3,DenL.mono (cQ hF) dl⟩
 ·obtain⟨xs,hx⟩:=r.tr n a e;exact⟨xs,by rw[bJ (dW hx h)];exact hx⟩
theorem Gr.new{p:Addr}{o:HO}(h:F p=none):Gr F L (bB F p o) L:=⟨cQ h,[],by simp⟩
theorem Rel.newLoc(r:Rel K F L S H){p:Addr}{xs:List V}{ds:List D}(h:H p=none)(dl:DenL K F ds xs):Rel K F (L++[p]) (S++[some ds]) (bB H p (.lst xs)):=by
 have hF:F p=none:=r.sub.free h;refine⟨λ b u q=>?_,?_,by rw[xAo,xAo,r.len]<;>rfl,λ n a es e1 e2=>?_,λ n a e=>?_⟩
 ·rw[bJ (dW q hF)];exact r.sub _ _ q
 ·rw[List.nodup_append];refine⟨r.nd,by simp,λ a ha b hb=>?_⟩
  rw[List.mem_singleton] at hb;subst hb;obtain⟨n,hn⟩:=List.getElem?_of_mem ha;obtain⟨xs,hx⟩:=r.tr n a hn;exact dW hx h
 ·by_cases hn:n < L.length
  ·rw[xAn hn] at e1;rw[xAn (by rw[<- r.len];exact hn)] at e2
   obtain⟨f,ys,e3,dl'⟩:=r.loc n a es e1 e2;exact⟨f,ys,by rw[bJ (dW e3 h)];exact e3,dl'⟩
  ·rw[List.getElem?_append_right (by omega)] at e1
   rw[List.getElem?_append_right (by rw[<- r.len];omega)] at e2
   have z:n - L.length=0:=by
    have:=(gIm e1).1;simp at this;omega
   rw[<- r.len] at e2;rw[z] at e1 e2;simp at e1 e2;subst e1 e2;exact⟨hF,xs,cV,dl⟩
 ·by_cases hn:n < L.length
  ·rw[xAn hn] at e;obtain⟨ys,hy⟩:=r.tr n a e;exact⟨ys,by rw[bJ (dW hy h)];exact hy⟩
  ·rw[List.getElem?_append_right (by omega)] at e
   have z:a=p:=by
    have h1:=xAl e;simpa using h1
   exact⟨xs,by rw[z];exact cV⟩
theorem Rel.lay(r:Rel K F L S H){p:Addr}{o:HO}(h:H p=none):Rel K F L S (bB H p o):=by
 refine⟨λ b u q=>by rw[bJ (dW q (r.sub.free h))];exact r.sub _ _ q,r.nd,r.len,λ n a ds e1 e2=>?_,λ n a e=>?_⟩
 ·obtain⟨f,xs,e3,dl⟩:=r.loc n a ds e1 e2;exact⟨f,xs,by rw[bJ (dW e3 h)];exact e3,dl⟩
 ·obtain⟨xs,hx⟩:=r.tr n a e;exact⟨xs,by rw[bJ (dW hx h)];exact hx⟩
theorem Rel.notin(r:Rel K F L S H){p:Addr}(h:H p=none):p ∉ L:=λ hp=>by
 obtain⟨n,hn⟩:=List.getElem?_of_mem hp;obtain⟨xs,hx⟩:=r.tr n p hn;rw[h] at hx;cases hx
theorem Rel.adopt(r:Rel K F L S H){p:Addr}{xs:List V}(hF:F p=none)(hL:p ∉ L)(hH:H p=some (.lst xs)):Rel K (bB F p (.lst xs)) L S H:=by
 refine⟨λ b u q=>?_,r.nd,r.len,λ n a ds e1 e2=>?_,r.tr⟩
 ·by_cases hb:b=p
  ·subst hb;rw[cV] at q;rw[hH];exact q
  ·rw[bJ hb] at q;exact r.sub _ _ q
 ·obtain⟨f,ys,e3,dl⟩:=r.loc n a ds e1 e2;have ne:a≠p:=λ z=>hL (by rw[<- z];exact xAl e1)
  exact⟨by rw[bJ ne];exact f,ys,e3,dl.mono (cQ hF)⟩
theorem Rel.adoptLoc(r:Rel K F L S H){p:Addr}{xs:List V}{ds:List D}(hF:F p=none)(hL:p ∉ L)(hH:H p=some (.lst xs))(dl:DenL K F ds xs):Rel K F (L++[p]) (S++[some ds]) H:=by
 refine⟨r.sub,?_,by rw[xAo,xAo,r.len]<;>rfl,λ n a es e1 e2=>?_,λ n a e=>?_⟩
 ·rw[List.nodup_append];refine⟨r.nd,by simp,λ a ha b hb=>?_⟩
  rw[List.mem_singleton] at hb;subst hb;exact λ z=>hL (z▸ha)
 ·by_cases hn:n < L.length
  ·rw[xAn hn] at e1;rw[xAn (by rw[<- r.len];exact hn)] at e2
   exact r.loc n a es e1 e2
  ·rw[List.getElem?_append_right (by omega)] at e1
   rw[List.getElem?_append_right (by rw[<- r.len];omega)] at e2
   have z:n - L.length=0:=by
    have:=(gIm e1).1;simp at this;omega
   rw[<- r.len] at e2;rw[z] at e1 e2;simp at e1 e2;subst e1 e2;exact⟨hF,xs,hH,dl⟩
 ·by_cases hn:n < L.length
  ·rw[xAn hn] at e;exact r.tr n a e
  ·rw[List.getElem?_append_right (by omega)] at e
   have z:a=p:=by
    have h1:=xAl e;simpa using h1
   exact⟨xs,by rw[z];exact hH⟩
theorem Gr.newLoc{p:Addr}:Gr F L F (L++[p]):=⟨cC.refl _,[p],rfl⟩
theorem Rel.put(r:Rel K F L S H){n:Nat}{a:Addr}{ys:List V}{es:List D}(e:L[n]? = some a)(hF:F a=none)(dl:DenL K F es ys):Rel K F L (S.set n (some es)) (bB H a (.lst ys)):=by
 refine⟨λ b u q=>by rw[bJ (dW q hF)];exact r.sub _ _ q,r.nd,by rw[List.length_set];exact r.len,λ m b fs e1 e2=>?_,λ m b e1=>?_⟩
 ·by_cases hm:n=m
  ·subst hm;rw[e] at e1;cases e1;have hl:n < S.length:=by rw[<- r.len];exact(gIm e).1
   rw[List.getElem?_set_self hl] at e2;cases e2;exact⟨hF,ys,cV,dl⟩
  ·rw[List.getElem?_set_ne hm] at e2;have ne:b≠a:=λ z=>by
    subst z;have h1:=(gIm e);have h2:=(gIm e1);obtain⟨l1,g1⟩:=h1;obtain⟨l2,g2⟩:=h2;exact hm ((List.getElem_inj r.nd).mp (g1.trans g2.symm))
   obtain⟨f,xs,e3,d3⟩:=r.loc m b fs e1 e2;exact⟨f,xs,by rw[bJ ne];exact e3,d3⟩
 ·by_cases hb:b=a
  ·exact⟨ys,by rw[hb];exact cV⟩
  ·obtain⟨zs,hz⟩:=r.tr m b e1;exact⟨zs,by rw[bJ hb];exact hz⟩
theorem Rel.freeze(r:Rel K F L S H){n:Nat}{a:Addr}{ds:List D}(e:L[n]? = some a)(es:S[n]? = some (some ds)) :
 ∃ F',Gr F L F' L/\Rel K F' L (S.set n none) H/\Den K F' (.list ds) (.ref a):=by
 obtain⟨hF,xs,e3,dl⟩:=r.loc n a ds e es;refine⟨bB F a (.lst xs),Gr.new hF,⟨λ b u q=>?_,r.nd,by rw[List.length_set];exact r.len,λ m b fs e1 e2=>?_,r.tr⟩,.lst (bR.of cV) (dl.mono (cQ hF))⟩
 ·by_cases hb:b=a
  ·subst hb;rw[cV] at q;rw[e3];exact q
  ·rw[bJ hb] at q;exact r.sub _ _ q
 ·by_cases hm:n=m
  ·subst hm;have hl:n < S.length:=(gIm es).1;rw[List.getElem?_set_self hl] at e2;cases e2
  ·rw[List.getElem?_set_ne hm] at e2;have ne:b≠a:=λ z=>by
    subst z;obtain⟨l1,g1⟩:=gIm e;obtain⟨l2,g2⟩:=gIm e1;exact hm ((List.getElem_inj r.nd).mp (g1.trans g2.symm))
   obtain⟨f,ys,e4,d4⟩:=r.loc m b fs e1 e2;exact⟨by rw[bJ ne];exact f,ys,e4,d4.mono (cQ hF)⟩
theorem Rel.cut{M:List Addr}(r:Rel K F (L++M) S H):Rel K F L (S.take L.length) H:=by
 have hl:L.length<=S.length:=by have:=r.len;rw[xAo] at this;omega
 refine⟨r.sub,(List.nodup_append.mp r.nd).1,by rw[List.length_take];omega,λ n a ds e1 e2=>?_,λ n a e1=>?_⟩
 ·have hn:n < L.length:=(gIm e1).1;rw[List.getElem?_take_of_lt hn] at e2;exact r.loc n a ds (by rw[xAn hn];exact e1) e2
 ·have hn:n < L.length:=(gIm e1).1;exact r.tr n a (by rw[xAn hn];exact e1)
end
def bN(K:FrG)(F H:Hp)(x:D)(v:V):Prop:=Den K F x v\/∃ ds a xs,x=.list ds/\v=.ref a/\H a=some (.lst xs)/\DenL K F ds xs
noncomputable def dr(S:aC):W->Option D
 | .d x=>some x
 | .loc n=>match S[n]? with
   | some (some ds)=>some (.list ds)
   | _=>none
theorem jJ{K:FrG}{F H:Hp}{L:List Addr}{S:aC}{w:W}{x:D}{v:V}(r:Rel K F L S H)(h:eJ K F L w v)(e:dr S w=some x):bN K F H x v:=by
 cases w with
 | d y=>cases e;exact .inl h
 | loc n =>
   obtain⟨a,e1,rfl⟩:=h;cases e2:S[n]? with
   | none=>simp[dr,e2] at e
   | some o =>
     cases o with
     | none=>simp[dr,e2] at e
     | some ds =>
       simp[dr,e2] at e;subst e;obtain⟨f,xs,e3,dl⟩:=r.loc n a ds e1 e2;exact .inr ⟨ds,a,xs,rfl,rfl,e3,dl⟩
section
variable {K : FrG}{F H : Hp}{v : V}
theorem bN.non(h:bN K F H .none v):v=.non:=by
 rcases h with h | ⟨_,_,_,e,_⟩
 ·cases h;rfl
 ·cases e
theorem bN.bl{b:Bool}(h:bN K F H (.bool b) v):v=.bl b:=by
 rcases h with h | ⟨_,_,_,e,_⟩
 ·cases h;rfl
 ·cases e
theorem bN.int{i:Int}(h:bN K F H (.int i) v):v=.int i:=by
 rcases h with h | ⟨_,_,_,e,_⟩
 ·cases h;rfl
 ·cases e
theorem bN.str{x:Str}(h:bN K F H (.str x) v):v=.str x:=by
 rcases h with h | ⟨_,_,_,e,_⟩
 ·cases h;rfl
 ·cases e
theorem bN.lst{ds:List D}(s:cC F H)(h:bN K F H (.list ds) v):∃ a xs,v=.ref a/\bR K H a xs/\DenL K F ds xs:=by
 rcases h with h | ⟨_,a,xs,e,e2,e3,dl⟩
 ·cases h with
  | lst q r=>exact⟨_,_,rfl,s.seq q,r⟩
 ·cases e;exact⟨a,xs,e2,bR.of e3,dl⟩
theorem bN.tup{ds:List D}(s:cC F H)(h:bN K F H (.tuple ds) v):∃ a xs,v=.ref a/\bS K H a xs/\DenL K F ds xs:=by
 rcases h with h | ⟨_,_,_,e,_⟩
 ·cases h with
  | tup q r=>exact⟨_,_,rfl,iE s q,r⟩
 ·cases e
theorem bN.dict{aU:List (D × D)}(h:bN K F H (.dict aU) v):False:=by
 rcases h with h | ⟨_,_,_,e,_⟩
 ·cases h
 ·cases e
end
theorem aJ9:fillsNumberSlot (.type "tuple") "mul" = pure false:=
 PySem.fillsNumberSlot_seq (id:="tuple.__mul__") (r:=some (.builtin "tuple.__rmul__")) PySem.F.slot_tuple_mul.lookup (by decide +kernel) PySem.F.slot_tuple_rmul.lookup (by decide +kernel)
theorem aKw:seqRepeat? (.type "tuple")=pure (some (.builtin "tuple.__mul__")):=by
 unfold seqRepeat?;rw[PySem.seqSlot_of (T:="tuple") (name:="__mul__") (id:="tuple.__mul__") PySem.F.slot_tuple_mul.lookup (by decide +kernel),PySem.seqSlot_of (T:="tuple") (name:="__rmul__") (id:="tuple.__rmul__") PySem.F.slot_tuple_rmul.lookup (by decide +kernel)]
 rfl
theorem aKk(a:Int)(t:Tok)(l:Addr)(aM:Array Value)(n:Nat)(d:Option Addr)(sl:Array (Option Value)) :
 Meets (Builtin.«int.__rmul__» ⟨[.int a t,.ref l],[]⟩) (λ _ R s=>s.heap.get? l=some {cls:=.type "tuple",dict:=d,data:=.seq aM n,slots:=sl }/\R (.ok (.ret Value.notImplemented)) s):=
 .of_wp λ prog w A R s h=>by obtain⟨hp,g,d,tk,os⟩:=s;obtain⟨hl,h⟩:=h;wp_walk;exact⟨_,rfl,h⟩
theorem aKr(l:Addr)(aM:Array Value)(n:Nat)(d:Option Addr)(sl:Array (Option Value))(t:Tok) :
 Meets (Builtin.«tuple.__mul__» ⟨[.ref l,.int 1 t],[]⟩) (λ _ R s=>s.heap.get? l=some {cls:=.type "tuple",dict:=d,data:=.seq aM n,slots:=sl }/\R (.ok (.ret (.ref l))) s):=
 .of_wp λ prog w A R s h=>by
  obtain⟨hp,g,d,tk,os⟩:=s;obtain⟨hl,h⟩:=h
  wp_walk
  exact⟨_,rfl,h⟩
theorem aKe(l:Addr)(x:Value)(n:Nat)(d:Option Addr)(sl:Array (Option Value))(t:Tok) :
 Meets (Builtin.«tuple.__mul__» ⟨[.ref l,.int 0 t],[]⟩) (λ _ R s=>s.heap.get? l=some {cls:=.type "tuple",dict:=d,data:=.seq #[x] n,slots:=sl }/\R (.ok (.ret (.ref s.heap.objs.size))) {s with heap:=s.heap.push {cls:=.type "tuple",data:=.seq #[] } }):=
 .of_wp λ prog w A R s h=>by
  obtain⟨hp,g,d,tk,os⟩:=s;obtain⟨hl,h⟩:=h
  wp_walk
  exact⟨_,rfl,h⟩
theorem xE(x:Value):∀ (k:Nat) (aF:Array Value),(List.replicate k #[x]).foldl (· ++ ·) aF=aF++(List.replicate k x).toArray
 | 0,aF=>by simp
 | k+1,aF=>by
   rw[List.replicate_succ,List.foldl_cons,xE x k];apply Array.ext';simp[List.replicate_succ]
theorem aKo(l:Addr)(x:Value)(n:Nat)(d:Option Addr)(sl:Array (Option Value))(k:Nat)(hk:2<=k)(hk2:k<=1000)(t:Tok) :
 Meets (Builtin.«tuple.__mul__» ⟨[.ref l,.int (k:Nat) t],[]⟩) (λ _ R s=>s.heap.get? l=some {cls:=.type "tuple",dict:=d,data:=.seq #[x] n,slots:=sl }/\R (.ok (.ret (.ref s.heap.objs.size))) {s with heap:=s.heap.push {cls:=.type "tuple",data:=.seq (List.replicate k x).toArray } }):=
 .of_wp λ prog w A R s h=>by
  obtain⟨hp,g,d,tk,os⟩:=s;obtain⟨hl,h⟩:=h;have c1:(decide (((k:Nat):Int) < -(2^63))||decide (((k:Nat):Int) ≥ 2^63))=false:=by simp;omega
  have c2:(((k:Nat):Int)==1)=false:=by rw[beq_eq_false_iff_ne];omega
  have c3:decide (((k:Nat):Int)<=0)=false:=dqF (by omega)
  have c4:((#[x]:Array Value).isEmpty||(((k:Nat):Int)==1))=false:=by rw[c2];rfl
  have c5:(decide (((k:Nat):Int)<=0)||(#[x]:Array Value).isEmpty)=false:=by rw[c3];rfl
  have c6:¬ (((#[x]:Array Value).size:Int)*((k:Nat):Int) > (2^63 - 1) / 8):=by
   show ¬ (((1:Nat):Int)*((k:Nat):Int) > (2^63 - 1) / 8);omega
  have hsz:sizeLine=16777216:=by decide
  have c7:Builtin.Tuple.tupleTooMany (((#[x]:Array Value).size:Int)*((k:Nat):Int))=false:=by
   unfold Builtin.Tuple.tupleTooMany;refine dqF ?_;show ¬ (((1:Nat):Int)*((k:Nat):Int) > ((sizeLine:Nat):Int));omega
  wp_walk
  rw[if_neg (by rw[c1];exact Bool.false_ne_true)]
  refine wB (wpAny_tupleItemsOf hl rfl ?_);simp only[c4,c5,c6,c7,Bool.false_eq_true,if_false];rw[Int.toNat_natCast,xE,show(#[]:Array Value)++(List.replicate k x).toArray=(List.replicate k x).toArray by simp]
  refine wB (m:=Builtin.Tuple.tupleExact _) (wpAny_newObj_type (wP ⟨_,rfl,h⟩) ?_);show(List.replicate k x).toArray.size<=sizeLine;rw[List.size_toArray,List.length_replicate,hsz];omega
section
variable {X : Cx}{aB : List (Addr × Obj)}{σ : L2.St}{H : Hp}{s : Shared}{Q : VK}
theorem aFU{x:V}{u:Value}(r:aZ x u):∀ k:Nat,aW (List.replicate k x) (List.replicate k u)
 | 0=>.nil
 | k+1=>.cons r (aFU r k)
theorem aVa{a:Addr}{x:V}{k:Nat}{t:Tok}(I:Inv X aB σ H s)(ha:bS X.K H a [x])(hk:k<=1000)
 (q1:k=1->Q (.ref a) H) (q:∀ p,H p=none->Q (.ref p) (bB H p (.tup (List.replicate k x)))):wpAny (model X.prog X.w) X.A (binaryOp .Mult (.ref a) (.int (k:Nat) t)) (EP X aB σ Q) X.xe s:=by
 obtain⟨aE,r1,p1,_⟩:=I.tuple ha;obtain⟨u,rfl,ru⟩:∃ u,aE=[u]/\aZ x u:=by
  cases r1 with
  | cons r r'=>cases r';exact⟨_,rfl,r⟩
 obtain⟨⟨cls,d,data,sl⟩,ho,hcl,n,hd⟩:=p1;simp only at hcl hd;subst hcl hd;have hsz:sizeLine=16777216:=by decide
 have bK:∀ (aE:List Value),aE=List.replicate k u->EP X aB σ Q (.ref s.heap.objs.size) {s with heap:=s.heap.push {cls:=.type "tuple",data:=.seq aE.toArray } }:=λ aE e=>by
  subst e;exact⟨.ref _,_,I.laid (t':=s.toks) (o:=.tup (List.replicate k x)) (λ b ob q=>hpS _ q) (Nat.le_refl _) ⟨by rw[List.length_replicate,hsz];omega,_,aFU ru k,⟨_,xAe _ rfl,rfl,0,rfl⟩⟩,rfl,q _ (I.hok.fresh (Nat.le_refl _))⟩
 refine wpAny_binaryOp_repeat_ref (T:="tuple") (U:="int") (by decide) ⟨_,ho,rfl⟩ (λ s'=>typeIs_int s' k t) aJ9 PySem.F.fills_int_mul PySem.F.slot_int_rmul aKw PySem.F.slot_int_index.lookup
  (call_meets PySem.F.slot_int_rmul (typeIs_int s k t) PySem.F.entry_int_rmul (PySem.F.args_int_rmul_2 _ _) (aKk k t a _ n d sl)
    ⟨ho,rfl,⟨_,ho,rfl⟩,?_⟩)
 by_cases h1:k=1
 ·subst h1;exact call_meets PySem.F.slot_tuple_mul ⟨_,ho,rfl⟩ PySem.F.entry_tuple_mul (PySem.F.args_tuple_mul_2 _ _) (aKr a _ n d sl t) ⟨ho,.ref a,H,I,rfl,q1 rfl⟩
 ·by_cases h0:k=0
  ·subst h0;exact call_meets PySem.F.slot_tuple_mul ⟨_,ho,rfl⟩ PySem.F.entry_tuple_mul (PySem.F.args_tuple_mul_2 _ _) (aKe a u n d sl t) ⟨ho,bK [] rfl⟩
  ·exact call_meets PySem.F.slot_tuple_mul ⟨_,ho,rfl⟩ PySem.F.entry_tuple_mul (PySem.F.args_tuple_mul_2 _ _) (aKo a u n d sl k (by omega) hk t) ⟨ho,bK _ rfl⟩
end
noncomputable def nI(i j:Int):Bool:=!(decide (Builtin.Int.intBits i > shortFactorBits)&&decide (Builtin.Int.intBits j > shortFactorBits)&&Builtin.Int.intTooBig (Builtin.Int.intBits i+Builtin.Int.intBits j))
noncomputable def vK{α:Type}(n:Nat)(xs:List α):List α:=(List.replicate n xs).flatten
noncomputable def aCR:D->D->Option D
 | .int i,.int j=>some (.int (i+j))
 | .str x,.str y=>if x.length+y.length<=sizeLine then some (.str (x++y)) else none
 | .tuple [],.tuple ys=>some (.tuple ys)
 | .tuple xs,.tuple ys=>if xs.isEmpty=false/\xs.length+ys.length<=sizeLine then some (.tuple (xs++ys)) else none
 | .list xs,.list ys=>if xs.length+ys.length<=sizeLine then some (.list (xs++ys)) else none
 | _,_=>none
noncomputable def aC0:D->D->Option D
 | .int i,.int j=>if nI i j=true then some (.int (i*j)) else none
 | .list xs,.int k=>if k < 2^63 /\ -(2^63)<=k/\xs.length*k.toNat<=sizeLine then some (.list (vK k.toNat xs)) else none
 | .tuple [x],.int k=>if 0<=k/\k<=1000 then some (.tuple (List.replicate k.toNat x)) else none
 | _,_=>none
noncomputable def i2{α:Type}(f:Int->Int->Option α):D->D->Option α
 | .int i,.int j=>f i j
 | _,_=>none
theorem kP{α:Type}{f:Int->Int->Option α}{i j:Int}:i2 f (.int i) (.int j)=f i j:=rfl
theorem iC{α:Type}{f:Int->Int->Option α}{x y:D}{z:α}(h:i2 f x y=some z):∃ i j,x=.int i/\y=.int j/\f i j=some z:=by
 cases x<;>first | (cases h;done) | skip
 cases y<;>first | (cases h;done) | exact⟨_,_,rfl,rfl,h⟩
noncomputable def qS:D->Bool
 | .none=>true
 | _=>false
theorem aFs{x:D}(h:qS x=true):x=.none:=by cases x<;>first | rfl | cases h
noncomputable def cB(op:Operator)(x y:D):Option D:=match op with
 | .Add=>aCR x y
 | .Sub=>i2 (λ i j=>some (.int (i - j))) x y
 | .Mult=>aC0 x y
 | .MatMult=>none
 | .Div=>none
 | .Mod=>i2 (λ i j=>if j≠0 then some (.int (i.fmod j)) else none) x y
 | .Pow=>i2 (λ i j=>if 0<=j/\j<=1000000/\i.natAbs < 2^64 then some (.int (i^j.toNat)) else none) x y
 | .LShift=>i2 (λ i j=>if 0<=j/\(Builtin.Int.intBits i:Int)+j<=2^27 then some (.int (i*2^j.toNat)) else none) x y
 | .RShift=>i2 (λ i j=>if 0<=j then some (.int (i / 2^j.toNat)) else none) x y
 | .BitOr=>i2 (λ i j=>some (.int (Builtin.bitOr i j))) x y
 | .BitXor=>i2 (λ i j=>some (.int (Builtin.bitXor i j))) x y
 | .BitAnd=>i2 (λ i j=>some (.int (Builtin.bitAnd i j))) x y
 | .FloorDiv=>i2 (λ i j=>if j≠0/\Builtin.divisionGoesByPylong i j=false then some (.int (i.fdiv j)) else none) x y
noncomputable def nZ:UnaryOp->D->Option D
 | .USub,.int i=>some (.int (-i))
 | .Invert,.int i=>some (.int (Builtin.bitNot i))
 | _,_=>none
noncomputable def iV:D->Bool
 | .none | .bool _ | .int _ | .str _=>true
 | _=>false
noncomputable def oK:List D->Bool
 | []=>true
 | d::r=>iV d&&oK r
noncomputable def inD(x:D):List D->Bool
 | []=>false
 | y::r=>PyData.eqv y x||inD x r
noncomputable def aCx:D->Option (List D)
 | .list xs=>some xs
 | .tuple xs=>some xs
 | _=>none
noncomputable def nL(op:CmpOp)(x y:D):Option Bool:=match op with
 | .Eq=>if x.canLay0=true/\y.canLay0=true/\x.depth<=60 then some (PyData.eqv x y) else none
 | .NotEq=>if x.canLay0=true/\y.canLay0=true/\x.depth<=60 then some (!PyData.eqv x y) else none
 | .Lt=>i2 (λ i j=>some (decide (i < j))) x y
 | .LtE=>i2 (λ i j=>some (decide (i<=j))) x y
 | .Gt=>i2 (λ i j=>some (decide (j < i))) x y
 | .GtE=>i2 (λ i j=>some (decide (j<=i))) x y
 | .Is=>if qS y=true then some (qS x) else none
 | .IsNot=>if qS y=true then some (!qS x) else none
 | .In=>(aCx y).bind λ ys=>if iV x=true/\oK ys=true then some (inD x ys) else none
 | .NotIn=>(aCx y).bind λ ys=>if iV x=true/\oK ys=true then some (!inD x ys) else none
noncomputable def pG:D->Option Bool
 | .none=>some false
 | .bool b=>some b
 | .int i=>some (i != 0)
 | .str x=>if x.length<=sizeLine then some ((x.length:Int) != 0) else none
 | .list xs=>some (!xs.isEmpty)
 | .tuple xs=>some (!xs.isEmpty)
 | .dict _=>none
section
variable {X : Cx}{aB : List (Addr × Obj)}{s : Shared}{σ : L2.St}{H : Hp}{x y : V}{v u : Value}{Q : VK}{F : Hp}{L : List Addr}{S : aC}{dx dy z : D}
abbrev fK(X:Cx)(F:Hp)(L:List Addr)(S:aC)(z:D)(Q:VK):Prop:=∀ F' H' r,cC F F'->Rel X.K F' L S H'->Den X.K F' z r->Q r H'
abbrev zV(X:Cx)(F:Hp)(H:Hp)(zs:List D)(Q:VK):Prop:=∀ p xs,H p=none->DenL X.K F zs xs->Q (.ref p) (bB H p (.lst xs))
theorem fK.here(R:Rel X.K F L S H)(q:fK X F L S z Q){r:V}(h:Den X.K F z r):Q r H:=q F H r (cC.refl _) R h
theorem zV.out{zs:List D}(R:Rel X.K F L S H)(q:fK X F L S (.list zs) Q):zV X F H zs Q:=λ p xs hp dl =>
 q _ _ _ (cQ (R.sub.free hp)) (R.new hp) (.lst (bR.of cV) (dl.mono (cQ (R.sub.free hp))))
theorem fK.tup{zs:List D}(R:Rel X.K F L S H)(q:fK X F L S (.tuple zs) Q){p:Addr}{xs:List V}(hp:H p=none)(dl:DenL X.K F zs xs):Q (.ref p) (bB H p (.tup xs)):=
 q _ _ _ (cQ (R.sub.free hp)) (R.new hp) (.tup (bS.of cV) (dl.mono (cQ (R.sub.free hp))))
theorem aT6{a b:Addr}{xs ys:List V}(I:Inv X aB σ H s)(ha:bR X.K H a xs)(hb:bR X.K H b ys)(hz:xs.length+ys.length<=sizeLine)
 (q:∀ p,H p=none->Q (.ref p) (bB H p (.lst (xs++ys)))):wpAny (model X.prog X.w) X.A (binaryOp .Add (.ref a) (.ref b)) (EP X aB σ Q) X.xe s:=by
 obtain⟨aE,r1,p1,_⟩:=I.list ha;obtain⟨cP,r2,p2,_⟩:=I.list hb;obtain⟨⟨cls,dd,data,sl⟩,ho,hc,n,hd⟩:=p1.isList;obtain⟨⟨cls2,dd2,data2,sl2⟩,ho2,hc2,n2,hd2⟩:=p2.isList;simp only at hc hd hc2 hd2;subst hc hd hc2 hd2;have e:aE.toArray++cP.toArray=(aE++cP).toArray:=by simp
 refine concat_meets ⟨_,ho,rfl⟩ ⟨_,ho2,rfl⟩ noFill_list_add seq_list_add PySem.F.slot_list_add PySem.F.entry_list_add (PySem.F.args_list_add_2 _ _) (list_addW a b aE.toArray cP.toArray n n2 dd dd2 sl sl2 (by rw[List.size_toArray,List.size_toArray,<- r1.length,<- r2.length];exact hz)) ⟨ho,ho2,?_⟩
 rw[e];exact⟨.ref _,_,I.lnew (t':=s.toks) (r1.append r2) (by rw[xAo];omega),rfl,q _ I.fresh⟩
theorem aJE{a:Addr}{xs:List V}{k:Int}{t:Tok}(I:Inv X aB σ H s)(ha:bR X.K H a xs)(h1 : -(2^63)<=k)(h2:k < 2^63)(hz:xs.length*k.toNat<=sizeLine)
 (q:∀ p,H p=none->Q (.ref p) (bB H p (.lst (List.replicate k.toNat xs).flatten))):wpAny (model X.prog X.w) X.A (binaryOp .Mult (.ref a) (.int k t)) (EP X aB σ Q) X.xe s:=by
 obtain⟨aE,r1,p1,_⟩:=I.list ha;obtain⟨⟨cls,d,data,sl⟩,ho,hcl,n,hd⟩:=p1.isList;simp only at hcl hd;subst hcl hd;have hsz:aE.toArray.size*k.toNat<=2^24:=by
  rw[List.size_toArray,<- r1.length];have:sizeLine=2^24:=rfl;rw[<- this];exact hz
 refine wpAny_binaryOp_repeat_ref (T:="list") (U:="int") (by decide) ⟨_,ho,rfl⟩ (λ s'=>typeIs_int s' k t) noFill_list_mul PySem.F.fills_int_mul PySem.F.slot_int_rmul repeat_list PySem.F.slot_int_index.lookup
  (call_meets PySem.F.slot_int_rmul (typeIs_int s k t) PySem.F.entry_int_rmul (PySem.F.args_int_rmul_2 _ _) (lm_int_rmul_list_any k t a aE.toArray n d sl)
    ⟨ho,rfl,⟨_,ho,rfl⟩,call_meets PySem.F.slot_list_mul ⟨_,ho,rfl⟩ PySem.F.entry_list_mul (PySem.F.args_list_mul_2 _ _)
     (lm_list_mul_any a aE.toArray n d sl k t (by simp[Builtin.List.listFitsIndex];omega) (by omega) (by simp[Builtin.List.listTooLong,sizeLine];simpa using hsz))
     ⟨ho,?_⟩⟩)
 rw[listMul_foldl_if];exact⟨.ref _,_,I.lnew (t':=s.toks) (r1.rep k.toNat) (by rw[aNq,Nat.mul_comm];exact hz),rfl,q _ I.fresh⟩
theorem aSG{a b:Addr}{ys:List V}(I:Inv X aB σ H s)(ha:bS X.K H a [])(hb:bS X.K H b ys)(q:Q (.ref b) H):wpAny (model X.prog X.w) X.A (binaryOp .Add (.ref a) (.ref b)) (EP X aB σ Q) X.xe s:=by
 obtain⟨aE,r1,p1,_⟩:=I.tuple ha;obtain⟨cP,r2,p2,_⟩:=I.tuple hb;cases r1;obtain⟨⟨cls,dd,data,sl⟩,ho,hc,n,hd⟩:=p1;obtain⟨⟨cls2,dd2,data2,sl2⟩,ho2,hc2,n2,hd2⟩:=p2;simp only at hc hd hc2 hd2;subst hc hd hc2 hd2;exact concat_meets ⟨_,ho,rfl⟩ ⟨_,ho2,rfl⟩ noFill_tuple_add seq_tuple_add PySem.F.slot_tuple_add PySem.F.entry_tuple_add (PySem.F.args_tuple_add_2 _ _) (tuple_addW0 a b _ cP.toArray n n2 dd dd2 sl sl2 rfl) ⟨ho,ho2,⟨.ref b,H,I,rfl,q⟩⟩
theorem aRD(I:Inv X aB σ H s)(rx:aZ x v)(ry:aZ y u)(R:Rel X.K F L S H)(nx:bN X.K F H dx x)(ny:bN X.K F H dy y)(e:aCR dx dy=some z)(q:fK X F L S z Q) :
 wpAny (model X.prog X.w) X.A (binaryOp .Add v u) (EP X aB σ Q) X.xe s:=by
 unfold aCR at e
 split at e
 ·rename_i i j;cases e;exact aRg aB s σ H x y v u Q I rx ry ⟨i,j,nx.int,ny.int,q.here R (.int _)⟩
 ·rename_i a b
  split at e
  ·rename_i c;cases e;exact aLi aB s σ H x y v u Q I rx ry ⟨a,b,nx.str,ny.str,c,q.here R (.str _)⟩
  ·cases e
 ·rename_i ys;cases e;obtain⟨a,vs,rfl,h1,d1⟩:=nx.tup R.sub;obtain⟨b,ws,rfl,h2,d2⟩:=ny.tup R.sub;cases d1;cases rx;cases ry;refine aSG I h1 h2 (q F H _ (cC.refl _) R ?_);rcases ny with ny | ⟨_,_,_,e,_⟩
  ·exact ny
  ·cases e
 ·rename_i xs ys _
  split at e
  ·rename_i c;cases e;obtain⟨a,vs,rfl,h1,d1⟩:=nx.tup R.sub;obtain⟨b,ws,rfl,h2,d2⟩:=ny.tup R.sub;have hne:vs≠[]:=λ z=>by
    have:=d1.length;rw[z] at this;cases xs with
    | nil=>simp at c
    | cons _ _=>simp at this
   refine aNH aB s σ H _ _ v u Q I rx ry ⟨a,b,vs,ws,rfl,rfl,h1,h2,hne,by rw[<- d1.length,<- d2.length];exact c.2,λ z=>?_,λ z p hp=>?_⟩
   ·have:ys=[]:=by
     have h:=d2.length;rw[z] at h;exact List.eq_nil_of_length_eq_zero h
    subst this;refine q F H _ (cC.refl _) R ?_;rw[List.append_nil];rcases nx with nx | ⟨_,_,_,e,_⟩
    ·exact nx
    ·cases e
   ·exact q.tup R hp (d1.append d2)
  ·cases e
 ·rename_i xs ys
  split at e
  ·rename_i c;cases e;obtain⟨a,vs,rfl,h1,d1⟩:=nx.lst R.sub;obtain⟨b,ws,rfl,h2,d2⟩:=ny.lst R.sub;cases rx;cases ry;exact aT6 I h1 h2 (by rw[<- d1.length,<- d2.length];exact c) λ p hp=>zV.out R q p _ hp (d1.append d2)
  ·cases e
 ·cases e
theorem aG2{K:FrG}{F:Hp}{x:D}{v:V}(h:Den K F x v):∀ k:Nat,DenL K F (List.replicate k x) (List.replicate k v)
 | 0=>.nil
 | k+1=>.cons h (aG2 h k)
theorem aPk(I:Inv X aB σ H s)(rx:aZ x v)(ry:aZ y u)(R:Rel X.K F L S H)(nx:bN X.K F H dx x)(ny:bN X.K F H dy y)(e:aC0 dx dy=some z)(q:fK X F L S z Q) :
 wpAny (model X.prog X.w) X.A (binaryOp .Mult v u) (EP X aB σ Q) X.xe s:=by
 unfold aC0 at e
 split at e
 ·rename_i i j
  split at e
  ·rename_i c;cases e;obtain rfl:=nx.int;obtain rfl:=ny.int;obtain⟨t,rfl⟩:=rx;obtain⟨t',rfl⟩:=ry;refine PyProof.Rows.mul_int ⟨.int (i*j),H,I.tok _,⟨_,rfl⟩,q.here R (.int _)⟩ ?_;unfold IntMulOk;unfold nI at c;intro z;rw[z] at c;cases c
  ·cases e
 ·rename_i xs k
  split at e
  ·rename_i c;cases e;obtain⟨a,vs,rfl,h1,d1⟩:=nx.lst R.sub;obtain rfl:=ny.int;cases rx;obtain⟨t',rfl⟩:=ry;exact aJE I h1 c.2.1 c.1 (by rw[<- d1.length];exact c.2.2) λ p hp=>zV.out R q p _ hp (d1.rep _)
  ·cases e
 ·rename_i xd k
  split at e
  ·rename_i c;cases e;obtain⟨a,vs,rfl,h1,d1⟩:=nx.tup R.sub;obtain rfl:=ny.int;cases rx;obtain⟨t',rfl⟩:=ry;obtain⟨kk,rfl⟩:∃ kk:Nat,k=(kk:Nat):=⟨k.toNat,by omega⟩
   rw[Int.toNat_natCast] at q;cases d1 with
   | cons dx dn =>
     cases dn;refine aVa I h1 (by omega) (λ hk=>?_) λ p hp=>fK.tup R q hp (aG2 dx kk)
     subst hk;refine q F H _ (cC.refl _) R ?_;rcases nx with nx | ⟨_,_,_,z,_⟩
     ·exact nx
     ·cases z
  ·cases e
 ·cases e
theorem tR{op:Operator}{C:Int->Int->Prop}{g:Int->Int->Int}(rule:cO X (binaryOp op) (rI C λ i j=>.int (g i j))){i j:Int}(c:C i j)(I:Inv X aB σ H s)(rx:aZ x v)(ry:aZ y u)(R:Rel X.K F L S H)
 (nx:bN X.K F H (.int i) x) (ny:bN X.K F H (.int j) y) (q:fK X F L S (.int (g i j)) Q) :
 wpAny (model X.prog X.w) X.A (binaryOp op v u) (EP X aB σ Q) X.xe s:=
 rule aB s σ H x y v u Q I rx ry ⟨i,j,nx.int,ny.int,c,q.here R (.int _)⟩
theorem yH{op:Operator}{g:Int->Int->Int}(rule:cO X (binaryOp op) (jE λ i j=>.int (g i j))){i j:Int}(I:Inv X aB σ H s)(rx:aZ x v)(ry:aZ y u)(R:Rel X.K F L S H)
 (nx:bN X.K F H (.int i) x) (ny:bN X.K F H (.int j) y) (q:fK X F L S (.int (g i j)) Q) :
 wpAny (model X.prog X.w) X.A (binaryOp op v u) (EP X aB σ Q) X.xe s:=
 rule aB s σ H x y v u Q I rx ry ⟨i,j,nx.int,ny.int,q.here R (.int _)⟩
theorem aNR:cO X (binaryOp .FloorDiv) (rI (λ i j=>j≠0/\Builtin.divisionGoesByPylong i j=false) λ i j=>.int (i.fdiv j)):=vO λ _ _ _ _ _ _ _ hc q=>floordiv_int hc.1 q (.inl hc.2)
theorem aSp:cO X (binaryOp .LShift) (rI (λ i j=>0<=j/\(Builtin.Int.intBits i:Int)+j<=2^27) λ i j=>.int (i*2^j.toNat)):=vO λ _ _ _ _ _ _ _ hc q=>lshift_int hc.1 hc.2 q
theorem bind_some{α β:Type}{o:Option α}{f:α->Option β}{b:β}(h:o.bind f=some b):∃ a,o=some a/\f a=some b:=by
 cases o with
 | none=>cases h
 | some a=>exact⟨a,rfl,h⟩
theorem jN{α:Type}{p:Prop} [Decidable p]{a z:α}(h:(if p then some a else none)=some z):p/\a=z:=by
 split at h
 ·rename_i c;cases h;exact⟨c,rfl⟩
 ·cases h
theorem aPh{op:Operator}(I:Inv X aB σ H s)(rx:aZ x v)(ry:aZ y u)(R:Rel X.K F L S H)(nx:bN X.K F H dx x)(ny:bN X.K F H dy y)(e:cB op dx dy=some z)(q:fK X F L S z Q) :
 wpAny (model X.prog X.w) X.A (binaryOp op v u) (EP X aB σ Q) X.xe s:=by
 cases op with
 | Add=>exact aRD I rx ry R nx ny e q
 | Mult=>exact aPk I rx ry R nx ny e q
 | MatMult=>cases e
 | Div=>cases e
 | Sub=>obtain⟨i,j,rfl,rfl,e⟩:=iC e;cases e;exact yH aQZ I rx ry R nx ny q
 | BitAnd=>obtain⟨i,j,rfl,rfl,e⟩:=iC e;cases e;exact yH aQC I rx ry R nx ny q
 | BitOr=>obtain⟨i,j,rfl,rfl,e⟩:=iC e;cases e;exact yH aRW I rx ry R nx ny q
 | BitXor=>obtain⟨i,j,rfl,rfl,e⟩:=iC e;cases e;exact yH aPl I rx ry R nx ny q
 | FloorDiv=>obtain⟨i,j,rfl,rfl,e⟩:=iC e;obtain⟨c,rfl⟩:=jN e;exact tR aNR c I rx ry R nx ny q
 | Mod=>obtain⟨i,j,rfl,rfl,e⟩:=iC e;obtain⟨c,rfl⟩:=jN e;exact tR aOA c I rx ry R nx ny q
 | Pow=>obtain⟨i,j,rfl,rfl,e⟩:=iC e;obtain⟨c,rfl⟩:=jN e;exact tR aPP c I rx ry R nx ny q
 | LShift=>obtain⟨i,j,rfl,rfl,e⟩:=iC e;obtain⟨c,rfl⟩:=jN e;exact tR aSp c I rx ry R nx ny q
 | RShift=>obtain⟨i,j,rfl,rfl,e⟩:=iC e;obtain⟨c,rfl⟩:=jN e;exact tR aRE c I rx ry R nx ny q
theorem aRF{op:UnaryOp}(I:Inv X aB σ H s)(rx:aZ x v)(R:Rel X.K F L S H)(nx:bN X.K F H dx x)(e:nZ op dx=some z)(q:fK X F L S z Q) :
 wpAny (model X.prog X.w) X.A (unaryOp op v) (EP X aB σ Q) X.xe s:=by
 unfold nZ at e
 split at e
 ·cases e;exact aP2 aB s σ H x v Q I rx ⟨_,nx.int,q.here R (.int _)⟩
 ·cases e;exact aPQ aB s σ H x v Q I rx ⟨_,nx.int,q.here R (.int _)⟩
 ·cases e
mutual
theorem aFg(I:Inv X aB σ H s)(sb:cC F H):∀ {d:D}{x:V}{v:Value},Den X.K F d x->aZ x v->∃ as,Reads s.heap v d as
 | _,_,v,.non,r=>by cases (show v=Value.none from r);exact⟨_,.none⟩
 | _,_,v,.bl b,r=>by cases (show v=Value.bool b from r);exact⟨_,.bool b⟩
 | _,_,v,.int i,r=>by obtain⟨t,rfl⟩:=(show ∃ t,v=Value.int i t from r);exact⟨_,.int i t⟩
 | _,_,v,.str y,r=>by obtain⟨t,rfl⟩:=(show ∃ t,v=Value.str y t from r);exact⟨_,.str y t⟩
 | _,_,v,.lst (a:=a) h dl,r=>by
   cases (show v=Value.ref a from r)
   obtain⟨aE,rv,p1,_⟩:=I.list (sb.seq h);obtain⟨o,ho,hc,n,hd⟩:=p1.isList;obtain⟨as,ra⟩:=wS I sb dl rv;exact⟨_,.list ho hc hd (by simpa using ra)⟩
 | _,_,v,.tup (a:=a) h dl,r=>by
   cases (show v=Value.ref a from r)
   obtain⟨aE,rv,p1,_⟩:=I.tuple (iE sb h);obtain⟨o,ho,hc,n,hd⟩:=p1;obtain⟨as,ra⟩:=wS I sb dl rv;exact⟨_,.tuple ho hc hd (by simpa using ra)⟩
theorem wS(I:Inv X aB σ H s)(sb:cC F H):∀ {ds:List D}{xs:List V}{us:List Value},DenL X.K F ds xs->aW xs us->∃ as,ReadsAll s.heap us ds as
 | _,_,_,.nil,r=>by cases r;exact⟨_,.nil⟩
 | _,_,_,.cons h dl,.cons r rs=>by
   obtain⟨as,ra⟩:=aFg I sb h r;obtain⟨bs,rb⟩:=wS I sb dl rs;exact⟨_,.cons ra rb⟩
end
theorem xM(I:Inv X aB σ H s)(R:Rel X.K F L S H)(rx:aZ x v)(nx:bN X.K F H dx x):∃ as,Reads s.heap v dx as:=by
 rcases nx with nx | ⟨ds,a,xs,rfl,rfl,e,dl⟩
 ·exact aFg I R.sub nx rx
 ·cases rx;obtain⟨aE,rv,p1,_⟩:=I.list (bR.of e);obtain⟨o,ho,hc,n,hd⟩:=p1.isList;obtain⟨as,ra⟩:=wS I R.sub dl rv;exact⟨_,.list ho hc hd (by simpa using ra)⟩
theorem aSz(hu:X.A.units+64 < cLine)(I:Inv X aB σ H s)(rx:aZ x v)(ry:aZ y u)(R:Rel X.K F L S H)(nx:bN X.K F H dx x)(ny:bN X.K F H dy y)
 (c1:dx.canLay0=true) (c2:dy.canLay0=true) (c3:dx.depth<=60) (q:Q (.bl (PyData.eqv dx dy)) H):wpAny (model X.prog X.w) X.A (compareOp .Eq v u) (EP X aB σ Q) X.xe s:=by
 obtain⟨as,ra⟩:=xM I R rx nx;obtain⟨bs,rb⟩:=xM I R ry ny;refine SeqAt.compareEq_reads ra rb c1 c2 ?_ ⟨.bl _,H,I,rfl,q⟩;have:min dx.depth dy.depth<=dx.depth:=Nat.min_le_left _ _;omega
theorem aRO(hu:X.A.units+64 < cLine)(I:Inv X aB σ H s)(rx:aZ x v)(ry:aZ y u)(R:Rel X.K F L S H)(nx:bN X.K F H dx x)(ny:bN X.K F H dy y)
 (c1:dx.canLay0=true) (c2:dy.canLay0=true) (c3:dx.depth<=60) (q:Q (.bl (!PyData.eqv dx dy)) H):wpAny (model X.prog X.w) X.A (compareOp .NotEq v u) (EP X aB σ Q) X.xe s:=by
 obtain⟨as,ra⟩:=xM I R rx nx;obtain⟨bs,rb⟩:=xM I R ry ny;refine SeqAt.compareNe_reads ra rb c1 c2 ?_ ⟨.bl _,H,I,rfl,q⟩;have:min dx.depth dy.depth<=dx.depth:=Nat.min_le_left _ _;omega
end
theorem aMY{K:FrG}{F:Hp}{d e:D}{x y:V}(h1:Den K F d x)(h2:Den K F e y)(f1:iV d=true)(f2:iV e=true):mG x y=PyData.eqv d e:=by
 cases h1<;>first | (simp[iV] at f1;done) | skip
 all_goals cases h2<;>first | (simp[iV] at f2;done) | rfl | skip
theorem aBy{K:FrG}{F:Hp}{d:D}{x:V}(h1:Den K F d x)(f1:iV d=true):kU x=true:=by
 cases h1<;>first | rfl | (simp[iV] at f1;done)
theorem aBw{K:FrG}{F:Hp}:∀ {ds:List D}{xs:List V},DenL K F ds xs->oK ds=true->xs.all kU=true
 | _,_,.nil,_=>rfl
 | _,_,.cons h r,f=>by
   simp only[oK,Bool.and_eq_true] at f;rw[List.all_cons,aBy h f.1,aBw r f.2];rfl
theorem aBI{K:FrG}{F:Hp}{e:D}{y:V}(h2:Den K F e y)(f2:iV e=true):∀ {ds:List D}{xs:List V},DenL K F ds xs->oK ds=true->rM y xs=inD e ds
 | _,_,.nil,_=>rfl
 | _,_,.cons h r,f=>by
   simp only[oK,Bool.and_eq_true] at f;have ih:=aBI h2 f2 r f.2;unfold rM at ih ⊢;rw[List.any_cons,ih,aMY h h2 f.1 f2];rfl
section
variable {X : Cx}{aB : List (Addr × Obj)}{s : Shared}{σ : L2.St}{H : Hp}{x y : V}{v u : Value}{Q : VK}{F : Hp}{L : List Addr}{S : aC}{dx dy : D}{b : Bool}
theorem bN.flat{d:D}{z:V}(h:bN X.K F H d z)(f:iV d=true):Den X.K F d z:=by
 rcases h with h | ⟨ds,_,_,rfl,_⟩
 ·exact h
 ·simp[iV] at f
theorem aGL{d:D}{ys:List D}{z:V}(sb:cC F H)(h:bN X.K F H d z)(e:aCx d=some ys):∃ p xs,z=.ref p/\(bR X.K H p xs\/bS X.K H p xs)/\DenL X.K F ys xs:=by
 cases d with
 | list l=>cases e;obtain⟨a,xs,e1,q,dl⟩:=h.lst sb;exact⟨a,xs,e1,.inl q,dl⟩
 | tuple l=>cases e;obtain⟨a,xs,e1,q,dl⟩:=h.tup sb;exact⟨a,xs,e1,.inr q,dl⟩
 | _=>cases e
theorem aG3(R:Rel X.K F L S H)(nx:bN X.K F H dx x):decide (x=.non)=qS dx:=by
 cases dx with
 | none=>rw[nx.non];rfl
 | bool c=>rw[nx.bl];rfl
 | int c=>rw[nx.int];rfl
 | str c=>rw[nx.str];rfl
 | list c=>obtain⟨a,xs,rfl,_⟩:=nx.lst R.sub;rfl
 | tuple c=>obtain⟨a,xs,rfl,_⟩:=nx.tup R.sub;rfl
 | dict c=>exact nx.dict.elim
theorem aRm{op:CmpOp}(hu:X.A.units+64 < cLine)(I:Inv X aB σ H s)(rx:aZ x v)(ry:aZ y u)(R:Rel X.K F L S H)(nx:bN X.K F H dx x)(ny:bN X.K F H dy y)(e:nL op dx dy=some b)(q:Q (.bl b) H) :
 wpAny (model X.prog X.w) X.A (compareOp op v u) (EP X aB σ Q) X.xe s:=by
 cases op with
 | Lt=>obtain⟨i,j,rfl,rfl,e⟩:=iC e;cases e;exact aS9 aB s σ H x y v u Q I rx ry ⟨_,_,nx.int,ny.int,q⟩
 | LtE=>obtain⟨i,j,rfl,rfl,e⟩:=iC e;cases e;exact aSJ aB s σ H x y v u Q I rx ry ⟨_,_,nx.int,ny.int,q⟩
 | Gt=>obtain⟨i,j,rfl,rfl,e⟩:=iC e;cases e;exact aSs aB s σ H x y v u Q I rx ry ⟨_,_,nx.int,ny.int,q⟩
 | GtE=>obtain⟨i,j,rfl,rfl,e⟩:=iC e;cases e;exact aSv aB s σ H x y v u Q I rx ry ⟨_,_,nx.int,ny.int,q⟩
 | Eq=>obtain⟨c,rfl⟩:=jN e;exact aSz hu I rx ry R nx ny c.1 c.2.1 c.2.2 q
 | NotEq=>obtain⟨c,rfl⟩:=jN e;exact aRO hu I rx ry R nx ny c.1 c.2.1 c.2.2 q
 | Is =>
   obtain⟨c,rfl⟩:=jN e;cases aFs c;exact aPe aB s σ H x y v u Q I rx ry ⟨ny.non,by rw[aG3 R nx];exact q⟩
 | IsNot =>
   obtain⟨c,rfl⟩:=jN e;cases aFs c;exact aN4 aB s σ H x y v u Q I rx ry ⟨ny.non,by rw[aG3 R nx];exact q⟩
 | In =>
   obtain⟨ys,hs,e⟩:=bind_some e;obtain⟨c,rfl⟩:=jN e;obtain⟨p,xs,e1,sq,dl⟩:=aGL R.sub ny hs;refine aLA aB s σ H x y v u Q I rx ry ⟨p,xs,e1,sq,aBy (nx.flat c.1) c.1,aBw dl c.2,?_⟩;show Q (.bl (rM x xs)) H;rw[aBI (nx.flat c.1) c.1 dl c.2];exact q
 | NotIn =>
   obtain⟨ys,hs,e⟩:=bind_some e;obtain⟨c,rfl⟩:=jN e;obtain⟨p,xs,e1,sq,dl⟩:=aGL R.sub ny hs;refine aKz aB s σ H x y v u Q I rx ry ⟨p,xs,e1,sq,aBy (nx.flat c.1) c.1,aBw dl c.2,?_⟩;show Q (.bl (!rM x xs)) H;rw[aBI (nx.flat c.1) c.1 dl c.2];exact q
theorem aEa{K:FrG}{ds:List D}{xs:List V}(h:DenL K F ds xs):xs.isEmpty=ds.isEmpty:=by cases h<;>rfl
theorem aOP{b:Bool}(R:Rel X.K F L S H)(nx:bN X.K F H dx x)(e:pG dx=some b):aC3 X.K x H b:=by
 cases dx with
 | none=>cases e;rw[nx.non];exact rfl
 | bool c=>cases e;rw[nx.bl];exact rfl
 | int c=>cases e;rw[nx.int];exact rfl
 | str c =>
   rw[nx.str];have e':(if c.length<=sizeLine then some ((c.length:Int) != 0) else none)=some b:=e
   split at e'
   ·rename_i h;cases e';exact⟨h,rfl⟩
   ·cases e'
 | list c=>cases e;obtain⟨a,xs,rfl,sq,dl⟩:=nx.lst R.sub;exact .inl ⟨xs,sq,by rw[aEa dl]⟩
 | tuple c=>cases e;obtain⟨a,xs,rfl,sq,dl⟩:=nx.tup R.sub;exact .inr (.inl ⟨xs,sq,by rw[aEa dl]⟩)
 | dict c=>cases e
end
noncomputable abbrev FE:=aT->aC->Option (W × aC)
noncomputable abbrev FT:=aT->aC->Option (Bool × aC)
noncomputable abbrev FA:=aT->aC->Option (List W × aC)
noncomputable abbrev FL:=aT->aC->Option (List D × aC)
inductive Fl where
 | nx (env:aT) | rt (w:W) | bk (env:aT) | ct (env:aT)
noncomputable abbrev FS:=aT->aC->Option (Fl × aC)
inductive WDenL (K:FrG) (F:Hp) (L:List Addr):List W->List V->Prop
 | nil:WDenL K F L [] []
 | cons {w:W}{ws:List W}{x:V}{xs:List V}:eJ K F L w x->WDenL K F L ws xs->WDenL K F L (w::ws) (x::xs)
theorem WDenL.length{K:FrG}{F:Hp}{L:List Addr}:∀ {ws:List W}{xs:List V},WDenL K F L ws xs->ws.length=xs.length
 | _,_,.nil=>rfl
 | _,_,.cons _ r=>congrArg (· + 1) r.length
section
variable (K : FrG)
noncomputable def aS(f:FE):TE:=λ σ H Q=>∃ F L S env w S',Rel K F L S H/\EnvR K F L env σ/\f env S=some (w,S')/\∀ F' L' H' v,Gr F L F' L'->Rel K F' L' S' H'->eJ K F' L' w v->Q v H'
noncomputable def fO(f:FT):TT:=λ σ H Q=>∃ F L S env b S',Rel K F L S H/\EnvR K F L env σ/\f env S=some (b,S')/\∀ F' L' H',Gr F L F' L'->Rel K F' L' S' H'->Q b H'
noncomputable def fN(f:FA):TA:=λ σ H Q=>∃ F L S env ws S',Rel K F L S H/\EnvR K F L env σ/\f env S=some (ws,S')/\∀ F' L' H' vs,Gr F L F' L'->Rel K F' L' S' H'->WDenL K F' L' ws vs->Q vs H'
noncomputable def iO(f:FL):TE:=λ σ H Q=>∃ F L S env ds S',Rel K F L S H/\EnvR K F L env σ/\f env S=some (ds,S')/\∀ F' L' H' p xs,Gr F L F' L'->Rel K F' L' S' H'->F' p=none->p ∉ L'->H' p=some (.lst xs)->DenL K F' ds xs->Q (.ref p) H'
noncomputable def dG(f:FS):TS:=λ D σ H=>∃ F L S env fl S',Rel K F L S H/\EnvR K F L env σ/\f env S=some (fl,S')/\∀ F' L' H',Gr F L F' L'->Rel K F' L' S' H'->match fl with
 | .nx aI=>∀ σ',EnvR K F' L' aI σ'->D.nx σ' H'
 | .rt w=>∀ v,eJ K F' L' w v->D.rt v H'
 | .bk aI=>∀ σ',EnvR K F' L' aI σ'->D.bk σ' H'
 | .ct aI=>∀ σ',EnvR K F' L' aI σ'->D.ct σ' H'
end
section
variable {X : Cx}
theorem PE.weak{e:Expr}{t t':TE}(h:PE X e t)(w:∀ σ H Q,t' σ H Q->t σ H Q):PE X e t':=λ aB s σ H Q I q=>h aB s σ H Q I (w σ H Q q)
theorem PT.weak{e:Expr}{t t':TT}(h:PT X e t)(w:∀ σ H Q,t' σ H Q->t σ H Q):PT X e t':=λ aB s σ H Q I q=>h aB s σ H Q I (w σ H Q q)
theorem PW.weak{e:Expr}{t t':TT}(h:PW X e t)(w:∀ σ H Q,t' σ H Q->t σ H Q):PW X e t':=λ wh aB s σ H Q I q=>h wh aB s σ H Q I (w σ H Q q)
theorem PA.weak{e:List Expr}{t t':TA}(h:PA X e t)(w:∀ σ H Q,t' σ H Q->t σ H Q):PA X e t':=λ pos aB s σ H Q I q=>h pos aB s σ H Q I (w σ H Q q)
theorem PS.weak{e:Stmt}{t t':TS}(h:PS X e t)(w:∀ D σ H,t' D σ H->t D σ H):PS X e t':=λ aB s σ H D I q=>h aB s σ H D I (w D σ H q)
theorem dN.weak{e:List Stmt}{t t':TS}(h:dN X e t)(w:∀ D σ H,t' D σ H->t D σ H):dN X e t':=λ aB s σ H D I q=>h aB s σ H D I (w D σ H q)
abbrev rC(K:FrG)(F:Hp)(L:List Addr)(S':aC)(w:W)(Q:VK):Prop:=∀ F' L' H' v,Gr F L F' L'->Rel K F' L' S' H'->eJ K F' L' w v->Q v H'
noncomputable def f2(fa fb:FE)(g:aC->W->W->Option (W × aC)):FE:=λ env S=>(fa env S).bind λ p=>(fb env p.2).bind λ q=>g q.2 p.1 q.1
noncomputable def f1(fa:FE)(g:aC->W->Option (W × aC)):FE:=λ env S=>(fa env S).bind λ p=>g p.2 p.1
theorem aAh{K:FrG}{fa fb:FE}{g:aC->W->W->Option (W × aC)}{r:R2}
 (hr:∀ F L S H x y wx wy w S' Q,Rel K F L S H->eJ K F L wx x->eJ K F L wy y->g S wx wy=some (w,S')->rC K F L S' w Q->r x y H Q)
 (σ:St) (H:Hp) (Q:VK) (h:aS K (f2 fa fb g) σ H Q):vS r (aS K fa) (aS K fb) σ H Q:=by
 obtain⟨F,L,S,env,w,S',R,E,e,q⟩:=h;unfold f2 at e;cases ea:fa env S with
 | none=>rw[ea] at e;cases e
 | some p =>
   obtain⟨wx,S1⟩:=p;rw[ea] at e;dsimp only[Option.bind] at e;cases eb:fb env S1 with
   | none=>rw[eb] at e;cases e
   | some p2 =>
     obtain⟨wy,S2⟩:=p2;rw[eb] at e;dsimp only at e;refine⟨F,L,S,env,wx,S1,R,E,ea,λ F1 L1 H1 x g1 R1 d1=>⟨F1,L1,S1,env,wy,S2,R1,E.mono g1,eb,λ F2 L2 H2 y g2 R2 d2=>?_⟩⟩
     exact hr F2 L2 S2 H2 x y wx wy w S' Q R2 (d1.mono g2) d2 e λ F3 L3 H3 v g3 R3 d3=>q F3 L3 H3 v ((g1.trans g2).trans g3) R3 d3
theorem aUx{K:FrG}{fa:FE}{g:aC->W->Option (W × aC)}{r:V->Hp->VK->Prop}
 (hr:∀ F L S H x wx w S' Q,Rel K F L S H->eJ K F L wx x->g S wx=some (w,S')->rC K F L S' w Q->r x H Q)
 (σ:St) (H:Hp) (Q:VK) (h:aS K (f1 fa g) σ H Q):tUn r (aS K fa) σ H Q:=by
 obtain⟨F,L,S,env,w,S',R,E,e,q⟩:=h;unfold f1 at e;cases ea:fa env S with
 | none=>rw[ea] at e;cases e
 | some p =>
   obtain⟨wx,S1⟩:=p;rw[ea] at e;dsimp only[Option.bind] at e;refine⟨F,L,S,env,wx,S1,R,E,ea,λ F1 L1 H1 x g1 R1 d1=>?_⟩
   exact hr F1 L1 S1 H1 x wx w S' Q R1 d1 e λ F3 L3 H3 v g3 R3 d3=>q F3 L3 H3 v (g1.trans g3) R3 d3
noncomputable def iY(i:Nat):FE:=λ env S=>match env[i]? with
 | some (some w)=>some (w,S)
 | _=>none
theorem aLJ{i:Nat}{env:aT}{S S':aC}{w:W}(h:iY i env S=some (w,S')):env[i]? = some (some w)/\S'=S:=by
 unfold iY at h
 split at h
 ·rename_i w' e;cases h;exact⟨e,rfl⟩
 ·cases h
theorem aTc{i:Nat}{x:Str}{pos:Pos}(hN:X.N[i]? = some x)(hv:vR X.env.scope x)(hd:(x==("__debug__" : Str))=false)(hcd:(x==("__classdict__" : Str))=false):PE X (.Name x pos) (aS X.K (iY i)):=
 PE.weak (aPn hN hv hd hcd) λ σ H Q aP=>by
  obtain⟨F,L,S,env,w,S',R,E,e,q⟩:=aP;obtain⟨e1,rfl⟩:=aLJ e;obtain⟨v,e2,d⟩:=E.get i w e1;exact⟨v,e2,q F L H v Gr.refl R d⟩
noncomputable def fC(d:D):FE:=λ _ S=>some (.d d,S)
theorem aRV{i j pos}:PE X (.Constant (.int i) j pos) (aS X.K (fC (.int i))):=
 PE.weak aP8 λ σ H Q aP=>by obtain⟨F,L,S,env,w,S',R,E,e,q⟩:=aP;cases e;exact q F L H _ Gr.refl R (.int i)
theorem aUA{b j pos}:PE X (.Constant (.bool b) j pos) (aS X.K (fC (.bool b))):=
 PE.weak aTP λ σ H Q aP=>by obtain⟨F,L,S,env,w,S',R,E,e,q⟩:=aP;cases e;exact q F L H _ Gr.refl R (.bl b)
theorem aTw{j pos}:PE X (.Constant .none j pos) (aS X.K (fC .none)):=
 PE.weak aPY λ σ H Q aP=>by obtain⟨F,L,S,env,w,S',R,E,e,q⟩:=aP;cases e;exact q F L H _ Gr.refl R .non
theorem aSY{x j pos}:PE X (.Constant (.str x) j pos) (aS X.K (fC (.str x))):=
 PE.weak aQS λ σ H Q aP=>by obtain⟨F,L,S,env,w,S',R,E,e,q⟩:=aP;cases e;exact q F L H _ Gr.refl R (.str x)
noncomputable def gP(g:D->D->Option D)(S:aC)(x y:W):Option (W × aC):=(dr S x).bind λ a=>(dr S y).bind λ b=>(g a b).bind λ z=>some (.d z,S)
noncomputable def fV(g:D->Option D)(S:aC)(x:W):Option (W × aC):=(dr S x).bind λ a=>(g a).bind λ z=>some (.d z,S)
theorem aFl{g:D->D->Option D}{S S':aC}{x y w:W}(h:gP g S x y=some (w,S')):∃ a b z,dr S x=some a/\dr S y=some b/\g a b=some z/\w=.d z/\S'=S:=by
 unfold gP at h;cases e1:dr S x with
 | none=>rw[e1] at h;cases h
 | some a =>
   cases e2:dr S y with
   | none=>rw[e1,e2] at h;cases h
   | some b =>
     rw[e1,e2] at h;dsimp only[Option.bind] at h;cases e3:g a b with
     | none=>rw[e3] at h;cases h
     | some z=>rw[e3] at h;cases h;exact⟨a,b,z,rfl,rfl,e3,rfl,rfl⟩
theorem sX{g:D->Option D}{S S':aC}{x w:W}(h:fV g S x=some (w,S')):∃ a z,dr S x=some a/\g a=some z/\w=.d z/\S'=S:=by
 unfold fV at h;cases e1:dr S x with
 | none=>rw[e1] at h;cases h
 | some a =>
   rw[e1] at h;dsimp only[Option.bind] at h;cases e3:g a with
   | none=>rw[e3] at h;cases h
   | some z=>rw[e3] at h;cases h;exact⟨a,z,rfl,e3,rfl,rfl⟩
theorem xQ{K:FrG}{F:Hp}{L:List Addr}{S:aC}{z:D}{Q:VK}(X:Cx)(hK:X.K=K)(q:rC K F L S (.d z) Q):fK X F L S z Q:=λ F' H' r sf R d=>by
 subst hK;exact q F' L H' r ⟨sf,[],by simp⟩ R d
noncomputable def rD2(X:Cx)(g:D->D->Option D):R2:=λ x y H Q=>∃ F L S dx dy z,Rel X.K F L S H/\bN X.K F H dx x/\bN X.K F H dy y/\g dx dy=some z/\fK X F L S z Q
theorem yU{g:D->D->Option D}(F:Hp)(L:List Addr)(S:aC)(H:Hp)(x y:V)(wx wy w:W)(S':aC)(Q:VK)(R:Rel X.K F L S H)(h1:eJ X.K F L wx x)(h2:eJ X.K F L wy y)(e:gP g S wx wy=some (w,S'))(q:rC X.K F L S' w Q):rD2 X g x y H Q:=by
 obtain⟨a,b,z,e1,e2,e3,rfl,rfl⟩:=aFl e;exact⟨F,L,S',a,b,z,R,jJ R h1 e1,jJ R h2 e2,e3,xQ X rfl q⟩
noncomputable def pC(op:Operator)(fa fb:FE):FE:=f2 fa fb (gP (cB op))
theorem aS2{a b:Expr}{op:Operator}{pos:Pos}{fa fb:FE}(ha:PE X a (aS X.K fa))(hb:PE X b (aS X.K fb)):PE X (.BinOp a op b pos) (aS X.K (pC op fa fb)):=
 PE.weak (aIN (r:=rD2 X (cB op)) (λ aB s σ H x y v u Q I rx ry hPr0=>by obtain⟨F,L,S,dx,dy,z,R,nx,ny,e,q⟩:=hPr0;exact aPh I rx ry R nx ny e q) ha hb) (aAh yU)
noncomputable def vZ(op:UnaryOp)(fa:FE):FE:=f1 fa (fV (nZ op))
theorem aUZ{a:Expr}{op:UnaryOp}{pos:Pos}{fa:FE}(ha:PE X a (aS X.K fa)):PE X (.UnaryOp op a pos) (aS X.K (vZ op fa)):=
 PE.weak (aSd (r:=λ x H Q=>∃ F L S dx z,Rel X.K F L S H/\bN X.K F H dx x/\nZ op dx=some z/\fK X F L S z Q) (λ aB s σ H x v Q I rx hPr1=>by obtain⟨F,L,S,dx,z,R,nx,e,q⟩:=hPr1;exact aRF I rx R nx e q) ha)
  (aUx λ F L S H x wx w S' Q R d e q=>by
    obtain⟨a,z,e1,e3,rfl,rfl⟩:=sX e;exact⟨F,L,S',a,z,R,jJ R d e1,e3,xQ X rfl q⟩)
noncomputable def aX(op:CmpOp)(x y:D):Option D:=(nL op x y).map PyData.bool
theorem aFm{op:CmpOp}(hu:X.A.units+64 < cLine):cO X (compareOp op) (rD2 X (aX op)):=λ aB s σ H x y v u Q I rx ry aP=>by
 obtain⟨F,L,S,dx,dy,z,R,nx,ny,e,q⟩:=aP;unfold aX at e;cases ec:nL op dx dy with
 | none=>rw[ec] at e;cases e
 | some b=>rw[ec] at e;cases e;exact aRm hu I rx ry R nx ny ec (q.here R (.bl b))
noncomputable def mC(op:CmpOp)(fa fb:FE):FE:=f2 fa fb (gP (aX op))
theorem aTz{a b:Expr}{op:CmpOp}{pos:Pos}{fa fb:FE}(hu:X.A.units+64 < cLine)(ha:PE X a (aS X.K fa))(hb:PE X b (aS X.K fb))(hm:behindInMarks op b=false):PE X (.Compare a [op] [b] pos) (aS X.K (mC op fa fb)):=
 PE.weak (aNC (aFm hu) ha hb hm) (aAh yU)
noncomputable def cY(fa:FE):FT:=λ env S=>(fa env S).bind λ p=>(dr p.2 p.1).bind λ d=>(pG d).bind λ b=>some (b,p.2)
theorem aEL{fa:FE}{env:aT}{S S':aC}{b:Bool}(h:cY fa env S=some (b,S')):∃ w d,fa env S=some (w,S')/\dr S' w=some d/\pG d=some b:=by
 unfold cY at h;cases ea:fa env S with
 | none=>rw[ea] at h;cases h
 | some p =>
   obtain⟨w,S1⟩:=p;rw[ea] at h;dsimp only[Option.bind] at h;cases e1:dr S1 w with
   | none=>rw[e1] at h;cases h
   | some d =>
     rw[e1] at h;dsimp only at h;cases e2:pG d with
     | none=>rw[e2] at h;cases h
     | some c=>rw[e2] at h;cases h;exact⟨w,d,rfl,e1,e2⟩
theorem aSl{a:Expr}{fa:FE}(ha:PE X a (aS X.K fa))(he:∀ fF,isTrue a X.env fF=(do let v <- fF;standAt a.pos;holding [v] (truthy v))):PT X a (fO X.K (cY fa)):=
 PT.weak (aNh ha he) λ σ H Q aP=>by
  obtain⟨F,L,S,env,b,S',R,E,e,q⟩:=aP;obtain⟨w,d,e1,e2,e3⟩:=aEL e;exact⟨F,L,S,env,w,S',R,E,e1,λ F1 L1 H1 v g1 R1 d1=>⟨b,aOP R1 (jJ R1 d1 e2) e3,q F1 L1 H1 g1 R1⟩⟩
theorem aQY{a b:Expr}{op:CmpOp}{pos:Pos}{fa fb:FE}(hu:X.A.units+64 < cLine)(ha:PE X a (aS X.K fa))(hb:PE X b (aS X.K fb))(hm:behindInMarks op b=false):PT X (.Compare a [op] [b] pos) (fO X.K (cY (mC op fa fb))):=
 PT.weak (aNx (aFm hu) ha hb hm) λ σ H Q aP=>by
  obtain⟨F,L,S,env,b,S',R,E,e,q⟩:=aP;obtain⟨w,d,e1,e2,e3⟩:=aEL e;refine aAh (fa:=fa) (fb:=fb) (g:=gP (aX op)) yU σ H _ ⟨F,L,S,env,w,S',R,E,e1,λ F1 L1 H1 v g1 R1 d1=>?_⟩
  have hc:∃ c,w=.d (.bool c):=by
   unfold mC f2 at e1;cases ea:fa env S with
   | none=>rw[ea] at e1;cases e1
   | some p =>
     rw[ea] at e1;dsimp only[Option.bind] at e1;cases eb:fb env p.2 with
     | none=>rw[eb] at e1;cases e1
     | some p2 =>
       rw[eb] at e1;dsimp only at e1;obtain⟨_,_,z,_,_,e6,rfl,_⟩:=aFl e1;unfold aX at e6;cases e7:nL op _ _ with
       | none=>rw[e7] at e6;cases e6
       | some c=>rw[e7] at e6;cases e6;exact⟨c,rfl⟩
  obtain⟨c,rfl⟩:=hc;cases e2;cases e3;have hv:v=.bl b:=by cases (show Den X.K F1 (.bool b) v from d1);rfl
  exact⟨b,hv,q F1 L1 H1 g1 R1⟩
end
section
variable {X : Cx}{pos : Pos}
noncomputable def uT(fa fb:FT):FT:=λ env S=>(fa env S).bind λ p=>if p.1=true then fb env p.2 else some (false,p.2)
noncomputable def vX(fa fb:FT):FT:=λ env S=>(fa env S).bind λ p=>if p.1=true then some (true,p.2) else fb env p.2
noncomputable def vB(fa:FT):FT:=λ env S=>(fa env S).bind λ p=>some (!p.1,p.2)
theorem aIq{K:FrG}{fa fb:FT}(σ:St)(H:Hp)(Q:Bool->Hp->Prop)(h:fO K (uT fa fb) σ H Q):aJd (fO K fa) (fO K fb) σ H Q:=by
 obtain⟨F,L,S,env,b,S',R,E,e,q⟩:=h;obtain⟨⟨c,S1⟩,e1,e2⟩:=bind_some e;refine⟨F,L,S,env,c,S1,R,E,e1,λ F1 L1 H1 g1 R1=>?_⟩
 dsimp only at e2;cases c with
 | true=>exact qZ ⟨F1,L1,S1,env,b,S',R1,E.mono g1,by simpa using e2,λ F2 L2 H2 g2 R2=>q F2 L2 H2 (g1.trans g2) R2⟩
 | false =>
   have e3:some (false,S1)=some (b,S'):=by simpa using e2
   cases e3;exact qW (q F1 L1 H1 g1 R1)
theorem aI3{K:FrG}{fa fb:FT}(σ:St)(H:Hp)(Q:Bool->Hp->Prop)(h:fO K (vX fa fb) σ H Q):tOr (fO K fa) (fO K fb) σ H Q:=by
 obtain⟨F,L,S,env,b,S',R,E,e,q⟩:=h;obtain⟨⟨c,S1⟩,e1,e2⟩:=bind_some e;refine⟨F,L,S,env,c,S1,R,E,e1,λ F1 L1 H1 g1 R1=>?_⟩
 dsimp only at e2;cases c with
 | false=>exact qW ⟨F1,L1,S1,env,b,S',R1,E.mono g1,by simpa using e2,λ F2 L2 H2 g2 R2=>q F2 L2 H2 (g1.trans g2) R2⟩
 | true =>
   have e3:some (true,S1)=some (b,S'):=by simpa using e2
   cases e3;exact qZ (q F1 L1 H1 g1 R1)
theorem aS6{a:Expr}{fa:FT}(ha:PT X a (fO X.K fa)):PT X (.UnaryOp .Not a pos) (fO X.K (vB fa)):=
 PT.weak (aQw ha) λ σ H Q aP=>by
  obtain⟨F,L,S,env,b,S',R,E,e,q⟩:=aP;obtain⟨⟨c,S1⟩,e1,e2⟩:=bind_some e;cases e2;exact⟨F,L,S,env,c,S1,R,E,e1,q⟩
noncomputable def uE(fa fb:FE):FE:=λ env S=>(fa env S).bind λ p=>match p.1 with
 | .d (.bool true)=>fb env p.2
 | .d (.bool false)=>some (.d (.bool false),p.2)
 | _=>none
noncomputable def vF(fa fb:FE):FE:=λ env S=>(fa env S).bind λ p=>match p.1 with
 | .d (.bool false)=>fb env p.2
 | .d (.bool true)=>some (.d (.bool true),p.2)
 | _=>none
noncomputable def uC(fa:FE):FE:=λ env S=>(fa env S).bind λ p=>match p.1 with
 | .d (.bool b)=>some (.d (.bool (!b)),p.2)
 | _=>none
theorem uB{K:FrG}{F:Hp}{L:List Addr}{b:Bool}{v:V}(h:eJ K F L (.d (.bool b)) v):v=.bl b:=by cases (show Den K F (.bool b) v from h);rfl
theorem aHI{K:FrG}{fa fb:FE}(σ:St)(H:Hp)(Q:VK)(h:aS K (uE fa fb) σ H Q):aIM (aS K fa) (aS K fb) σ H Q:=by
 obtain⟨F,L,S,env,w,S',R,E,e,q⟩:=h;obtain⟨⟨c,S1⟩,e1,e2⟩:=bind_some e;dsimp only at e2
 split at e2
 ·exact⟨F,L,S,env,_,S1,R,E,e1,λ F1 L1 H1 v g1 R1 d1=>⟨true,uB d1,qZ ⟨F1,L1,S1,env,w,S',R1,E.mono g1,e2,λ F2 L2 H2 v2 g2 R2 d2=>q F2 L2 H2 v2 (g1.trans g2) R2 d2⟩⟩⟩
 ·cases e2;exact⟨F,L,S,env,_,_,R,E,e1,λ F1 L1 H1 v g1 R1 d1=>⟨false,uB d1,qW (q F1 L1 H1 _ g1 R1 (Den.bl false))⟩⟩
 ·cases e2
theorem aIz{K:FrG}{fa fb:FE}(σ:St)(H:Hp)(Q:VK)(h:aS K (vF fa fb) σ H Q):aJq (aS K fa) (aS K fb) σ H Q:=by
 obtain⟨F,L,S,env,w,S',R,E,e,q⟩:=h;obtain⟨⟨c,S1⟩,e1,e2⟩:=bind_some e;dsimp only at e2
 split at e2
 ·exact⟨F,L,S,env,_,S1,R,E,e1,λ F1 L1 H1 v g1 R1 d1=>⟨false,uB d1,qW ⟨F1,L1,S1,env,w,S',R1,E.mono g1,e2,λ F2 L2 H2 v2 g2 R2 d2=>q F2 L2 H2 v2 (g1.trans g2) R2 d2⟩⟩⟩
 ·cases e2;exact⟨F,L,S,env,_,_,R,E,e1,λ F1 L1 H1 v g1 R1 d1=>⟨true,uB d1,qZ (q F1 L1 H1 _ g1 R1 (Den.bl true))⟩⟩
 ·cases e2
theorem aPx{a:Expr}{fa:FE}(ha:PE X a (aS X.K fa)):PE X (.UnaryOp .Not a pos) (aS X.K (uC fa)):=
 PE.weak (aQK ha) λ σ H Q aP=>by
  obtain⟨F,L,S,env,w,S',R,E,e,q⟩:=aP;obtain⟨⟨c,S1⟩,e1,e2⟩:=bind_some e;dsimp only at e2
  split at e2
  ·cases e2;exact⟨F,L,S,env,_,_,R,E,e1,λ F1 L1 H1 v g1 R1 d1=>⟨_,uB d1,q F1 L1 H1 _ g1 R1 (Den.bl _)⟩⟩
  ·cases e2
noncomputable def uO(fc:FT)(fa fb:FE):FE:=λ env S=>(fc env S).bind λ p=>if p.1=true then fa env p.2 else fb env p.2
theorem aTJ{c a b:Expr}{fc:FT}{fa fb:FE}(hc:PT X c (fO X.K fc))(ha:PE X a (aS X.K fa))(hb:PE X b (aS X.K fb)):PE X (.IfExp c a b pos) (aS X.K (uO fc fa fb)):=
 PE.weak (aMD hc ha hb) λ σ H Q aP=>by
  obtain⟨F,L,S,env,w,S',R,E,e,q⟩:=aP;obtain⟨⟨c,S1⟩,e1,e2⟩:=bind_some e;refine⟨F,L,S,env,c,S1,R,E,e1,λ F1 L1 H1 g1 R1=>?_⟩
  dsimp only at e2;cases c with
  | true=>exact qZ ⟨F1,L1,S1,env,w,S',R1,E.mono g1,by simpa using e2,λ F2 L2 H2 v g2 R2 d2=>q F2 L2 H2 v (g1.trans g2) R2 d2⟩
  | false=>exact qW ⟨F1,L1,S1,env,w,S',R1,E.mono g1,by simpa using e2,λ F2 L2 H2 v g2 R2 d2=>q F2 L2 H2 v (g1.trans g2) R2 d2⟩
noncomputable def gO:FA:=λ _ S=>some ([],S)
noncomputable def cN(fa:FE)(fr:FA):FA:=λ env S=>(fa env S).bind λ p=>(fr env p.2).bind λ q=>some (p.1::q.1,q.2)
theorem aCv:PA X [] (fN X.K gO):=PA.weak aHd λ σ H Q aP=>by obtain⟨F,L,S,env,ws,S',R,E,e,q⟩:=aP;cases e;exact q F L H [] Gr.refl R .nil
theorem kK{e:Expr}{es:List Expr}{fa:FE}{fr:FA}(ha:PE X e (aS X.K fa))(hr:PA X es (fN X.K fr))(hs:starEach (e::es) X.env=(false,eval e X.env)::starEach es X.env):PA X (e::es) (fN X.K (cN fa fr)):=
 PA.weak (aBJ ha hr hs) λ σ H Q aP=>by
  obtain⟨F,L,S,env,ws,S',R,E,e,q⟩:=aP;obtain⟨⟨w,S1⟩,e1,e2⟩:=bind_some e;obtain⟨⟨wr,S2⟩,e3,e4⟩:=bind_some e2;cases e4;exact⟨F,L,S,env,w,S1,R,E,e1,λ F1 L1 H1 v g1 R1 d1=>⟨F1,L1,S1,env,wr,S2,R1,E.mono g1,e3,λ F2 L2 H2 vs g2 R2 d2=>q F2 L2 H2 _ (g1.trans g2) R2 (.cons (d1.mono g2) d2)⟩⟩
noncomputable def pB:List W->Option (List D)
 | []=>some []
 | .d x::r=>(pB r).bind λ l=>some (x::l)
 | .loc _::_=>none
theorem aBl{K:FrG}{F:Hp}{L:List Addr}:∀ {ws:List W}{xs:List V}{ds:List D},WDenL K F L ws xs->pB ws=some ds->DenL K F ds xs
 | _,_,_,.nil,e=>by cases e;exact .nil
 | .d x::r,_,_,.cons h t,e=>by
   obtain⟨l,e1,e2⟩:=bind_some e;cases e2;exact .cons h (aBl t e1)
 | .loc _::_,_,_,.cons _ _,e=>by cases e
noncomputable def uP(fs:FA):FE:=λ env S=>(fs env S).bind λ p=>(pB p.1).bind λ ds=>if ds.length<=sizeLine then some (.d (.tuple ds),p.2) else none
theorem aSL{es:List Expr}{k:Nat}{fs:FA}(h:PA X es (fN X.K fs)):PE X (.Tuple es k pos) (aS X.K (uP fs)):=
 PE.weak (aRC h) λ σ H Q aP=>by
  obtain⟨F,L,S,env,w,S',R,E,e,q⟩:=aP;obtain⟨⟨ws,S1⟩,e1,e2⟩:=bind_some e;obtain⟨ds,e3,e4⟩:=bind_some e2
  split at e4
  ·rename_i hz;cases e4;refine⟨F,L,S,env,ws,_,R,E,e1,λ F1 L1 H1 vs g1 R1 d1=>?_⟩
   have dl:=aBl d1 e3;refine⟨by rw[<- dl.length];exact hz,λ p hp=>?_⟩
   exact q _ L1 _ _ (g1.trans (Gr.new (R1.sub.free hp))) (R1.new hp) (Den.tup (bS.of cV) (dl.mono (cQ (R1.sub.free hp))))
  ·cases e4
noncomputable def uY(fs:FA):FL:=λ env S=>(fs env S).bind λ p=>(pB p.1).bind λ ds=>if ds.length<=sizeLine then some (ds,p.2) else none
theorem aT2{es:List Expr}{fs:FA}(h:PA X es (fN X.K fs)):PE X (.List es pos) (iO X.K (uY fs)):=
 PE.weak (aPm h) λ σ H Q aP=>by
  obtain⟨F,L,S,env,ds,S',R,E,e,q⟩:=aP;obtain⟨⟨ws,S1⟩,e1,e2⟩:=bind_some e;obtain⟨ds',e3,e4⟩:=bind_some e2
  split at e4
  ·rename_i hz;cases e4;refine⟨F,L,S,env,ws,_,R,E,e1,λ F1 L1 H1 vs g1 R1 d1=>?_⟩
   have dl:=aBl d1 e3;exact⟨by rw[<- dl.length];exact hz,λ p hp=>q F1 L1 _ p vs g1 (R1.lay hp) (R1.sub.free hp) (R1.notin hp) cV dl⟩
  ·cases e4
noncomputable def jY(f:FL):FE:=λ env S=>(f env S).bind λ p=>some (.d (.list p.1),p.2)
theorem aJz{e:Expr}{f:FL}(h:PE X e (iO X.K f)):PE X e (aS X.K (jY f)):=
 PE.weak h λ σ H Q aP=>by
  obtain⟨F,L,S,env,w,S',R,E,e,q⟩:=aP;obtain⟨⟨ds,S1⟩,e1,e2⟩:=bind_some e;cases e2;exact⟨F,L,S,env,ds,_,R,E,e1,λ F1 L1 H1 p xs g1 R1 hF hL hH dl=>q _ L1 _ _ (g1.trans (Gr.new hF)) (R1.adopt hF hL hH) (Den.lst (bR.of cV) (dl.mono (cQ hF)))⟩
noncomputable def gG(f:FL):FE:=λ env S=>(f env S).bind λ p=>some (.loc p.2.length,p.2++[some p.1])
theorem aTD{e:Expr}{f:FL}(h:PE X e (iO X.K f)):PE X e (aS X.K (gG f)):=
 PE.weak h λ σ H Q aP=>by
  obtain⟨F,L,S,env,w,S',R,E,e,q⟩:=aP;obtain⟨⟨ds,S1⟩,e1,e2⟩:=bind_some e;cases e2;refine⟨F,L,S,env,ds,_,R,E,e1,λ F1 L1 H1 p xs g1 R1 hF hL hH dl=>q _ _ _ _ (g1.trans Gr.newLoc) (R1.adoptLoc hF hL hH dl) ⟨p,?_,rfl⟩⟩
  dsimp only;rw[<- R1.len,List.getElem?_append_right (Nat.le_refl _)];simp
noncomputable def aO:D->D->Option D
 | .list xs,.int i=>jZ xs i
 | .tuple xs,.int i=>jZ xs i
 | .str z,.int i=>if z.length<=sizeLine then (jZ z.cps.toList i).bind λ c=>some (.str ⟨#[c]⟩) else none
 | _,_=>none
theorem aGF{K:FrG}{F:Hp}{ds:List D}{xs:List V}{i:Int}{d:D}(h:DenL K F ds xs)(e:jZ ds i=some d):∃ x,jZ xs i=some x/\Den K F d x:=by
 unfold jZ at e ⊢;rw[<- h.length];obtain⟨j,e1,e2⟩:=bind_some e;obtain⟨x,e3,dx⟩:=h.get e2;exact⟨x,by rw[e1];exact e3,dx⟩
theorem aOq:rP X (rD2 X aO):=λ value lF aB s σ H x y v u Q I rx ry aP hs=>by
 obtain⟨F,L,S,dx,dy,z,R,nx,ny,e,q⟩:=aP;unfold aO at e
 split at e
 ·obtain⟨a,xs,rfl,sq,dl⟩:=nx.lst R.sub;obtain⟨r,e1,d1⟩:=aGF dl e;exact aOl value lF aB s σ H _ y v u Q I rx ry ⟨a,xs,_,r,rfl,ny.int,sq,e1,q.here R d1⟩ hs
 ·obtain⟨a,xs,rfl,sq,dl⟩:=nx.tup R.sub;obtain⟨r,e1,d1⟩:=aGF dl e;exact aQI value lF aB s σ H _ y v u Q I rx ry ⟨a,xs,_,r,rfl,ny.int,sq,e1,q.here R d1⟩ hs
 ·split at e
  ·rename_i hz;obtain⟨c,e1,e2⟩:=bind_some e;cases e2;exact aRA value lF aB s σ H x y v u Q I rx ry ⟨_,_,c,nx.str,ny.int,hz,e1,q.here R (.str _)⟩ hs
  ·cases e
 ·cases e
noncomputable def nT(fa fb:FE):FE:=f2 fa fb (gP aO)
theorem aUk{a b:Expr}{fa fb:FE}(ha:PE X a (aS X.K fa))(hb:PE X b (aS X.K fb))(hs:xP b):PE X (.Subscript a b pos) (aS X.K (nT fa fb)):=
 PE.weak (aII aOq ha hb hs) (aAh yU)
noncomputable abbrev FO:=aT->aC->Option (Option Int × aC)
noncomputable def nW:FO:=λ _ S=>some (none,S)
noncomputable def jP(fa:FE):FO:=λ env S=>(fa env S).bind λ p=>match p.1 with
 | .d (.int i)=>some (some i,p.2)
 | _=>none
noncomputable def kY(K:FrG)(f:FO):TO:=λ σ H Q=>∃ F L S env o S',Rel K F L S H/\EnvR K F L env σ/\f env S=some (o,S')/\∀ F' L' H',Gr F L F' L'->Rel K F' L' S' H'->Q o H'
theorem aUy:PO X none (kY X.K nW):=λ aB s σ H Q I aP=>by
 obtain⟨F,L,S,env,o,S',R,E,e,q⟩:=aP;cases e;exact aOE aB s σ H Q I (q F L H Gr.refl R)
theorem aRa{a:Expr}{fa:FE}(ha:PE X a (aS X.K fa)):PO X (some a) (kY X.K (jP fa)):=λ aB s σ H Q I aP=>by
 obtain⟨F,L,S,env,o,S',R,E,e,q⟩:=aP;obtain⟨⟨w,S1⟩,e1,e2⟩:=bind_some e;dsimp only at e2
 split at e2
 ·cases e2;refine aNN ha aB s σ H Q I ⟨F,L,S,env,_,_,R,E,e1,λ F1 L1 H1 v g1 R1 d1=>?_⟩
  cases (show Den X.K F1 (.int _) v from d1)
  exact⟨_,rfl,q F1 L1 H1 g1 R1⟩
 ·cases e2
noncomputable def fJ(xs:List D)(lo hi:Option Int):List D:=(xs.drop (HT.sIx xs.length 0 lo)).take (HT.sIx xs.length xs.length hi - HT.sIx xs.length 0 lo)
theorem aGp{K:FrG}{F:Hp}{ds:List D}{xs:List V}(h:DenL K F ds xs)(lo hi:Option Int):DenL K F (fJ ds lo hi) (lZ xs lo hi):=by
 unfold fJ lZ;rw[h.length];exact(h.drop _).take _
noncomputable def slL:D->Option Int->Option Int->Option (List D)
 | .list xs,lo,hi=>some (fJ xs lo hi)
 | _,_,_=>none
noncomputable def aJK(fa:FE)(fl fh:FO):FL:=λ env S=>(fa env S).bind λ p=>(fl env p.2).bind λ q=>(fh env q.2).bind λ r=>(dr r.2 p.1).bind λ d=>(slL d q.1 r.1).bind λ z=>some (z,r.2)
theorem aSm{a:Expr}{lo hi:Option Expr}{p2:Pos}{fa:FE}{fl fh:FO}(ha:PE X a (aS X.K fa))(hl:PO X lo (kY X.K fl))(hh:PO X hi (kY X.K fh)):PE X (.Subscript a (.Slice lo hi none p2) pos) (iO X.K (aJK fa fl fh)):=
 PE.weak (aFD aNw ha hl hh) λ σ H Q aP=>by
  obtain⟨F,L,S,env,ds,S',R,E,e,q⟩:=aP;obtain⟨⟨w,S1⟩,e1,e⟩:=bind_some e;obtain⟨⟨l,S2⟩,e2,e⟩:=bind_some e;obtain⟨⟨h,S3⟩,e3,e⟩:=bind_some e;obtain⟨d,e4,e⟩:=bind_some e;obtain⟨z,e5,e⟩:=bind_some e;cases e;refine⟨F,L,S,env,w,S1,R,E,e1,λ F1 L1 H1 v g1 R1 d1=>⟨F1,L1,S1,env,l,S2,R1,E.mono g1,e2,λ F2 L2 H2 g2 R2=>⟨F2,L2,S2,env,h,S3,R2,E.mono (g1.trans g2),e3,λ F3 L3 H3 g3 R3=>?_⟩⟩⟩
  have n:=jJ R3 (d1.mono (g2.trans g3)) e4;cases d with
  | list xs =>
    cases e5;obtain⟨a,vs,rfl,sq,dl⟩:=n.lst R3.sub;exact⟨a,vs,rfl,sq,λ p hp=>q F3 L3 _ p _ ((g1.trans g2).trans g3) (R3.lay hp) (R3.sub.free hp) (R3.notin hp) cV (aGp dl l h)⟩
  | _=>cases e5
noncomputable def rK(K:FrG)(np:Nat)(call:List W->aC->Option (W × aC)):Sp:=λ vs H Q _=>∃ F L S ws w S',ws.length=np/\Rel K F L S H/\WDenL K F L ws vs/\call ws S=some (w,S')/\rC K F L S' w Q
noncomputable def zI(fs:FA)(np:Nat)(call:List W->aC->Option (W × aC)):FE:=λ env S=>(fs env S).bind λ p=>if p.1.length=np then call p.1 p.2 else none
theorem aQN{K:FrG}{fs:FA}{np:Nat}{call:List W->aC->Option (W × aC)}(σ:St)(H:Hp)(Q:VK)(h:aS K (zI fs np call) σ H Q):zN (rK K np call) [] E0 (fN K fs) σ H Q:=by
 obtain⟨F,L,S,env,w,S',R,E,e,q⟩:=h;obtain⟨⟨ws,S1⟩,e1,e⟩:=bind_some e
 split at e
 ·rename_i hn;refine⟨F,L,S,env,ws,S1,R,E,e1,λ F1 L1 H1 vs g1 R1 d1=>⟨F1,L1,S1,ws,w,S',hn,R1,by rw[List.append_nil];exact d1,e,λ F2 L2 H2 v g2 R2 d2=>q F2 L2 H2 v (g1.trans g2) R2 d2⟩⟩
 ·cases e
inductive NowL (K:FrG) (F H:Hp):List D->List V->Prop
 | nil:NowL K F H [] []
 | cons {d:D}{ds:List D}{x:V}{xs:List V}:bN K F H d x->NowL K F H ds xs->NowL K F H (d::ds) (x::xs)
noncomputable def mI(S:aC):List W->Option (List D)
 | []=>some []
 | w::r=>(dr S w).bind λ d=>(mI S r).bind λ l=>some (d::l)
theorem aGy{K:FrG}{F H:Hp}{L:List Addr}{S:aC}(R:Rel K F L S H):∀ {ws:List W}{xs:List V}{ds:List D},WDenL K F L ws xs->mI S ws=some ds->NowL K F H ds xs
 | _,_,_,.nil,e=>by cases e;exact .nil
 | _,_,_,.cons h t,e=>by
   obtain⟨d,e1,e⟩:=bind_some e;obtain⟨l,e2,e⟩:=bind_some e;cases e;exact .cons (jJ R h e1) (aGy R t e2)
noncomputable def lD(X:Cx)(g:List D->Option D):List V->Hp->VK->Prop:=λ xs H Q=>∃ F L S ds z,Rel X.K F L S H/\NowL X.K F H ds xs/\g ds=some z/\fK X F L S z Q
noncomputable def pF(fs:FA)(g:List D->Option D):FE:=λ env S=>(fs env S).bind λ p=>(mI p.2 p.1).bind λ ds=>(g ds).bind λ z=>some (.d z,p.2)
theorem lV{fs:FA}{g:List D->Option D}(σ:St)(H:Hp)(Q:VK)(h:aS X.K (pF fs g) σ H Q):tCB (lD X g) (fN X.K fs) σ H Q:=by
 obtain⟨F,L,S,env,w,S',R,E,e,q⟩:=h;obtain⟨⟨ws,S1⟩,e1,e⟩:=bind_some e;obtain⟨ds,e2,e⟩:=bind_some e;obtain⟨z,e3,e⟩:=bind_some e;cases e;refine⟨F,L,S,env,ws,_,R,E,e1,λ F1 L1 H1 vs g1 R1 d1=>⟨F1,L1,S1,ds,z,R1,aGy R1 d1 e2,e3,xQ X rfl λ F2 L2 H2 v g2 R2 d2=>q F2 L2 H2 v (g1.trans g2) R2 d2⟩⟩
end
section
variable {prog : Program}{w : World}{A : Around}{E : Value -> Shared -> Prop}{s : Shared}
theorem aFd{it t:Addr}{aM:Array Value}(hne:t≠it):∀ (n i:Nat) (s:Shared) (Q:List Value->Shared->Prop),s.heap.IsListIter it t i->s.heap.IsList t aM->i+n<=aM.size ->
 (∀ h',h'.IsListIter it t (i+n)->Heap.SameBut it s.heap h'->Q ((aM.toList.drop i).take n) {s with heap:=h' })->wpAny (model prog w) A (draw (.ref it) n) Q E s
 | 0,i,s,Q,hit,_,_,hQ=>wP (by simpa using hQ s.heap hit (Heap.SameBut.refl _ _))
 | n+1,i,s,Q,hit,hl,hle,hQ=>by
   have hlt:i < aM.size:=by omega
   show wpAny _ _ (pyNext (.ref it) >>= _) Q E s;refine wB (wpAny_pyNext_list_item hit hl (x:=aM[i]) (by simp[hlt]) λ h1 hit1 hs1=>?_)
   refine wB (wpAny_holding (aFd hne n (i+1) _ _ hit1 (hl.extBut hs1.extBut hne) (by omega) λ h2 hit2 hs2=>wP ?_))
   have q:=hQ h2 (by rw[show i+(n+1)=i+1+n by omega];exact hit2) (hs1.trans hs2)
   rw[List.drop_eq_getElem_cons (by simpa using hlt),List.take_succ_cons] at q
   exact q
theorem aKH{env:Env}{elts:List Expr}{x1}{pos:Pos}{t:Addr}{aM:Array Value}{Q:Unit->Shared->Prop}(hh:A.handled=none)(hl:s.heap.IsList t aM)
 (hn:(assignEach elts env).length=aM.size) (hstar:(assignEach elts env).findIdx? (·.1)=none)
 (h:∀ h',Heap.ExtBut s.heap.objs.size s.heap h'->wpAny (model prog w) A (assignInOrder ((assignEach elts env).map (·.2)) aM.toList) Q E {s with heap:=h' }) :
 wpAny (model prog w) A (assign (.Tuple elts x1 pos) env (.ref t)) Q E s:=by
 have hlt:t≠s.heap.objs.size:=by obtain⟨o,ho,_⟩:=hl;exact xAk (xAa ho)
 have hl1:∀ o,(s.heap.push o).IsList t aM:=λ o=>let ⟨u,hu,r⟩:=hl;⟨u,hpS _ hu,r⟩
 rw[arm_assign_Tuple];refine wB (wpAny_standAt ?_);unfold unpack;rw[hn,hstar];refine wB (wpAny_holding ?_);unfold unpackItems;refine wB ?_;unfold notIterableAtAll;refine wB (wpAny_specialOf hl.typeIs slot_list_iter.lookup (wP ?_));simp only[Bool.false_eq_true,if_false];refine wB (wpAny_holding (wpAny_pyIter_list hl ?_));refine wB (wpAny_holding (aFd hlt aM.size 0 _ _ ⟨_,xAe _ rfl,rfl,rfl⟩ (hl1 _) (by omega) λ h1 hit1 hs1=>?_))
 rw[show List.take aM.size (List.drop 0 aM.toList)=aM.toList by rw[List.drop_zero];exact List.take_of_length_le (by simp)]
 rw[if_neg (by simp)]
 have hl2:h1.IsList t aM:=(hl1 _).extBut hs1.extBut hlt;refine wB (wpAny_holding (wpAny_pyNext_list_end hh hit1 hl2 (by simp) λ h2 he2=>?_))
 simp only[Option.isSome_none,Bool.false_eq_true,if_false];exact wP (h h2 λ b o hb e=>he2 b o hb (hs1.extBut b o hb (hpS _ e)))
end
section
variable {X : Cx}
noncomputable def aCZ(K:FrG)(n:Nat)(t:iQ):TG:=λ v σ H Q=>∃ a xs,v=.ref a/\(bS K H a xs\/bR K H a xs)/\xs.length=n/\t xs σ H Q
theorem aP4{es:List Expr}{k:Nat}{t:iQ}{n:Nat}{pos:Pos}(hc:X.calm=true)(h:pK X es t)(hn:(assignEach es X.env).length=n)(hst:(assignEach es X.env).findIdx? (·.1)=none):PG X (.Tuple es k pos) (aCZ X.K n t):=by
 intro aB s σ H v u Q I r hw;obtain⟨a,xs,e1,hq,hl,hw⟩:=hw;rcases hq with hq | hq
 ·exact aQa hc h hn hst aB s σ H v u Q I r ⟨a,xs,e1,hq,hl,hw⟩
 ·subst e1;cases r;obtain⟨aE,rv,pl,hz⟩:=I.list hq;refine aKH (I.ok.hd hc) pl.isList (by simp[hn,<- hl,rv.length]) hst λ h' hx=>?_
  have I1:Inv X aB σ H {s with heap:=h' }:=I.kept (t':=s.toks) λ b o e=>hx b o (xAk (xAa e)) e
  exact h aB _ σ H xs _ Q I1 (by simpa using rv) hw
end
section
variable {X : Cx}{pos : Pos}
noncomputable def aJl(K:FrG)(D:Ends)(F':Hp)(L':List Addr)(H':Hp):Fl->Prop
 | .nx aI=>∀ σ',EnvR K F' L' aI σ'->D.nx σ' H'
 | .rt w=>∀ v,eJ K F' L' w v->D.rt v H'
 | .bk aI=>∀ σ',EnvR K F' L' aI σ'->D.bk σ' H'
 | .ct aI=>∀ σ',EnvR K F' L' aI σ'->D.ct σ' H'
theorem lL{K:FrG}{f:FS}{D:Ends}{σ:St}{H F:Hp}{L:List Addr}{S:aC}{env:aT}{fl:Fl}{S':aC}(R:Rel K F L S H)(E:EnvR K F L env σ)(e:f env S=some (fl,S'))
 (q:∀ F' L' H',Gr F L F' L'->Rel K F' L' S' H'->aJl K D F' L' H' fl):dG K f D σ H:=⟨F,L,S,env,fl,S',R,E,e,λ F' L' H' g R'=>by
 have:=q F' L' H' g R';cases fl<;>exact this⟩
theorem lI{K:FrG}{f:FS}{D:Ends}{σ:St}{H:Hp}(h:dG K f D σ H):∃ F L S env fl S',Rel K F L S H/\EnvR K F L env σ/\f env S=some (fl,S')/\∀ F' L' H',Gr F L F' L'->Rel K F' L' S' H'->aJl K D F' L' H' fl:=by
 obtain⟨F,L,S,env,fl,S',R,E,e,q⟩:=h;exact⟨F,L,S,env,fl,S',R,E,e,λ F' L' H' g R'=>by
  have:=q F' L' H' g R';cases fl<;>exact this⟩
noncomputable def oW:FS:=λ env S=>some (.nx env,S)
theorem aPz:dN X [] (dG X.K oW):=dN.weak aOd λ D σ H h=>by
 obtain⟨F,L,S,env,fl,S',R,E,e,q⟩:=lI h;cases e;exact q F L H Gr.refl R σ E
noncomputable def cX(fa fb:FS):FS:=λ env S=>(fa env S).bind λ p=>match p.1 with
 | .nx e=>fb e p.2
 | fl=>some (fl,p.2)
theorem aRZ{a:Stmt}{b:List Stmt}{fa fb:FS}(ha:PS X a (dG X.K fa))(hb:dN X b (dG X.K fb)):dN X (a::b) (dG X.K (cX fa fb)):=dN.weak (aMX ha hb) λ D σ H h=>by
 obtain⟨F,L,S,env,fl,S',R,E,e,q⟩:=lI h;obtain⟨⟨f1,S1⟩,e1,e2⟩:=bind_some e;cases f1 with
 | nx e'=>exact lL R E e1 λ F1 L1 H1 g1 R1 σ1 E1=>lL R1 E1 e2 λ F2 L2 H2 g2 R2=>q F2 L2 H2 (g1.trans g2) R2
 | rt w=>cases e2;exact lL R E e1 λ F1 L1 H1 g1 R1=>q F1 L1 H1 g1 R1
 | bk e'=>cases e2;exact lL R E e1 λ F1 L1 H1 g1 R1=>q F1 L1 H1 g1 R1
 | ct e'=>cases e2;exact lL R E e1 λ F1 L1 H1 g1 R1=>q F1 L1 H1 g1 R1
noncomputable def uJ(fa:FE):FS:=λ env S=>(fa env S).bind λ p=>some (.nx env,p.2)
theorem aQn{e:Expr}{fa:FE}(h:PE X e (aS X.K fa))(hs:swapsWith e none pos.line X.env=pure false):PS X (.Expr e pos) (dG X.K (uJ fa)):=PS.weak (aOJ h hs) λ D σ H h=>by
 obtain⟨F,L,S,env,fl,S',R,E,e,q⟩:=lI h;obtain⟨⟨w,S1⟩,e1,e2⟩:=bind_some e;cases e2;exact⟨F,L,S,env,w,_,R,E,e1,λ F1 L1 H1 v g1 R1 d1=>q F1 L1 H1 g1 R1 σ (E.mono g1)⟩
noncomputable def nN(fa:FE):FS:=λ env S=>(fa env S).bind λ p=>some (.rt p.1,p.2)
theorem aSB{e:Expr}{fa:FE}(h:PE X e (aS X.K fa)):PS X (.Return (some e) pos) (dG X.K (nN fa)):=PS.weak (aPs h) λ D σ H h=>by
 obtain⟨F,L,S,env,fl,S',R,E,e,q⟩:=lI h;obtain⟨⟨w,S1⟩,e1,e2⟩:=bind_some e;cases e2;exact⟨F,L,S,env,w,_,R,E,e1,λ F1 L1 H1 v g1 R1 d1=>q F1 L1 H1 g1 R1 v d1⟩
noncomputable def aS4:FS:=λ env S=>some (.rt (.d .none),S)
noncomputable def mE(fc:FT)(fa fb:FS):FS:=λ env S=>(fc env S).bind λ p=>if p.1=true then fa env p.2 else fb env p.2
theorem aUT{c:Expr}{a b:List Stmt}{fc:FT}{fa fb:FS}(hc:PT X c (fO X.K fc))(ha:dN X a (dG X.K fa))(hb:dN X b (dG X.K fb)):PS X (.If c a b pos) (dG X.K (mE fc fa fb)):=PS.weak (aTp hc ha hb) λ D σ H h=>by
 obtain⟨F,L,S,env,fl,S',R,E,e,q⟩:=lI h;obtain⟨⟨c,S1⟩,e1,e2⟩:=bind_some e;refine⟨F,L,S,env,c,S1,R,E,e1,λ F1 L1 H1 g1 R1=>?_⟩
 cases c with
 | true=>exact qZ (lL R1 (E.mono g1) (by simpa using e2) λ F2 L2 H2 g2 R2=>q F2 L2 H2 (g1.trans g2) R2)
 | false=>exact qW (lL R1 (E.mono g1) (by simpa using e2) λ F2 L2 H2 g2 R2=>q F2 L2 H2 (g1.trans g2) R2)
noncomputable def jA(i:Nat)(fa:FE):FS:=λ env S=>(fa env S).bind λ p=>some (.nx (env.set i (some p.1)),p.2)
theorem aIa{K:FrG}{i:Nat}{fa:FE}(D:Ends)(σ:St)(H:Hp)(h:dG K (jA i fa) D σ H):uS (aS K fa) (nE i) D σ H:=by
 obtain⟨F,L,S,env,fl,S',R,E,e,q⟩:=lI h;obtain⟨⟨w,S1⟩,e1,e2⟩:=bind_some e;cases e2;exact⟨F,L,S,env,w,_,R,E,e1,λ F1 L1 H1 v g1 R1 d1=>q F1 L1 H1 g1 R1 _ ((E.mono g1).set i d1)⟩
theorem aIV{i:Nat}{x:Str}{e:Expr}{fa:FE}{pos':Pos}(hN:X.N.Nodup)(hi:X.N[i]? = some x)(hx:Loc X.env.scope x)(he:PE X e (aS X.K fa))(hs:swapsWith e (some (.Name x pos')) pos.line X.env=pure false)(hf:X.fn x=true\/X.env.scope.names.lookup x=some .local) :
 PS X (.Assign [.Name x pos'] e pos) (dG X.K (jA i fa)):=PS.weak (aPD hN hi hx he hs hf) aIa
noncomputable def mU:List Nat->List D->aT->Option aT
 | [],[],env=>some env
 | i::is,d::ds,env=>mU is ds (env.set i (some (.d d)))
 | _,_,_=>none
inductive Tg where
 | one (i:Nat) | many (is:List Nat)
noncomputable def Tg.put:Tg->D->aT->Option aT
 | .one i,d,env=>some (env.set i (some (.d d)))
 | .many is,.tuple ds,env=>mU is ds env
 | .many is,.list ds,env=>mU is ds env
 | .many _,_,_=>none
def GA(K:FrG)(t:Tg)(g:TG):Prop:=∀ (d:D) (x:V) (σ:St) (H F:Hp) (L:List Addr) (S:aC) (env aI:aT) (Q:St->Hp->Prop),
 Rel K F L S H->EnvR K F L env σ->Den K F d x->t.put d env=some aI->(∀ σ',EnvR K F L aI σ'->Q σ' H)->g x σ H Q
theorem aQ3{K:FrG}(i:Nat):GA K (.one i) (nE i):=λ d x σ H F L S env aI Q R E dn e q=>by
 cases e;exact q _ (E.set i (w:=.d d) dn)
def vQ(K:FrG)(is:List Nat)(g:iQ):Prop:=∀ (ds:List D) (xs:List V) (σ:St) (H F:Hp) (L:List Addr) (S:aC) (env aI:aT) (Q:St->Hp->Prop),
 Rel K F L S H->EnvR K F L env σ->DenL K F ds xs->mU is ds env=some aI->(∀ σ',EnvR K F L aI σ'->Q σ' H)->g xs σ H Q
theorem aO5{K:FrG}:vQ K [] aCV:=λ ds xs σ H F L S env aI Q R E dn e q=>by
 cases dn with
 | nil=>cases e;exact⟨rfl,q σ E⟩
 | cons _ _=>cases e
theorem aMF{K:FrG}{i:Nat}{is:List Nat}{g:iQ}(h:vQ K is g):vQ K (i::is) (aCI (nE i) g):=λ ds xs σ H F L S env aI Q R E dn e q=>by
 cases dn with
 | nil=>cases e
 | cons d1 dr=>exact⟨_,_,rfl,h _ _ _ H F L S _ aI Q R (E.set i (w:=.d _) d1) dr e q⟩
theorem aAZ:∀ {is:List Nat}{ds:List D}{env aI:aT},mU is ds env=some aI->is.length=ds.length
 | [],[],_,_,_=>rfl
 | _::is,_::ds,_,_,e=>congrArg (· + 1) (aAZ (is:=is) (ds:=ds) e)
 | [],_::_,_,_,e=>by cases e
 | _::_,[],_,_,e=>by cases e
theorem aN6{K:FrG}{is:List Nat}{g:iQ}(h:vQ K is g):GA K (.many is) (aCZ K is.length g):=λ d x σ H F L S env aI Q R E dn e q=>by
 cases d with
 | tuple ds =>
   cases dn with
   | tup sq dl=>exact⟨_,_,rfl,.inl (iE R.sub sq),by rw[<- dl.length];exact(aAZ e).symm,h _ _ σ H F L S env aI Q R E dl e q⟩
 | list ds =>
   cases dn with
   | lst sq dl=>exact⟨_,_,rfl,.inr (R.sub.seq sq),by rw[<- dl.length];exact(aAZ e).symm,h _ _ σ H F L S env aI Q R E dl e q⟩
 | _=>cases e
noncomputable def zQ(t:Tg)(fa:FE):FS:=λ env S=>(fa env S).bind λ p=>match p.1 with
 | .d d=>(t.put d env).bind λ e=>some (.nx e,p.2)
 | _=>none
theorem aQx{K:FrG}{t:Tg}{g:TG}{fa:FE}(hg:GA K t g)(D:Ends)(σ:St)(H:Hp)(h:dG K (zQ t fa) D σ H):uS (aS K fa) g D σ H:=by
 obtain⟨F,L,S,env,fl,S',R,E,e,q⟩:=lI h;obtain⟨⟨w,S1⟩,e1,e2⟩:=bind_some e;dsimp only at e2
 split at e2
 ·obtain⟨e',e3,e4⟩:=bind_some e2;cases e4;exact⟨F,L,S,env,_,_,R,E,e1,λ F1 L1 H1 v g1 R1 d1=>hg _ v σ H1 F1 L1 _ env e' _ R1 (E.mono g1) d1 e3 λ σ' E'=>q F1 L1 H1 g1 R1 σ' E'⟩
 ·cases e2
noncomputable def hB(S:aC):W->W->W->Option aC
 | .loc n,.d (.int k),.d x=>match S[n]? with
   | some (some ds)=>(jB ds.length k).bind λ j=>some (S.set n (some (ds.set j x)))
   | _=>none
 | _,_,_=>none
noncomputable def iG(fo fi fe:FE):FS:=λ env S=>(fe env S).bind λ p=>(fo env p.2).bind λ q=>(fi env q.2).bind λ r=>(hB r.2 q.1 r.1 p.1).bind λ S'=>some (.nx env,S')
theorem aLm{S S':aC}{o i x:W}(h:hB S o i x=some S'):∃ n k d ds j,o=.loc n/\i=.d (.int k)/\x=.d d/\S[n]? = some (some ds)/\jB ds.length k=some j/\S'=S.set n (some (ds.set j d)):=by
 unfold hB at h
 split at h
 ·split at h
  ·rename_i ds e;obtain⟨j,e1,e2⟩:=bind_some h;cases e2;exact⟨_,_,_,ds,j,rfl,rfl,rfl,e,e1,rfl⟩
  ·cases h
 ·cases h
theorem aRJ{K:FrG}{fo fi fe:FE}(D:Ends)(σ:St)(H:Hp)(h:dG K (iG fo fi fe) D σ H):uS (aS K fe) (aJo (aS K fo) (aS K fi) aIm) D σ H:=by
 obtain⟨F,L,S,env,fl,S',R,E,e,q⟩:=lI h;obtain⟨⟨we,S1⟩,e1,e⟩:=bind_some e;obtain⟨⟨wo,S2⟩,e2,e⟩:=bind_some e;obtain⟨⟨wi,S3⟩,e3,e⟩:=bind_some e;obtain⟨S4,e4,e⟩:=bind_some e;cases e;obtain⟨n,k,d,ds,j,rfl,rfl,rfl,e5,e6,rfl⟩:=aLm e4;refine⟨F,L,S,env,_,S1,R,E,e1,λ F1 L1 H1 v g1 R1 d1=>⟨F1,L1,S1,env,_,S2,R1,E.mono g1,e2,λ F2 L2 H2 o g2 R2 d2=>⟨F2,L2,S2,env,_,S3,R2,E.mono (g1.trans g2),e3,λ F3 L3 H3 i g3 R3 d3=>?_⟩⟩⟩
 obtain⟨a,ea,rfl⟩:=d2.mono g3;obtain⟨fa,xs,ha,dl⟩:=R3.loc n a ds ea e5;have hi:i=.int k:=by cases (show Den K F3 (.int k) i from d3);rfl
 refine⟨a,xs,k,j,rfl,hi,ha,by rw[<- dl.length];exact e6,?_⟩
 exact q F3 L3 _ ((g1.trans g2).trans g3) (R3.put ea fa (dl.set j (show Den K F3 d v from d1.mono (g2.trans g3)))) σ (E.mono ((g1.trans g2).trans g3))
theorem aRN{o i e:Expr}{fo fi fe:FE}{pos':Pos}(ho:PE X o (aS X.K fo))(hi:PE X i (aS X.K fi))(he:PE X e (aS X.K fe))(ha:∀ v,assign (.Subscript o i pos') X.env v=(do
 let ov <- holding [v] (eval o X.env)
 let iv <- holding [v,ov] (eval i X.env)
 standAt pos'
 holding [v,ov,iv] (setItem ov iv v)
 release [v,ov,iv] [])) (hs:swapsWithSole [.Subscript o i pos'] e pos.line X.env=pure false) (hw:swappedStores [.Subscript o i pos'] e X.env=pure none):PS X (.Assign [.Subscript o i pos'] e pos) (dG X.K (iG fo fi fe)):=
 PS.weak (aH3 he (aP3 ho hi aMz ha) hs hw) aRJ
noncomputable def eZ(S:aC):W->W->Option (W × aC)
 | .loc n,.d x=>match S[n]? with
   | some (some ds)=>if ds.length < sizeLine then some (.d .none,S.set n (some (ds++[x]))) else none
   | _=>none
 | _,_=>none
theorem aEI{S S':aC}{o x w:W}(h:eZ S o x=some (w,S')):∃ n d ds,o=.loc n/\x=.d d/\S[n]? = some (some ds)/\ds.length < sizeLine/\w=.d .none/\S'=S.set n (some (ds++[d])):=by
 unfold eZ at h
 split at h
 ·split at h
  ·rename_i ds e
   split at h
   ·rename_i hz;cases h;exact⟨_,_,ds,rfl,rfl,e,hz,rfl,rfl⟩
   ·cases h
  ·cases h
 ·cases h
noncomputable def jS(fo fe:FE):FE:=f2 fo fe eZ
theorem aR4{K:FrG}{fo fe:FE}(σ:St)(H:Hp)(Q:VK)(h:aS K (jS fo fe) σ H Q):tBM K "list" aGu (aS K fo) (fN K (cN fe gO)) σ H Q:=by
 obtain⟨F,L,S,env,w,S',R,E,e,q⟩:=h;obtain⟨⟨wo,S1⟩,e1,e⟩:=bind_some e;obtain⟨⟨we,S2⟩,e2,e⟩:=bind_some e;obtain⟨n,d,ds,rfl,rfl,e5,hz,rfl,rfl⟩:=aEI e;refine⟨F,L,S,env,_,S1,R,E,e1,λ F1 L1 H1 o g1 R1 d1=>?_⟩
 obtain⟨a,ea,rfl⟩:=d1;refine⟨.inl ⟨rfl,?_⟩,F1,L1,S1,env,[.d d],S2,R1,E.mono g1,?_,λ F2 L2 H2 vs g2 R2 d2=>?_⟩
 ·obtain⟨xs,hx⟩:=R1.tr n a ea;exact⟨xs,bR.of hx⟩
 ·unfold cN;rw[e2];rfl
 ·cases d2 with
  | cons dd dr =>
    cases dr;have ea2:=g2.get ea;obtain⟨fa,xs,ha,dl⟩:=R2.loc n a ds ea2 e5;exact⟨a,xs,_,rfl,rfl,ha,by rw[<- dl.length];exact hz,q F2 L2 _ _ (g1.trans g2) (R2.put ea2 fa (dl.append (.cons dd .nil))) Den.non⟩
end
section
variable {X : Cx}{pos : Pos}
structure Wk(K:FrG)(F:Hp)(L:List Addr)(J:It)(ds:List D):Prop where
 go:∀ (i:Nat) (H:Hp),cC F H->i < ds.length->J.go i H
 stop:∀ (H:Hp),cC F H->J.stop ds.length H
 yld:∀ (i:Nat) (H F1:Hp) (L1:List Addr) (S:aC) (x:V) (H':Hp) (d:D),Gr F L F1 L1->Rel K F1 L1 S H->ds[i]? = some d->J.yld i H x H'->∃ F2,cC F1 F2/\Rel K F2 L1 S H'/\Den K F2 d x
noncomputable def hV(K:FrG)(f:FL):TI:=λ σ H R=>∃ F L S env ds S',Rel K F L S H/\EnvR K F L env σ/\f env S=some (ds,S')/\∀ F' L' H' J,Gr F L F' L'->Rel K F' L' S' H'->Wk K F' L' J ds->R J H'
theorem PI.weak{tg iter:Expr}{t t':TI}(h:PI X tg iter t)(w:∀ σ H R,t' σ H R->t σ H R):PI X tg iter t':=λ aB s σ H R I q=>h aB s σ H R I (w σ H R q)
theorem aNs{K:FrG}{F:Hp}{L:List Addr}{a:Addr}{xs:List V}{ds:List D}(sq:bR K F a xs)(dl:DenL K F ds xs):Wk K F L (Itl K a) ds where
 go:=λ i H s hi=>⟨xs,xs[i]'(by rw[<- dl.length];exact hi),s.seq sq,by simp[dl.length▸hi]⟩
 stop:=λ H s=>⟨xs,s.seq sq,Nat.le_of_eq dl.length.symm⟩
 yld:=λ i H F1 L1 S x H' d g R e y=>by
  obtain⟨e1,y⟩:=y;subst e1;have h:=y xs ((g.f.trans R.sub).seq sq);obtain⟨x',e2,dx⟩:=dl.get e;rw[h] at e2;cases e2;exact⟨F1,cC.refl _,R,dx.mono g.f⟩
theorem aPF{K:FrG}{F:Hp}{L:List Addr}{a:Addr}{xs:List V}{ds:List D}(sq:bS K F a xs)(dl:DenL K F ds xs):Wk K F L (Itt K a) ds where
 go:=λ i H s hi=>⟨xs,xs[i]'(by rw[<- dl.length];exact hi),iE s sq,by simp[dl.length▸hi]⟩
 stop:=λ H s=>⟨xs,iE s sq,Nat.le_of_eq dl.length.symm⟩
 yld:=λ i H F1 L1 S x H' d g R e y=>by
  obtain⟨e1,y⟩:=y;subst e1;have h:=y xs (iE (g.f.trans R.sub) sq);obtain⟨x',e2,dx⟩:=dl.get e;rw[h] at e2;cases e2;exact⟨F1,cC.refl _,R,dx.mono g.f⟩
noncomputable def jQ(lo:Int):Nat->List D
 | 0=>[]
 | n+1=>.int lo::jQ (lo+1) n
theorem aAX(n:Nat):∀ lo:Int,(jQ lo n).length=n:=by
 induction n with
 | zero=>intro lo;rfl
 | succ n ih=>intro lo;simp[jQ,ih]
theorem aFv:∀ (n:Nat) (lo:Int) (i:Nat),i < n->(jQ lo n)[i]? = some (.int (lo+i))
 | 0,_,_,h=>by omega
 | n+1,lo,0,_=>by simp[jQ]
 | n+1,lo,i+1,h=>by
   rw[jQ,List.getElem?_cons_succ,aFv n (lo+1) i (by omega)]
   congr 2
   push_cast
   omega
theorem aFQ{K:FrG}{F:Hp}{L:List Addr}(lo:Int)(n:Nat):Wk K F L (vP lo n) (jQ lo n) where
 go:=λ i H s hi=>by rw[aAX] at hi;exact hi
 stop:=λ H s=>by rw[aAX];exact Nat.le_refl _
 yld:=λ i H F1 L1 S x H' d g R e y=>by
  obtain⟨rfl,rfl⟩:=y;have hi:i < n:=by
   have:=(gIm e).1;rw[aAX] at this;exact this
  rw[aFv n lo i hi] at e;cases e;exact⟨F1,cC.refl _,R,.int _⟩
noncomputable def aJA(fa:FE):FL:=λ env S=>(fa env S).bind λ p=>match p.1 with
 | .d (.list ds)=>some (ds,p.2)
 | _=>none
noncomputable def aJm(fa:FE):FL:=λ env S=>(fa env S).bind λ p=>match p.1 with
 | .d (.tuple ds)=>some (ds,p.2)
 | _=>none
theorem aS8{tg a:Expr}{fa:FE}(ha:PE X a (aS X.K fa)):PI X tg a (hV X.K (aJA fa)):=PI.weak (aOw ha) λ σ H Rr aP=>by
 obtain⟨F,L,S,env,ds,S',R,E,e,q⟩:=aP;obtain⟨⟨w,S1⟩,e1,e2⟩:=bind_some e;dsimp only at e2
 split at e2
 ·cases e2;refine⟨F,L,S,env,_,_,R,E,e1,λ F1 L1 H1 v g1 R1 d1=>?_⟩
  cases (show Den X.K F1 (.list ds) v from d1) with
  | lst sq dl=>exact⟨_,rfl,⟨_,R1.sub.seq sq⟩,q F1 L1 H1 _ g1 R1 (aNs sq dl)⟩
 ·cases e2
theorem aTM{tg a:Expr}{fa:FE}(ha:PE X a (aS X.K fa)):PI X tg a (hV X.K (aJm fa)):=PI.weak (aPI ha) λ σ H Rr aP=>by
 obtain⟨F,L,S,env,ds,S',R,E,e,q⟩:=aP;obtain⟨⟨w,S1⟩,e1,e2⟩:=bind_some e;dsimp only at e2
 split at e2
 ·cases e2;refine⟨F,L,S,env,_,_,R,E,e1,λ F1 L1 H1 v g1 R1 d1=>?_⟩
  cases (show Den X.K F1 (.tuple ds) v from d1) with
  | tup sq dl=>exact⟨_,rfl,⟨_,iE R1.sub sq⟩,q F1 L1 H1 _ g1 R1 (aPF sq dl)⟩
 ·cases e2
noncomputable def uL(fa:FE):FL:=λ env S=>(fa env S).bind λ p=>match p.1 with
 | .d (.int j)=>if -(2^62)<=j/\j < 2^62 then some (jQ 0 j.toNat,p.2) else none
 | _=>none
noncomputable def uN(fa fb:FE):FL:=λ env S=>(fa env S).bind λ p=>(fb env p.2).bind λ q=>match p.1,q.1 with
 | .d (.int i),.d (.int j)=>if (-(2^62)<=i/\i < 2^62 /\ -(2^62)<=j/\j < 2^62) then some (jQ i (j - i).toNat,q.2) else none
 | _,_=>none
theorem aPc{K:FrG}{fa:FE}(σ:St)(H:Hp)(Rr:It->Hp->Prop)(h:hV K (uL fa) σ H Rr):aIK (fN K (cN fa gO)) σ H Rr:=by
 obtain⟨F,L,S,env,ds,S',R,E,e,q⟩:=h;obtain⟨⟨w,S1⟩,e1,e2⟩:=bind_some e;dsimp only at e2
 split at e2
 ·split at e2
  ·rename_i j c;cases e2;refine⟨F,L,S,env,[.d (.int j)],_,R,E,by unfold cN;rw[e1];rfl,λ F1 L1 H1 vs g1 R1 d1=>?_⟩
   cases d1 with
   | cons dd dr =>
     cases dr;cases (show Den K F1 (.int j) _ from dd)
     exact⟨j,rfl,c.1,c.2,q F1 L1 H1 _ g1 R1 (aFQ 0 j.toNat)⟩
  ·cases e2
 ·cases e2
theorem aQ5{K:FrG}{fa fb:FE}(σ:St)(H:Hp)(Rr:It->Hp->Prop)(h:hV K (uN fa fb) σ H Rr):aIP (fN K (cN fa (cN fb gO))) σ H Rr:=by
 obtain⟨F,L,S,env,ds,S',R,E,e,q⟩:=h;obtain⟨⟨w,S1⟩,e1,e2⟩:=bind_some e;obtain⟨⟨w2,S2⟩,e3,e4⟩:=bind_some e2;dsimp only at e4
 split at e4
 ·split at e4
  ·rename_i i j _ _ c;cases e4;refine⟨F,L,S,env,[.d (.int _),.d (.int _)],_,R,E,by unfold cN;rw[e1];dsimp only[Option.bind];rw[e3];rfl,λ F1 L1 H1 vs g1 R1 d1=>?_⟩
   cases d1 with
   | cons dd dr =>
     cases dr with
     | cons dd2 dr =>
       cases dr;cases (show Den K F1 (.int _) _ from dd)
       cases (show Den K F1 (.int _) _ from dd2)
       exact⟨_,_,rfl,c,q F1 L1 H1 _ g1 R1 (aFQ _ _)⟩
  ·cases e4
 ·cases e4
noncomputable def fH(t:Tg)(fb:FS):List D->FS
 | []=>λ env S=>some (.nx env,S)
 | d::ds=>λ env S=>(t.put d env).bind λ e1=>(fb e1 S).bind λ q=>(match q.1 with
    | .nx e=>fH t fb ds e q.2
    | .ct e=>fH t fb ds e q.2
    | .bk e=>some (.nx e,q.2)
    | .rt w=>some (.rt w,q.2))
noncomputable def cJ(t:Tg)(fi:FL)(fb:FS):FS:=λ env S=>(fi env S).bind λ p=>fH t fb p.1 env p.2
theorem aRQ{tg iter:Expr}{b:List Stmt}{t:Tg}{g:TG}{fi:FL}{fb:FS}(hp:PassesOwn (model X.prog X.w) X.A X.env X.xe)(hc:X.calm=true)(hi:PI X tg iter (hV X.K fi))(hg:PG X tg g)(ga:GA X.K t g)(hb:dN X b (dG X.K fb))
 (hs:∀ x,foldedSetIterable iter X.env x=pure x):PS X (.For tg iter b [] pos) (dG X.K (cJ t fi fb)):=PS.weak (aQU hp hc hi hg hb hs) λ D σ H h=>by
 obtain⟨F,L,S,env,fl,S',R,E,e,q⟩:=lI h;obtain⟨⟨ds,S1⟩,e1,e2⟩:=bind_some e;refine⟨F,L,S,env,ds,S1,R,E,e1,λ F0 L0 H0 J g0 R0 wk=>?_⟩
 dsimp only at e2;refine⟨λ i m σ1 H1=>i+m=ds.length/\∃ F1 L1 S1 env1,Gr F0 L0 F1 L1/\Rel X.K F1 L1 S1 H1/\EnvR X.K F1 L1 env1 σ1/\fH t fb (ds.drop i) env1 S1=some (fl,S'),
  ⟨ds.length,Nat.zero_add _,F0,L0,S1,env,Gr.refl,R0,E.mono g0,by rw[List.drop_zero];exact e2⟩,?_⟩
 rintro i m σ1 H1 ⟨him,F1,L1,S1',env1,g1,R1,E1,e3⟩;cases m with
 | zero =>
   have hi:i=ds.length:=by omega
   subst hi;rw[List.drop_length] at e3;cases e3;exact .inl ⟨wk.stop H1 (g1.f.trans R1.sub),q F1 L1 H1 (g0.trans g1) R1 σ1 E1⟩
 | succ m =>
   have hi:i < ds.length:=by omega
   refine .inr ⟨wk.go i H1 (g1.f.trans R1.sub) hi,λ σ3 H3=>∃ F3 L3 S3 env3,Gr F0 L0 F3 L3/\Rel X.K F3 L3 S3 H3/\EnvR X.K F3 L3 env3 σ3/\fH t fb (ds.drop (i+1)) env3 S3=some (fl,S'),
    λ σ3 H3 h3=>⟨m,Nat.lt_succ_self m,by omega,h3⟩,λ x H2 y=>?_⟩
   rw[List.drop_eq_getElem_cons hi] at e3;obtain⟨env2,e4,e5⟩:=bind_some e3;obtain⟨⟨f6,S6⟩,e6,e7⟩:=bind_some e5;obtain⟨F2,s2,R2,d2⟩:=wk.yld i H1 F1 L1 S1' x H2 ds[i] g1 R1 (List.getElem?_eq_getElem hi) y;have g2:Gr F1 L1 F2 L1:=⟨s2,[],by simp⟩
   refine ga ds[i] x σ1 H2 F2 L1 S1' env1 env2 _ R2 (E1.mono g2) d2 e4 λ σ2 E2=>?_
   refine lL R2 E2 e6 λ F3 L3 H3 g3 R3=>?_
   have g03:=(g1.trans g2).trans g3;cases f6 with
   | nx e'=>exact λ σ3 E3=>⟨F3,L3,S6,e',g03,R3,E3,e7⟩
   | ct e'=>exact λ σ3 E3=>⟨F3,L3,S6,e',g03,R3,E3,e7⟩
   | bk e'=>cases e7;exact λ σ3 E3=>q F3 L3 H3 (g0.trans g03) R3 σ3 E3
   | rt w=>cases e7;exact λ v d=>q F3 L3 H3 (g0.trans g03) R3 v d
noncomputable def lA(k:Nat)(S:aC):W->Option (W × aC)
 | .d x=>some (.d x,S.take k)
 | .loc m=>if m < k then some (.loc m,S.take k) else match S[m]? with
   | some (some ds)=>some (.d (.list ds),S.take k)
   | _=>none
noncomputable def eX(fb:FS)(n:Nat)(ws:List W)(S:aC):Option (W × aC):=(fb (ws.map some++List.replicate (n - ws.length) none) S).bind λ p=>match p.1 with
 | .rt w=>lA S.length p.2 w
 | .nx _=>some (.d .none,p.2.take S.length)
 | _=>none
theorem aLf{K:FrG}{F:Hp}{L:List Addr}{N:List Str}:∀ {ws:List W}{vs:List V},WDenL K F L ws vs->EnvR K F L (ws.map some++List.replicate (N.length - ws.length) none) (L2.start N vs):=by
 intro ws vs h;unfold L2.start;rw[h.length];generalize N.length - vs.length=k;refine⟨by simp[h.length],?_⟩
 induction h with
 | nil =>
   intro i w e;have:=xAl e;simp at this
 | cons hd tl ih =>
   intro i w e;cases i with
   | zero=>simp at e;subst e;exact⟨_,rfl,hd⟩
   | succ i =>
     obtain⟨v,e1,d⟩:=ih i w (by simpa using e)
     exact⟨v,by simpa using e1,d⟩
theorem aHO{K:FrG}{F F1 H1:Hp}{L L1:List Addr}{S S1:aC}{w w':W}{S':aC}{v:V}{Q:VK}(R:L.length=S.length)(g:Gr F L F1 L1)(R1:Rel K F1 L1 S1 H1)(d:eJ K F1 L1 w v)(e:lA S.length S1 w=some (w',S'))(q:rC K F L S' w' Q):Q v H1:=by
 obtain⟨sf,M,rfl⟩:=g;cases w with
 | d x =>
   cases e;have R2:=R1.cut;rw[R] at R2;exact q F1 L H1 v ⟨sf,[],by simp⟩ R2 d
 | loc m =>
   have e':(if m < S.length then some (W.loc m,S1.take S.length) else match S1[m]? with | some (some ds)=>some (W.d (.list ds),S1.take S.length) | _=>none)=some (w',S'):=e
   split at e'
   ·rename_i hm;cases e';have R2:=R1.cut;rw[R] at R2;obtain⟨a,ea,rfl⟩:=d;rw[xAn (by rw[R];exact hm)] at ea
    exact q F1 L H1 _ ⟨sf,[],by simp⟩ R2 ⟨a,ea,rfl⟩
   ·rename_i hm
    split at e'
    ·rename_i ds es;cases e';obtain⟨a,ea,rfl⟩:=d;obtain⟨F2,g2,R2,d2⟩:=R1.freeze ea es;have R3:=R2.cut;rw[R,List.take_set,List.set_eq_of_length_le (by rw[List.length_take];omega)] at R3
     exact q F2 L H1 _ ⟨sf.trans g2.f,[],by simp⟩ R3 d2
    ·cases e'
theorem aQE{K:FrG}{fb:FS}{N:List Str}{np:Nat}{vs:List V}{H:Hp}{Q:VK}{E:XK}(h:rK K np (eX fb N.length) vs H Q E):dG K fb {nx:=λ _ H'=>Q .non H',rt:=Q } (L2.start N vs) H:=by
 obtain⟨F,L,S,ws,w,S',hn,R,dl,e,q⟩:=h;obtain⟨⟨fl,S1⟩,e1,e2⟩:=bind_some e;refine lL R (aLf dl) e1 λ F1 L1 H1 g1 R1=>?_
 cases fl with
 | nx aI =>
   cases e2;exact λ σ' E'=>aHO (w:=.d .none) R.len g1 R1 Den.non rfl q
 | rt w'=>exact λ v d=>aHO R.len g1 R1 d e2 q
 | bk aI=>cases e2
 | ct aI=>cases e2
end
theorem aDZ{α β:Type}{f:α->β->Sem (ForInStep β)}{g:α->β->β}:∀ (l:List α) (c:β),(∀ x∈l,∀ c,f x c=pure (ForInStep.yield (g x c)))->forIn l c f=pure (l.foldl (λ c x=>g x c) c)
 | [],c,_=>rfl
 | x::l,c,h=>by
   rw[List.forIn_cons,h x xAd c,pure_bind];exact aDZ l (g x c) λ y hy=>h y (xAg _ hy)
noncomputable def jI(env:Env)(x:Str × NameKind)(cs:List (Str × Addr)):List (Str × Addr):=if (x.2==NameKind.free)=true then (x.1,(env.cells.lookup x.1).getD 0)::cs else cs
noncomputable def uZ(scope:Scope)(env:Env):List (Str × Addr):=scope.names.foldl (λ c x=>jI env x c) []
theorem aK8{scope:Scope}{env:Env}(h:∀ x∈scope.names,x.2=.free->∃ c,env.cells.lookup x.1=some c):closureFor scope env=pure (uZ scope env):=by
 unfold closureFor uZ;dsimp only;rw[aDZ (g:=jI env) scope.names [] (λ x hx c=>?_)]
 ·rfl
 ·obtain⟨n,k⟩:=x;unfold jI;dsimp only
  by_cases hk:k=.free
  ·obtain⟨a,ha⟩:=h (n,k) hx hk;rw[if_pos (by simp[hk]),if_pos (by simp[hk])]
   have:cellOf env n=pure a:=by unfold cellOf;rw[ha]
   rw[this,pure_bind,ha];rfl
  ·rw[if_neg (by simp[hk]),if_neg (by simp[hk])]
theorem aFu{env:Env}:∀ (l:List (Str × NameKind)) (aF:List (Str × Addr)),(∀ x∈l,x.2=.free->∃ c,env.cells.lookup x.1=some c)->(∀ x c,aF.lookup x=some c->env.cells.lookup x=some c) ->
 ∀ x c,(l.foldl (λ c x=>jI env x c) aF).lookup x=some c->env.cells.lookup x=some c
 | [],aF,_,ha,x,c,e=>ha x c e
 | y::l,aF,h,ha,x,c,e=>by
   refine aFu l (jI env y aF) (λ z hz=>h z (xAg _ hz)) (λ z d ez=>?_) x c e
   unfold jI at ez
   split at ez
   ·rename_i hk;obtain⟨a,hy⟩:=h y xAd (by simpa using hk)
    rw[List.lookup_cons] at ez
    split at ez
    ·rename_i hz;cases ez;have:z=y.1:=by simpa using hz
     rw[this,hy];rfl
    ·exact ha z d ez
   ·exact ha z d ez
theorem aCd{env:Env}:∀ (l:List (Str × NameKind)) (aF:List (Str × Addr)) (x:Str),((∃ k,(x,k)∈l/\k=.free)\/∃ c,aF.lookup x=some c)->∃ c,(l.foldl (λ c x=>jI env x c) aF).lookup x=some c
 | [],aF,x,h=>by
   rcases h with ⟨k,hk,_⟩ | h
   ·simp at hk
   ·exact h
 | y::l,aF,x,h=>by
   refine aCd l (jI env y aF) x ?_;have step:(∃ c,aF.lookup x=some c)->∃ c,(jI env y aF).lookup x=some c:=λ aP=>by
    obtain⟨c,e⟩:=aP;unfold jI
    split
    ·rw[List.lookup_cons]
     split
     ·exact⟨_,rfl⟩
     ·exact⟨c,e⟩
    ·exact⟨c,e⟩
   rcases h with ⟨k,hk,e⟩ | h
   ·rcases List.mem_cons.mp hk with z | z
    ·right
     subst z e;unfold jI;rw[if_pos (by simp)]
     exact⟨(env.cells.lookup x).getD 0,by rw[List.lookup_cons];simp⟩
    ·exact .inl ⟨k,z,e⟩
   ·exact .inr (step h)
theorem aEh{x:Str}(h:Str->NameKind->NameKind):∀ l:List (Str × NameKind),(l.map λ p=>(p.1,h p.1 p.2)).lookup x=(l.lookup x).map (h x)
 | []=>rfl
 | (n,k)::r=>by
   have ih:=aEh (x:=x) h r;rw[List.map_cons,List.lookup_cons,List.lookup_cons];cases hx:x==n with
   | true =>
     have e:x=n:=by simpa using hx
     subst e;rfl
   | false=>exact ih
theorem aKf{env:Env}{x:Str}(names:List (Str × NameKind)) :
 (names.map λ(n,k)=>if (k==NameKind.free&&env.scope.kind==.function&&env.kindOf n==some .cell) then (n,NameKind.cell) else (n,k)).lookup x =
   (names.lookup x).map λ k=>if (k==NameKind.free&&env.scope.kind==.function&&env.kindOf x==some .cell) then NameKind.cell else k:=by
 have e:(λ(p:Str × NameKind)=>match p with | (n,k)=>if (k==NameKind.free&&env.scope.kind==.function&&env.kindOf n==some .cell)=true then (n,NameKind.cell) else (n,k)) =
  λ p=>(p.1,if (p.2==NameKind.free&&env.scope.kind==.function&&env.kindOf p.1==some .cell)=true then NameKind.cell else p.2):=funext λ aP=>by
  obtain⟨n,k⟩:=aP;dsimp only
  split<;>rfl
 rw[e];exact aEh (λ n k=>if (k==NameKind.free&&env.scope.kind==.function&&env.kindOf n==some .cell)=true then NameKind.cell else k) names
section
variable {prog : Program}{w : World}{A : Around}{R : Result -> Shared -> Prop}{s : Shared}
theorem aKu{elt target iter:Expr}{ifs:List Expr}{scope:Scope}{pos:Pos}{it aF:Value}{env:Env}(I:Nat->Shared->Prop)
 (turn:∀ n s,I n s->wpAny (model prog w) A (pyNext it) (λ r s₁=>match r with
   | none=>R (.ok .next) s₁
   | some v=>wpAny (model prog w) A (letOwnedTupleGo target it v) (λ _ s₀=>wpAny (model prog w) A (assign target env v) (λ _ s₂ =>
      wpAny (model prog w) A (forIn ifs true λ c r=>if r=true then do let ok <- isTrue c env (eval c env);pure (ForInStep.yield ok) else pure (ForInStep.yield r)) (λ ok s₃ =>
       if ok=true then wpAny (model prog w) A (eval elt env) (λ x s₄ =>
        wpAny (model prog w) A (call (.builtin "list.append") [aF,x]) (λ _ s₅=>∃ m,m < n/\I m s₅) (λ _ _=>False) s₄) (λ _ _=>False) s₃
       else ∃ m,m < n/\I m s₃) (λ _ _=>False) s₂) (λ _ _=>False) s₀) (λ _ _=>False) s₁) (λ _ _=>False) s)
 (n:Nat) (h:I n s):codeAny (model prog w) A (.compLoop (.ListComp elt [⟨target,iter,ifs,0⟩] scope pos) 0 it aF env) R s:=by
 have up:∀ {α:Type}{t:Sem α}{Q Q':α->Shared->Prop}{E:Value->Shared->Prop}{s:Shared},wpAny (model prog w) A t Q (λ _ _=>False) s->(∀ a s,Q a s->Q' a s)->wpAny (model prog w) A t Q' E s:=
  λ h hq=>wpAny_mono h hq λ _ _ f=>f.elim
 refine codeAny_loop rfl I (λ n s hI=>?_) n h
 show wpAny _ A ((compTurn (.ListComp elt [⟨target,iter,ifs,0⟩] scope pos) 0 it aF env).onRaise (λ x=>do noteFrame x env;theTreesLotGoes x)) _ _ s
 refine wpAny_noted ?_;rw[compTurn_list];refine wB (wpAny_standAt (wB (up (turn n s hI) λ r s₁ h₁=>?_)))
 cases r with
 | none=>exact wP h₁
 | some v =>
   refine wB (up h₁ λ _ s₀ h₀=>?_)
   refine wB (up h₀ λ _ s₂ h₂=>wB (up h₂ λ ok s₃ h₃=>?_))
   cases ok with
   | false=>exact wP ⟨rfl,h₃⟩
   | true =>
     exact wB (wB (up h₃ λ x s₄ h₄=>wB (up h₄ λ _ s₅ h₅=>wP (wP ⟨rfl,h₅⟩))))
end
noncomputable def kA(X:Cx)(aB:List (Addr × Obj))(fp:List Addr)(scope:Scope)(C:Addr)(s₀:Shared)(H₀:Hp):Cx:=
 {X with s₀:=s₀,H₀:=H₀,env:=compEnvC scope (uZ scope X.env) C X.env,outer:=X.stack,stack:=X.stack,ex:=fp,fn:=λ _=>false,pn:=X.pn++aB,xe:=λ _ _=>False }
def jK(X:Cx)(scope:Scope)(Y:Cx):Prop:=∃ aB fp C s₀ H₀,Y=kA X aB fp scope C s₀ H₀
structure ScOk(scope osc:Scope):Prop where
 kind:scope.kind=.function
 nocell:∀ x∈scope.names,x.2≠.cell
 free:∀ x∈scope.names,x.2=.free->osc.names.lookup x.1=some .cell\/osc.names.lookup x.1=some .free
 loc:∀ x∈scope.names,x.2=.local->scope.names.lookup x.1=some .local
theorem mem_of_lookup{α:Type}{x:Str}{k:α}:∀ {l:List (Str × α)},l.lookup x=some k->(x,k)∈l
 | [],h=>by simp at h
 | (n,j)::r,h=>by
   rw[List.lookup_cons] at h
   split at h
   ·rename_i hx;cases h;have:x=n:=by simpa using hx
    subst this;exact xAd
   ·exact xAg _ (mem_of_lookup h)
section
variable {X : Cx}{aB : List (Addr × Obj)}{σ : L2.St}{H : Hp}{s : Shared}{scope : Scope}{fp : List Addr}
theorem aEO{C:Addr}{s₀:Shared}{H₀:Hp}{x:Str}:(kA X aB fp scope C s₀ H₀).env.kindOf x=(scope.names.lookup x).map λ k=>if (k==NameKind.free&&X.env.scope.kind==.function&&X.env.kindOf x==some .cell) then NameKind.cell else k:=
 aKf scope.names
theorem aFa(ok:ScOk scope X.env.scope){C:Addr}{s₀:Shared}{H₀:Hp}{x:Str}(h:(kA X aB fp scope C s₀ H₀).env.kindOf x=some .cell\/(kA X aB fp scope C s₀ H₀).env.kindOf x=some .free):scope.names.lookup x=some .free:=by
 rw[aEO] at h;cases e:scope.names.lookup x with
 | none=>rw[e] at h;simp at h
 | some k =>
   rw[e] at h;have nc:=ok.nocell (x,k) (mem_of_lookup e);cases k with
   | free=>rfl
   | cell=>exact absurd rfl nc
   | «local» => simp at h
   | globalExplicit=>simp at h
   | globalImplicit=>simp at h
theorem aGi(I:Inv X aB σ H s)(hfp:∀ b∈fp,gI X aB H b):∀ b∈fp,b ∉ iA X.stack:=λ b hb z=>by
 rcases List.mem_cons.mp (I.stkSub b z) with q | q
 ·exact(hfp b hb).2.1 q
 ·exact(hfp b hb).2.2.1 q
theorem aEX(I:Inv X aB σ H s)(ok:ScOk scope X.env.scope):∀ x∈scope.names,x.2=.free->∃ c,X.env.cells.lookup x.1=some c:=λ x hx e=>by
 rcases ok.free x hx e with q | q
 ·exact I.ok.has x.1 (.inl q)
 ·exact I.ok.has x.1 (.inr q)
theorem oS(I:Inv X aB σ H s)(ok:ScOk scope X.env.scope){x:Str}{c:Addr}(h:(uZ scope X.env).lookup x=some c):X.env.cells.lookup x=some c:=
 aFu scope.names [] (aEX I ok) (λ x c e=>by simp at e) x c h
theorem aOB(I:Inv X aB σ H s)(ok:ScOk scope X.env.scope)(hfp:∀ b∈fp,gI X aB H b)(hth:∀ b∈fp,b < s.heap.objs.size){C:Addr}(hC:s.heap.objs.size<=C):(kA X aB fp scope C s H).Ok where
 mod:=I.ok.mod
 kind:=ok.kind
 glob:=I.ok.glob
 blt:=I.ok.blt
 above:=hC
 inj:=λ x y c h1 h2=>I.ok.inj x y c (oS I ok h1) (oS I ok h2)
 has:=λ x h=>aCd scope.names [] x (.inl ⟨.free,mem_of_lookup (aFa ok h),rfl⟩)
 cab:=λ x c h _=>nomatch h
 hd:=I.ok.hd
 frames:=I.ok.frames
 stk:=.inl rfl
 exf:=λ b hb=>⟨λ z=>absurd (xAc (hth b hb) hC) (by have z':b=C:=z;rw[z'];exact Nat.lt_irrefl _),λ x c h=>(hfp b hb).2.2.2.2.1 x c (oS I ok h)⟩
 bs:=I.bs
 bsz:=xAi I.ok.bsz I.sz
 noex:=λ b o e hb=>by
  rcases (hfp b hb).2.2.2.1 with z | z
  ·exact I.ok.noex b o e z
  ·exact absurd (xAc (xAa e) (xAi I.ok.bsz z)) (Nat.lt_irrefl _)
 exfs:=λ b hb=>aGi I hfp b hb
 funs:=I.stack
 frf:=I.stkFree
end
noncomputable def clr{α:Type}(is:List Nat)(l:List (Option α)):List (Option α):=is.foldl (λ e i=>e.set i none) l
theorem xB{α:Type}:∀ (is:List Nat) (l:List (Option α)),(clr is l).length=l.length
 | [],_=>rfl
 | i::is,l=>by
   show(clr is (l.set i none)).length=_;rw[xB is,List.length_set]
theorem yG{α:Type}:∀ (is:List Nat) (l:List (Option α)) (j:Nat) (v:α),(clr is l)[j]? = some (some v)->l[j]? = some (some v)/\j ∉ is
 | [],_,_,_,h=>⟨h,by simp⟩
 | i::is,l,j,v,h=>by
   obtain⟨h1,h2⟩:=yG is (l.set i none) j v h
   by_cases hj:i=j
   ·subst hj;rcases Nat.lt_or_ge i l.length with q | q
    ·rw[List.getElem?_set_self q] at h1;cases h1
    ·rw[List.getElem?_eq_none (by rw[List.length_set];exact q)] at h1;cases h1
   ·rw[List.getElem?_set_ne hj] at h1;exact⟨h1,λ z=>(List.mem_cons.mp z).elim (λ e=>hj e.symm) h2⟩
theorem aFF{α:Type}:∀ (is:List Nat) (l:List (Option α)) (j:Nat),j ∉ is->(clr is l)[j]? = l[j]?
 | [],_,_,_=>rfl
 | i::is,l,j,h=>by
   show(clr is (l.set i none))[j]? = _;rw[aFF is _ j (λ z=>h (xAg _ z)),List.getElem?_set_ne (λ z=>h (by rw[z];exact xAd))]
noncomputable def Tg.slots:Tg->List Nat
 | .one i=>[i]
 | .many is=>is
theorem EnvR.clr{K:FrG}{F:Hp}{L:List Addr}{env:aT}{σ:St}(h:EnvR K F L env σ)(is:List Nat):EnvR K F L (EV.clr is env) (EV.clr is σ):=
 ⟨by rw[xB,xB];exact h.len,λ j w e=>by
  obtain⟨e1,hj⟩:=yG is env j w e;obtain⟨v,e2,d⟩:=h.get j w e1;exact⟨v,by rw[aFF is σ j hj];exact e2,d⟩⟩
theorem aAQ:∀ {is:List Nat}{ds:List D}{env aI:aT}{j:Nat},mU is ds env=some aI->j ∉ is->aI[j]? = env[j]?
 | [],[],_,_,_,e,_=>by cases e;rfl
 | i::is,d::ds,env,aI,j,e,h=>by
   rw[aAQ (is:=is) (ds:=ds) e (λ z=>h (xAg _ z)),List.getElem?_set_ne (λ z=>h (by rw[z];exact xAd))]
 | [],_::_,_,_,_,e,_=>by cases e
 | _::_,[],_,_,_,e,_=>by cases e
theorem Tg.put_keep{t:Tg}{d:D}{env aI:aT}{j:Nat}(e:t.put d env=some aI)(h:j ∉ t.slots):aI[j]? = env[j]?:=by
 cases t with
 | one i=>cases e;exact List.getElem?_set_ne (λ z=>h (by rw[z];exact xAd))
 | many is =>
   cases d with
   | tuple ds=>exact aAQ e h
   | list ds=>exact aAQ e h
   | _=>cases e
theorem aAK:∀ {is:List Nat}{ds:List D}{env aI:aT},mU is ds env=some aI->aI.length=env.length
 | [],[],_,_,e=>by cases e;rfl
 | i::is,d::ds,env,aI,e=>by rw[aAK (is:=is) (ds:=ds) e,List.length_set]
 | [],_::_,_,_,e=>by cases e
 | _::_,[],_,_,e=>by cases e
theorem Tg.put_length{t:Tg}{d:D}{env aI:aT}(e:t.put d env=some aI):aI.length=env.length:=by
 cases t with
 | one i=>cases e;exact List.length_set
 | many is =>
   cases d with
   | tuple ds=>exact aAK e
   | list ds=>exact aAK e
   | _=>cases e
theorem EnvR.back{K:FrG}{F:Hp}{L:List Addr}{env aI:aT}{σ:St}{t:Tg}{d:D}(e:t.put d (EV.clr t.slots env)=some aI)(h:EnvR K F L aI σ):EnvR K F L (EV.clr t.slots env) σ:=
 ⟨by rw[<- h.len,Tg.put_length e],λ j w q=>by
  obtain⟨_,hj⟩:=yG t.slots env j w q;exact h.get j w (by rw[Tg.put_keep e hj];exact q)⟩
noncomputable def hJ(t:Tg)(fc:FT)(fe:FE)(n:Nat)(env:aT):List D->aC->Option aC
 | [],S=>some S
 | d::ds,S=>(t.put d env).bind λ e1=>(fc e1 S).bind λ c=>if c.1=true then (fe e1 c.2).bind λ p=>(eZ p.2 (.loc n) p.1).bind λ r=>hJ t fc fe n env ds r.2 else hJ t fc fe n env ds c.2
noncomputable def gX(t:Tg)(fi:FL)(fc:FT)(fe:FE):FL:=λ env S=>(fi env S).bind λ p=>(hJ t fc fe p.2.length (clr t.slots env) p.1 (p.2++[some []])).bind λ S'=>match S'[p.2.length]? with
 | some (some zs)=>some (zs,S'.take p.2.length)
 | _=>none
def lH(Y:Cx)(ifs:List Expr)(fc:FT):Prop:=∀ (aB:List (Addr × Obj)) (s:Shared) (σ:St) (H:Hp) (Q:Bool->Hp->Prop),Inv Y aB σ H s->fO Y.K fc σ H Q ->
 wpAny (model Y.prog Y.w) Y.A (forIn ifs true λ c r=>if r=true then do let ok <- isTrue c Y.env (eval c Y.env);pure (ForInStep.yield ok) else pure (ForInStep.yield r)) (TP Y aB σ Q) Y.xe s
noncomputable def nO:FT:=λ _ S=>some (true,S)
theorem aEN{Y:Cx}:lH Y [] nO:=λ aB s σ H Q I aP=>by
 obtain⟨F,L,S,env,b,S',R,E,e,q⟩:=aP;cases e;exact wpAny_tests_nil ⟨H,I,q F L H Gr.refl R⟩
theorem aEH{Y:Cx}{c:Expr}{fc:FT}(h:PT Y c (fO Y.K fc)):lH Y [c] fc:=λ aB s σ H Q I q=>wpAny_tests_one (h aB s σ H Q I q)
def aCJ(N:List Str)(scope:Scope)(is:List Nat):Prop:=∀ (i:Nat) (x:Str),N[i]? = some x->scope.names.lookup x=some .local->i∈is
section
variable {X : Cx}{scope : Scope}{tg iter elt : Expr}{ifs : List Expr}{pos : Pos}{t : Tg}{g : TG}{fi : FL}{fc : FT}{fe : FE}
theorem aEK(use:Option (Value->Sem Unit))(hc:X.calm=true)(ok:ScOk scope X.env.scope)(own:aCJ X.N scope t.slots)(hi:PI X tg iter (hV X.K fi))(hg:∀ Y,jK X scope Y->PG Y tg g)(ga:GA X.K t g)
 (ht:∀ Y,jK X scope Y->lH Y ifs fc) (he:∀ Y,jK X scope Y->PE Y elt (aS X.K fe)) (hs:∀ x,foldedSetIterable iter X.env x=pure x)
 {aB:List (Addr × Obj)}{s:Shared}{σ:St}{H:Hp}{Q:VK}{QQ:Value->Shared->Prop}{pp:Pos} (I:Inv X aB σ H s) (h:iO X.K (gX t fi fc fe) σ H Q)
 (hend:∀ (p C:Addr) (s1:Shared) (H':Hp),gI X aB H' C->(∃ m,s1.heap.Ns C m)->(∀ h',Heap.SameBut C s1.heap h'->Inv X aB σ H' {s1 with heap:=h' })->Q (.ref p) H' ->
   compPost (model X.prog X.w) X.A X.xe use QQ (.ref p) C (.ok .next) s1) :
 wpAny (model X.prog X.w) X.A (comprehension (.ListComp elt [⟨tg,iter,ifs,0⟩] scope pos) scope X.env pp (newList []) false (eval iter X.env) use) QQ X.xe s:=by
 obtain⟨F,L,S,env,zs,S',R,E,e,q⟩:=h;obtain⟨⟨ds,S1⟩,e1,e⟩:=bind_some e;obtain⟨S2,e2,e⟩:=bind_some e;dsimp only at e e2;have hz:S2[S1.length]? = some (some zs)/\S'=S2.take S1.length:=by
  split at e
  ·rename_i z ez;cases e;exact⟨ez,rfl⟩
  ·cases e
 obtain⟨hz,rfl⟩:=hz;refine wpAny_comprehension_free (use:=use) rfl hs (aK8 (aEX I ok)) ok.kind ok.loc ?_;refine bA (hi aB s σ H (λ J H'=>∃ F' L',Gr F L F' L'/\Rel X.K F' L' S1 H'/\Wk X.K F' L' J ds) I ⟨F,L,S,env,ds,S1,R,E,e1,λ F' L' H' J g R' wk=>⟨F',L',g,R',wk⟩⟩) λ v s1 h1=>bA h1 λ itv s2 h2=>?_
 obtain⟨it,fp,tn,J,H2,rfl,I2,T,st2,f2,F1,L1,g1,R1,wk⟩:=h2;refine wpAny_newObj_type (wpAny_newFunctionEnv ok.nocell (by intro y hy;simp at hy) (λ h₁ hns₁ hsb₁=>?_) ok.kind)
 dsimp only at hns₁ hsb₁ ⊢;have I3:Inv X aB σ (bB H2 s2.heap.objs.size (.lst [])) {s2 with heap:=s2.heap.push {cls:=.type "list",dict:=none,data:=.seq ([]:List Value).toArray } }:=I2.lnew (aE:=[]) (t':=s2.toks) .nil (Nat.zero_le _)
 generalize hs3:({s2 with heap:=s2.heap.push {cls:=.type "list",dict:=none,data:=.seq ([]:List Value).toArray } }:Shared)=s3 at I3
 have hh3:s2.heap.push {cls:=.type "list",dict:=none,data:=.seq ([]:List Value).toArray }=s3.heap:=by rw[<- hs3]
 generalize hD:s2.heap.objs.size=Dd at I3;generalize hH3:bB H2 Dd (.lst [])=H3 at I3;have hfr2:H2 Dd=none:=by rw[<- hD];exact I2.fresh
 rw[hh3] at hns₁ hsb₁;rw[hh3];have hst:({heap:=h₁,gens:=s2.gens,drawn:=s2.drawn,toks:=s2.toks+([]:List (Str × Value)).length,os:=s2.os }:Shared)={s3 with heap:=h₁,toks:=s3.toks+([]:List (Str × Value)).length }:=by rw[<- hs3]
 rw[hst];clear hst;generalize hC:s3.heap.objs.size=C at hns₁ hsb₁;have old:∀ b u,s3.heap.get? b=some u->h₁.get? b=some u:=λ b u q=>by
  have hb:b≠C:=by rw[<- hC];exact xAk (xAa q)
  exact hsb₁.extBut b u hb (hpS _ q)
 have lt2:∀ b∈fp,b < s2.heap.objs.size:=λ b hb=>by
  obtain⟨o,eo,_⟩:=T.obj 0 _ st2 b hb;exact xAa eo
 have up23:∀ b u,s2.heap.get? b=some u->s3.heap.get? b=some u:=λ b u q=>by rw[<- hh3];exact hpS _ q
 have lt3:∀ b∈fp,b < s3.heap.objs.size:=λ b hb=>by
  obtain⟨o,eo,_⟩:=T.obj 0 _ st2 b hb;exact xAa (up23 b o eo)
 have f3:∀ b∈fp,gI X aB H3 b:=λ b hb=>by
  refine⟨?_,(f2 b hb).2⟩;have ne:b≠Dd:=by rw[<- hD];exact xAk (lt2 b hb)
  rw[<- hH3,bJ ne];exact(f2 b hb).1
 have okY:(kA X aB fp scope C s3 H3).Ok:=aOB I3 ok f3 lt3 (by rw[hC];exact Nat.le_refl _)
 have hIC:jK X scope (kA X aB fp scope C s3 H3):=⟨aB,fp,C,s3,H3,rfl⟩;generalize hY:kA X aB fp scope C s3 H3=Y at okY hIC;have yE:Y.env=compEnvC scope (uZ scope X.env) C X.env:=by rw[<- hY];rfl
 have I4:Inv Y [] (clr t.slots σ) H3 {s3 with heap:=h₁,toks:=s3.toks+([]:List (Str × Value)).length }:=by
  rw[<- hY] at okY ⊢;refine⟨okY,rfl,I3.bare,Un.kept old,⟨_,hns₁,λ i x v a1 a2 a3=>?_⟩,λ x c a=>?_,?_,λ x c a=>I3.freeC x c (oS I3 ok a),λ p hp=>?_,I3.hok.kept old,by rw[xB];exact I3.len⟩
  ·obtain⟨a4,a5⟩:=yG t.slots σ i v a2;have nl:scope.names.lookup x≠some .local:=λ z=>a5 (own i x a1 z)
   have pM:(kA X aB fp scope C s3 H3).env.kindOf x=some .cell\/(kA X aB fp scope C s3 H3).env.kindOf x=some .free:=by
    rcases a3 with z | z | z
    ·exfalso;have z':(kA X aB fp scope C s3 H3).env.kindOf x=some .local:=z;rw[aEO] at z';cases ek:scope.names.lookup x with
     | none=>rw[ek] at z';cases z'
     | some k =>
       rw[ek] at z';cases k with
       | «local» => exact nl ek
       | free =>
         simp only[Option.map_some,Option.some.injEq] at z'
         split at z'<;>cases z'
       | cell=>exact ok.nocell (x,.cell) (mem_of_lookup ek) rfl
       | globalExplicit=>simp at z'
       | globalImplicit=>simp at z'
    ·exact .inl z
    ·exact .inr z
   have fr:=aFa ok pM;have ov:=ok.free (x,.free) (mem_of_lookup fr) rfl;obtain⟨m,hm,hl⟩:=I3.loc;obtain⟨u,ru,lk⟩:=hl i x v a1 a4 (ov.elim (λ z=>.inr (.inl z)) λ z=>.inr (.inr z))
   refine⟨u,ru,.inr ⟨pM,?_⟩⟩;obtain⟨c,hcl⟩:=aCd (env:=X.env) scope.names [] x (.inl ⟨.free,mem_of_lookup fr,rfl⟩);have hc2:=oS I3 ok hcl;rcases lk with ⟨z,_⟩ | ⟨_,c',e',o',ho',hd'⟩
   ·exfalso;have z':X.env.scope.names.lookup x=some .local:=z;rcases ov with w | w
    ·rw[w] at z';cases z'
    ·rw[w] at z';cases z'
   ·rw[hc2] at e';cases e';exact⟨c,hcl,o',old _ _ ho',hd'⟩
  ·obtain⟨v,o,ho,hd⟩:=I3.cell x c (oS I3 ok a);exact⟨v,o,old _ _ ho,hd⟩
  ·show H3 C=none;rw[<- hC];exact I3.fresh
  ·have hp':p∈X.pn++aB:=by
    have:p∈(X.pn++aB)++[]:=hp;rwa [List.append_nil] at this
   obtain⟨b1,b2,b3,b4,b5⟩:=I3.pin p hp';refine⟨old _ _ b1,b2,?_,λ z=>?_,b5⟩
   ·show p.1≠C;rw[<- hC];exact xAk (xAa b1)
   ·rcases List.mem_cons.mp (I3.stkSub p.1 z) with w | w
    ·exact b3 w
    ·exact b4 w
 have fpY:∀ {H':Hp},(∀ b∈fp,H' b=none)->∀ b∈fp,gI Y [] H' b:=λ hn b hb=>by
  rw[<- hY];refine⟨hn b hb,?_,aGi I3 f3 b hb,.inl hb,λ x c a=>(f3 b hb).2.2.2.2.1 x c (oS I3 ok a),λ p hp=>?_⟩
  ·show b≠C;rw[<- hC];exact xAk (lt3 b hb)
  ·have hp':p∈X.pn++aB:=by
    have:p∈(X.pn++aB)++[]:=hp;rwa [List.append_nil] at this
   exact(f3 b hb).2.2.2.2.2 p hp'
 have yA:Y.A=X.A:=by rw[<- hY];rfl
 have yP:Y.prog=X.prog:=by rw[<- hY];rfl
 have yW:Y.w=X.w:=by rw[<- hY];rfl
 have yK:Y.K=X.K:=by rw[<- hY];rfl
 have yC:Y.calm=true:=by rw[<- hY];exact hc
 have yX:Y.xe=λ _ _=>False:=by rw[<- hY];rfl
 have R3:Rel X.K F1 (L1++[Dd]) (S1++[some []]) H3:=by rw[<- hH3];exact R1.newLoc hfr2 .nil
 obtain⟨PP,hPP⟩:∃ PP:Result->Shared->Prop,PP=compPost (model X.prog X.w) X.A X.xe use QQ (.ref Dd) C:=⟨_,rfl⟩;have bK:∀ (s1:Shared) (σ':L2.St) (H' F':Hp) (L':List Addr),Inv Y [] σ' H' s1->Gr F1 (L1++[Dd]) F' L'->Rel X.K F' L' S2 H'->PP (.ok .next) s1:=by
  intro s1 σ' H' F' L' J' gg RR;rw[hPP];rw[<- hY] at J';obtain⟨m,hmC,_⟩:=J'.loc;have hCn:H' C=none:=J'.free;have hfC:gI X aB H' C:=I3.fpOk (by rw[hC];exact Nat.le_refl _) hCn
  obtain⟨sf,M,rfl⟩:=gg;have cH:L1.length=S1.length:=R1.len;have eL:((L1++[Dd])++M)[S1.length]? = some Dd:=by
   rw[List.append_assoc,List.getElem?_append_right (by rw[cH];exact Nat.le_refl _),cH,Nat.sub_self];rfl
  obtain⟨hF,xs,hx,dl⟩:=RR.loc S1.length Dd zs eL hz;have RR2:Rel X.K F' (L1++([Dd]++M)) S2 H':=by rw[<- List.append_assoc];exact RR
  have Rc:=RR2.cut;rw[cH] at Rc;have hnd:Dd ∉ L1:=λ z=>by
   have nd:=RR2.nd;rw[List.nodup_append] at nd;exact nd.2.2 Dd z Dd (by simp) rfl
  refine hend Dd C s1 H' hfC ⟨m,hmC⟩ (λ h' sb=>?_) (q F' L1 H' Dd xs (g1.trans ⟨sf,[],by simp⟩) Rc hF hnd hx dl)
  have neC:∀ b u,s3.heap.get? b=some u->b≠C:=λ b u z=>by rw[<- hC];exact xAk (xAa z)
  have kp:∀ b u,b≠C->s1.heap.get? b=some u->h'.get? b=some u:=λ b u z w=>sb.extBut b u z w
  have bU:Un (iA X.stack) fp H3 H' s3.heap s1.heap:=J'.base;have u:Un (iA X.stack) fp H3 H' s3.heap h':=
   ⟨λ b o z n hb hx=>kp b o (neC b o z) (bU.keep b o z n hb hx),λ b o z n hb hx=>by obtain⟨sl,w⟩:=bU.slot b o z n hb hx;exact⟨sl,kp b _ (neC b o z) w⟩,bU.free,
    λ b o z hx=>by obtain⟨o',w⟩:=bU.there b o z hx;exact⟨o',kp b _ (neC b o z) w⟩,bU.tups,bU.frzs,bU.tbls⟩
  have hokY:dH X.prog X.w H' s1.heap:=J'.hok;have hok':dH X.prog X.w H' h':=λ b o z=>(hokY b o z).stay (λ c v hc2 w=>kp c v (λ zz=>by
   rcases hc2 with w2 | w2
   ·rw[w2] at zz;rw[zz,hCn] at z;cases z
   ·rw[zz,hCn] at w2;cases w2) w) (λ _ w=>w) λ _ _ w=>w
  have os1:s1.os=s3.os:=J'.os;exact I3.call' (s':={s1 with heap:=h' }) os1 u hok' J'.bare λ b hb=>⟨(f3 b hb).2.2.2.1,(f3 b hb).2.1,(f3 b hb).2.2.2.2.1,(f3 b hb).2.2.2.2.2⟩
 have loop:∀ s5:Shared,Inv Y [] (clr t.slots σ) H3 s5->tn 0 s5.heap ->
  codeAny (model X.prog X.w) X.A (.compLoop (.ListComp elt [⟨tg,iter,ifs,0⟩] scope pos) 0 (.ref it) (.ref Dd) Y.env) PP s5:=by
  intro s5 I5 st5;have E0:EnvR X.K F1 (L1++[Dd]) (clr t.slots env) (clr t.slots σ):=(E.mono (g1.trans Gr.newLoc)).clr t.slots;obtain⟨Iv,hIv⟩:∃ Iv:Nat->Shared->Prop,∀ n s',Iv n s' ↔ (∃ i σ' H' F' L' S',Inv Y [] σ' H' s'/\tn i s'.heap/\(∀ b∈fp,H' b=none)/\Gr F1 (L1++[Dd]) F' L'/\Rel X.K F' L' S' H'/\EnvR X.K F' L' (clr t.slots env) σ'/\i+n=ds.length /\
   hJ t fc fe S1.length (clr t.slots env) (ds.drop i) S'=some S2):=⟨_,λ _ _=>Iff.rfl⟩
  refine aKu Iv ?_ ds.length ((hIv _ _).mpr ⟨0,clr t.slots σ,H3,F1,L1++[Dd],S1++[some []],I5,st5,λ b hb=>(f3 b hb).1,Gr.refl,R3,E0,Nat.zero_add _,by rw[List.drop_zero];exact e2⟩)
  intro n s6 h6;obtain⟨i,σ6,H6,F6,L6,S6,I6,st6,fr6,g6,R6,E6,hin,ec⟩:=(hIv _ _).mp h6;clear h6;have g16:Gr F1 L1 F6 L6:=Gr.newLoc.trans g6;have toA:∀ {α:Type}{tt:Sem α}{QQ:α->Shared->Prop}{EE:Value->Shared->Prop}{ss:Shared},wpAny (model X.prog X.w) Y.A tt QQ EE ss->wpAny (model X.prog X.w) X.A tt QQ EE ss:=λ hh=>by rw[yA] at hh;exact hh
  cases n with
  | zero =>
    have hi':i=ds.length:=by omega
    subst hi';rw[List.drop_length] at ec;cases ec;refine bA (toA (T.done Y yP yW yK yC ds.length [] s6 σ6 H6 _ I6 (fpY fr6) st6 (wk.stop H6 (g16.f.trans R6.sub)))) λ r s7 hPq31=>?_
    obtain⟨hr,I7⟩:=hPq31;subst hr;exact bK s7 σ6 H6 F6 L6 I7 g6 R6
  | succ n =>
    have hi':i < ds.length:=by omega
    refine bA (toA (T.item Y yP yW yK yC i [] s6 σ6 H6 _ I6 (fpY fr6) st6 (wk.go i H6 (g16.f.trans R6.sub) hi'))) λ r s7 hPq32=>?_
    obtain⟨u,hr,h7⟩:=hPq32;subst hr;refine bA (toA h7) λ _ s8 hPq33=>?_
    obtain⟨x,H8,I8,r8,y8,st8,fr8⟩:=hPq33;obtain⟨F8,sf8,R8,d8⟩:=wk.yld i H6 F6 L6 S6 x H8 ds[i] g16 R6 (List.getElem?_eq_getElem hi') y8;have g8:Gr F6 L6 F8 L6:=⟨sf8,[],by simp⟩
    rw[List.drop_eq_getElem_cons hi'] at ec;obtain⟨env9,ep,ec⟩:=bind_some ec;obtain⟨⟨cb,S9⟩,et,ec⟩:=bind_some ec;have I8':=I8.pinned (fpY fr8) (T.obj _ _ st8);have toF:∀ {α:Type}{tt:Sem α}{QQ:α->Shared->Prop}{ss:Shared},wpAny (model Y.prog Y.w) Y.A tt QQ Y.xe ss->wpAny (model X.prog X.w) X.A tt QQ (λ _ _=>False) ss:=λ hh=>by rw[yX,yP,yW,yA] at hh;exact hh
    refine toF (bA (hg Y hIC _ s8 σ6 H8 x u (λ σ' H'=>H'=H8/\EnvR X.K F8 L6 env9 σ') I8' r8 (ga ds[i] x σ6 H8 F8 L6 S6 (clr t.slots env) env9 _ R8 (E6.mono g8) d8 ep λ σ' E'=>⟨rfl,E'⟩)) λ _ s9 hPq34=>?_)
    obtain⟨σ9,H9,I9,hH9,E9⟩:=hPq34;subst hH9;refine toF (bA (ht Y hIC _ s9 σ9 H9 (λ b H'=>∃ F' L',Gr F8 L6 F' L'/\Rel X.K F' L' S9 H'/\b=cb) I9 (by rw[yK];exact⟨F8,L6,S6,env9,cb,S9,R8,E9,et,λ F' L' H' g' R'=>⟨F',L',g',R',rfl⟩⟩)) λ ok2 s10 hPq35=>?_)
    obtain⟨H10,I10,F10,L10,g10,R10,hb10⟩:=hPq35;subst hb10;dsimp only at ec;have again:∀ {σ7:L2.St}{H7 F7:Hp}{L7:List Addr}{S7:aC}{s7':Shared},Inv Y ([]++tL fp s8.heap) σ7 H7 s7'->Gr F8 L6 F7 L7->Rel X.K F7 L7 S7 H7->EnvR X.K F7 L7 env9 σ7->hJ t fc fe S1.length (clr t.slots env) (ds.drop (i+1)) S7=some S2 ->
     ∃ m,m < n+1/\Iv m s7':=by
     intro σ7 H7 F7 L7 S7 s7' I7 g7 R7 E7 ec7;refine⟨n,Nat.lt_succ_self n,(hIv _ _).mpr ⟨i+1,σ7,H7,F7,L7,S7,I7.unpinned,T.keep _ _ _ st8 λ b hb o eo=>(I7.pin (b,o) (xAq _ (xAq _ (sD hb eo)))).1,λ b hb=>?_,(g6.trans g8).trans g7,R7,EnvR.back ep E7,by omega,ec7⟩⟩
     obtain⟨o,eo,_⟩:=T.obj _ _ st8 b hb;exact(I7.pin (b,o) (xAq _ (xAq _ (sD hb eo)))).2.1
    cases ok2 with
    | false =>
      rw[if_neg (by simp)] at ec
      rw[if_neg (by simp)]
      exact again I10 g10 R10 (E9.mono g10) ec
    | true =>
      rw[if_pos rfl] at ec;rw[if_pos rfl];obtain⟨⟨wv,S11⟩,ee,ec⟩:=bind_some ec;obtain⟨⟨wn,S12⟩,ea,ec⟩:=bind_some ec;obtain⟨n',dv,zs',hn',hw',es',hlt,hwn,rfl⟩:=aEI ea;cases hn';subst hw';refine toF (bA (he Y hIC _ s10 σ9 H10 (λ v H'=>∃ F' L',Gr F10 L10 F' L'/\Rel X.K F' L' S11 H'/\Den X.K F' dv v) I10 ⟨F10,L10,S9,env9,_,S11,R10,E9.mono g10,ee,λ F' L' H' v g' R' d'=>⟨F',L',g',R',d'⟩⟩) λ xv s11 hPq36=>?_)
      obtain⟨v11,H11,I11,r11,F11,L11,g11,R11,d11⟩:=hPq36;have gA:Gr F1 (L1++[Dd]) F11 L11:=((g6.trans g8).trans g10).trans g11;have eL:L11[S1.length]? = some Dd:=gA.get (by rw[List.getElem?_append_right (by rw[R1.len];exact Nat.le_refl _),R1.len,Nat.sub_self];rfl)
      obtain⟨hF,xs,hx,dl⟩:=R11.loc S1.length Dd zs' eL es';refine toF (bA (aEY (X:=Y) _ s11 σ9 H11 (.ref Dd) [v11] (.ref Dd) [xv] (λ _ H'=>Rel X.K F11 L11 (S11.set S1.length (some (zs'++[dv]))) H') I11 rfl (.cons r11 .nil) ⟨Dd,xs,v11,rfl,rfl,hx,by rw[<- dl.length];exact hlt,R11.put eL hF (dl.append (.cons d11 .nil))⟩) λ _ s12 hPq37=>?_)
      obtain⟨_,H12,I12,_,R12⟩:=hPq37;exact again I12 (g10.trans g11) R12 (E9.mono (g10.trans g11)) ec
 rw[yE,hPP] at loop;have st4:tn 0 h₁:=T.keep 0 _ _ st2 λ b _ o eo=>old b o (up23 b o eo)
 exact codeAny_compStart_list (loop _ I4 st4) (T.self X.A 0 _ _ _ st4 (loop _ I4 st4))
theorem aHW(hc:X.calm=true)(ok:ScOk scope X.env.scope)(own:aCJ X.N scope t.slots)(hi:PI X tg iter (hV X.K fi))(hg:∀ Y,jK X scope Y->PG Y tg g)(ga:GA X.K t g)
 (ht:∀ Y,jK X scope Y->lH Y ifs fc) (he:∀ Y,jK X scope Y->PE Y elt (aS X.K fe)) (hs:∀ x,foldedSetIterable iter X.env x=pure x) :
 PE X (.ListComp elt [⟨tg,iter,ifs,0⟩] scope pos) (iO X.K (gX t fi fc fe)):=λ aB s σ H Q I h=>by
 rw[eval_ListComp];exact aEK none hc ok own hi hg ga ht he hs I h λ p C s1 H' _ hm hI q=>hm.elim λ m hm=>⟨m,hm,λ h' sb=>⟨.ref p,H',hI h' sb,rfl,q⟩⟩
theorem aMa{i:Nat}{x:Str}{pos' spos:Pos}{fa:FE}(hN:X.N.Nodup)(hx1:X.N[i]? = some x)(hx2:L2.Loc X.env.scope x)(hf:X.fn x=true\/X.env.scope.names.lookup x=some .local)
 (hc:X.calm=true) (ok:ScOk scope X.env.scope) (own:aCJ X.N scope t.slots) (hi:PI X tg iter (hV X.K fi)) (hg:∀ Y,jK X scope Y->PG Y tg g) (ga:GA X.K t g)
 (ht:∀ Y,jK X scope Y->lH Y ifs fc) (he:∀ Y,jK X scope Y->PE Y elt (aS X.K fe)) (hs:∀ x,foldedSetIterable iter X.env x=pure x)
 (hw:∀ σ H Q,aS X.K fa σ H Q->iO X.K (gX t fi fc fe) σ H Q) :
 PS X (.Assign [.Name x pos'] (.ListComp elt [⟨tg,iter,ifs,0⟩] scope pos) spos) (dG X.K (jA i fa)):=by
 have hb:∃ b,swapsWith (.ListComp elt [⟨tg,iter,ifs,0⟩] scope pos) (some (.Name x pos')) spos.line X.env=pure b:=⟨_,rfl⟩;obtain⟨b,hb⟩:=hb;cases b with
 | false=>exact aIV hN hx1 hx2 (PE.weak (aHW hc ok own hi hg ga ht he hs) hw) hb hf
 | true =>
   intro aB s σ H DD I h;have h2:=aIa DD σ H h;rw[exec_Assign_Name_used _ _ _ _ hb];refine wB (wpAny_standAt (wB ?_));show wpAny _ X.A (do let _ <- comprehension (.ListComp elt [⟨tg,iter,ifs,0⟩] scope pos) scope X.env _ (newList []) false (eval iter X.env) (some (assign (.Name x pos') X.env))) _ _ s
   refine wB (bA (aEK (QQ:=λ _ s'=>SP X aB DD .next s') (some (assign (.Name x pos') X.env)) hc ok own hi hg ga ht he hs I (hw _ _ _ h2) λ p C s1 H' hC hm hI q=>?_) λ _ s' hq=>wP (wP hq))
   obtain⟨m,hm⟩:=hm;have I1:Inv X aB σ H' s1:=hI s1.heap (Heap.SameBut.refl _ _);obtain⟨o,es,ep,ho,hd,r⟩:=hm;have I2:=I1.pinned (fp:=[C]) (λ b hb=>by rw[List.mem_singleton.mp hb];exact hC) λ b hb=>by rw[List.mem_singleton.mp hb];exact⟨o,ho,λ v z=>by rw[hd] at z;cases z⟩
   refine bA (aBO (pos:=pos') hN hx1 hx2 hf _ s1 σ H' (.ref p) (.ref p) _ I2 rfl q) λ _ s2 hPq38=>?_
   obtain⟨σ2,H2,I3,q3⟩:=hPq38;obtain⟨b1,b2,_⟩:=I3.pin (C,o) (xAq _ (xAq _ (sD (by simp) ho)))
   refine⟨m,⟨o,es,ep,b1,hd,r⟩,λ h' sb=>⟨σ2,H2,?_,q3⟩⟩
   exact I3.unpinned.turned (t':=s2.toks) (λ b o hb e=>sb.extBut b o hb e) b2 hC.2.1 hC.2.2.2.1 hC.2.2.2.2.1 hC.2.2.2.2.2
end
noncomputable def iS:List D->Option (List Int)
 | []=>some []
 | .int i::r=>(iS r).bind λ l=>some (i::l)
 | _::_=>none
noncomputable def xV:List D->Option (List Bool)
 | []=>some []
 | .bool i::r=>(xV r).bind λ l=>some (i::l)
 | _::_=>none
noncomputable def hU:List D->Option D
 | [.list xs]=>some (.int xs.length)
 | [.tuple xs]=>some (.int xs.length)
 | [.str z]=>if z.length<=sizeLine then some (.int z.length) else none
 | _=>none
noncomputable def nQ:List D->Option D
 | [.int i,.int j]=>some (.int (if j > i then j else i))
 | [.int i,.int j,.int k]=>some (.int (if j > i then (if k > j then k else j) else (if k > i then k else i)))
 | [.list xs]=>match iS xs with
   | some (i::r)=>some (.int (r.foldl max i))
   | _=>none
 | _=>none
noncomputable def iH:List D->Option D
 | [.int i,.int j]=>some (.int (if j < i then j else i))
 | [.list xs]=>match iS xs with
   | some (i::r)=>some (.int (r.foldl min i))
   | _=>none
 | _=>none
noncomputable def vD:List D->Option D
 | [.int i]=>some (.int i)
 | [.bool k]=>some (.int (if k then 1 else 0))
 | _=>none
noncomputable def aCX:List D->Option D
 | [.int i]=>some (.int (if i < 0 then -i else i))
 | _=>none
noncomputable def tN:List D->Option D
 | [.list xs]=>some (.tuple xs)
 | [.tuple xs]=>some (.tuple xs)
 | _=>none
noncomputable def aCP:List D->Option D
 | [.list xs]=>(iS xs).bind λ l=>some (.int l.sum)
 | _=>none
noncomputable def aCS:List D->Option D
 | [.list xs]=>(xV xs).bind λ l=>some (.bool (l.all id))
 | _=>none
noncomputable def aDb:List D->Option D
 | [.list xs]=>(xV xs).bind λ l=>some (.bool (l.any id))
 | _=>none
section
variable {X : Cx}
theorem iF{F H:Hp}{d:D}{xs:List V}(h:NowL X.K F H [d] xs):∃ x,xs=[x]/\bN X.K F H d x:=by
 cases h with
 | cons a b=>cases b;exact⟨_,rfl,a⟩
theorem aJh{F H:Hp}{d e:D}{xs:List V}(h:NowL X.K F H [d,e] xs):∃ x y,xs=[x,y]/\bN X.K F H d x/\bN X.K F H e y:=by
 cases h with
 | cons a b =>
   cases b with
   | cons c d=>cases d;exact⟨_,_,rfl,a,c⟩
theorem aUV{F H:Hp}{d e f:D}{xs:List V}(h:NowL X.K F H [d,e,f] xs):∃ x y z,xs=[x,y,z]/\bN X.K F H d x/\bN X.K F H e y/\bN X.K F H f z:=by
 cases h with
 | cons a b=>cases b with
   | cons c d=>cases d with
     | cons e f=>cases f;exact⟨_,_,_,rfl,a,c,e⟩
theorem aIk{x y z:V}{us:List Value}(r:aW [x,y,z] us):∃ u v w',us=[u,v,w']/\aZ x u/\aZ y v/\aZ z w':=by
 cases r with
 | cons r1 r2=>cases r2 with
   | cons r3 r4=>cases r4 with
     | cons r5 r6=>cases r6;exact⟨_,_,_,rfl,r1,r3,r5⟩
theorem aLp(hc:X.calm=true):dY X (.builtin "max") (λ xs H Q=>∃ i j k,xs=[.int i,.int j,.int k]/\Q (.int (if j > i then (if k > j then k else j) else (if k > i then k else i))) H):=by
 intro aB s σ H xs us Q I r h;obtain⟨i,j,k,rfl,q⟩:=h;obtain⟨u,v,w',rfl,⟨t,rfl⟩,⟨t',rfl⟩,⟨t2,rfl⟩⟩:=aIk r;refine max_three_ints (I.ok.hd hc) λ h' tk kk=>⟨_,H,I.kept kk,?_,q⟩
 by_cases h1:j > i<;>by_cases h2:k > j<;>by_cases h3:k > i<;>simp only[h1,h2,h3,if_true,if_false]<;>exact⟨_,rfl⟩
theorem sE{K:FrG}{F:Hp}:∀ {ds:List D}{xs:List V}{ns:List Int},DenL K F ds xs->iS ds=some ns->xs=ns.map V.int
 | _,_,_,.nil,e=>by cases e;rfl
 | .int i::r,_,_,.cons h t,e=>by
   obtain⟨l,e1,e2⟩:=bind_some e;cases e2;cases h;rw[List.map_cons,sE t e1]
 | .none::_,_,_,.cons _ _,e=>by cases e
 | .bool _::_,_,_,.cons _ _,e=>by cases e
 | .str _::_,_,_,.cons _ _,e=>by cases e
 | .list _::_,_,_,.cons _ _,e=>by cases e
 | .tuple _::_,_,_,.cons _ _,e=>by cases e
 | .dict _::_,_,_,.cons _ _,e=>by cases e
theorem aGU:∀ (l:List Int) (i:Int),(l.foldl max i∈i::l)/\∀ a∈i::l,a<=l.foldl max i
 | [],i=>⟨List.mem_singleton.mpr rfl,λ a h=>by rw[List.mem_singleton.mp h];exact Int.le_refl _⟩
 | b::l,i=>by
   obtain⟨h1,h2⟩:=aGU l (max i b);rw[List.foldl_cons];refine⟨?_,λ a ha=>?_⟩
   ·rcases List.mem_cons.mp h1 with h | h
    ·rw[h];rcases Int.le_total i b with q | q
     ·rw[Int.max_eq_right q];simp
     ·rw[Int.max_eq_left q];simp
    ·simp[h]
   ·have h3:=h2 (max i b) xAd;simp only[List.mem_cons] at ha;rcases ha with rfl | rfl | ha
    ·exact Int.le_trans (Int.le_max_left _ _) h3
    ·exact Int.le_trans (Int.le_max_right _ _) h3
    ·exact h2 a (xAg _ ha)
theorem aGf:∀ (l:List Int) (i:Int),(l.foldl min i∈i::l)/\∀ a∈i::l,l.foldl min i<=a
 | [],i=>⟨List.mem_singleton.mpr rfl,λ a h=>by rw[List.mem_singleton.mp h];exact Int.le_refl _⟩
 | b::l,i=>by
   obtain⟨h1,h2⟩:=aGf l (min i b);rw[List.foldl_cons];refine⟨?_,λ a ha=>?_⟩
   ·rcases List.mem_cons.mp h1 with h | h
    ·rw[h];rcases Int.le_total i b with q | q
     ·rw[Int.min_eq_left q];simp
     ·rw[Int.min_eq_right q];simp
    ·simp[h]
   ·have h3:=h2 (min i b) xAd;simp only[List.mem_cons] at ha;rcases ha with rfl | rfl | ha
    ·exact Int.le_trans h3 (Int.min_le_left _ _)
    ·exact Int.le_trans h3 (Int.min_le_right _ _)
    ·exact h2 a (xAg _ ha)
theorem aA0:∀ {l:List Int}{us:List Value},aW (l.map V.int) us->∃ ps:List (Int × Tok),us=ps.map (λ p=>Value.int p.1 p.2)/\ps.map (·.1)=l
 | [],us,r=>by cases r;exact⟨[],rfl,rfl⟩
 | i::l,us,r=>by
   cases r with
   | cons h t =>
     obtain⟨tk,rfl⟩:=h;obtain⟨ps,rfl,rfl⟩:=aA0 t;exact⟨(i,tk)::ps,rfl,rfl⟩
theorem aLt(hc:X.calm=true):dY X (.builtin "max") (λ xs H Q=>∃ (a:Addr) (l:List Int),xs=[.ref a]/\bR X.K H a (l.map V.int)/\0 < l.length/\∀ M,M∈l->(∀ i∈l,i<=M)->Q (.int M) H):=by
 intro aB s σ H xs us Q I r h;obtain⟨a,l,rfl,sq,hl,q⟩:=h;obtain⟨u,rfl,ru⟩:=iW r;cases ru;obtain⟨aE,rv,pl,hz⟩:=I.list sq;obtain⟨ps,rfl,rfl⟩:=aA0 rv;have hIL:s.heap.IsList a (intItems ps.toArray):=by
  have e:intItems ps.toArray=(ps.map (λ p=>Value.int p.1 p.2)).toArray:=by simp[intItems]
  rw[e];exact pl.isList
 refine max_intList (xs:=ps.toArray) (I.ok.hd hc) hIL (by simpa using hl) λ v h' tk hv hk=>?_
 obtain⟨t,rfl⟩:=intItems_at hv;obtain⟨h1,h2⟩:=argBest_gt (numAt ps.toArray) (ps.toArray.size - 1);refine⟨.int _,H,I.kept hk,⟨_,rfl⟩,q _ ?_ λ i hi=>?_⟩
 ·rw[numAt_eq];have hz':0 < ps.toArray.size:=by simpa using hl
  exact getD_mem (by rw[List.length_map,Array.length_toList];exact xAj h1 (Nat.sub_lt hz' Nat.one_pos))
 ·obtain⟨j,hj,rfl⟩:=mem_getD hi;rw[List.length_map] at hj;have:=h2 j (by rw[List.size_toArray];omega)
  rw[numAt_eq (j:=j)] at this;exact this
theorem aL4(hc:X.calm=true):dY X (.builtin "min") (λ xs H Q=>∃ (a:Addr) (l:List Int),xs=[.ref a]/\bR X.K H a (l.map V.int)/\0 < l.length/\∀ M,M∈l->(∀ i∈l,M<=i)->Q (.int M) H):=by
 intro aB s σ H xs us Q I r h;obtain⟨a,l,rfl,sq,hl,q⟩:=h;obtain⟨u,rfl,ru⟩:=iW r;cases ru;obtain⟨aE,rv,pl,hz⟩:=I.list sq;obtain⟨ps,rfl,rfl⟩:=aA0 rv;have hIL:s.heap.IsList a (intItems ps.toArray):=by
  have e:intItems ps.toArray=(ps.map (λ p=>Value.int p.1 p.2)).toArray:=by simp[intItems]
  rw[e];exact pl.isList
 refine min_intList (xs:=ps.toArray) (I.ok.hd hc) hIL (by simpa using hl) λ v h' tk hv hk=>?_
 obtain⟨t,rfl⟩:=intItems_at hv;obtain⟨h1,h2⟩:=argBest_lt (numAt ps.toArray) (ps.toArray.size - 1);refine⟨.int _,H,I.kept hk,⟨_,rfl⟩,q _ ?_ λ i hi=>?_⟩
 ·rw[numAt_eq];have hz':0 < ps.toArray.size:=by simpa using hl
  exact getD_mem (by rw[List.length_map,Array.length_toList];exact xAj h1 (Nat.sub_lt hz' Nat.one_pos))
 ·obtain⟨j,hj,rfl⟩:=mem_getD hi;rw[List.length_map] at hj;have:=h2 j (by rw[List.size_toArray];omega)
  rw[numAt_eq (j:=j)] at this;exact this
theorem aRS:dY X (.builtin "len") (lD X hU):=λ aB s σ H xs us Q I r aP=>by
 obtain⟨F,L,S,ds,z,R,n,e,q⟩:=aP;unfold hU at e
 split at e
 ·cases e;obtain⟨x,rfl,nx⟩:=iF n;obtain⟨a,ys,rfl,sq,dl⟩:=nx.lst R.sub;exact aD3 aB s σ H _ us Q I r ⟨a,ys,rfl,.inl sq,by rw[<- dl.length];exact q.here R (.int _)⟩
 ·cases e;obtain⟨x,rfl,nx⟩:=iF n;obtain⟨a,ys,rfl,sq,dl⟩:=nx.tup R.sub;exact aD3 aB s σ H _ us Q I r ⟨a,ys,rfl,.inr sq,by rw[<- dl.length];exact q.here R (.int _)⟩
 ·split at e
  ·rename_i hz;cases e;obtain⟨x,rfl,nx⟩:=iF n;exact aKD aB s σ H _ us Q I r ⟨_,by rw[nx.str],hz,q.here R (.int _)⟩
  ·cases e
 ·cases e
theorem aS3(hc:X.calm=true):dY X (.builtin "max") (lD X nQ):=λ aB s σ H xs us Q I r aP=>by
 obtain⟨F,L,S,ds,z,R,n,e,q⟩:=aP;unfold nQ at e
 split at e
 ·cases e;obtain⟨x,y,rfl,nx,ny⟩:=aJh n;exact aLS hc aB s σ H _ us Q I r ⟨_,_,by rw[nx.int,ny.int],q.here R (.int _)⟩
 ·cases e;obtain⟨x,y,u,rfl,nx,ny,nu⟩:=aUV n;exact aLp hc aB s σ H _ us Q I r ⟨_,_,_,by rw[nx.int,ny.int,nu.int],q.here R (.int _)⟩
 ·split at e
  ·rename_i xs' i r' hi;cases e;obtain⟨x,rfl,nx⟩:=iF n;obtain⟨a,ys,rfl,sq,dl⟩:=nx.lst R.sub;obtain rfl:=sE dl hi;refine aLt hc aB s σ H _ us Q I r ⟨a,i::r',rfl,sq,by simp,λ M h1 h2=>?_⟩
   have f:=aGU r' i;have:M=r'.foldl max i:=Int.le_antisymm (f.2 _ h1) (h2 _ f.1);rw[this];exact q.here R (.int _)
  ·cases e
 ·cases e
theorem aSo(hc:X.calm=true):dY X (.builtin "min") (lD X iH):=λ aB s σ H xs us Q I r aP=>by
 obtain⟨F,L,S,ds,z,R,n,e,q⟩:=aP;unfold iH at e
 split at e
 ·cases e;obtain⟨x,y,rfl,nx,ny⟩:=aJh n;exact aLD hc aB s σ H _ us Q I r ⟨_,_,by rw[nx.int,ny.int],q.here R (.int _)⟩
 ·split at e
  ·rename_i xs' i r' hi;cases e;obtain⟨x,rfl,nx⟩:=iF n;obtain⟨a,ys,rfl,sq,dl⟩:=nx.lst R.sub;obtain rfl:=sE dl hi;refine aL4 hc aB s σ H _ us Q I r ⟨a,i::r',rfl,sq,by simp,λ M h1 h2=>?_⟩
   have f:=aGf r' i;have:M=r'.foldl min i:=Int.le_antisymm (h2 _ f.1) (f.2 _ h1);rw[this];exact q.here R (.int _)
  ·cases e
 ·cases e
theorem aS7:dY X (.type "int") (lD X vD):=λ aB s σ H xs us Q I r aP=>by
 obtain⟨F,L,S,ds,z,R,n,e,q⟩:=aP;unfold vD at e
 split at e
 ·cases e;obtain⟨x,rfl,nx⟩:=iF n;exact aE2 aB s σ H _ us Q I r (.inl ⟨_,by rw[nx.int],q.here R (.int _)⟩)
 ·cases e;obtain⟨x,rfl,nx⟩:=iF n;exact aE2 aB s σ H _ us Q I r (.inr ⟨_,by rw[nx.bl],q.here R (.int _)⟩)
 ·cases e
theorem aTe:dY X (.builtin "abs") (lD X aCX):=λ aB s σ H xs us Q I r aP=>by
 obtain⟨F,L,S,ds,z,R,n,e,q⟩:=aP;unfold aCX at e
 split at e
 ·cases e;obtain⟨x,rfl,nx⟩:=iF n;exact aNa aB s σ H _ us Q I r ⟨_,by rw[nx.int],q.here R (.int _)⟩
 ·cases e
theorem aOC:dY X (.type "tuple") (lD X tN):=λ aB s σ H xs us Q I r aP=>by
 obtain⟨F,L,S,ds,z,R,n,e,q⟩:=aP;unfold tN at e
 split at e
 ·cases e;obtain⟨x,rfl,nx⟩:=iF n;obtain⟨a,ys,rfl,sq,dl⟩:=nx.lst R.sub;exact aDX aB s σ H _ us Q I r ⟨a,ys,rfl,.inl ⟨sq,λ l hl=>q.tup R hl dl⟩⟩
 ·cases e;obtain⟨x,rfl,nx⟩:=iF n;have nx':=nx;obtain⟨a,ys,rfl,sq,dl⟩:=nx.tup R.sub;refine aDX aB s σ H _ us Q I r ⟨a,ys,rfl,.inr ⟨sq,q.here R ?_⟩⟩;rcases nx' with nx | ⟨_,_,_,e,_⟩
  ·exact nx
  ·cases e
 ·cases e
theorem aAR{prog:Program}{w:World}{A:Around}(hh:A.handled=none)(I ax:Addr)(hne:ax≠I)(aM:Array Value) :
 WalksS prog w A I [I,ax] [I] (λ a b=>b=a) aM.size (λ i v=>aM[i]? = some v) (λ i s=>s.heap.IsListIter I ax i/\s.heap.IsList ax aM) where
 sub:=λ b hb=>by simp at hb;simp[hb]
 grefl:=λ _=>rfl
 gtrans:=λ _ _ _ h1 h2=>h2.trans h1
 frame:=λ _ _ _ _ st _ hk=>⟨st.1.at λ o e=>hk I (by simp) o e,st.2.at λ o e=>hk ax (by simp) o e⟩
 item:=λ i s Q E hi st hQ=>by
  refine wpAny_pyNext_list_item st.1 st.2 (x:=aM[i]) (by simp[hi]) λ h' hit' hs'=>?_
  exact hQ _ _ (by simp[hi]) ⟨hit',st.2.extBut hs'.extBut hne⟩ ⟨λ b o hb e=>hs'.extBut b o (λ h=>hb (by simp[h])) e,rfl,rfl,rfl,Nat.le_refl _⟩
 done:=λ s Q E st hQ=>wpAny_pyNext_list_end hh st.1 st.2 (by simp) λ h' he'=>hQ _ ⟨λ b o hb e=>he' b o (λ h=>hb (by simp[h])) e,rfl,rfl,rfl,Nat.le_refl _⟩
 self:=λ _ _ _ _ st hQ=>wpAny_pyIter_listiter st.1 hQ
theorem aEk:∀ (ns:List Int) (k:Nat),k<=ns.length->preSum (λ i=>ns.getD i 0) k=(ns.take k).sum
 | _,0,_=>by simp[preSum]
 | ns,k+1,h=>by
   rw[preSum,aEk ns k (by omega),List.take_succ_eq_append_getElem (by omega),List.sum_append]
   have:ns.getD k 0=ns[k]:=by simp[List.getD,List.getElem?_eq_getElem (show k < ns.length by omega)]
   rw[this];simp
theorem aAW{K:FrG}{F:Hp}:∀ {ds:List D}{xs:List V}{ns:List Bool},DenL K F ds xs->xV ds=some ns->xs=ns.map V.bl
 | _,_,_,.nil,e=>by cases e;rfl
 | .bool i::r,_,_,.cons h t,e=>by
   obtain⟨l,e1,e2⟩:=bind_some e;cases e2;cases h;rw[List.map_cons,aAW t e1]
 | .none::_,_,_,.cons _ _,e=>by cases e
 | .int _::_,_,_,.cons _ _,e=>by cases e
 | .str _::_,_,_,.cons _ _,e=>by cases e
 | .list _::_,_,_,.cons _ _,e=>by cases e
 | .tuple _::_,_,_,.cons _ _,e=>by cases e
 | .dict _::_,_,_,.cons _ _,e=>by cases e
theorem aKM{ns:List Int}{us:List Value}(r:aW (ns.map V.int) us){i:Nat}{v:Value}(e:us[i]? = some v):∃ t,v=.int (ns.getD i 0) t:=by
 have hl:=r.length;rw[List.length_map] at hl;have hi:i < ns.length:=by rw[hl];exact(gIm e).1
 obtain⟨u,e1,ru⟩:=aW.get r (i:=i) (x:=.int ns[i]) (by rw[xAb,List.getElem?_eq_getElem hi];rfl)
 rw[e] at e1;cases e1;obtain⟨t,rfl⟩:=ru;exact⟨t,by simp[List.getD,List.getElem?_eq_getElem hi]⟩
theorem aD4{ns:List Bool}{us:List Value}(r:aW (ns.map V.bl) us){i:Nat}{v:Value}(e:us[i]? = some v):v=.bool (ns.getD i false):=by
 have hl:=r.length;rw[List.length_map] at hl;have hi:i < ns.length:=by rw[hl];exact(gIm e).1
 obtain⟨u,e1,ru⟩:=aW.get r (i:=i) (x:=.bl ns[i]) (by rw[xAb,List.getElem?_eq_getElem hi];rfl)
 rw[e] at e1;cases e1;obtain rfl:=ru;simp[List.getD,List.getElem?_eq_getElem hi]
theorem aSC(hc:X.calm=true):dY X (.builtin "sum") (lD X aCP):=λ aB s σ H xs us Q I r aP=>by
 obtain⟨F,L,S,ds,z,R,n,e,q⟩:=aP;unfold aCP at e
 split at e
 ·obtain⟨ns,e1,e2⟩:=bind_some e;cases e2;obtain⟨x,rfl,nx⟩:=iF n;obtain⟨a,ys,rfl,sq,dl⟩:=nx.lst R.sub;obtain rfl:=sE dl e1;obtain⟨u,rfl,ru⟩:=iW r;cases ru;obtain⟨aE,rv,pl,hz⟩:=I.list sq;have hh:X.A.in1.handled=none:=I.ok.hd hc;refine call_sum_walkAnyS (wpAny_pyIter_list pl.isList ?_);have hne:a≠s.heap.objs.size:=by
   obtain⟨o,ho,_⟩:=pl.isList;exact xAk (xAa ho)
  have hl:=rv.length;rw[List.length_map] at hl;refine⟨_,_,_,_,_,_,_,λ i=>ns.getD i 0,rfl,aAR hh s.heap.objs.size a hne aE.toArray,⟨⟨_,xAe _ rfl,rfl,rfl⟩,?_⟩,λ b hb=>?_,λ i v e=>aKM rv (by simpa using e),λ s' t' mv=>?_⟩
  ·obtain⟨o,ho,r'⟩:=pl.isList;exact⟨o,hpS _ ho,r'⟩
  ·obtain⟨o,ho,_⟩:=pl.isList;have h1:=xAa ho;simp only[List.mem_cons,List.not_mem_nil,or_false] at hb;rw[Heap.size_push];rcases hb with rfl | rfl
   ·exact Nat.lt_succ_self _
   ·exact Nat.lt_succ_of_lt h1
  ·obtain⟨h',g',d',t2,o'⟩:=s';obtain⟨mh,mg,md,mo,mt⟩:=mv;dsimp only at mh mg md mo;subst mg md mo;have I':Inv X aB σ H {s with heap:=h',toks:=t2 }:=I.kept λ b o e=>mh b o (λ z=>by
    have:b=s.heap.objs.size:=by simpa using z
    exact Nat.lt_irrefl _ (this▸xAa e)) (hpS _ e)
   have e3:preSum (λ i=>ns.getD i 0) aE.toArray.size=ns.sum:=by
    rw[List.size_toArray,<- hl,aEk ns ns.length (Nat.le_refl _),List.take_length]
   rw[e3];exact⟨.int ns.sum,H,I',⟨_,rfl⟩,q.here R (.int _)⟩
 ·cases e
theorem aEw{prog:Program}{w:World}{A:Around}{b:Bool}{s:Shared}{Q:Bool->Shared->Prop}{E:Value->Shared->Prop}(h:Q b s):wpAny (model prog w) A (truthy (.bool b)) Q E s:=by
 first
  | exact wpAny_truthy_bool h
  | exact PySem.wpAny_truthy_bool h
  | exact truthy_bool h
theorem aLG(bs:List Bool):(List.range bs.length).all (λ i=>bs.getD i false)=bs.all id:=by
 have h:(List.range bs.length).map (λ i=>bs.getD i false)=bs:=by
  apply List.ext_getElem
  ·simp
  ·intro i h1 h2;simp[List.getD,List.getElem?_eq_getElem h2]
 have h2:bs.all id=((List.range bs.length).map (λ i=>bs.getD i false)).all id:=by rw[h]
 rw[h2,List.all_map];rfl
theorem aLr(bs:List Bool):(List.range bs.length).any (λ i=>bs.getD i false)=bs.any id:=by
 have h:(List.range bs.length).map (λ i=>bs.getD i false)=bs:=by
  apply List.ext_getElem
  ·simp
  ·intro i h1 h2;simp[List.getD,List.getElem?_eq_getElem h2]
 have h2:bs.any id=((List.range bs.length).map (λ i=>bs.getD i false)).any id:=by rw[h]
 rw[h2,List.any_map];rfl
theorem aR2(hc:X.calm=true):dY X (.builtin "all") (lD X aCS):=λ aB s σ H xs us Q I r aP=>by
 obtain⟨F,L,S,ds,z,R,n,e,q⟩:=aP;unfold aCS at e
 split at e
 ·obtain⟨bs,e1,e2⟩:=bind_some e;cases e2;obtain⟨x,rfl,nx⟩:=iF n;obtain⟨a,ys,rfl,sq,dl⟩:=nx.lst R.sub;obtain rfl:=aAW dl e1;obtain⟨u,rfl,ru⟩:=iW r;cases ru;obtain⟨aE,rv,pl,hz⟩:=I.list sq;have hh:X.A.in1.handled=none:=I.ok.hd hc;refine call_all_walkS (wpAny_pyIter_list pl.isList ?_);have hne:a≠s.heap.objs.size:=by
   obtain⟨o,ho,_⟩:=pl.isList;exact xAk (xAa ho)
  have hl:=rv.length;rw[List.length_map] at hl;refine⟨_,_,_,_,_,_,_,λ i=>bs.getD i false,rfl,aAR hh s.heap.objs.size a hne aE.toArray,⟨⟨_,xAe _ rfl,rfl,rfl⟩,?_⟩,λ i v s' Q' E' e hq=>?_,λ s' mv=>?_⟩
  ·obtain⟨o,ho,r'⟩:=pl.isList;exact⟨o,hpS _ ho,r'⟩
  ·obtain rfl:=aD4 rv (i:=i) (by simpa using e)
   exact aEw hq
  ·obtain⟨h',g',d',t2,o'⟩:=s';obtain⟨mh,mg,md,mo,mt⟩:=mv;dsimp only at mh mg md mo;subst mg md mo;have I':Inv X aB σ H {s with heap:=h',toks:=t2 }:=I.kept λ b o e=>mh b o (λ z=>by
    have:b=s.heap.objs.size:=by simpa using z
    exact Nat.lt_irrefl _ (this▸xAa e)) (hpS _ e)
   rw[List.size_toArray,<- hl,aLG];exact⟨.bl (bs.all id),H,I',rfl,q.here R (.bl _)⟩
 ·cases e
theorem aTW(hc:X.calm=true):dY X (.builtin "any") (lD X aDb):=λ aB s σ H xs us Q I r aP=>by
 obtain⟨F,L,S,ds,z,R,n,e,q⟩:=aP;unfold aDb at e
 split at e
 ·obtain⟨bs,e1,e2⟩:=bind_some e;cases e2;obtain⟨x,rfl,nx⟩:=iF n;obtain⟨a,ys,rfl,sq,dl⟩:=nx.lst R.sub;obtain rfl:=aAW dl e1;obtain⟨u,rfl,ru⟩:=iW r;cases ru;obtain⟨aE,rv,pl,hz⟩:=I.list sq;have hh:X.A.in1.handled=none:=I.ok.hd hc;refine call_any_walkS (wpAny_pyIter_list pl.isList ?_);have hne:a≠s.heap.objs.size:=by
   obtain⟨o,ho,_⟩:=pl.isList;exact xAk (xAa ho)
  have hl:=rv.length;rw[List.length_map] at hl;refine⟨_,_,_,_,_,_,_,λ i=>bs.getD i false,rfl,aAR hh s.heap.objs.size a hne aE.toArray,⟨⟨_,xAe _ rfl,rfl,rfl⟩,?_⟩,λ i v s' Q' E' e hq=>?_,λ s' mv=>?_⟩
  ·obtain⟨o,ho,r'⟩:=pl.isList;exact⟨o,hpS _ ho,r'⟩
  ·obtain rfl:=aD4 rv (i:=i) (by simpa using e)
   exact aEw hq
  ·obtain⟨h',g',d',t2,o'⟩:=s';obtain⟨mh,mg,md,mo,mt⟩:=mv;dsimp only at mh mg md mo;subst mg md mo;have I':Inv X aB σ H {s with heap:=h',toks:=t2 }:=I.kept λ b o e=>mh b o (λ z=>by
    have:b=s.heap.objs.size:=by simpa using z
    exact Nat.lt_irrefl _ (this▸xAa e)) (hpS _ e)
   rw[List.size_toArray,<- hl,aLr];exact⟨.bl (bs.any id),H,I',rfl,q.here R (.bl _)⟩
 ·cases e
noncomputable def tyD:D->Option String
 | .none=>some "NoneType"
 | .bool _=>some "bool"
 | .int _=>some "int"
 | .str _=>some "str"
 | .list _=>some "list"
 | .tuple _=>some "tuple"
 | .dict _=>none
noncomputable def vA(K:FrG)(n:String)(d:D):Option D:=(tyD d).bind λ t=>(PySem.W.kitOne K (.type t) (.type n)).map PyData.bool
theorem aQM{aB:List (Addr × Obj)}{s:Shared}{σ:L2.St}{H F:Hp}{L:List Addr}{S:aC}{x:V}{v:Value}{d z:D}{n:String}{Q:VK}(I:Inv X aB σ H s)(R:Rel X.K F L S H)(rx:aZ x v)(nx:bN X.K F H d x)(e:vA X.K n d=some z)(q:fK X F L S z Q) :
 wpAny (model X.prog X.w) X.A (call (.builtin "isinstance") [v,.type n]) (EP X aB σ Q) X.xe s:=by
 obtain⟨t,e1,e2⟩:=bind_some e;cases ek:PySem.W.kitOne X.K (.type t) (.type n) with
 | none=>rw[ek] at e2;cases e2
 | some b =>
   rw[ek] at e2;cases e2;have bK:∀ tk,EP X aB σ Q (.bool b) {s with toks:=tk }:=λ tk=>⟨.bl b,H,I.tok _,rfl,q.here R (.bl b)⟩
   cases d with
   | none=>cases e1;obtain rfl:=nx.non;cases (show v=Value.none from rx);exact PySem.W.kia_one PySem.W.kitx_none I.kIn True.intro ek (λ z=>nomatch z) bK
   | bool y=>cases e1;obtain rfl:=nx.bl;cases (show v=Value.bool y from rx);exact PySem.W.kia_one PySem.W.kitx_bool I.kIn True.intro ek (λ z=>nomatch z) bK
   | int i=>cases e1;obtain rfl:=nx.int;obtain⟨t,q⟩:=(show ∃ t,v=Value.int i t from rx);cases q;exact PySem.W.kia_one PySem.W.kitx_int I.kIn True.intro ek (λ z=>nomatch z) bK
   | str y=>cases e1;obtain rfl:=nx.str;obtain⟨t,q⟩:=(show ∃ t,v=Value.str y t from rx);cases q;exact PySem.W.kia_one PySem.W.kitx_str I.kIn True.intro ek (λ z=>nomatch z) bK
   | list l =>
     cases e1;obtain⟨a,xs,rfl,sq,dl⟩:=nx.lst R.sub;cases (show v=Value.ref a from rx)
     obtain⟨aE,rv,pl,_⟩:=I.list sq;obtain⟨o,ho,hc,_⟩:=pl.isList;exact PySem.W.kia_one PySem.W.kitx_list I.kIn ⟨o,ho,hc⟩ ek (λ z=>nomatch z) bK
   | tuple l =>
     cases e1;obtain⟨a,xs,rfl,sq,dl⟩:=nx.tup R.sub;cases (show v=Value.ref a from rx)
     obtain⟨aE,rv,pl,_⟩:=I.tuple sq;obtain⟨o,ho,hc,_⟩:=pl;exact PySem.W.kia_one PySem.W.kitx_tuple I.kIn ⟨o,ho,hc⟩ ek (λ z=>nomatch z) bK
   | dict l=>cases e1
noncomputable def aJN(K:FrG)(n:String)(fa:FE):FE:=f1 fa (fV (vA K n))
theorem aTO{a:Expr}{fa:FE}{n:String}{x:Str}{p p' pos:Pos}(ha:PE X a (aS X.K fa))(hg:Gl X "isinstance")(hm:X.mg "isinstance" = none)(hv:bootBuiltins "isinstance" = some (.builtin "isinstance"))(hg':Gl X x)(hm':X.mg x=none)(hv':bootBuiltins x=some (.type n))(hn:x ≠ "__name__")(hd:(x==("__debug__" : Str))=false)
 (h1:starEach [a,.Name x p'] X.env=(false,eval a X.env)::starEach [.Name x p'] X.env):PE X (.Call (.Name "isinstance" p) [a,.Name x p'] [] pos) (aS X.K (aJN X.K n fa)):=by
 have pt:PE X (.Name x p') (tC (.ty n)):=aNl hg' hm' hv' rfl hn hd;have rule:dY X (.builtin "isinstance") (λ xs H Q=>∃ F L S y d z,xs=[y,.ty n]/\Rel X.K F L S H/\bN X.K F H d y/\vA X.K n d=some z/\fK X F L S z Q):=λ aB s σ H xs us Q I r aP=>by
  obtain⟨F,L,S,y,d,z,e,R,ny,e2,q⟩:=aP;subst e;obtain⟨u,u2,rfl,r1,r2⟩:=tZ r;cases (show u2=Value.type n from r2)
  exact aQM I R r1 ny e2 q
 refine PE.weak (mN rule hg hm hv (aBJ ha (aBJ pt aHd) h1) (by decide) (by decide) h1 rfl) λ σ H Q hPq39=>?_
 obtain⟨F,L,S,env,w,S',R,E,e,q⟩:=hPq39;obtain⟨⟨w1,S1⟩,e1,e2⟩:=bind_some e;obtain⟨d,z,e3,e4,rfl,rfl⟩:=sX e2;exact⟨F,L,S,env,w1,_,R,E,e1,λ F1 L1 H1 v g1 R1 d1=>⟨F1,L1,_,v,d,z,rfl,R1,jJ R1 d1 e3,e4,xQ X rfl λ F2 L2 H2 v2 g2 R2 d2=>q F2 L2 H2 v2 (g1.trans g2) R2 d2⟩⟩
noncomputable def aIc:D->Option D
 | .int i=>some (.int ((Builtin.Int.intBits i:Nat):Int))
 | _=>none
noncomputable def aCC(fa:FE):FE:=f1 fa (fV aIc)
theorem aOa:MtR X "int.bit_length" (λ x xs H Q=>∃ i,x=.int i/\xs=[]/\Q (.int ((Builtin.Int.intBits i:Nat):Int)) H):=λ aB s σ H x xs v us Q I rx rs aP=>by
 obtain⟨i,e1,e2,q⟩:=aP;subst e1 e2;obtain⟨t,rfl⟩:=rx;cases rs;exact call_gives PySem.F.slot_int_bit_length (typeIs_int s i t) PySem.F.entry_int_bit_length (PySem.F.args_int_bit_length_1 _) (PySem.AutoIntG2.int_bit_length_int_0 i t) (show EP X aB σ Q _ _ from ⟨.int _,H,I.tok _,⟨_,rfl⟩,q⟩)
end
section
variable {X : Cx}{aB : List (Addr × Obj)}{σ : L2.St}{H : Hp}{s : Shared}{h' : Heap}
theorem sH{ch:List Addr}{p:Addr}{o:HO}{t':Nat}(I:Inv X aB σ H s)(hch:∀ b∈ch,gI X aB H b)(k:∀ b u,b ∉ ch->s.heap.get? b=some u->h'.get? b=some u)(hp:s.heap.objs.size<=p)
 (new:gZ X.prog X.w (bB H p o) h' p o):Inv X aB σ (bB H p o) {s with heap:=h',toks:=t' }:=by
 have hn:=I.hok.fresh hp;have nch:∀ b u,H b=some u->b ∉ ch:=λ b u e z=>by rw[(hch b z).1] at e;cases e
 have nep:∀ b u,s.heap.get? b=some u->b≠p:=λ b u e z=>absurd (xAc (xAa e) hp) (by rw[z];exact Nat.lt_irrefl _)
 refine I.step (g':=s.gens) (d':=s.drawn) (ch:=ch) (λ b hb=>⟨(hch b hb).2.2.2.1,(hch b hb).2.1,(hch b hb).2.2.2.2.1,(hch b hb).2.2.2.2.2⟩) (λ b o _ _ hc e _=>k b o hc e) (λ b o _ _ hc e _=>⟨o.slots,k b o hc e⟩) (λ b o _ e n=>by rw[bJ (nep b o e)];exact n)
  (λ b o hc e=>⟨o,k b o hc e⟩) (λ b xs e=>by rw[bJ (dW e hn)];exact e) (λ b u v e=>by rw[bJ (dW e hn)];exact e) (λ b ps e=>⟨#[],by rw[bJ (dW e hn),e];simp⟩) (λ m hm=>?_) (λ b u e=>?_) I.bare
 ·obtain⟨o,es,ep,ho,r⟩:=hm;exact⟨o,es,ep,k _ o (λ z=>(hch _ z).2.1 rfl) ho,r⟩
 ·by_cases hb:b=p
  ·subst hb;rw[cV] at e;cases e;exact new
  ·rw[bJ hb] at e;refine(I.hok b u e).stay (λ c v hc q=>k c v ?_ q) (λ c q=>by rw[bJ (dW q hn)];exact q) λ c xs q=>by rw[bJ (dW q hn)];exact q
   rcases hc with z | z
   ·rw[z];exact nch b u e
   ·exact nch c _ z
end
noncomputable def Ite(K:FrG)(a:Addr):It:=
 ⟨λ i H=>∃ xs x,bR K H a xs/\xs[i]? = some x,λ i H x H'=>∃ p y,H p=none/\H'=bB H p (.tup [.int i,y])/\x=.ref p/\∀ xs,bR K H a xs->xs[i]? = some y,λ i H=>∃ xs,bR K H a xs/\xs.length<=i⟩
theorem aLT{P:Program}{w:World}{K:FrG}{elts:List Expr}{k:Nat}{pos:Pos}(a e it:Addr)(hei:e≠it):Turn P w K (.Tuple elts k pos) (Ite K a) [e,it] e (λ i h=>(∃ old,IsEnum h e it (i:Nat) old)/\h.IsListIter it a i) where
 mem:=xAd
 obj:=λ i h aP b hb=>by
  obtain⟨⟨old,he⟩,⟨o,ho,hc,hd⟩⟩:=aP;rcases List.mem_cons.mp hb with rfl | hb
  ·exact⟨_,he,λ v=>by intro z;cases z⟩
  ·rw[List.mem_singleton] at hb;subst hb;exact⟨o,ho,λ v z=>by rw[hd] at z;cases z⟩
 keep:=λ i h h' ⟨⟨old,he⟩,hit⟩ q=>⟨⟨old,q e xAd _ he⟩,hit.at λ o e=>q it (by simp) o e⟩
 item:=λ X hP hW hK hc i aB s σ H E I hf aP gS=>by
  obtain⟨⟨old,he⟩,hit⟩:=aP;obtain⟨xs,x,hq,hx⟩:=gS;subst hP hW hK;obtain⟨aE,rv,pl,hz⟩:=I.list hq;obtain⟨u,hu,ru⟩:=rv.get hx;refine wpAny_pyNext_enum_item he hit pl.isList (by simpa using hu) hei λ h₁ heo hit₁ ht₁ hz₁ hk₁=>⟨_,rfl,?_⟩
  refine wpAny_letOwnedTupleGo_enum heo λ h₂ he₂ hs₂=>?_
  have hs2:Heap.SameBut e h₁ h₂:=hs₂;have eLt:e < s.heap.objs.size:=xAa he;have iLt:it < s.heap.objs.size:=by obtain⟨o,ho,_⟩:=hit;exact xAa ho
  have ht₂:h₂.get? s.heap.objs.size=some {cls:=.type "tuple",data:=.seq #[.int i s.toks,u] }:=hs2.extBut _ _ (Nat.ne_of_gt eLt) ht₁;have I2:Inv X aB σ (bB H s.heap.objs.size (.tup [.int i,x])) {s with heap:=h₂,toks:=s.toks+1 }:=by
   refine sH I hf (λ b o hb e'=>?_) (Nat.le_refl _) ⟨by show 2<=sizeLine;decide,[.int i s.toks,u],.cons ⟨_,rfl⟩ (.cons ru .nil),⟨_,ht₂,rfl,0,rfl⟩⟩
   have b1:b≠e:=λ z=>hb (by simp[z])
   have b2:b≠it:=λ z=>hb (by simp[z])
   exact hs2.extBut b o b1 (hk₁ b o b1 b2 e')
  refine⟨.ref s.heap.objs.size,_,I2,rfl,⟨s.heap.objs.size,x,I.fresh,rfl,rfl,λ ys hy=>by rw[I.list_inj hy hq];exact hx⟩,⟨⟨u,by have:=he₂;rw[show((i+1:Nat):Int)=(i:Int)+1 by omega];exact this⟩,hit₁.extBut hs2.extBut (Ne.symm hei)⟩,λ b hb=>?_⟩
  have:b < s.heap.objs.size:=by
   rcases List.mem_cons.mp hb with rfl | hb
   ·exact eLt
   ·rw[List.mem_singleton] at hb;subst hb;exact iLt
  rw[bJ (xAk this)];exact(hf b hb).1
 done:=λ X hP hW hK hc i aB s σ H E I hf aP gS=>by
  obtain⟨⟨old,he⟩,hit⟩:=aP;obtain⟨xs,hq,hx⟩:=gS;subst hP hW hK;obtain⟨aE,rv,pl,hz⟩:=I.list hq;refine wpAny_pyNext_enum_end (I.ok.hd hc) he hit pl.isList (by have:=rv.length;simp;omega) λ h₁ he₁=>⟨rfl,?_⟩
  obtain⟨f1,f2,f3,f4,f5,f6⟩:=hf it (by simp)
  exact I.turned (t':=s.toks) (λ b o hb e'=>he₁ b o hb e') f1 f2 f4 f5 f6
 self:=λ A i s Q E ⟨⟨old,he⟩,_⟩ hq=>wpAny_pyIter_enum he hq
section
variable {X : Cx}
noncomputable def iD(k:Int):List D->List D
 | []=>[]
 | d::r=>.tuple [.int k,d]::iD (k+1) r
theorem sB:∀ (ds:List D) (k:Int),(iD k ds).length=ds.length
 | [],_=>rfl
 | _::r,k=>by simp[iD,sB r]
theorem aBf:∀ (ds:List D) (k:Int) (i:Nat) (e:D),(iD k ds)[i]? = some e->∃ d,ds[i]? = some d/\e=.tuple [.int (k+i),d]
 | [],_,_,_,h=>by simp[iD] at h
 | d::r,k,0,e,h=>by simp[iD] at h;subst h;exact⟨d,rfl,by simp⟩
 | d::r,k,i+1,e,h=>by
   obtain⟨d',e1,e2⟩:=aBf r (k+1) i e (by simpa [iD] using h)
   refine⟨d',by simpa using e1,?_⟩
   rw[e2];congr 3
   push_cast
   omega
theorem aOg{K:FrG}{F:Hp}{L:List Addr}{a:Addr}{xs:List V}{ds:List D}(sq:bR K F a xs)(dl:DenL K F ds xs):Wk K F L (Ite K a) (iD 0 ds) where
 go:=λ i H s hi=>by
  rw[sB] at hi;exact⟨xs,xs[i]'(by rw[<- dl.length];exact hi),s.seq sq,by simp[dl.length▸hi]⟩
 stop:=λ H s=>⟨xs,s.seq sq,by rw[sB];exact Nat.le_of_eq dl.length.symm⟩
 yld:=λ i H F1 L1 S x H' d g R e y=>by
  obtain⟨p,y',hp,rfl,rfl,hy⟩:=y;obtain⟨d',e1,rfl⟩:=aBf ds 0 i d e;obtain⟨x',e2,dx⟩:=dl.get e1;have h:=hy xs ((g.f.trans R.sub).seq sq);rw[h] at e2;cases e2;have hF:F1 p=none:=R.sub.free hp;refine⟨bB F1 p (.tup [.int i,y']),cQ hF,R.new hp,.tup (bS.of cV) ?_⟩;rw[Int.zero_add];exact .cons (.int _) (.cons (dx.mono (g.f.trans (cQ hF))) .nil)
end
section
variable {prog : Program}{w : World}{A : Around}{E : Value -> Shared -> Prop}{s : Shared}
theorem aKb{it t:Addr}{i:Nat}{aM:Array Value}{x:Value}{Q:Value->Shared->Prop}(hit:s.heap.IsTupleIter it t i)(ht:s.heap.IsTuple t aM)(hx:aM[i]? = some x)
 (hQ:∀ h',h'.IsTupleIter it t (i+1)->Heap.SameBut it s.heap h'->Q x {s with heap:=h' }):wpAny (model prog w) A (Builtin.SmallTypes.nextOf (.ref it)) Q E s:=by
 obtain⟨o,ho,hc,hd⟩:=id hit;obtain⟨ol,hol,_,nl,hdl⟩:=ht;unfold Builtin.SmallTypes.nextOf;refine wB (wpAny_callSpecial?_slot (name:=Str.ofString "__next__") hit.typeIs F.slot_tuple_iterator_next (wpAny_call_entry F.slot_tuple_iterator_next hit.typeIs F.entry_tuple_iterator_next ?_ (F.args_tuple_iterator_next_1 _)));show wpAny _ _ (field (.ref it) 0 >>= _) _ _ s;refine wB (wpAny_field ho hd (x:=.ref t) rfl ?_);show wpAny _ _ (if (Value.ref t==Value.none)=true then _ else _) _ _ s
 rw[if_neg (show ¬ ((Value.ref t==Value.none)=true) from Bool.false_ne_true)]
 show wpAny _ _ (field (.ref it) 1 >>= _) _ _ s;refine wB (wpAny_field ho hd (x:=.int i 0) rfl ?_);show wpAny _ _ (seqItems? (.ref t) >>= _) _ _ s;refine wB (wpAny_seqItems hol hdl ?_);simp only[Int.toNat_natCast,hx];refine wB (wpAny_setField ho hd (by simp) (wP ⟨x,rfl,wP (hQ _ ⟨_,Heap.get?_update_self _ ho (Obj.isFreed_of_fields (Obj.data_mapFields hd _)),(Obj.cls_mapFields ..).trans hc,?_⟩ (Heap.SameBut.update ..))⟩))
 rw[Obj.data_mapFields hd];simp[rawInt]
theorem aDS{it t:Addr}{i:Nat}{aM:Array Value}{Q:Value->Shared->Prop}(hh:A.handled=none)(hit:s.heap.IsTupleIter it t i)(ht:s.heap.IsTuple t aM)(hx:aM[i]? = none)
 (hE:∀ h' e,Heap.ExtBut it s.heap h'->(∃ o,h'.get? e=some o/\o.cls=.type "StopIteration")->E (.ref e) {s with heap:=h' }):wpAny (model prog w) A (Builtin.SmallTypes.nextOf (.ref it)) Q E s:=by
 obtain⟨o,ho,hc,hd⟩:=id hit;obtain⟨ol,hol,_,nl,hdl⟩:=ht;unfold Builtin.SmallTypes.nextOf;refine wB (wpAny_callSpecial?_slot (name:=Str.ofString "__next__") hit.typeIs F.slot_tuple_iterator_next (wpAny_call_entry F.slot_tuple_iterator_next hit.typeIs F.entry_tuple_iterator_next ?_ (F.args_tuple_iterator_next_1 _)));show wpAny _ _ (field (.ref it) 0 >>= _) _ _ s;refine wB (wpAny_field ho hd (x:=.ref t) rfl ?_);show wpAny _ _ (if (Value.ref t==Value.none)=true then _ else _) _ _ s
 rw[if_neg (show ¬ ((Value.ref t==Value.none)=true) from Bool.false_ne_true)]
 show wpAny _ _ (field (.ref it) 1 >>= _) _ _ s;refine wB (wpAny_field ho hd (x:=.int i 0) rfl ?_);show wpAny _ _ (seqItems? (.ref t) >>= _) _ _ s;refine wB (wpAny_seqItems hol hdl ?_);simp only[Int.toNat_natCast,hx];refine wB (wpAny_rule (wB (wpAny_setField ho hd (by simp) ?_)))
 show wpAny _ _ (newExc (.type "StopIteration") [] >>= _) _ _ _;refine wB ?_;simp only[newExc,newTuple];refine wB (wpAny_newObj_type (wB (m:=firstArgMember _ _) (wpAny_of_eq (a:=Value.none) (by first | rfl | (simp only[firstArgMember];rfl)) (wpAny_newObj_type ?_ (by size_fits)))) (by size_fits))
 simp only[raiseNew];refine wB (wpAny_handled ?_)
 first | rw[show A.in1.handled=none from hh] | rw[hh]
 exact wB (wP (wpAny_throw (hE _ _ (((Heap.SameBut.update ..).extBut.push _).push _) ⟨_,xAe _ rfl,rfl⟩)))
theorem aJ5{e it t:Addr}{i:Nat}{aM:Array Value}{old:Value}{Q:Option Value->Shared->Prop}(hh:A.in1.handled=none)
 (he:IsEnum s.heap e it i old) (hit:s.heap.IsTupleIter it t i) (ht:s.heap.IsTuple t aM) (hx:aM[i]? = none)
 (hQ:∀ h',Heap.ExtBut it s.heap h'->Q none {s with heap:=h' }):wpAny (model prog w) A (pyNext (.ref e)) Q E s:=by
 have hT:s.TypeIs (.ref e) "enumerate":=⟨_,he,rfl⟩;unfold pyNext;refine wB (wpAny_attempt (wpAny_callSpecial?_slot (name:=Str.ofString "__next__") hT F.slot_enumerate_next (wpAny_call_entry F.slot_enumerate_next hT F.entry_enumerate_next ?_ (F.args_enumerate_next_1 _))));show wpAny _ _ (field (.ref e) 2 >>= _) _ _ _;refine wB (wpAny_field he rfl (x:=.ref it) rfl (wB (aDS hh hit ht hx λ h' x he' hx'=>?_)))
 obtain⟨o,ho,hc⟩:=hx';exact wB (wpAny_isInstance (T:="StopIteration") (b:=true) ⟨o,ho,hc⟩ isSubtype_stop (wP (hQ _ he')))
theorem aEE(hh:A.handled=none)(it t:Addr)(hne:t≠it)(aM:Array Value):Draws prog w A it [it,t] aM.size (λ i v=>aM[i]? = some v) (λ i h=>h.IsTupleIter it t i/\h.IsTuple t aM) where
 live:=λ _ _ st=>let ⟨o,ho,_⟩:=st.1;⟨o,ho⟩
 frame:=λ _ _ _ st hk=>⟨st.1.at λ o e=>hk it (by simp) o e,let ⟨u,hu,r⟩:=st.2;⟨u,hk t (by simp) u hu,r⟩⟩
 item:=λ i s Q E hi st hQ=>aKb st.1 st.2 (x:=aM[i]) (by simp[hi]) λ h' hit' hs'=>hQ _ h' s.toks (by simp[hi]) ⟨hit',let ⟨u,hu,r⟩:=st.2;⟨u,hs'.extBut t u hne hu,r⟩⟩ hs'
 done:=λ s Q E st hE=>aDS hh st.1 st.2 (by simp) hE
theorem aLC(l:Addr)(aM:Array Value)(n:Nat)(dct:Option Addr)(sl:Array (Option Value)) :
 Meets (Builtin.«enumerate.__new__» ⟨[.type "enumerate",.ref l],[]⟩) (λ _ R s=>s.heap.get? l=some {cls:=.type "tuple",dict:=dct,data:=.seq aM n,slots:=sl } /\
  R (.ok (.ret (.ref (s.heap.push {cls:=.type "tuple_iterator",data:=.fields #[.ref l,.int 0 0] }).objs.size)))
   {s with heap:=(s.heap.push {cls:=.type "tuple_iterator",data:=.fields #[.ref l,.int 0 0] }).push {cls:=.type "enumerate",data:=.fields #[.none,.bool false,.ref s.heap.objs.size,rawInt 0,.none,.none] } }):=
 .of_wp λ prog w A R s h=>by
  obtain⟨hp,g,d,tk,os⟩:=s;obtain⟨hl,h⟩:=h;have hsub:=sub_enumerate;have hL:Heap.IsTuple (Shared.heap ⟨hp,g,d,tk,os⟩) l aM:=⟨_,hl,rfl,n,rfl⟩
  wp_walk using AutoSeq1.wpAny_loadPart' hl
  refine wpAny_stack_any λ st=>wP ?_
  split
  ·rename_i c _ _ _ _ _;cases (c==Value.type "enumerate")
   ·wp_walk using AutoSeq1.wpAny_loadPart' hl,wpAny_pyIter_tuple hL
    exact⟨_,rfl,h⟩
   ·wp_walk using AutoSeq1.wpAny_loadPart' hl,wpAny_pyIter_tuple hL
    exact⟨_,rfl,h⟩
  ·wp_walk using AutoSeq1.wpAny_loadPart' hl,wpAny_pyIter_tuple hL
   exact⟨_,rfl,h⟩
theorem aKU{l:Addr}{aM:Array Value}{Q:Value->Shared->Prop}(hL:s.heap.IsTuple l aM)
 (h:∀ h',IsEnum h' (s.heap.objs.size+1) s.heap.objs.size 0 .none->h'.IsTupleIter s.heap.objs.size l 0->h'.objs.size=s.heap.objs.size+2 ->
   (∀ b o,s.heap.get? b=some o->h'.get? b=some o)->Q (.ref (s.heap.objs.size+1)) {s with heap:=h' }) :
 wpAny (model prog w) A (call (.type "enumerate") [.ref l]) Q E s:=by
 obtain⟨⟨c,dct,dt,sl⟩,hl,hc,n,hd⟩:=hL
 replace hc:c=.type "tuple":=hc
 replace hd:dt=.seq aM n:=hd
 subst hc hd;refine callType_new F.called_enumerate (by decide) (F.typeCall_enumerate_1 _) (F.newCall_enumerate_1 _) (λ obj=>F.args_object_init_2 obj _) F.entry_enumerate_new (aLC l aM n dct sl) ⟨hl,?_⟩
 have hz:(s.heap.push {cls:=.type "tuple_iterator",data:=.fields #[.ref l,.int 0 0] }).objs.size=s.heap.objs.size+1:=Heap.size_push ..;show _/\_;rw[hz];have he:IsEnum ((s.heap.push {cls:=.type "tuple_iterator",data:=.fields #[.ref l,.int 0 0] }).push {cls:=.type "enumerate",data:=.fields #[.none,.bool false,.ref s.heap.objs.size,rawInt 0,.none,.none] }) (s.heap.objs.size+1) s.heap.objs.size 0 .none:=by
  have:=xAe (s.heap.push {cls:=.type "tuple_iterator",data:=.fields #[.ref l,.int 0 0] }) (o:={cls:=.type "enumerate",data:=.fields #[.none,.bool false,.ref s.heap.objs.size,rawInt 0,.none,.none] }) rfl;rw[hz] at this;exact this
 exact⟨⟨_,he,rfl⟩,h _ he ⟨_,hpS _ (xAe _ rfl),rfl,rfl⟩ (by rw[Heap.size_push,hz]) λ b o x=>hpS _ (hpS _ x)⟩
end
noncomputable def aC5(K:FrG)(a:Addr):It:=
 ⟨λ i H=>∃ xs x,bS K H a xs/\xs[i]? = some x,λ i H x H'=>∃ p y,H p=none/\H'=bB H p (.tup [.int i,y])/\x=.ref p/\∀ xs,bS K H a xs->xs[i]? = some y,λ i H=>∃ xs,bS K H a xs/\xs.length<=i⟩
theorem aLe{P:Program}{w:World}{K:FrG}{elts:List Expr}{k:Nat}{pos:Pos}(a e it:Addr)(hei:e≠it)(hea:e≠a)(hai:a≠it):Turn P w K (.Tuple elts k pos) (aC5 K a) [e,it] e (λ i h=>(∃ old,IsEnum h e it (i:Nat) old)/\h.IsTupleIter it a i) where
 mem:=xAd
 obj:=λ i h aP b hb=>by
  obtain⟨⟨old,he⟩,⟨o,ho,hc,hd⟩⟩:=aP;rcases List.mem_cons.mp hb with rfl | hb
  ·exact⟨_,he,λ v=>by intro z;cases z⟩
  ·rw[List.mem_singleton] at hb;subst hb;exact⟨o,ho,λ v z=>by rw[hd] at z;cases z⟩
 keep:=λ i h h' ⟨⟨old,he⟩,hit⟩ q=>⟨⟨old,q e xAd _ he⟩,hit.at λ o e=>q it (by simp) o e⟩
 item:=λ X hP hW hK hc i aB s σ H E I hf aP gS=>by
  obtain⟨⟨old,he⟩,hit⟩:=aP;obtain⟨xs,x,hq,hx⟩:=gS;subst hP hW hK;obtain⟨aE,rv,pl,hz⟩:=I.tuple hq;obtain⟨u,hu,ru⟩:=rv.get hx;have hlt:i < aE.toArray.size:=by
   rw[List.size_toArray];exact(gIm hu).1
  have hh:X.A.in1.handled=none:=I.ok.hd hc;refine wpAny_pyNext_enum_itemD (aEE (prog:=X.prog) (w:=X.w) hh it a hai aE.toArray) he ⟨hit,pl⟩ hlt hei (by simp[hei,hea]) λ x' h₁ tk hP heo hit₁ ht₁ hz₁ hk₁=>⟨_,rfl,?_⟩
  have:x'=u:=by
   rw[List.getElem?_toArray,hu] at hP;exact(Option.some.inj hP).symm
  subst this;refine wpAny_letOwnedTupleGo_enum heo λ h₂ he₂ hs₂=>?_
  have hs2:Heap.SameBut e h₁ h₂:=hs₂;have eLt:e < s.heap.objs.size:=xAa he;have iLt:it < s.heap.objs.size:=by obtain⟨o,ho,_⟩:=hit;exact xAa ho
  have ht₂:h₂.get? s.heap.objs.size=some {cls:=.type "tuple",data:=.seq #[.int i tk,x'] }:=hs2.extBut _ _ (Nat.ne_of_gt eLt) ht₁;have I2:Inv X aB σ (bB H s.heap.objs.size (.tup [.int i,x])) {s with heap:=h₂,toks:=tk+1 }:=by
   refine sH I hf (λ b o hb e'=>?_) (Nat.le_refl _) ⟨by show 2<=sizeLine;decide,[.int i tk,x'],.cons ⟨_,rfl⟩ (.cons ru .nil),⟨_,ht₂,rfl,0,rfl⟩⟩
   have b1:b≠e:=λ z=>hb (by simp[z])
   have b2:b≠it:=λ z=>hb (by simp[z])
   exact hs2.extBut b o b1 (hk₁ b o b1 b2 e')
  refine⟨.ref s.heap.objs.size,_,I2,rfl,⟨s.heap.objs.size,x,I.fresh,rfl,rfl,λ ys hy=>by rw[I.tuple_inj hy hq];exact hx⟩,⟨⟨x',by have:=he₂;rw[show((i+1:Nat):Int)=(i:Int)+1 by omega];exact this⟩,?_⟩,λ b hb=>?_⟩
  ·obtain⟨o,ho,r⟩:=hit₁.1;exact⟨o,hs2.extBut it o (Ne.symm hei) ho,r⟩
  ·have:b < s.heap.objs.size:=by
    rcases List.mem_cons.mp hb with rfl | hb
    ·exact eLt
    ·rw[List.mem_singleton] at hb;subst hb;exact iLt
   rw[bJ (xAk this)];exact(hf b hb).1
 done:=λ X hP hW hK hc i aB s σ H E I hf aP gS=>by
  obtain⟨⟨old,he⟩,hit⟩:=aP;obtain⟨xs,hq,hx⟩:=gS;subst hP hW hK;obtain⟨aE,rv,pl,hz⟩:=I.tuple hq;have hh:X.A.in1.handled=none:=I.ok.hd hc;have hl:=rv.length;refine aJ5 hh he hit pl (by simp;omega) λ h₁ he₁=>⟨rfl,?_⟩
  obtain⟨f1,f2,f3,f4,f5,f6⟩:=hf it (by simp)
  exact I.turned (t':=s.toks) (λ b o hb e'=>he₁ b o hb e') f1 f2 f4 f5 f6
 self:=λ A i s Q E ⟨⟨old,he⟩,_⟩ hq=>wpAny_pyIter_enum he hq
section
variable {X : Cx}
noncomputable def aHQ(K:FrG)(ta:TA):TI:=λ σ H R=>ta σ H λ vs H1=>∃ a,vs=[.ref a]/\(((∃ xs,bR K H1 a xs)/\R (Ite K a) H1)\/((∃ xs,bS K H1 a xs)/\R (aC5 K a) H1))
theorem aM7{elts:List Expr}{k:Nat}{pp:Pos}{a:Expr}{ta:TA}{p pos:Pos}(hg:Gl X "enumerate")(hm:X.mg "enumerate" = none)(ha:PA X [a] ta)(hs:starEach [a] X.env=[(false,eval a X.env)]):PI X (.Tuple elts k pp) (.Call (.Name "enumerate" p) [a] [] pos) (aHQ X.K ta):=by
 intro aB s σ H R I h;refine Call_ (jH I hg hm boot_enumerate (PyProof.Rows.callWith_type1 (bA (ha pos aB s σ H _ I h) λ us s1 hPq40=>?_) hs rfl))
 obtain⟨vs,H1,I1,r1,q1⟩:=hPq40;obtain⟨l,rfl,q1⟩:=q1;obtain⟨u,rfl,ru⟩:=iW r1;cases ru;have hb':∀ b∈[s1.heap.objs.size+1,s1.heap.objs.size],s1.heap.objs.size<=b:=λ b hb=>by
  rcases List.mem_cons.mp hb with rfl | hb
  ·exact Nat.le_succ _
  ·rw[List.mem_singleton] at hb;rw[hb];exact Nat.le_refl _
 rcases q1 with ⟨⟨xs,sq⟩,q⟩ | ⟨⟨xs,sq⟩,q⟩
 ·obtain⟨aE,rv,pl,hz⟩:=I1.list sq;refine call_enumerate_list pl.isList λ h' he hit hsz hk=>wpAny_pyIter_enum he ?_
  have I2:Inv X aB σ H1 {s1 with heap:=h' }:=I1.kept (t':=s1.toks) hk
  exact⟨s1.heap.objs.size+1,[s1.heap.objs.size+1,s1.heap.objs.size],_,_,H1,rfl,I2,aLT l _ _ (Nat.succ_ne_self _),⟨⟨_,he⟩,hit⟩,λ b hb=>I1.fpOk (hb' b hb) (I1.hok.fresh (hb' b hb)),q⟩
 ·obtain⟨aE,rv,pl,hz⟩:=I1.tuple sq;have hlt:l < s1.heap.objs.size:=by obtain⟨o,ho,_⟩:=pl;exact xAa ho
  refine aKU pl λ h' he hit hsz hk=>wpAny_pyIter_enum he ?_
  have I2:Inv X aB σ H1 {s1 with heap:=h' }:=I1.kept (t':=s1.toks) hk
  exact⟨s1.heap.objs.size+1,[s1.heap.objs.size+1,s1.heap.objs.size],_,_,H1,rfl,I2,aLe l _ _ (Nat.succ_ne_self _) (Nat.ne_of_gt (Nat.lt_succ_of_lt hlt)) (xAk hlt),⟨⟨_,he⟩,hit⟩,λ b hb=>I1.fpOk (hb' b hb) (I1.hok.fresh (hb' b hb)),q⟩
theorem aMk{K:FrG}{F:Hp}{L:List Addr}{a:Addr}{xs:List V}{ds:List D}(sq:bS K F a xs)(dl:DenL K F ds xs):Wk K F L (aC5 K a) (iD 0 ds) where
 go:=λ i H s hi=>by
  rw[sB] at hi;exact⟨xs,xs[i]'(by rw[<- dl.length];exact hi),iE s sq,by simp[dl.length▸hi]⟩
 stop:=λ H s=>⟨xs,iE s sq,by rw[sB];exact Nat.le_of_eq dl.length.symm⟩
 yld:=λ i H F1 L1 S x H' d g R e y=>by
  obtain⟨p,y',hp,rfl,rfl,hy⟩:=y;obtain⟨d',e1,rfl⟩:=aBf ds 0 i d e;obtain⟨x',e2,dx⟩:=dl.get e1;have h:=hy xs (iE (g.f.trans R.sub) sq);rw[h] at e2;cases e2;have hF:F1 p=none:=R.sub.free hp;refine⟨bB F1 p (.tup [.int i,y']),cQ hF,R.new hp,.tup (bS.of cV) ?_⟩;rw[Int.zero_add];exact .cons (.int _) (.cons (dx.mono (g.f.trans (cQ hF))) .nil)
noncomputable def tS(fa:FE):FL:=λ env S=>(fa env S).bind λ p=>match p.1 with
 | .d (.list ds)=>some (iD 0 ds,p.2)
 | .d (.tuple ds)=>some (iD 0 ds,p.2)
 | _=>none
theorem aNX{K:FrG}{fa:FE}(σ:St)(H:Hp)(Rr:It->Hp->Prop)(h:hV K (tS fa) σ H Rr):aHQ K (fN K (cN fa gO)) σ H Rr:=by
 obtain⟨F,L,S,env,ds,S',R,E,e,q⟩:=h;obtain⟨⟨w,S1⟩,e1,e2⟩:=bind_some e;dsimp only at e2
 split at e2
 ·rename_i ds';cases e2;refine⟨F,L,S,env,[.d (.list ds')],_,R,E,by unfold cN;rw[e1];rfl,λ F1 L1 H1 vs g1 R1 d1=>?_⟩
  cases d1 with
  | cons dd dr =>
    cases dr;cases (show Den K F1 (.list ds') _ from dd) with
    | lst sq dl=>exact⟨_,rfl,.inl ⟨⟨_,R1.sub.seq sq⟩,q F1 L1 H1 _ g1 R1 (aOg sq dl)⟩⟩
 ·rename_i ds';cases e2;refine⟨F,L,S,env,[.d (.tuple ds')],_,R,E,by unfold cN;rw[e1];rfl,λ F1 L1 H1 vs g1 R1 d1=>?_⟩
  cases d1 with
  | cons dd dr =>
    cases dr;cases (show Den K F1 (.tuple ds') _ from dd) with
    | tup sq dl=>exact⟨_,rfl,.inr ⟨⟨_,iE R1.sub sq⟩,q F1 L1 H1 _ g1 R1 (aMk sq dl)⟩⟩
 ·cases e2
end
inductive Tv where
 | int (i:Int) | str (x:Str) | bool (b:Bool)
 deriving DecidableEq
noncomputable def Tv.d:Tv->D
 | .int i=>.int i | .str x=>.str x | .bool b=>.bool b
noncomputable def Tv.v:Tv->V
 | .int i=>.int i | .str x=>.str x | .bool b=>.bl b
theorem Tv.den{K:FrG}{F:Hp}(t:Tv):Den K F t.d t.v:=by
 cases t
 ·exact .int _
 ·exact .str _
 ·exact .bl _
noncomputable def qU(w:World):List DictEntry->List (Str × Tv)->Prop
 | [],[]=>True
 | e::r,(x,v)::aU=>e.hash=hashStr w x/\(∃ t,e.key=.str x t)/\aZ v.v e.val/\qU w r aU
 | _,_=>False
def uG(K:FrG)(w:World)(a:Addr)(aU:List (Str × Tv)):Prop:=∃ es ep,K.lookup a=some {cls:=.type "dict",data:=.dict es ep }/\qU w es.toList aU
noncomputable def zZ(aU:List (Str × Tv)):D->Option D
 | .str x=>(aU.lookup x).map Tv.d
 | _=>none
theorem aFO{P:Program}{w:World}:∀ {l:List DictEntry}{aU:List (Str × Tv)},qU w l aU->∀ e∈l,∃ k,(mR P w).is k e.key=true/\e.hash=(mR P w).hash k
 | [],[],_,e,h=>by cases h
 | e::r,(x,v)::aU,ok,e',h=>by
   obtain⟨h1,⟨t,h2⟩,_,h4⟩:=ok;rcases List.mem_cons.mp h with rfl | h
   ·exact⟨.inr x,by rw[h2];exact aEW x t,h1⟩
   ·exact aFO h4 e' h
 | [],_::_,ok,_,_=>ok.elim
 | _::_,[],ok,_,_=>ok.elim
theorem aNb(x y:Str)(t:Tok):oT (.inr x) (.str y t)=(x==y):=by
 have h:(y==x)=(x==y):=by
  rw[Bool.eq_iff_iff];constructor<;>intro z<;>simp at z ⊢ <;> exact z.symm
 simp[oT,Value.isStrOf,h]
theorem aFx{w:World}{k:Str}{v:Tv}:∀ {l:List DictEntry}{aU:List (Str × Tv)},qU w l aU->aU.lookup k=some v->∃ u,(l.find? λ e=>oT (.inr k) e.key).map (·.val)=some u/\aZ v.v u
 | [],[],_,h=>by cases h
 | e::r,(x,v')::aU,ok,h=>by
   obtain⟨h1,⟨t,h2⟩,h3,h4⟩:=ok;rw[List.lookup_cons] at h;rw[List.find?_cons,h2,aNb];cases q:k==x with
   | true =>
     rw[q] at h;cases h;exact⟨e.val,rfl,h3⟩
   | false =>
     rw[q] at h;exact aFx h4 h
 | [],_::_,ok,_=>ok.elim
 | _::_,[],ok,_=>ok.elim
section
variable {X : Cx}
theorem aQQ{aU:List (Str × Tv)}:rP X (λ x y H Q=>∃ a k v,x=.ref a/\uG X.K X.w a aU/\y=.str k/\aU.lookup k=some v/\Q v.v H):=by
 intro value lF aB s σ H x y v u Q I rx ry h hs;obtain⟨a,k,tv,rfl,⟨es,ep,hl,ok⟩,rfl,hv,q⟩:=h;cases rx;obtain⟨t,rfl⟩:=ry;obtain⟨z,e1,e2⟩:=aFx ok hv;have hm:s.heap.MapOf (mR X.prog X.w) a (λ k=>findBy (mR X.prog X.w).is es k):=⟨_,es,ep,I.kIn a _ hl,⟨rfl,rfl,rfl⟩,rfl,λ e he=>aFO ok e (by simpa using he),λ _=>rfl⟩
 have hz:findBy (mR X.prog X.w).is es (.inr k)=some z:=by
  unfold findBy;rw[<- Array.find?_toList];exact e1
 exact tail_any hm.typeIs PySem.F.slot_dict_getitem.lookup (wpAny_getItem_of (aEW k t) hm hz ⟨_,H,I.tok _,e2,q⟩) hs
theorem aSq{x:Str}{k:Expr}{fk:FE}{p pos:Pos}{aU:List (Str × Tv)}(hg:Gl X x)(hd:(x==("__debug__" : Str))=false)(ht:∃ a,X.mg x=some (.ref a)/\uG X.K X.w a aU)(hk:PE X k (aS X.K fk))(hs:xP k) :
 PE X (.Subscript (.Name x p) k pos) (aS X.K (f1 fk (fV (zZ aU)))):=by
 obtain⟨a,hm,ta⟩:=ht;refine PE.weak (aII (aQQ (aU:=aU)) (aGB (v:=.ref a) hg hm rfl hd) hk hs) λ σ H Q hPq41=>?_
 obtain⟨F,L,S,env,w,S',R,E,e,q⟩:=hPq41;obtain⟨⟨w1,S1⟩,e1,e2⟩:=bind_some e;obtain⟨d,z,e3,e4,rfl,rfl⟩:=sX e2;cases d with
 | str y =>
   obtain⟨v,hv,rfl⟩:=Option.map_eq_some_iff.mp (show(aU.lookup y).map Tv.d=some z from e4)
   refine⟨F,L,S,env,w1,_,R,E,e1,λ F1 L1 H1 u g1 R1 d1=>⟨a,y,v,rfl,ta,(jJ R1 d1 e3).str,hv,?_⟩⟩
   exact q F1 L1 H1 v.v g1 R1 (show Den X.K F1 v.d v.v from v.den)
 | _=>cases e4
end
section
variable {prog : Program}{w : World}{A : Around}{s : Shared}{R : Result -> Shared -> Prop}{J : Addr}{fp wr : List Addr}{Gg : Array GenState -> Array GenState -> Prop}{m : Nat}{P : Nat -> Value -> Prop}{St : Nat -> Shared -> Prop}
end
section
variable {prog : Program}{w : World}{A : Around}{E : Value -> Shared -> Prop}{s : Shared}{J : Addr}{fp wr : List Addr}{Gg : Array GenState -> Array GenState -> Prop}{m : Nat}{P : Nat -> Value -> Prop}{St : Nat -> Shared -> Prop}
end
section
variable {X : Cx}
end
noncomputable def zM:List Value->List Tv->Prop
 | [],[]=>True
 | u::us,t::ts=>aZ t.v u/\zM us ts
 | _,_=>False
theorem aFR:∀ {us:List Value}{ts:List Tv},zM us ts->aW (ts.map Tv.v) us
 | [],[],_=>.nil
 | _::_,_::_,⟨h1,h2⟩=>.cons h1 (aFR h2)
 | [],_::_,h=>h.elim
 | _::_,[],h=>h.elim
theorem aGs{K:FrG}{F:Hp}:∀ ts:List Tv,DenL K F (ts.map Tv.d) (ts.map Tv.v)
 | []=>.nil
 | t::ts=>.cons t.den (aGs ts)
def qK(K:FrG)(a:Addr)(ts:List Tv):Prop:=∃ (o:Obj) (aE:Array Value) (n:Nat),K.lookup a=some o/\o.cls=.type "tuple" /\ o.data=.seq aE n/\aE.size<=sizeLine/\zM aE.toList ts
theorem aOW{K:FrG}{F:Hp}{a:Addr}{ts:List Tv}(h:qK K a ts):Den K F (.tuple (ts.map Tv.d)) (.ref a):=by
 obtain⟨o,aE,n,h1,h2,h3,h4,h5⟩:=h;exact .tup (.inr ⟨o,aE,n,h1,h2,h3,h4,aFR h5⟩) (aGs ts)
section
variable {X : Cx}
theorem aTb{x:Str}{p:Pos}{ts:List Tv}(hg:Gl X x)(hd:(x==("__debug__" : Str))=false)(ht:∃ a,X.mg x=some (.ref a)/\qK X.K a ts):PE X (.Name x p) (aS X.K (fC (.tuple (ts.map Tv.d)))):=by
 obtain⟨a,hm,ca⟩:=ht;refine PE.weak (aGB (v:=.ref a) hg hm rfl hd) λ σ H Q hPq42=>?_
 obtain⟨F,L,S,env,w,S',R,E,e,q⟩:=hPq42;cases e;exact q F L H _ Gr.refl R (aOW ca)
noncomputable def aPN(op op':CmpOp)(fa fb fc:FE):FE:=λ env S=>(fa env S).bind λ p=>(fb env p.2).bind λ q=>(gP (aX op) q.2 p.1 q.1).bind λ r=>match r.1 with
 | .d (.bool true)=>(fc env r.2).bind λ t=>gP (aX op') t.2 q.1 t.1
 | .d (.bool false)=>some (.d (.bool false),r.2)
 | _=>none
theorem aJ6{prog:Program}{w:World}{A:Around}{E:Value->Shared->Prop}{s:Shared}{t sl:Addr}{aM:Array Value}{vl vu:Value}{lo hi:Option Int}{Q:Value->Shared->Prop}(ht:IsTup s.heap t aM)(hs:s.heap.IsSliceOf sl vl vu .none)(pl:IsPart vl lo)(pu:IsPart vu hi)
 (hw:HT.sIx aM.size 0 lo=0/\HT.sIx aM.size aM.size hi=aM.size) (h:Q (.ref t) s):wpAny (model prog w) A (getItem (.ref t) (.ref sl)) Q E s:=by
 obtain⟨os,hos,hcs,hds⟩:=id hs;have hTs:s.TypeIs (.ref sl) "slice":=⟨os,hos,hcs⟩;unfold getItem
 try with_reducible refine wpAny_holding ?_
 first | refine wB (wP ?_) | skip
 refine wB (wpAny_sequenceKey ht.typeIs (by decide) ?_)
 refine wB (wpAny_callSpecial?_slot (name:=Str.ofString "__getitem__") ht.typeIs PyProof.Rows.slot_tuple_getitem
  (wpAny_call_entry PyProof.Rows.slot_tuple_getitem ht.typeIs entry_tuple_getitem ?_ (args_tuple_getitem _ _)))
 show wpAny _ _ (Builtin.Tuple.tupleItemsOf (.ref t) >>= _) _ _ s;refine wB (tupleItemsOf_ ht ?_);refine wB (wpAny_typeOf hTs ?_);rw[if_pos (by decide)]
 refine wB (HT.sliceApplied_gen hs pl pu ?_);have hyes:(((HT.sIx aM.size 0 lo:Nat):Int)==0&&(1:Int)==1&&(HT.sIx aM.size aM.size hi - HT.sIx aM.size 0 lo)==aM.size)=true:=by
  rw[hw.1,hw.2];simp
 show wpAny _ _ (if (((HT.sIx aM.size 0 lo:Nat):Int)==0&&(1:Int)==1&&(HT.sIx aM.size aM.size hi - HT.sIx aM.size 0 lo)==aM.size)=true then _ else _) _ _ s
 rw[if_pos hyes];unfold Builtin.Tuple.tupleIsExact;refine wB (wB (wpAny_typeOf ht.typeIs (wP ?_)));rw[if_pos (by decide)]
 first
  | exact wB (wpAny_rule (wP ⟨_,rfl,wP h⟩))
  | exact wB (wpAny_rule (wB (wP (wP ⟨_,rfl,wP h⟩))))
  | exact wB (wpAny_rule (wP ⟨_,rfl,h⟩))
noncomputable def aTB(K:FrG):V->Option Int->Option Int->Hp->VK->Prop:=λ x lo hi H Q=>∃ a xs,x=.ref a/\bS K H a xs /\
 (((HT.sIx xs.length 0 lo=0/\HT.sIx xs.length xs.length hi=xs.length)/\Q (.ref a) H)\/(¬ (HT.sIx xs.length 0 lo=0/\HT.sIx xs.length xs.length hi=xs.length)/\∀ p,H p=none->Q (.ref p) (bB H p (.tup (lZ xs lo hi)))))
theorem aOI:SlR X (aTB X.K):=by
 intro aB s σ H x v vl vu lo hi sl Q I rx hs pl pu h;obtain⟨a,xs,rfl,hx,⟨hw,q⟩ | ⟨hw,q⟩⟩:=h
 ·cases rx;obtain⟨aE,r,ht,hz⟩:=I.tuple hx;have cH:aE.toArray.size=xs.length:=by rw[List.size_toArray];exact r.length.symm
  refine⟨"tuple",_,PyProof.Rows.slot_tuple_getitem.lookup,ht.typeIs,?_⟩;exact aJ6 ht hs pl pu (by rw[cH];exact hw) ⟨.ref a,H,I,rfl,q⟩
 ·exact aRk aB s σ H _ v vl vu lo hi sl Q I rx hs pl pu ⟨a,xs,rfl,hx,hw,q⟩
noncomputable def aJB:D->Option Int->Option Int->Option D
 | .tuple xs,lo,hi=>some (.tuple (fJ xs lo hi))
 | _,_,_=>none
noncomputable def aIl(fa:FE)(fl fh:FO):FE:=λ env S=>(fa env S).bind λ p=>(fl env p.2).bind λ q=>(fh env q.2).bind λ r=>(dr r.2 p.1).bind λ d=>(aJB d q.1 r.1).bind λ z=>some (.d z,r.2)
theorem aQ7{a:Expr}{lo hi:Option Expr}{p2 pos:Pos}{fa:FE}{fl fh:FO}(ha:PE X a (aS X.K fa))(hl:PO X lo (kY X.K fl))(hh:PO X hi (kY X.K fh)):PE X (.Subscript a (.Slice lo hi none p2) pos) (aS X.K (aIl fa fl fh)):=
 PE.weak (aFD aOI ha hl hh) λ σ H Q aP=>by
  obtain⟨F,L,S,env,ds,S',R,E,e,q⟩:=aP;obtain⟨⟨w,S1⟩,e1,e⟩:=bind_some e;obtain⟨⟨l,S2⟩,e2,e⟩:=bind_some e;obtain⟨⟨h,S3⟩,e3,e⟩:=bind_some e;obtain⟨d,e4,e⟩:=bind_some e;obtain⟨z,e5,e⟩:=bind_some e;cases e;refine⟨F,L,S,env,w,S1,R,E,e1,λ F1 L1 H1 v g1 R1 d1=>⟨F1,L1,S1,env,l,S2,R1,E.mono g1,e2,λ F2 L2 H2 g2 R2=>⟨F2,L2,S2,env,h,S3,R2,E.mono (g1.trans g2),e3,λ F3 L3 H3 g3 R3=>?_⟩⟩⟩
  have n:=jJ R3 (d1.mono (g2.trans g3)) e4;cases d with
  | tuple xs =>
    cases e5;obtain⟨a,vs,rfl,sq,dl⟩:=n.tup R3.sub;refine⟨a,vs,rfl,sq,?_⟩
    by_cases hw:HT.sIx vs.length 0 l=0/\HT.sIx vs.length vs.length h=vs.length
    ·refine .inl ⟨hw,q F3 L3 H3 _ ((g1.trans g2).trans g3) R3 ?_⟩;have ec:fJ xs l h=xs:=by
      unfold fJ;rw[dl.length,hw.1,hw.2,List.drop_zero,Nat.sub_zero,<- dl.length,List.take_length]
     rw[ec];rcases n with n | ⟨_,_,_,z,_⟩
     ·exact n
     ·cases z
    ·exact .inr ⟨hw,λ p hp=>q _ L3 _ _ (((g1.trans g2).trans g3).trans (Gr.new (R3.sub.free hp))) (R3.new hp) (Den.tup (bS.of cV) ((aGp dl l h).mono (cQ (R3.sub.free hp))))⟩
  | _=>cases e5
noncomputable def aTQ(X:Cx):R2:=λ x y H Q=>∃ a k xs,x=.ref a/\y=.int k/\bR X.K H a xs /\ -(2^63)<=k/\k < 2^63/\xs.length*k.toNat<=sizeLine/\∀ p,H p=none->Q (.ref p) (bB H p (.lst (List.replicate k.toNat xs).flatten))
noncomputable def vH(fa fb:FE):FL:=λ env S=>(fa env S).bind λ p=>(fb env p.2).bind λ q=>(dr q.2 p.1).bind λ d=>match d,q.1 with
 | .list xs,.d (.int k)=>if k < 2^63 /\ -(2^63)<=k/\xs.length*k.toNat<=sizeLine then some (vK k.toNat xs,q.2) else none
 | _,_=>none
theorem aTl{a b:Expr}{pos:Pos}{fa fb:FE}(ha:PE X a (aS X.K fa))(hb:PE X b (aS X.K fb)):PE X (.BinOp a .Mult b pos) (iO X.K (vH fa fb)):=by
 refine PE.weak (aIN (r:=aTQ X) (λ aB s σ H x y v u Q I rx ry ⟨a,k,xs,hx,hy,sq,h1,h2,hz,q⟩=>?_) ha hb) λ σ H Q ⟨F,L,S,env,ds,S',R,E,e,q⟩=>?_
 ·subst hx hy;cases rx;obtain⟨t,rfl⟩:=ry;exact aJE I sq h1 h2 hz q
 ·obtain⟨⟨w1,S1⟩,e1,e⟩:=bind_some e;obtain⟨⟨w2,S2⟩,e2,e⟩:=bind_some e;obtain⟨d,e3,e⟩:=bind_some e;dsimp only at e e2 e3;refine⟨F,L,S,env,w1,S1,R,E,e1,λ F1 L1 H1 x g1 R1 d1=>⟨F1,L1,S1,env,w2,S2,R1,E.mono g1,e2,λ F2 L2 H2 y g2 R2 d2=>?_⟩⟩
  cases d with
  | list xs =>
    cases w2 with
    | loc n=>cases e
    | d v =>
      cases v with
      | int kk =>
        dsimp only at e
        split at e
        ·rename_i c;cases e;obtain⟨a,vs,rfl,sq,dl⟩:=(jJ R2 (d1.mono g2) e3).lst R2.sub;cases (show Den X.K F2 (.int kk) y from d2)
         exact⟨a,kk,vs,rfl,rfl,sq,c.2.1,c.1,by rw[<- dl.length];exact c.2.2,λ p hp=>q F2 L2 _ p _ (g1.trans g2) (R2.lay hp) (R2.sub.free hp) (R2.notin hp) cV (dl.rep kk.toNat)⟩
        ·cases e
      | _=>cases e
  | _=>cases e
end
structure ZA(z TI TO i1 i2:Addr)(cD cE:List Addr):Prop where
 TIz:TI≠z
 TOz:TO≠z
 i1z:i1≠z
 i2z:i2≠z
 TITO:TI≠TO
 TIi1:TI≠i1
 TIi2:TI≠i2
 TOi1:TO≠i1
 TOi2:TO≠i2
 f1:∀ b∈cD,b≠z/\b≠TO/\b≠i2
 f2:∀ b∈cE,b≠z/\b≠TO/\b≠i1
section
variable {prog : Program}{w : World}{A : Around}{E : Value -> Shared -> Prop}{s : Shared}
theorem aKi{z TI TO i1 i2:Addr}{cD cE:List Addr}{n1 n2 k:Nat}{P1 P2:Nat->Value->Prop}{bI bF:Nat->Heap->Prop}{a b:Value}{Q:Value->Shared->Prop}
 (D1:Draws prog w A i1 cD n1 P1 bI) (D2:Draws prog w A i2 cE n2 P2 bF) (Z:ZA z TI TO i1 i2 cD cE)
 (hz:IsZip s.heap z TI TO .none) (bO:IsPair s.heap TI (.ref i1) (.ref i2)) (bT:IsPair s.heap TO a b) (s1:bI k s.heap) (s2:bF k s.heap) (k1:k < n1) (k2:k < n2)
 (hQ:∀ x y h' tk,P1 k x->P2 k y->IsZip h' z TI TO (rawInt s.heap.objs.size)->IsPair h' TO x y->IsPair h' TI (.ref i1) (.ref i2)->bI (k+1) h'->bF (k+1) h'->IsPair h' s.heap.objs.size x y->h'.objs.size=s.heap.objs.size+1 ->
   (∀ c o,c≠z->c≠TO->c≠i1->c≠i2->s.heap.get? c=some o->h'.get? c=some o)->Q (.ref s.heap.objs.size) {s with heap:=h',toks:=tk }) :
 wpAny (model prog w) A (Builtin.«zip.__next__» ⟨[.ref z],[]⟩) (λ bK s'=>∃ v,bK=.done (.ret v)/\Q v s') E s:=by
 show wpAny _ _ (field (.ref z) 2 >>= _) _ _ _;refine wB (wpAny_field hz rfl (x:=.bool false) rfl ?_);show wpAny _ _ (field (.ref z) 3 >>= _) _ _ _;refine wB (wpAny_field hz rfl (x:=.ref TI) rfl ?_);refine wB (wpAny_seqItems bO rfl ?_);show wpAny _ _ (Builtin.SmallTypes.ownedTupleIsFree (.ref z) >>= _) _ _ _;refine wB ?_;unfold Builtin.SmallTypes.ownedTupleIsFree;refine wB (wpAny_field hz rfl (x:=.none) rfl (wP ?_));simp only[if_true];refine wB (wpAny_rule ?_);refine wB (wpAny_field hz rfl (x:=.ref TO) rfl ?_);refine wB (wpAny_setField_rec hz (by simp) λ h₁ hz₁ hs₁=>?_)
 replace hz₁:IsZip h₁ z TI TO .ellipsis:=hz₁
 refine wB ?_;simp only[List.zipIdx_cons,List.zipIdx_nil,List.forIn_cons,List.forIn_nil];have s11:bI k h₁:=D1.frame k _ _ s1 λ c hc o e=>hs₁.extBut _ _ (Z.f1 c hc).1 e
 have s21:bF k h₁:=D2.frame k _ _ s2 λ c hc o e=>hs₁.extBut _ _ (Z.f2 c hc).1 e
 refine wB (wB (wpAny_onRaise ?_));show wpAny _ _ (Builtin.SmallTypes.nextOf (.ref i1) >>= _) _ _ _;refine wB (D1.item k _ _ _ k1 s11 λ x h₂ tk₂ px s12 hs₂=>wP ?_)
 have s22:bF k h₂:=D2.frame k _ _ s21 λ c hc o e=>hs₂.extBut _ _ (Z.f2 c hc).2.2 e
 have hTO₂:IsPair h₂ TO a b:=hs₂.extBut _ _ Z.TOi1 (hs₁.extBut _ _ Z.TOz bT);refine wB (wpAny_seqItems hTO₂ rfl ?_);refine wB (wpAny_updateSeq_pair hTO₂ λ h₃ hTO₃ hs₃=>?_)
 replace hTO₃:IsPair h₃ TO x b:=hTO₃
 have s13:bI (k+1) h₃:=D1.frame _ _ _ s12 λ c hc o e=>hs₃.extBut _ _ (Z.f1 c hc).2.1 e
 have s23:bF k h₃:=D2.frame k _ _ s22 λ c hc o e=>hs₃.extBut _ _ (Z.f2 c hc).2.1 e
 refine wB (wpAny_letGo (wP ?_));refine wB (wB (wpAny_onRaise ?_));show wpAny _ _ (Builtin.SmallTypes.nextOf (.ref i2) >>= _) _ _ _;refine wB (D2.item k _ _ _ k2 s23 λ y h₄ tk₄ py s24 hs₄=>wP ?_)
 have s14:bI (k+1) h₄:=D1.frame _ _ _ s13 λ c hc o e=>hs₄.extBut _ _ (Z.f1 c hc).2.2 e
 have hTO₄:IsPair h₄ TO x b:=hs₄.extBut _ _ Z.TOi2 hTO₃;refine wB (wpAny_seqItems hTO₄ rfl ?_);refine wB (wpAny_updateSeq_pair hTO₄ λ h₅ hTO₅ hs₅=>?_)
 replace hTO₅:IsPair h₅ TO x y:=hTO₅
 have s15:bI (k+1) h₅:=D1.frame _ _ _ s14 λ c hc o e=>hs₅.extBut _ _ (Z.f1 c hc).2.1 e
 have s25:bF (k+1) h₅:=D2.frame _ _ _ s24 λ c hc o e=>hs₅.extBut _ _ (Z.f2 c hc).2.1 e
 refine wB (wpAny_letGo (wP (wP ?_)));refine wB (wpAny_seqItems hTO₅ rfl ?_);refine wB (wpAny_newTuple ?_);have hsz:h₅.objs.size=s.heap.objs.size:=by rw[hs₅.1,hs₄.1,hs₃.1,hs₂.1,hs₁.1]
 have hz₅:IsZip h₅ z TI TO .ellipsis:=hs₅.extBut _ _ Z.TOz.symm (hs₄.extBut _ _ Z.i2z.symm (hs₃.extBut _ _ Z.TOz.symm (hs₂.extBut _ _ Z.i1z.symm hz₁)));have hk₅:∀ c o,c≠z->c≠TO->c≠i1->c≠i2->s.heap.get? c=some o->h₅.get? c=some o:=λ c o c1 c2 c3 c4 e =>
  hs₅.extBut _ _ c2 (hs₄.extBut _ _ c4 (hs₃.extBut _ _ c2 (hs₂.extBut _ _ c3 (hs₁.extBut _ _ c1 e))))
 have hzlt:z < h₅.objs.size:=xAa hz₅;show wpAny _ _ (Builtin.SmallTypes.ownedTupleHandOut (.ref z) (.ref h₅.objs.size) >>= _) _ _ _;refine wB ?_;unfold Builtin.SmallTypes.ownedTupleHandOut;have hz₆:IsZip (h₅.push {cls:=.type "tuple",data:=.seq #[x,y] }) z TI TO .ellipsis:=hpS _ hz₅;refine wB (wpAny_setField_rec hz₆ (by simp) λ h₇ hz₇ hs₇=>?_)
 replace hz₇:IsZip h₇ z TI TO (rawInt h₅.objs.size):=hz₇
 refine wpAny_setField_rec hz₇ (by simp) λ h₈ hz₈ hs₈=>?_
 replace hz₈:IsZip h₈ z TI TO (rawInt h₅.objs.size):=hz₈
 have up:∀ c o,c≠z->h₅.get? c=some o->h₈.get? c=some o:=λ c o c1 e=>hs₈.extBut _ _ c1 (hs₇.extBut _ _ c1 (hpS _ e))
 have hT₈:IsPair h₈ h₅.objs.size x y:=hs₈.extBut _ _ (Nat.ne_of_gt hzlt) (hs₇.extBut _ _ (Nat.ne_of_gt hzlt) (xAe _ rfl));have hz8:h₈.objs.size=h₅.objs.size+1:=by rw[hs₈.1,hs₇.1,Heap.size_push]
 rw[hsz] at hz₈ hT₈ hz8;refine wP ⟨_,rfl,?_⟩;show Q (.ref h₅.objs.size) _;rw[hsz];exact hQ x y h₈ _ px py hz₈ (up _ _ Z.TOz hTO₅) (up _ _ Z.TIz (hk₅ _ _ Z.TIz Z.TITO Z.TIi1 Z.TIi2 bO)) (D1.frame _ _ _ s15 λ c hc o e=>up c o (Z.f1 c hc).1 e) (D2.frame _ _ _ s25 λ c hc o e=>up c o (Z.f2 c hc).1 e) hT₈ hz8 λ c o c1 c2 c3 c4 e=>up c o c1 (hk₅ c o c1 c2 c3 c4 e)
theorem aKs{z TI TO i1 i2:Addr}{cD cE:List Addr}{n1 n2 k:Nat}{P1 P2:Nat->Value->Prop}{bI bF:Nat->Heap->Prop}{a b:Value}{Q:Fin->Shared->Prop}
 (D1:Draws prog w A i1 cD n1 P1 bI) (D2:Draws prog w A i2 cE n2 P2 bF) (Z:ZA z TI TO i1 i2 cD cE)
 (hz:IsZip s.heap z TI TO .none) (bO:IsPair s.heap TI (.ref i1) (.ref i2)) (bT:IsPair s.heap TO a b) (s1:bI k s.heap) (s2:bF k s.heap) (hend:k=n1\/(k < n1/\k=n2))
 (hE:∀ h' tk e,(∀ c o,c≠z->c≠TO->c≠i1->c≠i2->s.heap.get? c=some o->h'.get? c=some o)->(∃ o,h'.get? e=some o/\o.cls=.type "StopIteration")->E (.ref e) {s with heap:=h',toks:=tk }) :
 wpAny (model prog w) A (Builtin.«zip.__next__» ⟨[.ref z],[]⟩) Q E s:=by
 show wpAny _ _ (field (.ref z) 2 >>= _) _ _ _;refine wB (wpAny_field hz rfl (x:=.bool false) rfl ?_);show wpAny _ _ (field (.ref z) 3 >>= _) _ _ _;refine wB (wpAny_field hz rfl (x:=.ref TI) rfl ?_);refine wB (wpAny_seqItems bO rfl ?_);show wpAny _ _ (Builtin.SmallTypes.ownedTupleIsFree (.ref z) >>= _) _ _ _;refine wB ?_;unfold Builtin.SmallTypes.ownedTupleIsFree;refine wB (wpAny_field hz rfl (x:=.none) rfl (wP ?_));simp only[if_true];refine wB (wpAny_rule ?_);refine wB (wpAny_field hz rfl (x:=.ref TO) rfl ?_);refine wB (wpAny_setField_rec hz (by simp) λ h₁ hz₁ hs₁=>?_)
 replace hz₁:IsZip h₁ z TI TO .ellipsis:=hz₁
 refine wB ?_;simp only[List.zipIdx_cons,List.zipIdx_nil,List.forIn_cons,List.forIn_nil];have s11:bI k h₁:=D1.frame k _ _ s1 λ c hc o e=>hs₁.extBut _ _ (Z.f1 c hc).1 e
 have s21:bF k h₁:=D2.frame k _ _ s2 λ c hc o e=>hs₁.extBut _ _ (Z.f2 c hc).1 e
 refine wB (wB (wpAny_onRaise ?_));show wpAny _ _ (Builtin.SmallTypes.nextOf (.ref i1) >>= _) _ _ _;rcases hend with rfl | ⟨k1,rfl⟩
 ·refine wB (D1.done _ _ _ s11 λ h₂ e hs₂ he=>?_)
  obtain⟨oe,hoe,hce⟩:=he;have hz₂:IsZip h₂ z TI TO .ellipsis:=hs₂ _ _ Z.i1z.symm hz₁;have hez:e≠z:=λ x=>by subst x;rw[hz₂] at hoe;cases hoe;simp at hce
  exact wpAny_setField_rec hz₂ (by simp) λ h₃ _ hs₃=>hE h₃ _ e (λ c o c1 _ c3 _ x=>hs₃.extBut _ _ c1 (hs₂ _ _ c3 (hs₁.extBut _ _ c1 x))) ⟨oe,hs₃.extBut _ _ hez hoe,hce⟩
 ·refine wB (D1.item k _ _ _ k1 s11 λ x h₂ tk₂ px s12 hs₂=>wP ?_)
  have s22:bF k h₂:=D2.frame k _ _ s21 λ c hc o e=>hs₂.extBut _ _ (Z.f2 c hc).2.2 e
  have hTO₂:IsPair h₂ TO a b:=hs₂.extBut _ _ Z.TOi1 (hs₁.extBut _ _ Z.TOz bT);refine wB (wpAny_seqItems hTO₂ rfl ?_);refine wB (wpAny_updateSeq_pair hTO₂ λ h₃ hTO₃ hs₃=>?_)
  have s23:bF k h₃:=D2.frame k _ _ s22 λ c hc o e=>hs₃.extBut _ _ (Z.f2 c hc).2.1 e
  refine wB (wpAny_letGo (wP ?_));refine wB (wB (wpAny_onRaise ?_));show wpAny _ _ (Builtin.SmallTypes.nextOf (.ref i2) >>= _) _ _ _;refine wB (D2.done _ _ _ s23 λ h₄ e hs₄ he=>?_)
  obtain⟨oe,hoe,hce⟩:=he;have hz₄:IsZip h₄ z TI TO .ellipsis:=hs₄ _ _ Z.i2z.symm (hs₃.extBut _ _ Z.TOz.symm (hs₂.extBut _ _ Z.i1z.symm hz₁));have hez:e≠z:=λ x=>by subst x;rw[hz₄] at hoe;cases hoe;simp at hce
  exact wpAny_setField_rec hz₄ (by simp) λ h₅ _ hs₅=>hE h₅ _ e (λ c o c1 c2 c3 c4 x=>hs₅.extBut _ _ c1 (hs₄ _ _ c4 (hs₃.extBut _ _ c2 (hs₂.extBut _ _ c3 (hs₁.extBut _ _ c1 x))))) ⟨oe,hs₅.extBut _ _ hez hoe,hce⟩
theorem aDK{z TI TO i1 i2:Addr}{cD cE:List Addr}{n1 n2 k:Nat}{P1 P2:Nat->Value->Prop}{bI bF:Nat->Heap->Prop}{a b:Value}{Q:Option Value->Shared->Prop}
 (D1:Draws prog w A.in1 i1 cD n1 P1 bI) (D2:Draws prog w A.in1 i2 cE n2 P2 bF) (Z:ZA z TI TO i1 i2 cD cE)
 (hz:IsZip s.heap z TI TO .none) (bO:IsPair s.heap TI (.ref i1) (.ref i2)) (bT:IsPair s.heap TO a b) (s1:bI k s.heap) (s2:bF k s.heap) (k1:k < n1) (k2:k < n2)
 (hQ:∀ x y h' tk,P1 k x->P2 k y->IsZip h' z TI TO (rawInt s.heap.objs.size)->IsPair h' TO x y->IsPair h' TI (.ref i1) (.ref i2)->bI (k+1) h'->bF (k+1) h'->IsPair h' s.heap.objs.size x y->h'.objs.size=s.heap.objs.size+1 ->
   (∀ c o,c≠z->c≠TO->c≠i1->c≠i2->s.heap.get? c=some o->h'.get? c=some o)->Q (some (.ref s.heap.objs.size)) {s with heap:=h',toks:=tk }) :
 wpAny (model prog w) A (pyNext (.ref z)) Q E s:=by
 have hT:s.TypeIs (.ref z) "zip":=⟨_,hz,rfl⟩;unfold pyNext;exact wB (wpAny_attempt (wpAny_callSpecial?_slot (name:=Str.ofString "__next__") hT F.slot_zip_next
  (wpAny_call_entry F.slot_zip_next hT F.entry_zip_next
    (aKi D1 D2 Z hz bO bT s1 s2 k1 k2 λ x y h' tk a0 b0 a1 a2 a3 a4 a5 a6 a7 a8=>wP (hQ x y h' tk a0 b0 a1 a2 a3 a4 a5 a6 a7 a8)) (F.args_zip_next_1 _))))
theorem aDO{z TI TO i1 i2:Addr}{cD cE:List Addr}{n1 n2 k:Nat}{P1 P2:Nat->Value->Prop}{bI bF:Nat->Heap->Prop}{a b:Value}{Q:Option Value->Shared->Prop}
 (D1:Draws prog w A.in1 i1 cD n1 P1 bI) (D2:Draws prog w A.in1 i2 cE n2 P2 bF) (Z:ZA z TI TO i1 i2 cD cE)
 (hz:IsZip s.heap z TI TO .none) (bO:IsPair s.heap TI (.ref i1) (.ref i2)) (bT:IsPair s.heap TO a b) (s1:bI k s.heap) (s2:bF k s.heap) (hend:k=n1\/(k < n1/\k=n2))
 (hQ:∀ h' tk,(∀ c o,c≠z->c≠TO->c≠i1->c≠i2->s.heap.get? c=some o->h'.get? c=some o)->Q none {s with heap:=h',toks:=tk }):wpAny (model prog w) A (pyNext (.ref z)) Q E s:=by
 have hT:s.TypeIs (.ref z) "zip":=⟨_,hz,rfl⟩;unfold pyNext;refine wB (wpAny_attempt (wpAny_callSpecial?_slot (name:=Str.ofString "__next__") hT F.slot_zip_next
  (wpAny_call_entry F.slot_zip_next hT F.entry_zip_next (aKs D1 D2 Z hz bO bT s1 s2 hend λ h' tk e hk he=>?_) (F.args_zip_next_1 _))))
 obtain⟨o,ho,hc⟩:=he;refine wB (wpAny_isInstance (T:="StopIteration") (b:=true) ⟨o,ho,hc⟩ isSubtype_stop ?_);exact wP (hQ _ _ hk)
end
noncomputable def qG(t:Bool):String:=if t then "tuple_iterator" else "list_iterator"
def cW(t:Bool)(h:Heap)(a:Addr)(aE:Array Value):Prop:=match t with
 | true=>h.IsTuple a aE
 | false=>h.IsList a aE
def dE(t:Bool)(h:Heap)(it a:Addr)(i:Nat):Prop:=match t with
 | true=>h.IsTupleIter it a i
 | false=>h.IsListIter it a i
def Sq(t:Bool)(K:FrG)(H:Hp)(a:Addr)(xs:List V):Prop:=match t with
 | true=>bS K H a xs
 | false=>bR K H a xs
theorem dE.at{t:Bool}{h h':Heap}{it a:Addr}{i:Nat}(x:dE t h it a i)(q:∀ o,h.get? it=some o->h'.get? it=some o):dE t h' it a i:=by
 cases t with
 | true=>exact Heap.IsTupleIter.at (h:=h) x q
 | false=>exact Heap.IsListIter.at (h:=h) x q
theorem dE.obj{t:Bool}{h:Heap}{it a:Addr}{i:Nat}(x:dE t h it a i):∃ o,h.get? it=some o/\∀ v,o.data≠.cell v:=by
 cases t with
 | true=>obtain⟨o,ho,hc,hd⟩:=x;exact⟨o,ho,λ v z=>by rw[hd] at z;cases z⟩
 | false=>obtain⟨o,ho,hc,hd⟩:=x;exact⟨o,ho,λ v z=>by rw[hd] at z;cases z⟩
theorem cW.lt{t:Bool}{h:Heap}{a:Addr}{aE:Array Value}(x:cW t h a aE):a < h.objs.size:=by
 cases t with
 | true=>obtain⟨o,ho,_⟩:=x;exact xAa ho
 | false=>obtain⟨o,ho,_⟩:=x;exact xAa ho
theorem gT{prog:Program}{w:World}{A:Around}(hh:A.handled=none)(t:Bool)(it l:Addr)(hne:l≠it)(aM:Array Value):Draws prog w A it [it,l] aM.size (λ i v=>aM[i]? = some v) (λ i h=>dE t h it l i/\cW t h l aM):=by
 cases t with
 | true=>exact aEE hh it l hne aM
 | false=>exact Draws.list hh it l hne aM
theorem eI{X:Cx}{aB:List (Addr × Obj)}{σ:L2.St}{H:Hp}{s:Shared}{t:Bool}{a:Addr}{xs:List V}(I:Inv X aB σ H s)(h:Sq t X.K H a xs):∃ aE:List Value,aW xs aE/\cW t s.heap a aE.toArray:=by
 cases t with
 | true=>obtain⟨aE,rv,pl,hz⟩:=I.tuple h;exact⟨aE,rv,pl⟩
 | false=>obtain⟨aE,rv,pl,hz⟩:=I.list h;exact⟨aE,rv,pl.isList⟩
theorem tW{X:Cx}{aB:List (Addr × Obj)}{σ:L2.St}{H:Hp}{s:Shared}{t:Bool}{a:Addr}{xs ys:List V}(I:Inv X aB σ H s)(h:Sq t X.K H a xs)(h':Sq t X.K H a ys):xs=ys:=by
 cases t with
 | true=>exact I.tuple_inj h h'
 | false=>exact I.list_inj h h'
theorem dB{t:Bool}{K:FrG}{H H':Hp}{a:Addr}{xs:List V}(e:cC H H')(h:Sq t K H a xs):Sq t K H' a xs:=by
 cases t with
 | true=>exact iE e h
 | false=>exact e.seq h
theorem aA4{X:Cx}{aB:List (Addr × Obj)}{σ:L2.St}{H:Hp}{s:Shared}{h':Heap}{ch:List Addr}{t':Nat}(I:Inv X aB σ H s)(hch:∀ b∈ch,gI X aB H b)(k:∀ b u,b ∉ ch->s.heap.get? b=some u->h'.get? b=some u) :
 Inv X aB σ H {s with heap:=h',toks:=t' }:=by
 have nch:∀ b u,H b=some u->b ∉ ch:=λ b u e z=>by rw[(hch b z).1] at e;cases e
 refine I.step (g':=s.gens) (d':=s.drawn) (ch:=ch) (λ b hb=>⟨(hch b hb).2.2.2.1,(hch b hb).2.1,(hch b hb).2.2.2.2.1,(hch b hb).2.2.2.2.2⟩) (λ b o _ _ hc e _=>k b o hc e) (λ b o _ _ hc e _=>⟨o.slots,k b o hc e⟩) (λ _ _ _ _ n=>n)
  (λ b o hc e=>⟨o,k b o hc e⟩) (λ _ _ e=>e) (λ _ _ _ e=>e) (λ b ps e=>⟨#[],by rw[e];simp⟩) (λ m hm=>?_) (λ b u e=>?_) I.bare
 ·obtain⟨o,es,ep,ho,r⟩:=hm;exact⟨o,es,ep,k _ o (λ z=>(hch _ z).2.1 rfl) ho,r⟩
 ·refine(I.hok b u e).stay (λ c v hc q=>k c v ?_ q) (λ _ q=>q) λ _ _ q=>q
  rcases hc with z | z
  ·rw[z];exact nch b u e
  ·exact nch c _ z
noncomputable def aDd(K:FrG)(t u:Bool)(a b:Addr):It:=
 ⟨λ i H=>∃ xs x ys y,Sq t K H a xs/\xs[i]? = some x/\Sq u K H b ys/\ys[i]? = some y,
  λ i H v H'=>∃ p x y,H p=none/\H'=bB H p (.tup [x,y])/\v=.ref p/\(∀ xs,Sq t K H a xs->xs[i]? = some x)/\∀ ys,Sq u K H b ys->ys[i]? = some y,
  λ i H=>∃ xs ys,Sq t K H a xs/\Sq u K H b ys/\i=min xs.length ys.length⟩
theorem eP{a c:Addr}{l:List Addr}(h:c ∉ a::l):c≠a:=λ q=>h (q▸xAd)
theorem bQ{a c:Addr}{l:List Addr}(h:c ∉ a::l):c ∉ l:=λ q=>h (xAg _ q)
theorem mT{a b:Addr}{l:List Addr}(h:a∈l):a∈b::l:=xAg _ h
theorem eC{P:Addr->Prop}{a:Addr}{l:List Addr}(h:P a)(t:∀ b∈l,P b):∀ b∈a::l,P b:=List.forall_mem_cons.mpr ⟨h,t⟩
theorem aln{P:Addr->Prop}:∀ b∈([]:List Addr),P b:=λ _ h=>nomatch h
theorem aMn{P:Program}{w:World}{K:FrG}{elts:List Expr}{k:Nat}{pos:Pos}(t u:Bool)(a b z TI TO i1 i2:Addr)(Z:ZA z TI TO i1 i2 [i1,a] [i2,b])(h1:a≠i1)(h2:b≠i2) :
 Turn P w K (.Tuple elts k pos) (aDd K t u a b) [z,TI,TO,i1,i2] z (λ i h=>IsZip h z TI TO .none/\IsPair h TI (.ref i1) (.ref i2)/\(∃ x y,IsPair h TO x y)/\dE t h i1 a i/\dE u h i2 b i) where
 mem:=xAd
 obj:=λ i h ⟨hz,bO,⟨x,y,bT⟩,hi1,hi2⟩=>eC ⟨_,hz,λ v=>by intro z;cases z⟩ (eC ⟨_,bO,λ v=>by intro z;cases z⟩ (eC ⟨_,bT,λ v=>by intro z;cases z⟩ (eC hi1.obj (eC hi2.obj aln))))
 keep:=λ i h h' ⟨hz,bO,⟨x,y,bT⟩,hi1,hi2⟩ q=>⟨q z xAd _ hz,q TI (mT xAd) _ bO,⟨x,y,q TO (mT (mT xAd)) _ bT⟩,hi1.at λ o e=>q i1 (mT (mT (mT xAd))) o e,hi2.at λ o e=>q i2 (mT (mT (mT (mT xAd)))) o e⟩
 item:=λ X hP hW hK hc i aB s σ H E I hf aP gS=>by
  obtain⟨hz,bO,⟨x0,y0,bT⟩,hi1,hi2⟩:=aP;obtain⟨xs,x,ys,y,sq1,hx,sq2,hy⟩:=gS;subst hP hW hK;have hh:X.A.in1.handled=none:=I.ok.hd hc;obtain⟨dI,rv1,pl1⟩:=eI I sq1;obtain⟨cP,rv2,pl2⟩:=eI I sq2;obtain⟨u1,hu1,ru1⟩:=rv1.get hx;obtain⟨u2,hu2,ru2⟩:=rv2.get hy;have lt1:i < dI.toArray.size:=by rw[List.size_toArray];exact(gIm hu1).1
  have lt2:i < cP.toArray.size:=by rw[List.size_toArray];exact(gIm hu2).1
  refine aDK (gT (prog:=X.prog) (w:=X.w) hh t i1 a h1 dI.toArray) (gT (prog:=X.prog) (w:=X.w) hh u i2 b h2 cP.toArray) Z hz bO bT ⟨hi1,pl1⟩ ⟨hi2,pl2⟩ lt1 lt2 λ x' y' h₁ tk px py hz₁ hTO₁ hTI₁ s1 s2 hT₁ hsz hk=>⟨_,rfl,?_⟩
  have ex:x'=u1:=by rw[List.getElem?_toArray,hu1] at px;exact(Option.some.inj px).symm
  have ey:y'=u2:=by rw[List.getElem?_toArray,hu2] at py;exact(Option.some.inj py).symm
  subst ex ey;have zLt:z < s.heap.objs.size:=xAa hz;refine wpAny_letOwnedTupleGo_zip hz₁ λ h₂ hz₂ hs₂=>?_
  have hs2:Heap.SameBut z h₁ h₂:=hs₂;have ht₂:IsPair h₂ s.heap.objs.size x' y':=hs2.extBut _ _ (Nat.ne_of_gt zLt) hT₁;have I2:Inv X aB σ (bB H s.heap.objs.size (.tup [x,y])) {s with heap:=h₂,toks:=tk }:=by
   refine sH I hf (λ c o hb e'=>?_) (Nat.le_refl _) ⟨by show 2<=sizeLine;decide,[x',y'],.cons ru1 (.cons ru2 .nil),⟨_,ht₂,rfl,0,rfl⟩⟩
   exact hs2.extBut c o (eP hb) (hk c o (eP hb) (eP (bQ (bQ hb))) (eP (bQ (bQ (bQ hb)))) (eP (bQ (bQ (bQ (bQ hb))))) e')
  refine⟨.ref s.heap.objs.size,_,I2,rfl,⟨s.heap.objs.size,x,y,I.fresh,rfl,rfl,λ zs hy=>by rw[tW I hy sq1];exact hx,λ zs hz=>by rw[tW I hz sq2];exact hy⟩,⟨hz₂,hs2.extBut _ _ Z.TIz hTI₁,⟨_,_,hs2.extBut _ _ Z.TOz hTO₁⟩,s1.1.at λ o e=>hs2.extBut _ _ Z.i1z e,s2.1.at λ o e=>hs2.extBut _ _ Z.i2z e⟩,λ c hb=>?_⟩
  have:c < s.heap.objs.size:=eC (P:=λ c=>c < s.heap.objs.size) zLt (eC (xAa bO) (eC (xAa bT) (eC (let ⟨_,ho,_⟩:=hi1.obj;xAa ho) (eC (let ⟨_,ho,_⟩:=hi2.obj;xAa ho) aln)))) c hb
  rw[bJ (xAk this)];exact(hf c hb).1
 done:=λ X hP hW hK hc i aB s σ H E I hf aP gS=>by
  obtain⟨hz,bO,⟨x0,y0,bT⟩,hi1,hi2⟩:=aP;obtain⟨xs,ys,sq1,sq2,hi⟩:=gS;subst hP hW hK;have hh:X.A.in1.handled=none:=I.ok.hd hc;obtain⟨dI,rv1,pl1⟩:=eI I sq1;obtain⟨cP,rv2,pl2⟩:=eI I sq2;have l1:=rv1.length;have l2:=rv2.length;have hend:i=dI.toArray.size\/(i < dI.toArray.size/\i=cP.toArray.size):=by
   rw[List.size_toArray,List.size_toArray];omega
  refine aDO (gT (prog:=X.prog) (w:=X.w) hh t i1 a h1 dI.toArray) (gT (prog:=X.prog) (w:=X.w) hh u i2 b h2 cP.toArray) Z hz bO bT ⟨hi1,pl1⟩ ⟨hi2,pl2⟩ hend λ h₁ tk hk=>⟨rfl,?_⟩
  exact aA4 I hf λ c o hb e'=>hk c o (eP hb) (eP (bQ (bQ hb))) (eP (bQ (bQ (bQ hb)))) (eP (bQ (bQ (bQ (bQ hb))))) e'
 self:=λ A i s Q E ⟨hz,_⟩ hq=>wpAny_pyIter_zip hz hq
section
variable {prog : Program}{w : World}{A : Around}{E : Value -> Shared -> Prop}{s : Shared}
noncomputable abbrev vM(h:Heap)(t:Bool)(l1:Addr):Heap:=h.push {cls:=.type (qG t),data:=.fields #[.ref l1,.int 0 0] }
noncomputable abbrev zH2(h:Heap)(t u:Bool)(l1 l2:Addr):Heap:=(vM h t l1).push {cls:=.type (qG u),data:=.fields #[.ref l2,.int 0 0] }
noncomputable abbrev zH3(h:Heap)(t u:Bool)(l1 l2:Addr):Heap:=(zH2 h t u l1 l2).push {cls:=.type "tuple",data:=.seq #[.ref h.objs.size,.ref (vM h t l1).objs.size] }
noncomputable abbrev zH4(h:Heap)(t u:Bool)(l1 l2:Addr):Heap:=(zH3 h t u l1 l2).push {cls:=.type "tuple",data:=.seq #[.none,.none] }
noncomputable abbrev mD(h:Heap)(t u:Bool)(l1 l2:Addr):Heap:=(zH4 h t u l1 l2).push {cls:=.type "zip",data:=.fields #[.none,.bool false,.bool false,.ref (zH2 h t u l1 l2).objs.size,.ref (zH3 h t u l1 l2).objs.size] }
theorem sL{t:Bool}{l:Addr}{aM:Array Value}{Q:Value->Shared->Prop}(hl:cW t s.heap l aM)
 (h:Q (.ref s.heap.objs.size) {s with heap:=s.heap.push {cls:=.type (qG t),data:=.fields #[.ref l,.int 0 0] } }):wpAny (model prog w) A (pyIter (.ref l)) Q E s:=by
 cases t with
 | true=>exact wpAny_pyIter_tuple hl h
 | false=>exact wpAny_pyIter_list hl h
theorem cW.push{t:Bool}{h:Heap}{a:Addr}{aE:Array Value}(x:cW t h a aE)(o:Obj):cW t (h.push o) a aE:=by
 cases t with
 | true=>obtain⟨o,ho,r⟩:=x;exact⟨o,hpS _ ho,r⟩
 | false=>obtain⟨o,ho,r⟩:=x;exact⟨o,hpS _ ho,r⟩
theorem aKh(t u:Bool)(l1 l2:Addr)(xs ys:Array Value) :
 Meets (Builtin.«zip.__new__» ⟨[.type "zip",.ref l1,.ref l2],[]⟩) (λ _ R s=>cW t s.heap l1 xs/\cW u s.heap l2 ys /\
  R (.ok (.ret (.ref (zH4 s.heap t u l1 l2).objs.size))) {s with heap:=mD s.heap t u l1 l2 }):=
 .of_wp λ prog w A R s h=>by
  obtain⟨hp,g,d,tk,os⟩:=s;obtain⟨hl1,hl2,h⟩:=h;have hsub:=sub_zip;have hL1:cW t (Shared.heap ⟨hp,g,d,tk,os⟩) l1 xs:=hl1;have hL2:cW u (Shared.heap ⟨vM hp t l1,g,d,tk,os⟩) l2 ys:=cW.push hl2 _
  wp_walk using sL hL1,sL hL2
  exact⟨_,rfl,h⟩
theorem aFc{t u:Bool}{l1 l2:Addr}{xs ys:Array Value}{Q:Value->Shared->Prop}(hl1:cW t s.heap l1 xs)(hl2:cW u s.heap l2 ys)
 (h:∀ h',IsZip h' (s.heap.objs.size+4) (s.heap.objs.size+2) (s.heap.objs.size+3) .none->IsPair h' (s.heap.objs.size+2) (.ref s.heap.objs.size) (.ref (s.heap.objs.size+1)) ->
   IsPair h' (s.heap.objs.size+3) .none .none->dE t h' s.heap.objs.size l1 0->dE u h' (s.heap.objs.size+1) l2 0->h'.objs.size=s.heap.objs.size+5 ->
   (∀ c o,s.heap.get? c=some o->h'.get? c=some o)->Q (.ref (s.heap.objs.size+4)) {s with heap:=h' }) :
 wpAny (model prog w) A (call (.type "zip") [.ref l1,.ref l2]) Q E s:=by
 refine callType_new F.called_zip (by decide) (F.typeCall_zip_2 _ _) (F.newCall_zip_2 _ _) (λ obj=>F.args_object_init_3 obj _ _) F.entry_zip_new
  (aKh t u l1 l2 xs ys) ⟨hl1,hl2,?_⟩
 have z1:(vM s.heap t l1).objs.size=s.heap.objs.size+1:=Heap.size_push ..;have z2:(zH2 s.heap t u l1 l2).objs.size=s.heap.objs.size+2:=by rw[Heap.size_push,z1]
 have z3:(zH3 s.heap t u l1 l2).objs.size=s.heap.objs.size+3:=by rw[Heap.size_push,z2]
 have z4:(zH4 s.heap t u l1 l2).objs.size=s.heap.objs.size+4:=by rw[Heap.size_push,z3]
 have z5:(mD s.heap t u l1 l2).objs.size=s.heap.objs.size+5:=by rw[Heap.size_push,z4]
 have g5:(mD s.heap t u l1 l2).get? (zH4 s.heap t u l1 l2).objs.size=some _:=xAe _ rfl;have g4:(mD s.heap t u l1 l2).get? (zH3 s.heap t u l1 l2).objs.size=some _:=hpS _ (xAe _ rfl);have g3:(mD s.heap t u l1 l2).get? (zH2 s.heap t u l1 l2).objs.size=some _:=hpS _ (hpS _ (xAe _ rfl));have g2:(mD s.heap t u l1 l2).get? (vM s.heap t l1).objs.size=some _:=hpS _ (hpS _ (hpS _ (xAe _ rfl)));have g1:(mD s.heap t u l1 l2).get? s.heap.objs.size=some _:=hpS _ (hpS _ (hpS _ (hpS _ (xAe _ rfl))));show _/\_;rw[z2,z3,z4] at g5;rw[z1,z2] at g3;rw[z3] at g4;rw[z1] at g2;rw[z4];have i1:dE t (mD s.heap t u l1 l2) s.heap.objs.size l1 0:=by cases t<;>exact⟨_,g1,rfl,rfl⟩
 have i2:dE u (mD s.heap t u l1 l2) (s.heap.objs.size+1) l2 0:=by cases u<;>exact⟨_,g2,rfl,rfl⟩
 exact⟨⟨_,g5,rfl⟩,h _ g5 g3 g4 i1 i2 z5 λ c o x =>
  hpS _ (hpS _ (hpS _ (hpS _ (hpS _ x))))⟩
end
theorem aHF{n a b:Nat}(ha:a < n)(hb:b < n):ZA (n+4) (n+2) (n+3) n (n+1) [n,a] [n+1,b]:=by
 have h:∀ i j:Nat,i≠j->(n+i:Nat)≠(n+j:Nat):=λ i j h=>by omega
 have l:∀ (c i:Nat),c < n->(c:Nat)≠(n+i:Nat):=λ c i h=>by omega
 refine⟨h 2 4 (by decide),h 3 4 (by decide),h 0 4 (by decide),h 1 4 (by decide),h 2 3 (by decide),h 2 0 (by decide),h 2 1 (by decide),h 3 0 (by decide),h 3 1 (by decide),λ c hc=>?_,λ c hc=>?_⟩
 ·rcases List.mem_cons.mp hc with e | e
  ·rw[e];exact⟨h 0 4 (by decide),h 0 3 (by decide),h 0 1 (by decide)⟩
  ·rw[List.mem_singleton.mp e];exact⟨l a 4 ha,l a 3 ha,l a 1 ha⟩
 ·rcases List.mem_cons.mp hc with e | e
  ·rw[e];exact⟨h 1 4 (by decide),h 1 3 (by decide),h 1 0 (by decide)⟩
  ·rw[List.mem_singleton.mp e];exact⟨l b 4 hb,l b 3 hb,l b 0 hb⟩
section
variable {X : Cx}
noncomputable def aJx(K:FrG)(ta:TA):TI:=λ σ H R=>ta σ H λ vs H1=>∃ a b t u,vs=[.ref a,.ref b]/\(∃ xs,Sq t K H1 a xs)/\(∃ ys,Sq u K H1 b ys)/\R (aDd K t u a b) H1
theorem aQD{elts:List Expr}{k:Nat}{pp:Pos}{a b:Expr}{ta:TA}{p pos:Pos}(hg:Gl X "zip")(hm:X.mg "zip" = none)(ha:PA X [a,b] ta)(hs:starEach [a,b] X.env=(false,eval a X.env)::starEach [b] X.env)(hs2:starEach [b] X.env=[(false,eval b X.env)]):PI X (.Tuple elts k pp) (.Call (.Name "zip" p) [a,b] [] pos) (aJx X.K ta):=by
 intro aB s σ H R I h;refine Call_ (jH I hg hm boot_zip (PyProof.Rows.callWith_type1 (bA (ha pos aB s σ H _ I h) λ us s1 hPq43=>?_) hs (by rw[hs2];rfl)))
 obtain⟨vs,H1,I1,r1,q1⟩:=hPq43;obtain⟨l1,l2,t,u,rfl,⟨xs,sq1⟩,⟨ys,sq2⟩,q⟩:=q1;obtain⟨u1,u2,rfl,ru1,ru2⟩:=tZ r1;cases ru1;cases ru2;obtain⟨dI,rv1,pl1⟩:=eI I1 sq1;obtain⟨cP,rv2,pl2⟩:=eI I1 sq2;have a1:=pl1.lt;have a2:=pl2.lt;refine aFc pl1 pl2 λ h' hz bO bT hi1 hi2 hsz hk=>wpAny_pyIter_zip hz ?_
 have I2:Inv X aB σ H1 {s1 with heap:=h' }:=I1.kept (t':=s1.toks) hk
 have hb':∀ b∈[s1.heap.objs.size+4,s1.heap.objs.size+2,s1.heap.objs.size+3,s1.heap.objs.size,s1.heap.objs.size+1],s1.heap.objs.size<=b:=λ b hb=>by
  simp only[List.mem_cons,List.not_mem_nil,or_false] at hb;omega
 have Z:=aHF (n:=s1.heap.objs.size) (a:=l1) (b:=l2) a1 a2;exact⟨s1.heap.objs.size+4,[s1.heap.objs.size+4,s1.heap.objs.size+2,s1.heap.objs.size+3,s1.heap.objs.size,s1.heap.objs.size+1],_,_,H1,rfl,I2,aMn t u l1 l2 _ _ _ _ _ Z (xAk a1) (xAk (Nat.lt_succ_of_lt a2)),⟨hz,bO,⟨_,_,bT⟩,hi1,hi2⟩,λ b hb=>I1.fpOk (hb' b hb) (I1.hok.fresh (hb' b hb)),q⟩
noncomputable def dC:List D->List D->List D
 | a::as,b::bs=>.tuple [a,b]::dC as bs
 | _,_=>[]
theorem wQ:∀ as bs:List D,(dC as bs).length=min as.length bs.length
 | [],_=>by simp[dC]
 | _::_,[]=>by simp[dC]
 | _::as,_::bs=>by simp[dC,wQ as bs]
theorem aBo:∀ (as bs:List D) (i:Nat) (d:D),(dC as bs)[i]? = some d->∃ a b,as[i]? = some a/\bs[i]? = some b/\d=.tuple [a,b]
 | [],_,i,d,h=>by simp[dC] at h
 | _::_,[],i,d,h=>by simp[dC] at h
 | a::as,b::bs,0,d,h=>by simp[dC] at h;exact⟨a,b,rfl,rfl,h.symm⟩
 | a::as,b::bs,i+1,d,h=>by
   obtain⟨x,y,h1,h2,h3⟩:=aBo as bs i d (by simpa [dC] using h)
   exact⟨x,y,by simpa using h1,by simpa using h2,h3⟩
theorem aRf{K:FrG}{F:Hp}{L:List Addr}{t u:Bool}{a b:Addr}{xs ys:List V}{ds es:List D}(sq1:Sq t K F a xs)(dl1:DenL K F ds xs)(sq2:Sq u K F b ys)(dl2:DenL K F es ys):Wk K F L (aDd K t u a b) (dC ds es) where
 go:=λ i H s hi=>by
  rw[wQ] at hi;have h1:i < xs.length:=by rw[<- dl1.length];omega
  have h2:i < ys.length:=by rw[<- dl2.length];omega
  exact⟨xs,xs[i],ys,ys[i],dB s sq1,by simp[h1],dB s sq2,by simp[h2]⟩
 stop:=λ H s=>⟨xs,ys,dB s sq1,dB s sq2,by rw[wQ,dl1.length,dl2.length]⟩
 yld:=λ i H F1 L1 S x H' d g R e y=>by
  obtain⟨p,x',y',hp,rfl,rfl,hx,hy⟩:=y;obtain⟨d1,d2,e1,e2,rfl⟩:=aBo ds es i d e;obtain⟨x1,e3,dx⟩:=dl1.get e1;obtain⟨y1,e4,dy⟩:=dl2.get e2;have q1:=hx xs (dB (g.f.trans R.sub) sq1);rw[q1] at e3;cases e3;have q2:=hy ys (dB (g.f.trans R.sub) sq2);rw[q2] at e4;cases e4;have hF:F1 p=none:=R.sub.free hp;exact⟨bB F1 p (.tup [x',y']),cQ hF,R.new hp,.tup (bS.of cV) (.cons (dx.mono (g.f.trans (cQ hF))) (.cons (dy.mono (g.f.trans (cQ hF))) .nil))⟩
end
section
variable {X : Cx}
noncomputable def nM:W->Option (List D)
 | .d (.list ds)=>some ds
 | .d (.tuple ds)=>some ds
 | _=>none
noncomputable def oX(fa fb:FE):FL:=λ env S=>(fa env S).bind λ p=>(fb env p.2).bind λ q=>(nM p.1).bind λ ds=>(nM q.1).bind λ es=>some (dC ds es,q.2)
theorem oH{K:FrG}{F:Hp}{L:List Addr}{w:W}{ds:List D}{v:V}(h:nM w=some ds)(d:eJ K F L w v):∃ t a xs,v=.ref a/\Sq t K F a xs/\DenL K F ds xs:=by
 unfold nM at h
 split at h
 ·cases h;cases (show Den K F (.list ds) v from d) with
  | lst sq dl=>exact⟨false,_,_,rfl,sq,dl⟩
 ·cases h;cases (show Den K F (.tuple ds) v from d) with
  | tup sq dl=>exact⟨true,_,_,rfl,sq,dl⟩
 ·cases h
theorem aTT{K:FrG}{fa fb:FE}(σ:L2.St)(H:Hp)(Rr:It->Hp->Prop)(h:hV K (oX fa fb) σ H Rr):aJx K (fN K (cN fa (cN fb gO))) σ H Rr:=by
 obtain⟨F,L,S,env,ds,S',R,E,e,q⟩:=h;obtain⟨⟨w1,S1⟩,e1,e⟩:=bind_some e;obtain⟨⟨w2,S2⟩,e2,e⟩:=bind_some e;obtain⟨ds1,e3,e⟩:=bind_some e;obtain⟨ds2,e4,e⟩:=bind_some e;dsimp only at e e2 e3 e4;cases e;refine⟨F,L,S,env,[w1,w2],S',R,E,by unfold cN;simp only[e1,e2,gO,Option.bind_some],λ F1 L1 H1 vs g1 R1 d1=>?_⟩
 cases d1 with
 | cons da dr =>
   cases dr with
   | cons db dn =>
     cases dn;obtain⟨t,a,xs,rfl,sq1,dl1⟩:=oH e3 da;obtain⟨u,b,ys,rfl,sq2,dl2⟩:=oH e4 db;exact⟨a,b,t,u,rfl,⟨xs,dB R1.sub sq1⟩,⟨ys,dB R1.sub sq2⟩,q F1 L1 H1 _ g1 R1 (aRf sq1 dl1 sq2 dl2)⟩
end
abbrev cM(h:Heap)(T:Addr)(a b c:Value):Prop:=h.get? T=some {cls:=.type "tuple",data:=.seq #[a,b,c] }
structure ZB(z TI TO i1 i2 i3:Addr)(cD cE fp3:List Addr):Prop where
 TIz:TI≠z
 TOz:TO≠z
 i1z:i1≠z
 i2z:i2≠z
 i3z:i3≠z
 TITO:TI≠TO
 TIi1:TI≠i1
 TIi2:TI≠i2
 TIi3:TI≠i3
 TOi1:TO≠i1
 TOi2:TO≠i2
 TOi3:TO≠i3
 f1:∀ b∈cD,b≠z/\b≠TO/\b≠i2/\b≠i3
 f2:∀ b∈cE,b≠z/\b≠TO/\b≠i1/\b≠i3
 f3:∀ b∈fp3,b≠z/\b≠TO/\b≠i1/\b≠i2
section
variable {prog : Program}{w : World}{A : Around}{E : Value -> Shared -> Prop}{s : Shared}
theorem sQ{T:Addr}{a b c x:Value}{k:Nat}{Q:Unit->Shared->Prop}(hT:cM s.heap T a b c)
 (h:∀ h',h'.get? T=some {cls:=.type "tuple",data:=.seq ((#[a,b,c]:Array Value).setIfInBounds k x) }->Heap.SameBut T s.heap h'->Q () {s with heap:=h' }) :
 wpAny (model prog w) A (updateSeq T (·.setIfInBounds k x)) Q E s:=by
 refine wpAny_updateSeq hT rfl (h _ ?_ (Heap.SameBut.update ..));rw[Heap.get?_update_self _ hT rfl];simp[Obj.mapSeq]
theorem aLE{z TI TO i1 i2 i3:Addr}{cD cE fp3:List Addr}{n1 n2 n3 k:Nat}{P1 P2 P3:Nat->Value->Prop}{bI bF St3:Nat->Heap->Prop}{a b c:Value}{Q:Value->Shared->Prop}
 (D1:Draws prog w A i1 cD n1 P1 bI) (D2:Draws prog w A i2 cE n2 P2 bF) (D3:Draws prog w A i3 fp3 n3 P3 St3) (Z:ZB z TI TO i1 i2 i3 cD cE fp3)
 (hz:IsZip s.heap z TI TO .none) (bO:cM s.heap TI (.ref i1) (.ref i2) (.ref i3)) (bT:cM s.heap TO a b c) (s1:bI k s.heap) (s2:bF k s.heap) (s3:St3 k s.heap) (k1:k < n1) (k2:k < n2) (k3:k < n3)
 (hQ:∀ x y u h' tk,P1 k x->P2 k y->P3 k u->IsZip h' z TI TO (rawInt s.heap.objs.size)->cM h' TO x y u->cM h' TI (.ref i1) (.ref i2) (.ref i3)->bI (k+1) h'->bF (k+1) h'->St3 (k+1) h'->cM h' s.heap.objs.size x y u->h'.objs.size=s.heap.objs.size+1 ->
   (∀ c o,c≠z->c≠TO->c≠i1->c≠i2->c≠i3->s.heap.get? c=some o->h'.get? c=some o)->Q (.ref s.heap.objs.size) {s with heap:=h',toks:=tk }) :
 wpAny (model prog w) A (Builtin.«zip.__next__» ⟨[.ref z],[]⟩) (λ bK s'=>∃ v,bK=.done (.ret v)/\Q v s') E s:=by
 show wpAny _ _ (field (.ref z) 2 >>= _) _ _ _;refine wB (wpAny_field hz rfl (x:=.bool false) rfl ?_);show wpAny _ _ (field (.ref z) 3 >>= _) _ _ _;refine wB (wpAny_field hz rfl (x:=.ref TI) rfl ?_);refine wB (wpAny_seqItems bO rfl ?_);show wpAny _ _ (Builtin.SmallTypes.ownedTupleIsFree (.ref z) >>= _) _ _ _;refine wB ?_;unfold Builtin.SmallTypes.ownedTupleIsFree;refine wB (wpAny_field hz rfl (x:=.none) rfl (wP ?_));simp only[if_true];refine wB (wpAny_rule ?_);refine wB (wpAny_field hz rfl (x:=.ref TO) rfl ?_);refine wB (wpAny_setField_rec hz (by simp) λ h₁ hz₁ hs₁=>?_)
 replace hz₁:IsZip h₁ z TI TO .ellipsis:=hz₁
 refine wB ?_;simp only[List.zipIdx_cons,List.zipIdx_nil,List.forIn_cons,List.forIn_nil];have s11:bI k h₁:=D1.frame k _ _ s1 λ c hc o e=>hs₁.extBut _ _ (Z.f1 c hc).1 e
 have s21:bF k h₁:=D2.frame k _ _ s2 λ c hc o e=>hs₁.extBut _ _ (Z.f2 c hc).1 e
 have s31:St3 k h₁:=D3.frame k _ _ s3 λ c hc o e=>hs₁.extBut _ _ (Z.f3 c hc).1 e
 refine wB (wB (wpAny_onRaise ?_));show wpAny _ _ (Builtin.SmallTypes.nextOf (.ref i1) >>= _) _ _ _;refine wB (D1.item k _ _ _ k1 s11 λ x h₂ tk₂ px s12 hs₂=>wP ?_)
 have s22:bF k h₂:=D2.frame k _ _ s21 λ c hc o e=>hs₂.extBut _ _ (Z.f2 c hc).2.2.1 e
 have s32:St3 k h₂:=D3.frame k _ _ s31 λ c hc o e=>hs₂.extBut _ _ (Z.f3 c hc).2.2.1 e
 have hTO₂:cM h₂ TO a b c:=hs₂.extBut _ _ Z.TOi1 (hs₁.extBut _ _ Z.TOz bT);refine wB (wpAny_seqItems hTO₂ rfl ?_);refine wB (sQ hTO₂ λ h₃ hTO₃ hs₃=>?_)
 replace hTO₃:cM h₃ TO x b c:=hTO₃
 have s13:bI (k+1) h₃:=D1.frame _ _ _ s12 λ c hc o e=>hs₃.extBut _ _ (Z.f1 c hc).2.1 e
 have s23:bF k h₃:=D2.frame k _ _ s22 λ c hc o e=>hs₃.extBut _ _ (Z.f2 c hc).2.1 e
 have s33:St3 k h₃:=D3.frame k _ _ s32 λ c hc o e=>hs₃.extBut _ _ (Z.f3 c hc).2.1 e
 refine wB (wpAny_letGo (wP ?_));refine wB (wB (wpAny_onRaise ?_));show wpAny _ _ (Builtin.SmallTypes.nextOf (.ref i2) >>= _) _ _ _;refine wB (D2.item k _ _ _ k2 s23 λ y h₄ tk₄ py s24 hs₄=>wP ?_)
 have s14:bI (k+1) h₄:=D1.frame _ _ _ s13 λ c hc o e=>hs₄.extBut _ _ (Z.f1 c hc).2.2.1 e
 have s34:St3 k h₄:=D3.frame _ _ _ s33 λ c hc o e=>hs₄.extBut _ _ (Z.f3 c hc).2.2.2 e
 have hTO₄:cM h₄ TO x b c:=hs₄.extBut _ _ Z.TOi2 hTO₃;refine wB (wpAny_seqItems hTO₄ rfl ?_);refine wB (sQ hTO₄ λ h₅ hTO₅ hs₅=>?_)
 replace hTO₅:cM h₅ TO x y c:=hTO₅
 have s15:bI (k+1) h₅:=D1.frame _ _ _ s14 λ c hc o e=>hs₅.extBut _ _ (Z.f1 c hc).2.1 e
 have s25:bF (k+1) h₅:=D2.frame _ _ _ s24 λ c hc o e=>hs₅.extBut _ _ (Z.f2 c hc).2.1 e
 have s35:St3 k h₅:=D3.frame _ _ _ s34 λ c hc o e=>hs₅.extBut _ _ (Z.f3 c hc).2.1 e
 refine wB (wpAny_letGo (wP ?_));refine wB (wB (wpAny_onRaise ?_));show wpAny _ _ (Builtin.SmallTypes.nextOf (.ref i3) >>= _) _ _ _;refine wB (D3.item k _ _ _ k3 s35 λ u h₆ tk₆ pu s36 hs₆=>wP ?_)
 have s16:bI (k+1) h₆:=D1.frame _ _ _ s15 λ c hc o e=>hs₆.extBut _ _ (Z.f1 c hc).2.2.2 e
 have s26:bF (k+1) h₆:=D2.frame _ _ _ s25 λ c hc o e=>hs₆.extBut _ _ (Z.f2 c hc).2.2.2 e
 have hTO₆:cM h₆ TO x y c:=hs₆.extBut _ _ Z.TOi3 hTO₅;refine wB (wpAny_seqItems hTO₆ rfl ?_);refine wB (sQ hTO₆ λ h₇ hTO₇ hs₇=>?_)
 replace hTO₇:cM h₇ TO x y u:=hTO₇
 have s17:bI (k+1) h₇:=D1.frame _ _ _ s16 λ c hc o e=>hs₇.extBut _ _ (Z.f1 c hc).2.1 e
 have s27:bF (k+1) h₇:=D2.frame _ _ _ s26 λ c hc o e=>hs₇.extBut _ _ (Z.f2 c hc).2.1 e
 have s37:St3 (k+1) h₇:=D3.frame _ _ _ s36 λ c hc o e=>hs₇.extBut _ _ (Z.f3 c hc).2.1 e
 refine wB (wpAny_letGo (wP (wP ?_)));refine wB (wpAny_seqItems hTO₇ rfl ?_);refine wB (wpAny_newTuple ?_);have hsz:h₇.objs.size=s.heap.objs.size:=by rw[hs₇.1,hs₆.1,hs₅.1,hs₄.1,hs₃.1,hs₂.1,hs₁.1]
 have hz₇:IsZip h₇ z TI TO .ellipsis:=hs₇.extBut _ _ Z.TOz.symm (hs₆.extBut _ _ Z.i3z.symm (hs₅.extBut _ _ Z.TOz.symm (hs₄.extBut _ _ Z.i2z.symm (hs₃.extBut _ _ Z.TOz.symm (hs₂.extBut _ _ Z.i1z.symm hz₁)))));have hk₇:∀ c o,c≠z->c≠TO->c≠i1->c≠i2->c≠i3->s.heap.get? c=some o->h₇.get? c=some o:=λ c o c1 c2 c3 c4 c5 e =>
  hs₇.extBut _ _ c2 (hs₆.extBut _ _ c5 (hs₅.extBut _ _ c2 (hs₄.extBut _ _ c4 (hs₃.extBut _ _ c2 (hs₂.extBut _ _ c3 (hs₁.extBut _ _ c1 e))))))
 have hzlt:z < h₇.objs.size:=xAa hz₇;show wpAny _ _ (Builtin.SmallTypes.ownedTupleHandOut (.ref z) (.ref h₇.objs.size) >>= _) _ _ _;refine wB ?_;unfold Builtin.SmallTypes.ownedTupleHandOut;have hz₈:IsZip (h₇.push {cls:=.type "tuple",data:=.seq #[x,y,u] }) z TI TO .ellipsis:=hpS _ hz₇;refine wB (wpAny_setField_rec hz₈ (by simp) λ g₇ hz₉ hs₉=>?_)
 replace hz₉:IsZip g₇ z TI TO (rawInt h₇.objs.size):=hz₉
 refine wpAny_setField_rec hz₉ (by simp) λ g₈ hg₈ hs₈=>?_
 replace hg₈:IsZip g₈ z TI TO (rawInt h₇.objs.size):=hg₈
 have up:∀ c o,c≠z->h₇.get? c=some o->g₈.get? c=some o:=λ c o c1 e=>hs₈.extBut _ _ c1 (hs₉.extBut _ _ c1 (hpS _ e))
 have hT₈:cM g₈ h₇.objs.size x y u:=hs₈.extBut _ _ (Nat.ne_of_gt hzlt) (hs₉.extBut _ _ (Nat.ne_of_gt hzlt) (xAe _ rfl));have hz8:g₈.objs.size=h₇.objs.size+1:=by rw[hs₈.1,hs₉.1,Heap.size_push]
 rw[hsz] at hg₈ hT₈ hz8;refine wP ⟨_,rfl,?_⟩;show Q (.ref h₇.objs.size) _;rw[hsz];exact hQ x y u g₈ _ px py pu hg₈ (up _ _ Z.TOz hTO₇) (up _ _ Z.TIz (hk₇ _ _ Z.TIz Z.TITO Z.TIi1 Z.TIi2 Z.TIi3 bO)) (D1.frame _ _ _ s17 λ c hc o e=>up c o (Z.f1 c hc).1 e) (D2.frame _ _ _ s27 λ c hc o e=>up c o (Z.f2 c hc).1 e) (D3.frame _ _ _ s37 λ c hc o e=>up c o (Z.f3 c hc).1 e) hT₈ hz8 λ c o c1 c2 c3 c4 c5 e=>up c o c1 (hk₇ c o c1 c2 c3 c4 c5 e)
theorem aME{z TI TO i1 i2 i3:Addr}{cD cE fp3:List Addr}{n1 n2 n3 k:Nat}{P1 P2 P3:Nat->Value->Prop}{bI bF St3:Nat->Heap->Prop}{a b c:Value}{Q:Fin->Shared->Prop}
 (D1:Draws prog w A i1 cD n1 P1 bI) (D2:Draws prog w A i2 cE n2 P2 bF) (D3:Draws prog w A i3 fp3 n3 P3 St3) (Z:ZB z TI TO i1 i2 i3 cD cE fp3)
 (hz:IsZip s.heap z TI TO .none) (bO:cM s.heap TI (.ref i1) (.ref i2) (.ref i3)) (bT:cM s.heap TO a b c) (s1:bI k s.heap) (s2:bF k s.heap) (s3:St3 k s.heap) (hend:k=n1\/(k < n1/\k=n2)\/(k < n1/\k < n2/\k=n3))
 (hE:∀ h' tk e,(∀ c o,c≠z->c≠TO->c≠i1->c≠i2->c≠i3->s.heap.get? c=some o->h'.get? c=some o)->(∃ o,h'.get? e=some o/\o.cls=.type "StopIteration")->E (.ref e) {s with heap:=h',toks:=tk }) :
 wpAny (model prog w) A (Builtin.«zip.__next__» ⟨[.ref z],[]⟩) Q E s:=by
 show wpAny _ _ (field (.ref z) 2 >>= _) _ _ _;refine wB (wpAny_field hz rfl (x:=.bool false) rfl ?_);show wpAny _ _ (field (.ref z) 3 >>= _) _ _ _;refine wB (wpAny_field hz rfl (x:=.ref TI) rfl ?_);refine wB (wpAny_seqItems bO rfl ?_);show wpAny _ _ (Builtin.SmallTypes.ownedTupleIsFree (.ref z) >>= _) _ _ _;refine wB ?_;unfold Builtin.SmallTypes.ownedTupleIsFree;refine wB (wpAny_field hz rfl (x:=.none) rfl (wP ?_));simp only[if_true];refine wB (wpAny_rule ?_);refine wB (wpAny_field hz rfl (x:=.ref TO) rfl ?_);refine wB (wpAny_setField_rec hz (by simp) λ h₁ hz₁ hs₁=>?_)
 replace hz₁:IsZip h₁ z TI TO .ellipsis:=hz₁
 refine wB ?_;simp only[List.zipIdx_cons,List.zipIdx_nil,List.forIn_cons,List.forIn_nil];have s11:bI k h₁:=D1.frame k _ _ s1 λ c hc o e=>hs₁.extBut _ _ (Z.f1 c hc).1 e
 have s21:bF k h₁:=D2.frame k _ _ s2 λ c hc o e=>hs₁.extBut _ _ (Z.f2 c hc).1 e
 have s31:St3 k h₁:=D3.frame k _ _ s3 λ c hc o e=>hs₁.extBut _ _ (Z.f3 c hc).1 e
 refine wB (wB (wpAny_onRaise ?_));show wpAny _ _ (Builtin.SmallTypes.nextOf (.ref i1) >>= _) _ _ _
 by_cases e1:k=n1
 ·subst e1;refine wB (D1.done _ _ _ s11 λ h₂ e hs₂ he=>?_)
  obtain⟨oe,hoe,hce⟩:=he;have hz₂:IsZip h₂ z TI TO .ellipsis:=hs₂ _ _ Z.i1z.symm hz₁;have hez:e≠z:=λ x=>by subst x;rw[hz₂] at hoe;cases hoe;simp at hce
  exact wpAny_setField_rec hz₂ (by simp) λ h₃ _ hs₃=>hE h₃ _ e (λ c o c1 _ c3 _ _ x=>hs₃.extBut _ _ c1 (hs₂ _ _ c3 (hs₁.extBut _ _ c1 x))) ⟨oe,hs₃.extBut _ _ hez hoe,hce⟩
 have k1:k < n1:=by
  rcases hend with q | ⟨q,_⟩ | ⟨q,_⟩
  ·exact absurd q e1
  ·exact q
  ·exact q
 refine wB (D1.item k _ _ _ k1 s11 λ x h₂ tk₂ px s12 hs₂=>wP ?_)
 have s22:bF k h₂:=D2.frame k _ _ s21 λ c hc o e=>hs₂.extBut _ _ (Z.f2 c hc).2.2.1 e
 have s32:St3 k h₂:=D3.frame k _ _ s31 λ c hc o e=>hs₂.extBut _ _ (Z.f3 c hc).2.2.1 e
 have hTO₂:cM h₂ TO a b c:=hs₂.extBut _ _ Z.TOi1 (hs₁.extBut _ _ Z.TOz bT);refine wB (wpAny_seqItems hTO₂ rfl ?_);refine wB (sQ hTO₂ λ h₃ hTO₃ hs₃=>?_)
 replace hTO₃:cM h₃ TO x b c:=hTO₃
 have s23:bF k h₃:=D2.frame k _ _ s22 λ c hc o e=>hs₃.extBut _ _ (Z.f2 c hc).2.1 e
 have s33:St3 k h₃:=D3.frame k _ _ s32 λ c hc o e=>hs₃.extBut _ _ (Z.f3 c hc).2.1 e
 have hz₃:IsZip h₃ z TI TO .ellipsis:=hs₃.extBut _ _ Z.TOz.symm (hs₂.extBut _ _ Z.i1z.symm hz₁);have kp₃:∀ c o,c≠z->c≠TO->c≠i1->s.heap.get? c=some o->h₃.get? c=some o:=λ c o c1 c2 c3 x=>hs₃.extBut _ _ c2 (hs₂.extBut _ _ c3 (hs₁.extBut _ _ c1 x))
 refine wB (wpAny_letGo (wP ?_));refine wB (wB (wpAny_onRaise ?_));show wpAny _ _ (Builtin.SmallTypes.nextOf (.ref i2) >>= _) _ _ _
 by_cases e2:k=n2
 ·subst e2;refine wB (D2.done _ _ _ s23 λ h₄ e hs₄ he=>?_)
  obtain⟨oe,hoe,hce⟩:=he;have hz₄:IsZip h₄ z TI TO .ellipsis:=hs₄ _ _ Z.i2z.symm hz₃;have hez:e≠z:=λ x=>by subst x;rw[hz₄] at hoe;cases hoe;simp at hce
  exact wpAny_setField_rec hz₄ (by simp) λ h₅ _ hs₅=>hE h₅ _ e (λ c o c1 c2 c3 c4 _ x=>hs₅.extBut _ _ c1 (hs₄ _ _ c4 (kp₃ c o c1 c2 c3 x))) ⟨oe,hs₅.extBut _ _ hez hoe,hce⟩
 have k2:k < n2/\k=n3:=by
  rcases hend with q | ⟨_,q⟩ | ⟨_,q⟩
  ·exact absurd q e1
  ·exact absurd q e2
  ·exact q
 obtain⟨k2,rfl⟩:=k2;refine wB (D2.item k _ _ _ k2 s23 λ y h₄ tk₄ py s24 hs₄=>wP ?_)
 have s34:St3 k h₄:=D3.frame _ _ _ s33 λ c hc o e=>hs₄.extBut _ _ (Z.f3 c hc).2.2.2 e
 have hTO₄:cM h₄ TO x b c:=hs₄.extBut _ _ Z.TOi2 hTO₃;refine wB (wpAny_seqItems hTO₄ rfl ?_);refine wB (sQ hTO₄ λ h₅ hTO₅ hs₅=>?_)
 have s35:St3 k h₅:=D3.frame _ _ _ s34 λ c hc o e=>hs₅.extBut _ _ (Z.f3 c hc).2.1 e
 refine wB (wpAny_letGo (wP ?_));refine wB (wB (wpAny_onRaise ?_));show wpAny _ _ (Builtin.SmallTypes.nextOf (.ref i3) >>= _) _ _ _;refine wB (D3.done _ _ _ s35 λ h₆ e hs₆ he=>?_)
 obtain⟨oe,hoe,hce⟩:=he;have hz₆:IsZip h₆ z TI TO .ellipsis:=hs₆ _ _ Z.i3z.symm (hs₅.extBut _ _ Z.TOz.symm (hs₄.extBut _ _ Z.i2z.symm hz₃));have hez:e≠z:=λ x=>by subst x;rw[hz₆] at hoe;cases hoe;simp at hce
 exact wpAny_setField_rec hz₆ (by simp) λ h₇ _ hs₇=>hE h₇ _ e (λ c o c1 c2 c3 c4 c5 x=>hs₇.extBut _ _ c1 (hs₆ _ _ c5 (hs₅.extBut _ _ c2 (hs₄.extBut _ _ c4 (kp₃ c o c1 c2 c3 x))))) ⟨oe,hs₇.extBut _ _ hez hoe,hce⟩
theorem aKg{z TI TO i1 i2 i3:Addr}{cD cE fp3:List Addr}{n1 n2 n3 k:Nat}{P1 P2 P3:Nat->Value->Prop}{bI bF St3:Nat->Heap->Prop}{a b c:Value}{Q:Option Value->Shared->Prop}
 (D1:Draws prog w A.in1 i1 cD n1 P1 bI) (D2:Draws prog w A.in1 i2 cE n2 P2 bF) (D3:Draws prog w A.in1 i3 fp3 n3 P3 St3) (Z:ZB z TI TO i1 i2 i3 cD cE fp3)
 (hz:IsZip s.heap z TI TO .none) (bO:cM s.heap TI (.ref i1) (.ref i2) (.ref i3)) (bT:cM s.heap TO a b c) (s1:bI k s.heap) (s2:bF k s.heap) (s3:St3 k s.heap) (k1:k < n1) (k2:k < n2) (k3:k < n3)
 (hQ:∀ x y u h' tk,P1 k x->P2 k y->P3 k u->IsZip h' z TI TO (rawInt s.heap.objs.size)->cM h' TO x y u->cM h' TI (.ref i1) (.ref i2) (.ref i3)->bI (k+1) h'->bF (k+1) h'->St3 (k+1) h'->cM h' s.heap.objs.size x y u->h'.objs.size=s.heap.objs.size+1 ->
   (∀ c o,c≠z->c≠TO->c≠i1->c≠i2->c≠i3->s.heap.get? c=some o->h'.get? c=some o)->Q (some (.ref s.heap.objs.size)) {s with heap:=h',toks:=tk }) :
 wpAny (model prog w) A (pyNext (.ref z)) Q E s:=by
 have hT:s.TypeIs (.ref z) "zip":=⟨_,hz,rfl⟩;unfold pyNext;exact wB (wpAny_attempt (wpAny_callSpecial?_slot (name:=Str.ofString "__next__") hT F.slot_zip_next
  (wpAny_call_entry F.slot_zip_next hT F.entry_zip_next
    (aLE D1 D2 D3 Z hz bO bT s1 s2 s3 k1 k2 k3 λ x y u h' tk a0 b0 c0 a1 a2 a3 a4 a5 a6 a7 a8 a9=>wP (hQ x y u h' tk a0 b0 c0 a1 a2 a3 a4 a5 a6 a7 a8 a9)) (F.args_zip_next_1 _))))
theorem aKn{z TI TO i1 i2 i3:Addr}{cD cE fp3:List Addr}{n1 n2 n3 k:Nat}{P1 P2 P3:Nat->Value->Prop}{bI bF St3:Nat->Heap->Prop}{a b c:Value}{Q:Option Value->Shared->Prop}
 (D1:Draws prog w A.in1 i1 cD n1 P1 bI) (D2:Draws prog w A.in1 i2 cE n2 P2 bF) (D3:Draws prog w A.in1 i3 fp3 n3 P3 St3) (Z:ZB z TI TO i1 i2 i3 cD cE fp3)
 (hz:IsZip s.heap z TI TO .none) (bO:cM s.heap TI (.ref i1) (.ref i2) (.ref i3)) (bT:cM s.heap TO a b c) (s1:bI k s.heap) (s2:bF k s.heap) (s3:St3 k s.heap) (hend:k=n1\/(k < n1/\k=n2)\/(k < n1/\k < n2/\k=n3))
 (hQ:∀ h' tk,(∀ c o,c≠z->c≠TO->c≠i1->c≠i2->c≠i3->s.heap.get? c=some o->h'.get? c=some o)->Q none {s with heap:=h',toks:=tk }):wpAny (model prog w) A (pyNext (.ref z)) Q E s:=by
 have hT:s.TypeIs (.ref z) "zip":=⟨_,hz,rfl⟩;unfold pyNext;refine wB (wpAny_attempt (wpAny_callSpecial?_slot (name:=Str.ofString "__next__") hT F.slot_zip_next
  (wpAny_call_entry F.slot_zip_next hT F.entry_zip_next (aME D1 D2 D3 Z hz bO bT s1 s2 s3 hend λ h' tk e hk he=>?_) (F.args_zip_next_1 _))))
 obtain⟨o,ho,hc⟩:=he;refine wB (wpAny_isInstance (T:="StopIteration") (b:=true) ⟨o,ho,hc⟩ isSubtype_stop ?_);exact wP (hQ _ _ hk)
end
noncomputable def aCL(K:FrG)(t u v:Bool)(a b c:Addr):It:=
 ⟨λ i H=>∃ xs x ys y zs z,Sq t K H a xs/\xs[i]? = some x/\Sq u K H b ys/\ys[i]? = some y/\Sq v K H c zs/\zs[i]? = some z,
  λ i H r H'=>∃ p x y z,H p=none/\H'=bB H p (.tup [x,y,z])/\r=.ref p/\(∀ xs,Sq t K H a xs->xs[i]? = some x)/\(∀ ys,Sq u K H b ys->ys[i]? = some y)/\∀ zs,Sq v K H c zs->zs[i]? = some z,
  λ i H=>∃ xs ys zs,Sq t K H a xs/\Sq u K H b ys/\Sq v K H c zs/\i=min xs.length (min ys.length zs.length)⟩
theorem aLI{P:Program}{w:World}{K:FrG}{elts:List Expr}{k:Nat}{pos:Pos}(t u v:Bool)(a b c z TI TO i1 i2 i3:Addr)(Z:ZB z TI TO i1 i2 i3 [i1,a] [i2,b] [i3,c])(h1:a≠i1)(h2:b≠i2)(h3:c≠i3) :
 Turn P w K (.Tuple elts k pos) (aCL K t u v a b c) [z,TI,TO,i1,i2,i3] z (λ i h=>IsZip h z TI TO .none/\cM h TI (.ref i1) (.ref i2) (.ref i3)/\(∃ x y z,cM h TO x y z)/\dE t h i1 a i/\dE u h i2 b i/\dE v h i3 c i) where
 mem:=xAd
 obj:=λ i h ⟨hz,bO,⟨x,y,_,bT⟩,hi1,hi2,hi3⟩=>eC ⟨_,hz,λ v=>by intro z;cases z⟩ (eC ⟨_,bO,λ v=>by intro z;cases z⟩ (eC ⟨_,bT,λ v=>by intro z;cases z⟩ (eC hi1.obj (eC hi2.obj (eC hi3.obj aln)))))
 keep:=λ i h h' ⟨hz,bO,⟨x,y,z',bT⟩,hi1,hi2,hi3⟩ q=>⟨q z xAd _ hz,q TI (mT xAd) _ bO,⟨x,y,z',q TO (mT (mT xAd)) _ bT⟩,hi1.at λ o e=>q i1 (mT (mT (mT xAd))) o e,hi2.at λ o e=>q i2 (mT (mT (mT (mT xAd)))) o e,hi3.at λ o e=>q i3 (mT (mT (mT (mT (mT xAd))))) o e⟩
 item:=λ X hP hW hK hc i aB s σ H E I hf aP gS=>by
  obtain⟨hz,bO,⟨x0,y0,z0,bT⟩,hi1,hi2,hi3⟩:=aP;obtain⟨xs,x,ys,y,zs,zz,sq1,hx,sq2,hy,sq3,hzz⟩:=gS;subst hP hW hK;have hh:X.A.in1.handled=none:=I.ok.hd hc;obtain⟨dI,rv1,pl1⟩:=eI I sq1;obtain⟨cP,rv2,pl2⟩:=eI I sq2;obtain⟨its3,rv3,pl3⟩:=eI I sq3;obtain⟨u1,hu1,ru1⟩:=rv1.get hx;obtain⟨u2,hu2,ru2⟩:=rv2.get hy;obtain⟨u3,hu3,ru3⟩:=rv3.get hzz;have lt1:i < dI.toArray.size:=by rw[List.size_toArray];exact(gIm hu1).1
  have lt2:i < cP.toArray.size:=by rw[List.size_toArray];exact(gIm hu2).1
  have lt3:i < its3.toArray.size:=by rw[List.size_toArray];exact(gIm hu3).1
  refine aKg (gT (prog:=X.prog) (w:=X.w) hh t i1 a h1 dI.toArray) (gT (prog:=X.prog) (w:=X.w) hh u i2 b h2 cP.toArray) (gT (prog:=X.prog) (w:=X.w) hh v i3 c h3 its3.toArray) Z hz bO bT ⟨hi1,pl1⟩ ⟨hi2,pl2⟩ ⟨hi3,pl3⟩ lt1 lt2 lt3 λ x' y' z' h₁ tk px py pz hz₁ hTO₁ hTI₁ s1 s2 s3 hT₁ hsz hk=>⟨_,rfl,?_⟩
  have ex:x'=u1:=by rw[List.getElem?_toArray,hu1] at px;exact(Option.some.inj px).symm
  have ey:y'=u2:=by rw[List.getElem?_toArray,hu2] at py;exact(Option.some.inj py).symm
  have ez:z'=u3:=by rw[List.getElem?_toArray,hu3] at pz;exact(Option.some.inj pz).symm
  subst ex ey ez;have zLt:z < s.heap.objs.size:=xAa hz;refine wpAny_letOwnedTupleGo_zip hz₁ λ h₂ hz₂ hs₂=>?_
  have hs2:Heap.SameBut z h₁ h₂:=hs₂;have ht₂:cM h₂ s.heap.objs.size x' y' z':=hs2.extBut _ _ (Nat.ne_of_gt zLt) hT₁;have I2:Inv X aB σ (bB H s.heap.objs.size (.tup [x,y,zz])) {s with heap:=h₂,toks:=tk }:=by
   refine sH I hf (λ c o hb e'=>?_) (Nat.le_refl _) ⟨by show 3<=sizeLine;decide,[x',y',z'],.cons ru1 (.cons ru2 (.cons ru3 .nil)),⟨_,ht₂,rfl,0,rfl⟩⟩
   exact hs2.extBut c o (eP hb) (hk c o (eP hb) (eP (bQ (bQ hb))) (eP (bQ (bQ (bQ hb)))) (eP (bQ (bQ (bQ (bQ hb))))) (eP (bQ (bQ (bQ (bQ (bQ hb)))))) e')
  refine⟨.ref s.heap.objs.size,_,I2,rfl,⟨s.heap.objs.size,x,y,zz,I.fresh,rfl,rfl,λ zs hy=>by rw[tW I hy sq1];exact hx,λ zs hz=>by rw[tW I hz sq2];exact hy,λ zs hz=>by rw[tW I hz sq3];exact hzz⟩,⟨hz₂,hs2.extBut _ _ Z.TIz hTI₁,⟨_,_,_,hs2.extBut _ _ Z.TOz hTO₁⟩,s1.1.at λ o e=>hs2.extBut _ _ Z.i1z e,s2.1.at λ o e=>hs2.extBut _ _ Z.i2z e,s3.1.at λ o e=>hs2.extBut _ _ Z.i3z e⟩,λ c hb=>?_⟩
  have:c < s.heap.objs.size:=eC (P:=λ c=>c < s.heap.objs.size) zLt (eC (xAa bO) (eC (xAa bT) (eC (let ⟨_,ho,_⟩:=hi1.obj;xAa ho) (eC (let ⟨_,ho,_⟩:=hi2.obj;xAa ho) (eC (let ⟨_,ho,_⟩:=hi3.obj;xAa ho) aln))))) c hb
  rw[bJ (xAk this)];exact(hf c hb).1
 done:=λ X hP hW hK hc i aB s σ H E I hf aP gS=>by
  obtain⟨hz,bO,⟨x0,y0,z0,bT⟩,hi1,hi2,hi3⟩:=aP;obtain⟨xs,ys,zs,sq1,sq2,sq3,hi⟩:=gS;subst hP hW hK;have hh:X.A.in1.handled=none:=I.ok.hd hc;obtain⟨dI,rv1,pl1⟩:=eI I sq1;obtain⟨cP,rv2,pl2⟩:=eI I sq2;obtain⟨its3,rv3,pl3⟩:=eI I sq3;have l1:=rv1.length;have l2:=rv2.length;have l3:=rv3.length;have hend:i=dI.toArray.size\/(i < dI.toArray.size/\i=cP.toArray.size)\/(i < dI.toArray.size/\i < cP.toArray.size/\i=its3.toArray.size):=by
   rw[List.size_toArray,List.size_toArray,List.size_toArray];omega
  refine aKn (gT (prog:=X.prog) (w:=X.w) hh t i1 a h1 dI.toArray) (gT (prog:=X.prog) (w:=X.w) hh u i2 b h2 cP.toArray) (gT (prog:=X.prog) (w:=X.w) hh v i3 c h3 its3.toArray) Z hz bO bT ⟨hi1,pl1⟩ ⟨hi2,pl2⟩ ⟨hi3,pl3⟩ hend λ h₁ tk hk=>⟨rfl,?_⟩
  exact aA4 I hf λ c o hb e'=>hk c o (eP hb) (eP (bQ (bQ hb))) (eP (bQ (bQ (bQ hb)))) (eP (bQ (bQ (bQ (bQ hb))))) (eP (bQ (bQ (bQ (bQ (bQ hb)))))) e'
 self:=λ A i s Q E ⟨hz,_⟩ hq=>wpAny_pyIter_zip hz hq
section
variable {prog : Program}{w : World}{A : Around}{E : Value -> Shared -> Prop}{s : Shared}
noncomputable abbrev vT(h:Heap)(t:Bool)(l1:Addr):Heap:=h.push {cls:=.type (qG t),data:=.fields #[.ref l1,.int 0 0] }
noncomputable abbrev vV(h:Heap)(t u:Bool)(l1 l2:Addr):Heap:=(vT h t l1).push {cls:=.type (qG u),data:=.fields #[.ref l2,.int 0 0] }
noncomputable abbrev yH3(h:Heap)(t u v:Bool)(l1 l2 l3:Addr):Heap:=(vV h t u l1 l2).push {cls:=.type (qG v),data:=.fields #[.ref l3,.int 0 0] }
noncomputable abbrev yH4(h:Heap)(t u v:Bool)(l1 l2 l3:Addr):Heap:=(yH3 h t u v l1 l2 l3).push {cls:=.type "tuple",data:=.seq #[.ref h.objs.size,.ref (vT h t l1).objs.size,.ref (vV h t u l1 l2).objs.size] }
noncomputable abbrev yH5(h:Heap)(t u v:Bool)(l1 l2 l3:Addr):Heap:=(yH4 h t u v l1 l2 l3).push {cls:=.type "tuple",data:=.seq #[.none,.none,.none] }
noncomputable abbrev jX(h:Heap)(t u v:Bool)(l1 l2 l3:Addr):Heap:=(yH5 h t u v l1 l2 l3).push {cls:=.type "zip",data:=.fields #[.none,.bool false,.bool false,.ref (yH3 h t u v l1 l2 l3).objs.size,.ref (yH4 h t u v l1 l2 l3).objs.size] }
theorem aKS(t u v:Bool)(l1 l2 l3:Addr)(xs ys zs:Array Value) :
 Meets (Builtin.«zip.__new__» ⟨[.type "zip",.ref l1,.ref l2,.ref l3],[]⟩) (λ _ R s=>cW t s.heap l1 xs/\cW u s.heap l2 ys/\cW v s.heap l3 zs /\
  R (.ok (.ret (.ref (yH5 s.heap t u v l1 l2 l3).objs.size))) {s with heap:=jX s.heap t u v l1 l2 l3 }):=
 .of_wp λ prog w A R s h=>by
  obtain⟨hp,g,d,tk,os⟩:=s;obtain⟨hl1,hl2,hl3,h⟩:=h;have hsub:=sub_zip;have hL1:cW t (Shared.heap ⟨hp,g,d,tk,os⟩) l1 xs:=hl1;have hL2:cW u (Shared.heap ⟨vT hp t l1,g,d,tk,os⟩) l2 ys:=cW.push hl2 _;have hL3:cW v (Shared.heap ⟨vV hp t u l1 l2,g,d,tk,os⟩) l3 zs:=cW.push (cW.push hl3 _) _
  wp_walk using sL hL1,sL hL2,sL hL3
  exact⟨_,rfl,h⟩
theorem aOK(a b c:Value):checkTypeCall "zip" ⟨[a,b,c],[]⟩=pure ():=by kernel_rfl
theorem aN3(a b c:Value):checkBuiltinCall "zip.__new__" ⟨[.type "zip",a,b,c],[]⟩=pure ():=by kernel_rfl
theorem aM1(a b c d:Value):argsOk "object.__init__" ⟨[a,b,c,d],[]⟩:=by
 unfold argsOk;rw[signature?_of (id:="object.__init__") (n:=['_','_','t','i','n','i','_','_']) (o:=['t','c','e','j','b','o']) (by kernel_rfl) F.owner_object];kernel_rfl
theorem aLv{t u v:Bool}{l1 l2 l3:Addr}{xs ys zs:Array Value}{Q:Value->Shared->Prop}(hl1:cW t s.heap l1 xs)(hl2:cW u s.heap l2 ys)(hl3:cW v s.heap l3 zs)
 (h:∀ h',IsZip h' (s.heap.objs.size+5) (s.heap.objs.size+3) (s.heap.objs.size+4) .none->cM h' (s.heap.objs.size+3) (.ref s.heap.objs.size) (.ref (s.heap.objs.size+1)) (.ref (s.heap.objs.size+2)) ->
   cM h' (s.heap.objs.size+4) .none .none .none->dE t h' s.heap.objs.size l1 0->dE u h' (s.heap.objs.size+1) l2 0->dE v h' (s.heap.objs.size+2) l3 0->h'.objs.size=s.heap.objs.size+6 ->
   (∀ c o,s.heap.get? c=some o->h'.get? c=some o)->Q (.ref (s.heap.objs.size+5)) {s with heap:=h' }) :
 wpAny (model prog w) A (call (.type "zip") [.ref l1,.ref l2,.ref l3]) Q E s:=by
 refine callType_new F.called_zip (by decide) (aOK _ _ _) (aN3 _ _ _) (λ obj=>aM1 obj _ _ _) F.entry_zip_new
  (aKS t u v l1 l2 l3 xs ys zs) ⟨hl1,hl2,hl3,?_⟩
 have z1:(vT s.heap t l1).objs.size=s.heap.objs.size+1:=Heap.size_push ..;have z2:(vV s.heap t u l1 l2).objs.size=s.heap.objs.size+2:=by rw[Heap.size_push,z1]
 have z3:(yH3 s.heap t u v l1 l2 l3).objs.size=s.heap.objs.size+3:=by rw[Heap.size_push,z2]
 have z4:(yH4 s.heap t u v l1 l2 l3).objs.size=s.heap.objs.size+4:=by rw[Heap.size_push,z3]
 have z5:(yH5 s.heap t u v l1 l2 l3).objs.size=s.heap.objs.size+5:=by rw[Heap.size_push,z4]
 have z6:(jX s.heap t u v l1 l2 l3).objs.size=s.heap.objs.size+6:=by rw[Heap.size_push,z5]
 have g6:(jX s.heap t u v l1 l2 l3).get? (yH5 s.heap t u v l1 l2 l3).objs.size=some _:=xAe _ rfl;have g5:(jX s.heap t u v l1 l2 l3).get? (yH4 s.heap t u v l1 l2 l3).objs.size=some _:=hpS _ (xAe _ rfl);have g4:(jX s.heap t u v l1 l2 l3).get? (yH3 s.heap t u v l1 l2 l3).objs.size=some _:=hpS _ (hpS _ (xAe _ rfl));have g3:(jX s.heap t u v l1 l2 l3).get? (vV s.heap t u l1 l2).objs.size=some _:=hpS _ (hpS _ (hpS _ (xAe _ rfl)));have g2:(jX s.heap t u v l1 l2 l3).get? (vT s.heap t l1).objs.size=some _:=hpS _ (hpS _ (hpS _ (hpS _ (xAe _ rfl))));have g1:(jX s.heap t u v l1 l2 l3).get? s.heap.objs.size=some _:=hpS _ (hpS _ (hpS _ (hpS _ (hpS _ (xAe _ rfl)))));show _/\_;rw[z3,z4,z5] at g6;rw[z1,z2,z3] at g4;rw[z4] at g5;rw[z2] at g3;rw[z1] at g2;rw[z5];have i1:dE t (jX s.heap t u v l1 l2 l3) s.heap.objs.size l1 0:=by cases t<;>exact⟨_,g1,rfl,rfl⟩
 have i2:dE u (jX s.heap t u v l1 l2 l3) (s.heap.objs.size+1) l2 0:=by cases u<;>exact⟨_,g2,rfl,rfl⟩
 have i3:dE v (jX s.heap t u v l1 l2 l3) (s.heap.objs.size+2) l3 0:=by cases v<;>exact⟨_,g3,rfl,rfl⟩
 exact⟨⟨_,g6,rfl⟩,h _ g6 g4 g5 i1 i2 i3 z6 λ c o x =>
  hpS _ (hpS _ (hpS _ (hpS _ (hpS _ (hpS _ x)))))⟩
end
theorem aRl{n a b c:Nat}(ha:a < n)(hb:b < n)(hc:c < n):ZB (n+5) (n+3) (n+4) n (n+1) (n+2) [n,a] [n+1,b] [n+2,c]:=by
 have h:∀ i j:Nat,i≠j->(n+i:Nat)≠(n+j:Nat):=λ i j h=>by omega
 have l:∀ (c i:Nat),c < n->(c:Nat)≠(n+i:Nat):=λ c i h=>by omega
 refine⟨h 3 5 (by decide),h 4 5 (by decide),h 0 5 (by decide),h 1 5 (by decide),h 2 5 (by decide),h 3 4 (by decide),h 3 0 (by decide),h 3 1 (by decide),h 3 2 (by decide),h 4 0 (by decide),h 4 1 (by decide),h 4 2 (by decide),λ d hd=>?_,λ d hd=>?_,λ d hd=>?_⟩
 ·rcases List.mem_cons.mp hd with e | e
  ·rw[e];exact⟨h 0 5 (by decide),h 0 4 (by decide),h 0 1 (by decide),h 0 2 (by decide)⟩
  ·rw[List.mem_singleton.mp e];exact⟨l a 5 ha,l a 4 ha,l a 1 ha,l a 2 ha⟩
 ·rcases List.mem_cons.mp hd with e | e
  ·rw[e];exact⟨h 1 5 (by decide),h 1 4 (by decide),h 1 0 (by decide),h 1 2 (by decide)⟩
  ·rw[List.mem_singleton.mp e];exact⟨l b 5 hb,l b 4 hb,l b 0 hb,l b 2 hb⟩
 ·rcases List.mem_cons.mp hd with e | e
  ·rw[e];exact⟨h 2 5 (by decide),h 2 4 (by decide),h 2 0 (by decide),h 2 1 (by decide)⟩
  ·rw[List.mem_singleton.mp e];exact⟨l c 5 hc,l c 4 hc,l c 0 hc,l c 1 hc⟩
section
variable {X : Cx}
noncomputable def aIT(K:FrG)(ta:TA):TI:=λ σ H R=>ta σ H λ vs H1=>∃ a b c t u v,vs=[.ref a,.ref b,.ref c]/\(∃ xs,Sq t K H1 a xs)/\(∃ ys,Sq u K H1 b ys)/\(∃ zs,Sq v K H1 c zs)/\R (aCL K t u v a b c) H1
theorem aNU{elts:List Expr}{k:Nat}{pp:Pos}{a b c:Expr}{ta:TA}{p pos:Pos}(hg:Gl X "zip")(hm:X.mg "zip" = none)(ha:PA X [a,b,c] ta)(hs:starEach [a,b,c] X.env=(false,eval a X.env)::starEach [b,c] X.env)(hs2:starEach [b,c] X.env=(false,eval b X.env)::starEach [c] X.env)(hs3:starEach [c] X.env=[(false,eval c X.env)]):PI X (.Tuple elts k pp) (.Call (.Name "zip" p) [a,b,c] [] pos) (aIT X.K ta):=by
 intro aB s σ H R I h;refine Call_ (jH I hg hm boot_zip (PyProof.Rows.callWith_type1 (bA (ha pos aB s σ H _ I h) λ us s1 hPq44=>?_) hs (by rw[hs2,hs3];rfl)))
 obtain⟨vs,H1,I1,r1,q1⟩:=hPq44;obtain⟨l1,l2,l3,t,u,v,rfl,⟨xs,sq1⟩,⟨ys,sq2⟩,⟨zs,sq3⟩,q⟩:=q1;obtain⟨u1,u2,u3,rfl,ru1,ru2,ru3⟩:=aIk r1;cases ru1;cases ru2;cases ru3;obtain⟨dI,rv1,pl1⟩:=eI I1 sq1;obtain⟨cP,rv2,pl2⟩:=eI I1 sq2;obtain⟨its3,rv3,pl3⟩:=eI I1 sq3;have a1:=pl1.lt;have a2:=pl2.lt;have a3:=pl3.lt;refine aLv pl1 pl2 pl3 λ h' hz bO bT hi1 hi2 hi3 hsz hk=>wpAny_pyIter_zip hz ?_
 have I2:Inv X aB σ H1 {s1 with heap:=h' }:=I1.kept (t':=s1.toks) hk
 have hb':∀ b∈[s1.heap.objs.size+5,s1.heap.objs.size+3,s1.heap.objs.size+4,s1.heap.objs.size,s1.heap.objs.size+1,s1.heap.objs.size+2],s1.heap.objs.size<=b:=λ b hb=>by
  simp only[List.mem_cons,List.not_mem_nil,or_false] at hb;omega
 have Z:=aRl (n:=s1.heap.objs.size) (a:=l1) (b:=l2) (c:=l3) a1 a2 a3;exact⟨s1.heap.objs.size+5,[s1.heap.objs.size+5,s1.heap.objs.size+3,s1.heap.objs.size+4,s1.heap.objs.size,s1.heap.objs.size+1,s1.heap.objs.size+2],_,_,H1,rfl,I2,aLI t u v l1 l2 l3 _ _ _ _ _ _ Z (xAk a1) (xAk (Nat.lt_succ_of_lt a2)) (xAk (Nat.lt_succ_of_lt (Nat.lt_succ_of_lt a3))),⟨hz,bO,⟨_,_,_,bT⟩,hi1,hi2,hi3⟩,λ b hb=>I1.fpOk (hb' b hb) (I1.hok.fresh (hb' b hb)),q⟩
noncomputable def gD:List D->List D->List D->List D
 | a::as,b::bs,c::cs=>.tuple [a,b,c]::gD as bs cs
 | _,_,_=>[]
theorem aAO:∀ as bs cs:List D,(gD as bs cs).length=min as.length (min bs.length cs.length)
 | [],_,_=>by simp[gD]
 | _::_,[],_=>by simp[gD]
 | _::_,_::_,[]=>by simp[gD]
 | _::as,_::bs,_::cs=>by simp[gD,aAO as bs cs]
theorem aE9:∀ (as bs cs:List D) (i:Nat) (d:D),(gD as bs cs)[i]? = some d->∃ a b c,as[i]? = some a/\bs[i]? = some b/\cs[i]? = some c/\d=.tuple [a,b,c]
 | [],_,_,i,d,h=>by simp[gD] at h
 | _::_,[],_,i,d,h=>by simp[gD] at h
 | _::_,_::_,[],i,d,h=>by simp[gD] at h
 | a::as,b::bs,c::cs,0,d,h=>by simp[gD] at h;exact⟨a,b,c,rfl,rfl,rfl,h.symm⟩
 | a::as,b::bs,c::cs,i+1,d,h=>by
   obtain⟨x,y,z,h1,h2,h3,h4⟩:=aE9 as bs cs i d (by simpa [gD] using h)
   exact⟨x,y,z,by simpa using h1,by simpa using h2,by simpa using h3,h4⟩
theorem aOh{K:FrG}{F:Hp}{L:List Addr}{t u v:Bool}{a b c:Addr}{xs ys zs:List V}{ds es gs:List D}(sq1:Sq t K F a xs)(dl1:DenL K F ds xs)(sq2:Sq u K F b ys)(dl2:DenL K F es ys)(sq3:Sq v K F c zs)(dl3:DenL K F gs zs):Wk K F L (aCL K t u v a b c) (gD ds es gs) where
 go:=λ i H s hi=>by
  rw[aAO] at hi;have h1:i < xs.length:=by rw[<- dl1.length];omega
  have h2:i < ys.length:=by rw[<- dl2.length];omega
  have h3:i < zs.length:=by rw[<- dl3.length];omega
  exact⟨xs,xs[i],ys,ys[i],zs,zs[i],dB s sq1,by simp[h1],dB s sq2,by simp[h2],dB s sq3,by simp[h3]⟩
 stop:=λ H s=>⟨xs,ys,zs,dB s sq1,dB s sq2,dB s sq3,by rw[aAO,dl1.length,dl2.length,dl3.length]⟩
 yld:=λ i H F1 L1 S x H' d g R e y=>by
  obtain⟨p,x',y',z',hp,rfl,rfl,hx,hy,hz⟩:=y;obtain⟨d1,d2,d3,e1,e2,e0,rfl⟩:=aE9 ds es gs i d e;obtain⟨x1,e3,dx⟩:=dl1.get e1;obtain⟨y1,e4,dy⟩:=dl2.get e2;obtain⟨z1,e5,dz⟩:=dl3.get e0;have q1:=hx xs (dB (g.f.trans R.sub) sq1);rw[q1] at e3;cases e3;have q2:=hy ys (dB (g.f.trans R.sub) sq2);rw[q2] at e4;cases e4;have q3:=hz zs (dB (g.f.trans R.sub) sq3);rw[q3] at e5;cases e5;have hF:F1 p=none:=R.sub.free hp;exact⟨bB F1 p (.tup [x',y',z']),cQ hF,R.new hp,.tup (bS.of cV) (.cons (dx.mono (g.f.trans (cQ hF))) (.cons (dy.mono (g.f.trans (cQ hF))) (.cons (dz.mono (g.f.trans (cQ hF))) .nil)))⟩
noncomputable def zK(fa fb fc:FE):FL:=λ env S=>(fa env S).bind λ p=>(fb env p.2).bind λ q=>(fc env q.2).bind λ r=>(nM p.1).bind λ ds=>(nM q.1).bind λ es=>(nM r.1).bind λ gs=>some (gD ds es gs,r.2)
theorem aRz{K:FrG}{fa fb fc:FE}(σ:L2.St)(H:Hp)(Rr:It->Hp->Prop)(h:hV K (zK fa fb fc) σ H Rr):aIT K (fN K (cN fa (cN fb (cN fc gO)))) σ H Rr:=by
 obtain⟨F,L,S,env,ds,S',R,E,e,q⟩:=h;obtain⟨⟨w1,S1⟩,e1,e⟩:=bind_some e;obtain⟨⟨w2,S2⟩,e2,e⟩:=bind_some e;obtain⟨⟨w3,S3⟩,e0,e⟩:=bind_some e;obtain⟨ds1,e3,e⟩:=bind_some e;obtain⟨ds2,e4,e⟩:=bind_some e;obtain⟨ds3,e5,e⟩:=bind_some e;dsimp only at e e2 e3 e4 e0 e5;cases e;refine⟨F,L,S,env,[w1,w2,w3],S',R,E,by unfold cN;simp only[e1,e2,e0,gO,Option.bind_some],λ F1 L1 H1 vs g1 R1 d1=>?_⟩
 cases d1 with
 | cons da dr =>
   cases dr with
   | cons db dn =>
     cases dn with
     | cons dc dn =>
       cases dn;obtain⟨t,a,xs,rfl,sq1,dl1⟩:=oH e3 da;obtain⟨u,b,ys,rfl,sq2,dl2⟩:=oH e4 db;obtain⟨v,c,zs,rfl,sq3,dl3⟩:=oH e5 dc;exact⟨a,b,c,t,u,v,rfl,⟨xs,dB R1.sub sq1⟩,⟨ys,dB R1.sub sq2⟩,⟨zs,dB R1.sub sq3⟩,q F1 L1 H1 _ g1 R1 (aOh sq1 dl1 sq2 dl2 sq3 dl3)⟩
end
section
variable {X : Cx}
end
section
open PySem.SeqAt
open PySem.AutoSeq1 (wpAny_loadPart')
open PySem.MeetsSeq PySem.MeetsSeq2 PySem.MeetsSeq3
theorem pZ:∀ {vs:List Value}{ns:List Int}{i:Nat},IntsAre vs ns->i < vs.length->∃ a t,vs[i]? = some (.int a t)/\ns.drop i=a::ns.drop (i+1)
 | _,_,i,.nil,h=>absurd h (Nat.not_lt_zero i)
 | _,_,0,.cons a t _,_=>⟨a,t,rfl,rfl⟩
 | _,_,i+1,.cons a t r,h=>by
   obtain⟨b,u,h1,h2⟩:=pZ (i:=i) r (by simpa using h)
   exact⟨b,u,by simpa using h1,by simpa using h2⟩
end
section
variable {prog : Program}{w : World}{A : Around}{E : Value -> Shared -> Prop}{s : Shared}
end
section
variable {X : Cx}
end
section
variable {X : Cx}
end
noncomputable def aI9(f:FL):FL:=λ env S=>(f env S).bind λ p=>if p.1.length<=1000000 then some p else none
theorem aLj:1000000<=sizeLine:=by rw[sizeLine_eq];decide
section
variable {X : Cx}
end
section
variable {X : Cx}
end
noncomputable def Itd(hi:Int)(n:Nat):It:=⟨λ i _=>i < n,λ i H x H'=>H'=H/\x=.int (hi - i),λ i _=>n<=i⟩
theorem aL9{P:Program}{w:World}{K:FrG}{tg:Expr}(it:Addr)(hi:Int)(n:Nat):Turn P w K tg (Itd hi n) [it] it (λ i h=>IsRangeIter h it (hi+(i:Nat)*(-1)) ((n:Int) - (i:Nat)) (-1)) where
 mem:=by simp
 obj:=λ i h st b hb=>by
  have e:b=it:=by simpa using hb
  subst e;exact⟨_,st,λ v z=>by
   have z':Data.fields _=Data.cell v:=z;cases z'⟩
 keep:=λ i h h' st k=>k it (by simp) _ st
 item:=by
  intro X hP hw hK hc i aB s σ H E I hf st hg;subst hP hw hK;obtain⟨f0,f1,f2,f3,f4,f5⟩:=hf it (by simp)
  have W:=Walks.range (prog:=X.prog) (w:=X.w) (I.ok.hd hc) it hi (-1) n;refine W.item i s _ _ hg st λ v h' tk hv st' kk=>?_
  obtain⟨t,rfl⟩:=hv;have I1:Inv X aB σ H {s with heap:=h',toks:=tk }:=I.turned (λ b o hb e=>kk b o (by simpa using hb) e) f0 f1 f3 f4 f5
  refine⟨_,rfl,zH (s:={s with heap:=h',toks:=tk }) (n:="range_iterator") st' rfl rfl (by decide) ⟨.int (hi - i),H,I1,⟨t,?_⟩,⟨rfl,rfl⟩,st',λ b hb=>(hf b hb).1⟩⟩
  congr 1;omega
 done:=by
  intro X hP hw hK hc i aB s σ H E I hf st hg;subst hP hw hK;obtain⟨f0,f1,f2,f3,f4,f5⟩:=hf it (by simp)
  exact wpAny_pyNext_range_end (I.ok.hd hc) st (by have:n<=i:=hg;omega) λ h' eb=>⟨rfl,I.turned (t':=s.toks) (λ b o hb e=>eb b o hb e) f0 f1 f3 f4 f5⟩
 self:=λ _ _ _ _ _ st h=>wpAny_pyIter_rangeiter st h
theorem aDT(a b:Int):Builtin.Range.rangeSize a b (-1)=if b < a then a - b else 0:=by
 unfold Builtin.Range.rangeSize;simp only[show ¬ ((-1:Int) > 0) by decide,if_false,Int.neg_neg,Int.ediv_one,gt_iff_lt]
 split<;>omega
theorem aLl{a b:Int}(ha : -(2^62)<=a)(ha':a < 2^62)(hb : -(2^62)<=b)(hb':b < 2^62):Builtin.Range.small a b (-1)=true:=by
 unfold Builtin.Range.small;rw[aDT];simp only[Builtin.Range.rangeFitsLong,Bool.and_eq_true,Bool.or_eq_true,decide_eq_true_eq,beq_iff_eq,show ¬ ((-1:Int) > 0) by decide,if_false]
 split<;>omega
section
variable {X : Cx}{tg : Expr}
theorem aNk{aB:List (Addr × Obj)}{σ:L2.St}{H:Hp}{s:Shared}{R:It->Hp->Prop}{E:Value->Shared->Prop}{hi lo:Int}{t u v:Tok}{tk:Nat}(I:Inv X aB σ H s)(h1 : -(2^62)<=hi)(h2:hi < 2^62)(h3 : -(2^62)<=lo)(h4:lo < 2^62)
 (q:R (Itd hi (hi - lo).toNat) H):wpAny (model X.prog X.w) X.A (pyIter (.ref s.heap.objs.size)) (PIE X aB σ tg R) E {s with heap:=s.heap.push {cls:=.type "range",data:=.fields #[.int hi t,.int lo u,.int (-1) v] },toks:=tk }:=by
 refine wpAny_pyIter_range (IsRange.new ..) (aLl h1 h2 h3 h4) ?_;have I1:Inv X aB σ H {s with heap:=s.heap.push {cls:=.type "range",data:=.fields #[.int hi t,.int lo u,.int (-1) v] },toks:=tk }:=I.kept λ b o e=>hpS _ e
 refine⟨(s.heap.push {cls:=.type "range",data:=.fields #[.int hi t,.int lo u,.int (-1) v] }).objs.size,[(s.heap.push {cls:=.type "range",data:=.fields #[.int hi t,.int lo u,.int (-1) v] }).objs.size],_,_,H,rfl,
  I1.kept (t':=tk) λ b o e=>hpS _ e,aL9 _ hi (hi - lo).toNat,?_,λ b hb=>?_,q⟩
 ·have e1:hi+((0:Nat):Int)*(-1)=hi:=by simp
  have e2:(((hi - lo).toNat:Nat):Int) - ((0:Nat):Int)=Builtin.Range.rangeSize hi lo (-1):=by rw[aDT];split<;>omega
  show IsRangeIter _ _ (hi+((0:Nat):Int)*(-1)) ((((hi - lo).toNat:Nat):Int) - ((0:Nat):Int)) (-1);rw[e1,e2];exact xAe _ rfl
 ·have e:b=(s.heap.push {cls:=.type "range",data:=.fields #[.int hi t,.int lo u,.int (-1) v] }).objs.size:=by simpa using hb
  subst e;exact I1.fpOk (Nat.le_refl _) (I1.hok.fresh (Nat.le_refl _))
noncomputable def aIu(ta:TA):TI:=λ σ H R=>ta σ H λ vs H1=>∃ i j:Int,vs=[.int i,.int j,.int (-1)]/\(-(2^62)<=i/\i < 2^62 /\ -(2^62)<=j/\j < 2^62)/\R (Itd i (i - j).toNat) H1
theorem aLx{a b c:Expr}{ta:TA}{p pos:Pos}(hg:Gl X "range")(hm:X.mg "range" = none)(ha:PA X [a,b,c] ta)(hs:starEach [a,b,c] X.env=(false,eval a X.env)::starEach [b,c] X.env)(hs2:starEach [b,c] X.env=[(false,eval b X.env),(false,eval c X.env)]) :
 PI X tg (.Call (.Name "range" p) [a,b,c] [] pos) (aIu ta):=by
 intro aB s σ H R I h;refine Call_ (jH I hg hm boot_range (PyProof.Rows.callWith_type1 (bA (ha pos aB s σ H _ I h) λ us s1 hPq45=>?_) hs (by rw[hs2];rfl)))
 obtain⟨vs,H1,I1,r1,q1⟩:=hPq45;obtain⟨i,j,e,⟨q1,q2,q3,q4⟩,q⟩:=q1;subst e;cases r1 with
 | cons r rr =>
   cases rr with
   | cons r' rr =>
     cases rr with
     | cons r'' rr =>
       cases rr;obtain⟨t,rfl⟩:=r;obtain⟨t',rfl⟩:=r';obtain⟨t'',rfl⟩:=r'';exact call_range_3 (by decide) (aNk I1 q1 q2 q3 q4 q)
noncomputable def kO(hi:Int):Nat->List D
 | 0=>[]
 | n+1=>.int hi::kO (hi - 1) n
theorem pO:∀ (n:Nat) (hi:Int),(kO hi n).length=n
 | 0,_=>rfl
 | n+1,hi=>by rw[kO,List.length_cons,pO n]
theorem aA3:∀ (n:Nat) (hi:Int) (i:Nat),i < n->(kO hi n)[i]? = some (.int (hi - i))
 | 0,_,_,h=>by omega
 | n+1,hi,0,_=>by simp[kO]
 | n+1,hi,i+1,h=>by
   rw[kO,List.getElem?_cons_succ,aA3 n (hi - 1) i (by omega)]
   congr 2
   push_cast
   omega
theorem aNO{K:FrG}{F:Hp}{L:List Addr}(hi:Int)(n:Nat):Wk K F L (Itd hi n) (kO hi n) where
 go:=λ i H s hi=>by rw[pO] at hi;exact hi
 stop:=λ H s=>by rw[pO];exact Nat.le_refl _
 yld:=λ i H F1 L1 S x H' d g R e y=>by
  obtain⟨rfl,rfl⟩:=y;have hi:i < n:=by
   have:=(gIm e).1;rw[pO] at this;exact this
  rw[aA3 n _ i hi] at e;cases e;exact⟨F1,cC.refl _,R,.int _⟩
noncomputable def zF(fa fb fc:FE):FL:=λ env S=>(fa env S).bind λ p=>(fb env p.2).bind λ q=>(fc env q.2).bind λ r=>match p.1,q.1,r.1 with
 | .d (.int i),.d (.int j),.d (.int k)=>if (-(2^62)<=i/\i < 2^62 /\ -(2^62)<=j/\j < 2^62)/\k = -1 then some (kO i (i - j).toNat,r.2) else none
 | _,_,_=>none
theorem aP5{K:FrG}{fa fb fc:FE}(σ:L2.St)(H:Hp)(Rr:It->Hp->Prop)(h:hV K (zF fa fb fc) σ H Rr):aIu (fN K (cN fa (cN fb (cN fc gO)))) σ H Rr:=by
 obtain⟨F,L,S,env,ds,S',R,E,e,q⟩:=h;obtain⟨⟨w,S1⟩,e1,e2⟩:=bind_some e;obtain⟨⟨w2,S2⟩,e3,e4⟩:=bind_some e2;obtain⟨⟨w3,S3⟩,e5,e6⟩:=bind_some e4;dsimp only at e6 e3 e5
 split at e6
 ·split at e6
  ·rename_i c;obtain⟨c,rfl⟩:=c;cases e6;refine⟨F,L,S,env,[.d (.int _),.d (.int _),.d (.int _)],_,R,E,by unfold cN;rw[e1];dsimp only[Option.bind];rw[e3];dsimp only[Option.bind];rw[e5];rfl,λ F1 L1 H1 vs g1 R1 d1=>?_⟩
   cases d1 with
   | cons dd dr =>
     cases dr with
     | cons dd2 dr =>
       cases dr with
       | cons dd3 dr =>
         cases dr;cases (show Den K F1 (.int _) _ from dd)
         cases (show Den K F1 (.int _) _ from dd2)
         cases (show Den K F1 (.int _) _ from dd3)
         exact⟨_,_,rfl,c,q F1 L1 H1 _ g1 R1 (aNO _ _)⟩
  ·cases e6
 ·cases e6
end
abbrev jL(h:Heap)(z TI TO a:Addr)(f:Bool):Prop:=
 h.get? z=some {cls:=.type "zip",dict:=none,data:=.fields #[rawInt a,.bool f,.bool false,.ref TI,.ref TO],slots:=#[] }
section
variable {prog : Program}{w : World}{A : Around}{E : Value -> Shared -> Prop}{s : Shared}
theorem aL1{a:Addr}{Q:Option Obj->Shared->Prop}(h:Q (s.heap.get? a) s):wpAny (model prog w) A (loadIfAlive a) Q E s:=λ _ _ _=>h
theorem aEz{z TI TO a:Addr}{f:Bool}{Q:Bool->Shared->Prop}(hz:jL s.heap z TI TO a f)(ha:∃ o,s.heap.get? a=some o)
 (hQ:∀ h',jL h' z TI TO a true->Heap.SameBut z s.heap h'->Q false {s with heap:=h' }):wpAny (model prog w) A (Builtin.SmallTypes.ownedTupleIsFree (.ref z)) Q E s:=by
 unfold Builtin.SmallTypes.ownedTupleIsFree;refine wB (wpAny_field hz rfl (x:=rawInt a) rfl ?_);obtain⟨o,ho⟩:=ha;have hn:((s.heap.get? ((a:Int)).toNat).isNone)=false:=by
  rw[Int.toNat_natCast,ho];rfl
 show wpAny _ _ (loadIfAlive ((a:Int)).toNat >>= _) _ _ _;refine wB (aL1 ?_);rw[hn];simp only[Bool.false_eq_true,if_false];cases f with
 | true =>
   refine wB (wpAny_field hz rfl (x:=.bool true) rfl ?_);rw[if_neg (by decide)]
   exact wP (hQ s.heap hz (Heap.SameBut.refl _ _))
 | false =>
   refine wB (wpAny_field hz rfl (x:=.bool false) rfl ?_);rw[if_pos (by decide)]
   exact wB (wpAny_setField_rec hz (by simp) λ h₁ hz₁ hs₁=>wP (hQ h₁ hz₁ hs₁))
theorem aKj{z TI TO i1 i2 a:Addr}{f:Bool}{cD cE:List Addr}{n1 n2 k:Nat}{P1 P2:Nat->Value->Prop}{bI bF:Nat->Heap->Prop}{Q:Value->Shared->Prop}
 (D1:Draws prog w A i1 cD n1 P1 bI) (D2:Draws prog w A i2 cE n2 P2 bF) (Z:ZA z TI TO i1 i2 cD cE)
 (hz:jL s.heap z TI TO a f) (ha:∃ o,s.heap.get? a=some o) (bO:IsPair s.heap TI (.ref i1) (.ref i2)) (s1:bI k s.heap) (s2:bF k s.heap) (k1:k < n1) (k2:k < n2)
 (hQ:∀ x y h' tk,P1 k x->P2 k y->jL h' z TI TO a true->IsPair h' TI (.ref i1) (.ref i2)->bI (k+1) h'->bF (k+1) h'->IsPair h' s.heap.objs.size x y->h'.objs.size=s.heap.objs.size+1 ->
   (∀ c o,c≠z->c≠i1->c≠i2->s.heap.get? c=some o->h'.get? c=some o)->Q (.ref s.heap.objs.size) {s with heap:=h',toks:=tk }) :
 wpAny (model prog w) A (Builtin.«zip.__next__» ⟨[.ref z],[]⟩) (λ bK s'=>∃ v,bK=.done (.ret v)/\Q v s') E s:=by
 show wpAny _ _ (field (.ref z) 2 >>= _) _ _ _;refine wB (wpAny_field hz rfl (x:=.bool false) rfl ?_);show wpAny _ _ (field (.ref z) 3 >>= _) _ _ _;refine wB (wpAny_field hz rfl (x:=.ref TI) rfl ?_);refine wB (wpAny_seqItems bO rfl ?_);show wpAny _ _ (Builtin.SmallTypes.ownedTupleIsFree (.ref z) >>= _) _ _ _;refine wB (aEz hz ha λ h₁ hz₁ hs₁=>?_)
 have s11:bI k h₁:=D1.frame k _ _ s1 λ c hc o e=>hs₁.extBut _ _ (Z.f1 c hc).1 e
 have s21:bF k h₁:=D2.frame k _ _ s2 λ c hc o e=>hs₁.extBut _ _ (Z.f2 c hc).1 e
 simp only[Bool.false_eq_true,if_false];rw[<- Array.forIn_toList];simp only[List.forIn_cons,List.forIn_nil];refine wB ?_;refine wB (wB (wpAny_holding ?_));show wpAny _ _ (Builtin.SmallTypes.nextOf (.ref i1) >>= _) _ _ _;refine wB (D1.item k _ _ _ k1 s11 λ x h₂ tk₂ px s12 hs₂=>wP ?_)
 have s22:bF k h₂:=D2.frame k _ _ s21 λ c hc o e=>hs₂.extBut _ _ (Z.f2 c hc).2.2 e
 refine wP ?_;refine wB (wB (wpAny_holding ?_));show wpAny _ _ (Builtin.SmallTypes.nextOf (.ref i2) >>= _) _ _ _;refine wB (D2.item k _ _ _ k2 s22 λ y h₃ tk₃ py s23 hs₃=>wP ?_)
 have s13:bI (k+1) h₃:=D1.frame _ _ _ s12 λ c hc o e=>hs₃.extBut _ _ (Z.f1 c hc).2.2 e
 refine wP (wP ?_);refine wB (wpAny_newTuple (hsz:=show 2<=sizeLine by decide) ?_)
 have hsz:h₃.objs.size=s.heap.objs.size:=by rw[hs₃.1,hs₂.1,hs₁.1]
 have up:∀ c o,c≠z->c≠i1->c≠i2->s.heap.get? c=some o->h₃.get? c=some o:=λ c o c1 c3 c4 e=>hs₃.extBut _ _ c4 (hs₂.extBut _ _ c3 (hs₁.extBut _ _ c1 e))
 have hz₃:jL h₃ z TI TO a true:=hs₃.extBut _ _ Z.i2z.symm (hs₂.extBut _ _ Z.i1z.symm hz₁);refine wP ⟨_,rfl,?_⟩;show Q (.ref h₃.objs.size) _;rw[hsz];have ps:∀ c o,h₃.get? c=some o->(h₃.push {cls:=.type "tuple",data:=.seq #[x,y] }).get? c=some o:=λ c o e=>hpS _ e
 have hT:IsPair (h₃.push {cls:=.type "tuple",data:=.seq #[x,y] }) s.heap.objs.size x y:=by rw[<- hsz];exact xAe _ rfl
 exact hQ x y _ _ px py (ps _ _ hz₃) (ps _ _ (up _ _ Z.TIz Z.TIi1 Z.TIi2 bO)) (D1.frame _ _ _ s13 λ c hc o e=>ps c o e) (D2.frame _ _ _ s23 λ c hc o e=>ps c o e) hT (by rw[Heap.size_push,hsz]) λ c o c1 c3 c4 e=>ps c o (up c o c1 c3 c4 e)
theorem aKt{z TI TO i1 i2 a:Addr}{f:Bool}{cD cE:List Addr}{n1 n2 k:Nat}{P1 P2:Nat->Value->Prop}{bI bF:Nat->Heap->Prop}{Q:Fin->Shared->Prop}
 (D1:Draws prog w A i1 cD n1 P1 bI) (D2:Draws prog w A i2 cE n2 P2 bF) (Z:ZA z TI TO i1 i2 cD cE)
 (hz:jL s.heap z TI TO a f) (ha:∃ o,s.heap.get? a=some o) (bO:IsPair s.heap TI (.ref i1) (.ref i2)) (s1:bI k s.heap) (s2:bF k s.heap) (hend:k=n1\/(k < n1/\k=n2))
 (hE:∀ h' tk e,(∀ c o,c≠z->c≠i1->c≠i2->s.heap.get? c=some o->h'.get? c=some o)->(∃ o,h'.get? e=some o/\o.cls=.type "StopIteration")->E (.ref e) {s with heap:=h',toks:=tk }) :
 wpAny (model prog w) A (Builtin.«zip.__next__» ⟨[.ref z],[]⟩) Q E s:=by
 show wpAny _ _ (field (.ref z) 2 >>= _) _ _ _;refine wB (wpAny_field hz rfl (x:=.bool false) rfl ?_);show wpAny _ _ (field (.ref z) 3 >>= _) _ _ _;refine wB (wpAny_field hz rfl (x:=.ref TI) rfl ?_);refine wB (wpAny_seqItems bO rfl ?_);show wpAny _ _ (Builtin.SmallTypes.ownedTupleIsFree (.ref z) >>= _) _ _ _;refine wB (aEz hz ha λ h₁ hz₁ hs₁=>?_)
 have s11:bI k h₁:=D1.frame k _ _ s1 λ c hc o e=>hs₁.extBut _ _ (Z.f1 c hc).1 e
 have s21:bF k h₁:=D2.frame k _ _ s2 λ c hc o e=>hs₁.extBut _ _ (Z.f2 c hc).1 e
 simp only[Bool.false_eq_true,if_false];rw[<- Array.forIn_toList];simp only[List.forIn_cons,List.forIn_nil];refine wB ?_;refine wB (wB (wpAny_holding ?_));show wpAny _ _ (Builtin.SmallTypes.nextOf (.ref i1) >>= _) _ _ _;rcases hend with rfl | ⟨k1,rfl⟩
 ·exact wB (D1.done _ _ _ s11 λ h₂ e hs₂ he=>hE h₂ _ e (λ c o c1 c3 _ x=>hs₂ _ _ c3 (hs₁.extBut _ _ c1 x)) he)
 ·refine wB (D1.item k _ _ _ k1 s11 λ x h₂ tk₂ px s12 hs₂=>wP ?_)
  have s22:bF k h₂:=D2.frame k _ _ s21 λ c hc o e=>hs₂.extBut _ _ (Z.f2 c hc).2.2 e
  refine wP ?_;refine wB (wB (wpAny_holding ?_));show wpAny _ _ (Builtin.SmallTypes.nextOf (.ref i2) >>= _) _ _ _;exact wB (D2.done _ _ _ s22 λ h₃ e hs₃ he=>hE h₃ _ e (λ c o c1 c3 c4 x=>hs₃ _ _ c4 (hs₂.extBut _ _ c3 (hs₁.extBut _ _ c1 x))) he)
theorem aJ7{z TI TO i1 i2 a:Addr}{f:Bool}{cD cE:List Addr}{n1 n2 k:Nat}{P1 P2:Nat->Value->Prop}{bI bF:Nat->Heap->Prop}{Q:Option Value->Shared->Prop}
 (D1:Draws prog w A.in1 i1 cD n1 P1 bI) (D2:Draws prog w A.in1 i2 cE n2 P2 bF) (Z:ZA z TI TO i1 i2 cD cE)
 (hz:jL s.heap z TI TO a f) (ha:∃ o,s.heap.get? a=some o) (bO:IsPair s.heap TI (.ref i1) (.ref i2)) (s1:bI k s.heap) (s2:bF k s.heap) (k1:k < n1) (k2:k < n2)
 (hQ:∀ x y h' tk,P1 k x->P2 k y->jL h' z TI TO a true->IsPair h' TI (.ref i1) (.ref i2)->bI (k+1) h'->bF (k+1) h'->IsPair h' s.heap.objs.size x y->h'.objs.size=s.heap.objs.size+1 ->
   (∀ c o,c≠z->c≠i1->c≠i2->s.heap.get? c=some o->h'.get? c=some o)->Q (some (.ref s.heap.objs.size)) {s with heap:=h',toks:=tk }) :
 wpAny (model prog w) A (pyNext (.ref z)) Q E s:=by
 have hT:s.TypeIs (.ref z) "zip":=⟨_,hz,rfl⟩;unfold pyNext;exact wB (wpAny_attempt (wpAny_callSpecial?_slot (name:=Str.ofString "__next__") hT F.slot_zip_next
  (wpAny_call_entry F.slot_zip_next hT F.entry_zip_next
    (aKj D1 D2 Z hz ha bO s1 s2 k1 k2 λ x y h' tk a0 b0 a1 a3 a4 a5 a6 a7 a8=>wP (hQ x y h' tk a0 b0 a1 a3 a4 a5 a6 a7 a8)) (F.args_zip_next_1 _))))
theorem aKa{z TI TO i1 i2 a:Addr}{f:Bool}{cD cE:List Addr}{n1 n2 k:Nat}{P1 P2:Nat->Value->Prop}{bI bF:Nat->Heap->Prop}{Q:Option Value->Shared->Prop}
 (D1:Draws prog w A.in1 i1 cD n1 P1 bI) (D2:Draws prog w A.in1 i2 cE n2 P2 bF) (Z:ZA z TI TO i1 i2 cD cE)
 (hz:jL s.heap z TI TO a f) (ha:∃ o,s.heap.get? a=some o) (bO:IsPair s.heap TI (.ref i1) (.ref i2)) (s1:bI k s.heap) (s2:bF k s.heap) (hend:k=n1\/(k < n1/\k=n2))
 (hQ:∀ h' tk,(∀ c o,c≠z->c≠i1->c≠i2->s.heap.get? c=some o->h'.get? c=some o)->Q none {s with heap:=h',toks:=tk }):wpAny (model prog w) A (pyNext (.ref z)) Q E s:=by
 have hT:s.TypeIs (.ref z) "zip":=⟨_,hz,rfl⟩;unfold pyNext;refine wB (wpAny_attempt (wpAny_callSpecial?_slot (name:=Str.ofString "__next__") hT F.slot_zip_next
  (wpAny_call_entry F.slot_zip_next hT F.entry_zip_next (aKt D1 D2 Z hz ha bO s1 s2 hend λ h' tk e hk he=>?_) (F.args_zip_next_1 _))))
 obtain⟨o,ho,hc⟩:=he;refine wB (wpAny_isInstance (T:="StopIteration") (b:=true) ⟨o,ho,hc⟩ isSubtype_stop ?_);exact wP (hQ _ _ hk)
end
theorem Rel.relay{K:FrG}{F:Hp}{L:List Addr}{S:aC}{H:Hp}(r:Rel K F L S H){p:Addr}{o:HO}(hF:F p=none)(hL:p ∉ L):Rel K F L S (bB H p o):=by
 refine⟨λ b u q=>by rw[bJ (dW q hF)];exact r.sub _ _ q,r.nd,r.len,λ n a ds e1 e2=>?_,λ n a e=>?_⟩
 ·obtain⟨f,xs,e3,dl⟩:=r.loc n a ds e1 e2;have ne:a≠p:=λ z=>hL (by rw[<- z];exact xAl e1)
  exact⟨f,xs,by rw[bJ ne];exact e3,dl⟩
 ·obtain⟨xs,hx⟩:=r.tr n a e;have ne:a≠p:=λ z=>hL (by rw[<- z];exact xAl e)
  exact⟨xs,by rw[bJ ne];exact hx⟩
theorem aFe{K:FrG}{F:Hp}{d:D}{v:V}(k:Den K F d v):∀ {ds:List D}{xs:List V},DenL K F ds xs->DenL K F (ds++[d]) (xs++[v])
 | _,_,.nil=>.cons k .nil
 | _,_,.cons a b=>.cons a (aFe k b)
structure ZW(X:Cx)(aB:List (Addr × Obj))(σ:L2.St)(F1:Hp)(L1:List Addr)(S1:aC)(SA z TI TO i1 i2:Addr)(ds:List D)(H F:Hp)(vs:List V)(s:Shared):Prop where
 inv:Inv X aB σ H s
 same:cC F1 F
 rel:Rel X.K F L1 S1 H
 free:F SA=none
 lst:H SA=some (.lst vs)
 den:DenL X.K F ds vs
 fp:∀ c∈[z,TI,TO,i1,i2],gI X aB H c
structure ZH(z TI TO i1 i2 a b:Addr)(t u:Bool)(i:Nat)(h:Heap):Prop where
 ti:IsPair h TI (.ref i1) (.ref i2)
 q1:dE t h i1 a i
 q2:dE u h i2 b i
 to:∃ o,h.get? TO=some o
 z:(IsZip h z TI TO .none/\∃ x y,IsPair h TO x y)\/∃ a0 f,jL h z TI TO a0 f/\∃ o,h.get? a0=some o
theorem ZH.zlt{z TI TO i1 i2 a b:Addr}{t u:Bool}{i:Nat}{h:Heap}(x:ZH z TI TO i1 i2 a b t u i h):∃ o,h.get? z=some o:=by
 rcases x.z with ⟨y,_⟩ | ⟨_,_,y,_⟩
 ·exact⟨_,y⟩
 ·exact⟨_,y⟩
theorem ZH.keep{z TI TO i1 i2 a b:Addr}{t u:Bool}{i:Nat}{h h':Heap}(x:ZH z TI TO i1 i2 a b t u i h)(k:∀ c o,c∈[z,TI,TO,i1,i2]->h.get? c=some o->h'.get? c=some o)(k2:∀ c o,h.get? c=some o->∃ o',h'.get? c=some o'):ZH z TI TO i1 i2 a b t u i h':=by
 refine⟨k _ _ (by simp) x.ti,x.q1.at λ o e=>k _ _ (by simp) e,x.q2.at λ o e=>k _ _ (by simp) e,let ⟨o,e⟩:=x.to;k2 _ _ e,?_⟩
 rcases x.z with ⟨y,p,q,r⟩ | ⟨a0,f,y,o,e⟩
 ·exact .inl ⟨k _ _ (by simp) y,p,q,k _ _ (by simp) r⟩
 ·exact .inr ⟨a0,f,k _ _ (by simp) y,k2 _ _ e⟩
section
variable {X : Cx}{aB : List (Addr × Obj)}{σ : L2.St}{F1 : Hp}{L1 : List Addr}{S1 : aC}{SA z TI TO i1 i2 a b : Addr}{t u : Bool}{ds : List D}{H F : Hp}{vs : List V}{s : Shared}{xs ys : List V}{ds1 ds2 : List D}{A : Around}{E : Value -> Shared -> Prop}{i : Nat}
theorem aMK{Q:Option Value->Shared->Prop}(hh:A.in1.handled=none)(Z:ZA z TI TO i1 i2 [i1,a] [i2,b])(n1:a≠i1)(n2:b≠i2)(sq1:Sq t X.K F1 a xs)(dl1:DenL X.K F1 ds1 xs)(sq2:Sq u X.K F1 b ys)(dl2:DenL X.K F1 ds2 ys)
 (hw:ZW X aB σ F1 L1 S1 SA z TI TO i1 i2 ds H F vs s) (hz:ZH z TI TO i1 i2 a b t u i s.heap) {d:D} (hd:(dC ds1 ds2)[i]? = some d)
 (hQ:∀ s' p H' F',ZW X aB σ F1 L1 S1 SA z TI TO i1 i2 ds H' F' vs s'->ZH z TI TO i1 i2 a b t u (i+1) s'.heap->Den X.K F' d (.ref p)->Q (some (.ref p)) s'):wpAny (model X.prog X.w) A (pyNext (.ref z)) Q E s:=by
 obtain⟨d1,d2,e1,e2,rfl⟩:=aBo ds1 ds2 i d hd;obtain⟨x,hx,dx⟩:=dl1.get e1;obtain⟨y,hy,dy⟩:=dl2.get e2;have I:=hw.inv;obtain⟨dI,rv1,pl1⟩:=eI I (dB (hw.same.trans hw.rel.sub) sq1);obtain⟨cP,rv2,pl2⟩:=eI I (dB (hw.same.trans hw.rel.sub) sq2);obtain⟨u1,hu1,ru1⟩:=rv1.get hx;obtain⟨u2,hu2,ru2⟩:=rv2.get hy;have lt1:i < dI.toArray.size:=by rw[List.size_toArray];exact(gIm hu1).1
 have lt2:i < cP.toArray.size:=by rw[List.size_toArray];exact(gIm hu2).1
 have D1:=gT (prog:=X.prog) (w:=X.w) (A:=A.in1) hh t i1 a n1 dI.toArray;have D2:=gT (prog:=X.prog) (w:=X.w) (A:=A.in1) hh u i2 b n2 cP.toArray;have hp:H s.heap.objs.size=none:=I.fresh;have bK:∀ x' y' h' tk,dI.toArray[i]? = some x'->cP.toArray[i]? = some y'->IsPair h' TI (.ref i1) (.ref i2)->dE t h' i1 a (i+1)->dE u h' i2 b (i+1)->IsPair h' s.heap.objs.size x' y' ->
  (∀ c o,c≠z->c≠TO->c≠i1->c≠i2->s.heap.get? c=some o->h'.get? c=some o)->(∃ o,h'.get? TO=some o)->(∃ a0 f,jL h' z TI TO a0 f/\∃ o,h'.get? a0=some o)->Q (some (.ref s.heap.objs.size)) {s with heap:=h',toks:=tk }:=λ x' y' h' tk px py ti q1 q2 hT hk hto hzb=>by
  have ex:x'=u1:=by rw[List.getElem?_toArray,hu1] at px;exact(Option.some.inj px).symm
  have ey:y'=u2:=by rw[List.getElem?_toArray,hu2] at py;exact(Option.some.inj py).symm
  subst ex ey;have I2:Inv X aB σ (bB H s.heap.objs.size (.tup [x,y])) {s with heap:=h',toks:=tk }:=by
   refine sH I hw.fp (λ c o hb e'=>?_) (Nat.le_refl _) ⟨by show 2<=sizeLine;decide,[x',y'],.cons ru1 (.cons ru2 .nil),⟨_,hT,rfl,0,rfl⟩⟩
   exact hk c o (λ q=>hb (by simp[q])) (λ q=>hb (by simp[q])) (λ q=>hb (by simp[q])) (λ q=>hb (by simp[q])) e'
  have hF:F s.heap.objs.size=none:=hw.rel.sub.free hp;have neS:SA≠s.heap.objs.size:=λ q=>by rw[<- q,hw.lst] at hp;cases hp
  refine hQ _ s.heap.objs.size _ (bB F s.heap.objs.size (.tup [x,y])) ⟨I2,hw.same.trans (cQ hF),hw.rel.new hp,by rw[bJ neS];exact hw.free,by rw[bJ neS];exact hw.lst,hw.den.mono (cQ hF),λ c hc=>?_⟩ ⟨ti,q1,q2,hto,.inr hzb⟩ ?_
  ·have f:=hw.fp c hc;have:c≠s.heap.objs.size:=by
    have hc':∃ o,s.heap.get? c=some o:=by
     simp only[List.mem_cons,List.not_mem_nil,or_false] at hc;rcases hc with rfl | rfl | rfl | rfl | rfl
     ·exact hz.zlt
     ·exact⟨_,hz.ti⟩
     ·exact hz.to
     ·obtain⟨o,ho,_⟩:=hz.q1.obj;exact⟨o,ho⟩
     ·obtain⟨o,ho,_⟩:=hz.q2.obj;exact⟨o,ho⟩
    obtain⟨o,ho⟩:=hc';exact xAk (xAa ho)
   exact⟨by rw[bJ this];exact f.1,f.2⟩
  ·exact .tup (bS.of cV) (.cons (dx.mono (hw.same.trans (cQ hF))) (.cons (dy.mono (hw.same.trans (cQ hF))) .nil))
 rcases hz.z with ⟨hz0,p,q,bT⟩ | ⟨a0,f,hzb,ha0⟩
 ·refine aDK D1 D2 Z hz0 hz.ti bT ⟨hz.q1,pl1⟩ ⟨hz.q2,pl2⟩ lt1 lt2 λ x' y' h₁ tk px py hz₁ hTO₁ hTI₁ s1 s2 hT₁ hsz hk=>?_
  exact bK x' y' h₁ tk px py hTI₁ s1.1 s2.1 hT₁ hk ⟨_,hTO₁⟩ ⟨s.heap.objs.size,false,hz₁,_,hT₁⟩
 ·refine aJ7 D1 D2 Z hzb ha0 hz.ti ⟨hz.q1,pl1⟩ ⟨hz.q2,pl2⟩ lt1 lt2 λ x' y' h₁ tk px py hz₁ hTI₁ s1 s2 hT₁ hsz hk=>?_
  refine bK x' y' h₁ tk px py hTI₁ s1.1 s2.1 hT₁ (λ c o c1 _ c3 c4 e=>hk c o c1 c3 c4 e) (let ⟨o,e⟩:=hz.to;⟨o,hk _ o Z.TOz Z.TOi1 Z.TOi2 e⟩) ⟨a0,true,hz₁,?_⟩
  obtain⟨o,ho⟩:=ha0
  by_cases c1:a0=z
  ·rw[c1];exact⟨_,hz₁⟩
  by_cases c2:a0=i1
  ·rw[c2];obtain⟨o,ho,_⟩:=s1.1.obj;exact⟨o,ho⟩
  by_cases c3:a0=i2
  ·rw[c3];obtain⟨o,ho,_⟩:=s2.1.obj;exact⟨o,ho⟩
  exact⟨o,hk a0 o c1 c2 c3 ho⟩
theorem aN2{p:Addr}{d:D}{aE:List Value}{n:Nat}{tk:Nat}(hL:SA ∉ L1)(hw:ZW X aB σ F1 L1 S1 SA z TI TO i1 i2 ds H F vs s)(hz:ZH z TI TO i1 i2 a b t u i s.heap)(hd:Den X.K F d (.ref p))(hl:vs.length+1<=sizeLine)
 (rv:aW vs aE) (e:s.heap.get? SA=some {cls:=.type "list",data:=.seq aE.toArray n }) :
 ∃ H',ZW X aB σ F1 L1 S1 SA z TI TO i1 i2 (ds++[d]) H' F (vs++[.ref p]) {s with heap:=s.heap.update SA (Obj.mapSeq (·.push (.ref p))),toks:=tk }/\ZH z TI TO i1 i2 a b t u i (s.heap.update SA (Obj.mapSeq (·.push (.ref p)))):=by
 have I3:Inv X aB σ (bB H SA (.lst (vs++[.ref p]))) {s with heap:=s.heap.update SA (Obj.mapSeq (·.push (.ref p))),toks:=tk }:=hw.inv.lset (its':=aE++[.ref p]) hw.lst e (by simp) (aW.append rv (.cons (show aZ (.ref p) (Value.ref p) from rfl) .nil)) (by rw[xAo];exact hl)
 have ne:∀ c∈[z,TI,TO,i1,i2],c≠SA:=λ c hc q=>by
  have:=(hw.fp c hc).1;rw[q,hw.lst] at this;cases this
 refine⟨_,⟨I3,hw.same,Rel.relay hw.rel hw.free hL,hw.free,cV,aFe hd hw.den,λ c hc=>⟨by rw[bJ (ne c hc)];exact(hw.fp c hc).1,(hw.fp c hc).2⟩⟩,hz.keep (λ c o hc q=>(Heap.get?_update_other _ _ (Ne.symm (ne c hc))).trans q) λ c o q=>?_⟩
 by_cases c1:c=SA
 ·subst c1;exact⟨_,PySem.IsL.update e _⟩
 ·exact⟨o,(Heap.get?_update_other _ _ (Ne.symm c1)).trans q⟩
theorem aMC{R:Result->Shared->Prop}{res:Value}(hh:A.in1.in1.handled=none)(Z:ZA z TI TO i1 i2 [i1,a] [i2,b])(n1:a≠i1)(n2:b≠i2)(sq1:Sq t X.K F1 a xs)(dl1:DenL X.K F1 ds1 xs)(sq2:Sq u X.K F1 b ys)(dl2:DenL X.K F1 ds2 ys)(hL:SA ∉ L1)(cH:(dC ds1 ds2).length<=1000000)
 (hR:∀ s' H' F' vs',ZW X aB σ F1 L1 S1 SA z TI TO i1 i2 (dC ds1 ds2) H' F' vs' s'->R (.ok (.ret res)) s') :
 ∀ (k i:Nat) (s:Shared) (H F:Hp) (vs:List V),(dC ds1 ds2).length - i=k->i<=(dC ds1 ds2).length->ZW X aB σ F1 L1 S1 SA z TI TO i1 i2 ((dC ds1 ds2).take i) H F vs s->ZH z TI TO i1 i2 a b t u i s.heap ->
 codeAny (model X.prog X.w) A (.builtin "list.extend.loop" ⟨[.ref SA,.ref z,res],[]⟩) R s:=by
 intro k
 induction k with
 | zero =>
   intro i s H F vs hk hi hw hz;have hin:i=(dC ds1 ds2).length:=by omega
   refine codeAny_builtin PySem.F.entry_extend_loop ?_;rw[Around.under_plainId PySem.F.plain_extend_loop _];show wpAny _ A.in1 (pyNext (.ref z) >>= _) _ _ s;rw[hin,List.take_length] at hw;have I:=hw.inv;obtain⟨dI,rv1,pl1⟩:=eI I (dB (hw.same.trans hw.rel.sub) sq1);obtain⟨cP,rv2,pl2⟩:=eI I (dB (hw.same.trans hw.rel.sub) sq2);have D1:=gT (prog:=X.prog) (w:=X.w) (A:=A.in1.in1) hh t i1 a n1 dI.toArray;have D2:=gT (prog:=X.prog) (w:=X.w) (A:=A.in1.in1) hh u i2 b n2 cP.toArray;have l1:=rv1.length;have l2:=rv2.length;have m1:=dl1.length;have m2:=dl2.length;rw[wQ] at hin;have hend:i=dI.toArray.size\/(i < dI.toArray.size/\i=cP.toArray.size):=by
    rw[List.size_toArray,List.size_toArray];omega
   have bK:∀ h' tk,(∀ c o,c≠z->c≠TO->c≠i1->c≠i2->s.heap.get? c=some o->h'.get? c=some o)->R (.ok (.ret res)) {s with heap:=h',toks:=tk }:=λ h' tk hk' =>
    hR _ H F vs ⟨aA4 I hw.fp λ c o hb e'=>hk' c o (λ q=>hb (by simp[q])) (λ q=>hb (by simp[q])) (λ q=>hb (by simp[q])) (λ q=>hb (by simp[q])) e',hw.same,hw.rel,hw.free,hw.lst,hw.den,hw.fp⟩
   rcases hz.z with ⟨hz0,p,q,bT⟩ | ⟨a0,f,hzb,ha0⟩
   ·exact wB (aDO D1 D2 Z hz0 hz.ti bT ⟨hz.q1,pl1⟩ ⟨hz.q2,pl2⟩ hend λ h₁ tk hk'=>wP (bK h₁ tk hk'))
   ·exact wB (aKa D1 D2 Z hzb ha0 hz.ti ⟨hz.q1,pl1⟩ ⟨hz.q2,pl2⟩ hend λ h₁ tk hk'=>wP (bK h₁ tk λ c o c1 _ c3 c4 e=>hk' c o c1 c3 c4 e))
 | succ k ih =>
   intro i s H F vs hk hi hw hz;have hlt:i < (dC ds1 ds2).length:=by omega
   refine codeAny_builtin PySem.F.entry_extend_loop ?_;rw[Around.under_plainId PySem.F.plain_extend_loop _];show wpAny _ A.in1 (pyNext (.ref z) >>= _) _ _ s;refine wB (aMK hh Z n1 n2 sq1 dl1 sq2 dl2 hw hz (List.getElem?_eq_getElem hlt) λ s' p H' F' hw' hz' hd=>?_)
   obtain⟨hv,aE,n,rv,hl,e⟩:=hw'.inv.lstM hw'.lst;have vl:vs.length=i:=by
    have:=hw'.den.length;rw[List.length_take] at this;omega
   have hs:1000000<=sizeLine:=aLj;show wpAny _ A.in1 (updateSeq SA (·.push (.ref p)) >>= _) _ _ _;obtain⟨H3,hw3,hz3⟩:=aN2 (tk:=s'.toks) hL hw' hz' hd (by omega) rv e
   rw[show(dC ds1 ds2).take i++[(dC ds1 ds2)[i]]=(dC ds1 ds2).take (i+1) from (List.take_succ_eq_append_getElem hlt).symm] at hw3
   refine wB (wpAny_updateSeq e rfl (wP ⟨plainId_quiet PySem.F.plain_extend_loop _,ih (i+1) _ H3 F' _ (by omega) hlt hw3 hz3⟩) (by simp;omega) (by simp;omega))
end
theorem aLg:typeLookup (.type "zip") "__len__" = pure none:=by rw[typeLookup_type,builtinLookup_eq_fast];kernel_rfl
theorem aKL:typeLookup (.type "zip") "__length_hint__" = pure none:=by rw[typeLookup_type,builtinLookup_eq_fast];kernel_rfl
section
variable {prog : Program}{w : World}{A : Around}{s : Shared}{R : Result -> Shared -> Prop}{z TI TO : Addr}{f0 : Value}
theorem aKZ(S:Addr)(res:Value)(c₀:Nat)(hz:IsZip s.heap z TI TO f0)(hSz:S≠z)(hS:s.heap.get? S=some {cls:=.type "list",data:=.seq #[] c₀ })
 (hR:∀ h' c,(∀ b o,b≠S->s.heap.get? b=some o->h'.get? b=some o)->h'.get? S=some {cls:=.type "list",data:=.seq #[] c }->codeAny (model prog w) A (.builtin "list.extend.loop" ⟨[.ref S,.ref z,res],[]⟩) R {s with heap:=h' }) :
 wpAny (model prog w) A.in1 (Builtin.List.listExtendWith (.ref S) (.ref z) res)
  (λ bK s'=>match bK with | .done f=>R (.ok f) s' | .again c'=>c'.quiet=true/\codeAny (model prog w) A c' R s') (λ e s'=>R (.error e) s') s:=by
 have hT:s.TypeIs (.ref z) "zip":=⟨_,hz,rfl⟩;unfold Builtin.List.listExtendWith;refine wB (wpAny_typeOf hT ?_);have h1:Builtin.List.listSameRef (.ref S) (.ref z)=false:=by simp[Builtin.List.listSameRef,hSz]
 have h2:(Value.type "zip" == Value.type "list")=false:=by decide
 have h3:(Value.type "zip" == Value.type "tuple")=false:=by decide
 simp only[h1,h2,h3,Bool.or_false,Bool.false_eq_true,if_false];refine wB (wpAny_pyIter_zip hz ?_);refine wB (wpAny_holding ?_);unfold Builtin.List.listLengthHint;refine wB (wpAny_specialOf hT aLg ?_);show wpAny _ A.in1 (specialOf (Value.ref z) (Str.ofString "__length_hint__") >>= _) _ _ _;refine wB (wpAny_specialOf hT aKL ?_);refine wP ?_;show wpAny _ A.in1 (rule "list.extend.makes-room" >>= λ _=>Builtin.List.listTouch (.ref S) >>= λ _ =>
  again (.builtin "list.extend.loop" ⟨[.ref S,.ref z,res],[]⟩)) _ _ _
 refine wB (wpAny_rule ?_);refine wB ?_;show wpAny _ A.in1 (updateSeq S (·.push .none) >>= λ _=>updateSeq S (·.pop)) _ _ _
 refine wB (wpAny_updateSeq hS rfl ?_);have hS₂:=Heap.get?_update_self (Obj.mapSeq (·.push Value.none)) hS rfl;refine wpAny_updateSeq (hz:=by seq_fits) hS₂ rfl ?_
 have hS₃:=Heap.get?_update_self (Obj.mapSeq (·.pop)) hS₂ rfl;have oth:∀ b o,b≠S->s.heap.get? b=some o->((s.heap.update S (Obj.mapSeq (·.push Value.none))).update S (Obj.mapSeq (·.pop))).get? b=some o:=
  λ b o hb e=>(Heap.get?_update_other _ _ (Ne.symm hb)).trans ((Heap.get?_update_other _ _ (Ne.symm hb)).trans e)
 exact wP ⟨plainId_quiet PySem.F.plain_extend_loop _,hR _ _ oth hS₃⟩
theorem aMU(S:Addr)(hz:IsZip s.heap z TI TO f0)(hSz:S≠z)(hS:s.heap.get? S=some {cls:=.type "list",data:=.seq #[] })
 (hR:∀ h' c,(∀ b o,b≠S->s.heap.get? b=some o->h'.get? b=some o)->h'.get? S=some {cls:=.type "list",data:=.seq #[] c }->codeAny (model prog w) A (.builtin "list.extend.loop" ⟨[.ref S,.ref z,.none],[]⟩) R {s with heap:=h' }) :
 wpAny (model prog w) A.in1 (Builtin.«list.__init__» ⟨[.ref S,.ref z],[]⟩)
  (λ bK s'=>match bK with | .done f=>R (.ok f) s' | .again c'=>c'.quiet=true/\codeAny (model prog w) A c' R s') (λ e s'=>R (.error e) s') s:=by
 show wpAny _ A.in1 (Builtin.List.listItems (.ref S) >>= λ old=>Builtin.List.listUpdate (.ref S) (λ _=>#[]) >>= λ _=>letGo old.toList.reverse >>= λ _=>Builtin.List.listExtendWith (.ref S) (.ref z) .none) _ _ s
 refine wB ?_;unfold Builtin.List.listItems;refine wB (wpAny_seqItems hS rfl (wP ?_));show wpAny _ A.in1 (updateSeq S (λ _=>#[]) >>= λ _=>letGo (#[]:Array Value).toList.reverse >>= λ _=>Builtin.List.listExtendWith (.ref S) (.ref z) .none) _ _ s
 have hS2:=Heap.get?_update_self (Obj.mapSeq (λ _=>(#[]:Array Value))) hS rfl
 have oth:∀ b o,b≠S->s.heap.get? b=some o->(s.heap.update S (Obj.mapSeq (λ _=>(#[]:Array Value)))).get? b=some o:=λ b o hb e=>(Heap.get?_update_other _ _ (Ne.symm hb)).trans e
 refine wB (wpAny_updateSeq hS rfl (wB (wpAny_letGo ?_)));exact aKZ S .none _ (oth _ _ (Ne.symm hSz) hz) hSz hS2 λ h' c hk hS'=>hR h' c (λ b o hb e=>hk b o hb (oth b o hb e)) hS'
end
section
variable {prog : Program}{w : World}{A : Around}{E : Value -> Shared -> Prop}{s : Shared}{z TI TO : Addr}{f0 : Value}
theorem aKq{Q:Value->Shared->Prop}(hz:IsZip s.heap z TI TO f0)
 (hQ:∀ h' c (R:Result->Shared->Prop),(∀ b o,s.heap.get? b=some o->h'.get? b=some o)->h'.get? s.heap.objs.size=some {cls:=.type "list",data:=.seq #[] c }->(∀ s',Q (.ref s.heap.objs.size) s'->R (.ok (.ret .none)) s')->codeAny (model prog w) A.in1 (.builtin "list.extend.loop" ⟨[.ref s.heap.objs.size,.ref z,.none],[]⟩) R {s with heap:=h' }) :
 wpAny (model prog w) A (call (.type "list") [.ref z]) Q E s:=by
 have hSz:s.heap.objs.size≠z:=Nat.ne_of_gt (xAa hz);have hS:(s.heap.push {cls:=.type "list",data:=.seq #[] }).get? s.heap.objs.size=some {cls:=.type "list",data:=.seq #[] }:=xAe _ rfl;refine callType_codes (Q₁:=λ ob s1=>ob=.ref s.heap.objs.size/\s1={s with heap:=s.heap.push {cls:=.type "list",data:=.seq #[] } }) PySem.F.called_list (PySem.F.typeCall_list_1 _) PySem.F.entry_list_init (code_list_new _ ⟨rfl,rfl⟩) λ ob s1 h1=>?_
 obtain⟨rfl,rfl⟩:=h1;refine⟨⟨_,hS,rfl⟩,PySem.F.args_list_init_2 _ _,aMU _ (hpS _ hz) hSz hS λ h' c hk hS'=>?_⟩
 exact hQ h' c _ (λ b o e=>hk b o (xAk (xAa e)) (hpS _ e)) hS' λ s' q=>⟨rfl,q⟩
end
noncomputable def qT(fa fb:FE):FL:=aI9 (oX fa fb)
section
variable {X : Cx}
theorem aPZ{a b:Expr}{fa fb:FE}{p p2 pos pos2:Pos}(ha:PE X a (aS X.K fa))(hb:PE X b (aS X.K fb))(hc:X.calm=true)(hg:Gl X "list")(hm:X.mg "list" = none)(hg2:Gl X "zip")(hm2:X.mg "zip" = none)
 (hs:starEach [a,b] X.env=(false,eval a X.env)::starEach [b] X.env) (hs2:starEach [b] X.env=[(false,eval b X.env)]):PE X (.Call (.Name "list" p) [.Call (.Name "zip" p2) [a,b] [] pos2] [] pos) (iO X.K (qT fa fb)):=by
 rintro aB s σ H Q I ⟨F,L,S,env,ds,S',R,E,e,q⟩;obtain⟨⟨ds',S1'⟩,e0,e⟩:=bind_some e;obtain⟨⟨w1,S1⟩,e1,e2⟩:=bind_some e0;obtain⟨⟨w2,S2⟩,e3,e4⟩:=bind_some e2;obtain⟨ds1,e5,e6⟩:=bind_some e4;obtain⟨ds2,e7,e8⟩:=bind_some e6;dsimp only at e e3 e5 e7;cases e8
 split at e
 ·rename_i cH;cases e;refine wpAny_Call_Name_kw (jH I hg hm (show bootBuiltins "list" = some (.type "list") by decide +kernel) ?_)
  refine PyProof.Rows.callWith_type1 ?_ rfl rfl;show wpAny _ _ (spliced ((false,eval (.Call (.Name "zip" p2) [a,b] [] pos2) X.env)::[])) _ _ s;refine Calls.spliced_cons ?_;refine wpAny_Call_Name_kw (jH I hg2 hm2 boot_zip ?_);refine PyProof.Rows.callWith_type1 ?_ hs (by rw[hs2];rfl)
  refine bA (kK ha (kK hb aCv hs2) hs pos2 aB s σ H (λ vs H1=>∃ v v2 F1 L1,vs=[v,v2]/\Gr F L F1 L1/\Rel X.K F1 L1 S2 H1/\eJ X.K F1 L1 w1 v/\eJ X.K F1 L1 w2 v2) I ⟨F,L,S,env,[w1,w2],_,R,E,by unfold cN;rw[e1];dsimp only[Option.bind];rw[e3];rfl,λ F1 L1 H1 vs g1 R1 d1=>by
   cases d1 with
   | cons d0 dr =>
     cases dr with
     | cons d2 dr=>cases dr;exact⟨_,_,F1,L1,rfl,g1,R1,d0,d2⟩⟩) λ us s1 ⟨vs,H1,I1,r1,v,v2,F1,L1,ev,g1,R1,d1,d2⟩=>?_
  subst ev;obtain⟨u1,u2,rfl,ru1,ru2⟩:=tZ r1;obtain⟨t,l1,xs,rfl,sq1,dl1⟩:=oH e5 d1;obtain⟨u,l2,ys,rfl,sq2,dl2⟩:=oH e7 d2;cases ru1;cases ru2;obtain⟨dI,rv1,pl1⟩:=eI I1 (dB R1.sub sq1);obtain⟨cP,rv2,pl2⟩:=eI I1 (dB R1.sub sq2);have a1:=pl1.lt;have a2:=pl2.lt;refine aFc pl1 pl2 λ h' hz bO bT hi1 hi2 hsz hk=>?_
  refine Calls.spliced_nil ?_;have I2:Inv X aB σ H1 {s1 with heap:=h' }:=I1.kept (t':=s1.toks) hk
  have hb':∀ b∈[s1.heap.objs.size+4,s1.heap.objs.size+2,s1.heap.objs.size+3,s1.heap.objs.size,s1.heap.objs.size+1],s1.heap.objs.size<=b/\b < s1.heap.objs.size+5:=λ b hb=>by
   simp only[List.mem_cons,List.not_mem_nil,or_false] at hb;omega
  have Z:=aHF (n:=s1.heap.objs.size) (a:=l1) (b:=l2) a1 a2;refine aKq hz λ h2 c R2 hk2 hS hR2=>?_
  dsimp only at hk2 hS hR2 ⊢;have fr:H1 h'.objs.size=none:=I2.hok.fresh (Nat.le_refl _);have I3:Inv X aB σ (bB H1 h'.objs.size (.lst [])) {s1 with heap:=h2 }:=I2.laid (t':=s1.toks) hk2 (Nat.le_refl _) ⟨Nat.zero_le _,[],c,.nil,hS⟩
  have nS:h'.objs.size ∉ L1:=R1.notin fr;have fpk:∀ b∈[s1.heap.objs.size+4,s1.heap.objs.size+2,s1.heap.objs.size+3,s1.heap.objs.size,s1.heap.objs.size+1],gI X aB (bB H1 h'.objs.size (.lst [])) b:=λ b hb=>by
   have f:=I1.fpOk (hb' b hb).1 (I1.hok.fresh (hb' b hb).1);exact⟨by rw[bJ (by rw[hsz];exact xAk (hb' b hb).2)];exact f.1,f.2⟩
  refine aMC (X:=X) (A:=X.A.in1) (aB:=aB) (σ:=σ) (F1:=F1) (L1:=L1) (S1:=S2) (ds1:=ds1) (ds2:=ds2) (show X.A.in1.in1.in1.handled=none from I.ok.hd hc) Z (xAk a1) (xAk (Nat.lt_succ_of_lt a2)) sq1 dl1 sq2 dl2 nS cH (λ s' H' F' vs' hw=>hR2 s' ?_) _ 0 _ (bB H1 h'.objs.size (.lst [])) F1 [] rfl (Nat.zero_le _)
   ⟨I3,cC.refl _,R1.lay fr,R1.sub.free fr,cV,.nil,fpk⟩ ⟨hk2 _ _ bO,hi1.at λ o e=>hk2 _ _ e,hi2.at λ o e=>hk2 _ _ e,⟨_,hk2 _ _ bT⟩,.inl ⟨hk2 _ _ hz,_,_,hk2 _ _ bT⟩⟩
  exact⟨.ref h'.objs.size,H',hw.inv,rfl,q F' L1 H' _ vs' (g1.trans ⟨hw.same,[],by simp⟩) hw.rel hw.free nS hw.lst hw.den⟩
 ·cases e
end
section
variable {prog : Program}{w : World}{A : Around}{E : Value -> Shared -> Prop}{s : Shared}
end
section
variable {X : Cx}{tg : Expr}
end
section
variable {X : Cx}
noncomputable def aJa(K:FrG):V->List V->Hp->VK->Prop:=λ x vs H Q=>∃ (a:Addr) (ns:List Int) (k:Int),x=.ref a/\vs=[.int k]/\bR K H a (ns.map V.int)/\k∈ns/\Q (.int (ns.idxOf k:Nat)) H
theorem aML:MtM X "list.index" (aJa X.K):=by
 intro aB s σ H x vs v us Q I rx rv h;obtain⟨a,ns,k,rfl,rfl,sq,hk,q⟩:=h;cases rx;obtain⟨u,rfl,ru⟩:=rv.one;obtain⟨t,rfl⟩:=ru;obtain⟨aE,r,pl,hz⟩:=I.list sq;have hi:=aLb r;obtain⟨⟨cls,dd,data,sl⟩,ho,hc,n,hd⟩:=pl.isList;simp only at hc hd;subst hc hd;have cH:=hi.length;have hn:=mX;have hj:ns.idxOf k < ns.length:=List.idxOf_lt_length_iff.mpr hk;rw[List.length_map] at hz;refine call_meets PySem.F.slot_list_index ⟨_,ho,rfl⟩ PySem.F.entry_list_index (PySem.F.args_list_index_2 _ _)
  (SeqAt.list_indexAt a aE.toArray n dd sl (.int k t) (isInt k) (ns.idxOf k) (by simpa [cH] using hj) (by omega) ?_ ?_) ⟨ho,λ y hy=>(eq_isInt k t hi y (by simpa using hy)).at _ _,⟨.int (ns.idxOf k:Nat),H,I.tok _,⟨_,rfl⟩,q⟩⟩
 ·show isInt k aE[ns.idxOf k]=true;rw[isInt_at k hi _ (by omega) hj]
  simpa using List.getElem_idxOf hj
 ·intro j hjs hlt;show isInt k aE[j]=false;rw[isInt_at k hi j (by simpa using hjs) (by omega)]
  exact ne_of_lt_idxOf hlt _
noncomputable def uW(S:aC):W->W->Option (W × aC)
 | .d (.list xs),.d (.int k)=>(iS xs).bind λ ns=>if k∈ns then some (.d (.int ((ns.idxOf k:Nat):Int)),S) else none
 | _,_=>none
theorem aLy{S S':aC}{o x w:W}(h:uW S o x=some (w,S')):∃ xs k ns,o=.d (.list xs)/\x=.d (.int k)/\iS xs=some ns/\k∈ns/\w=.d (.int ((ns.idxOf k:Nat):Int))/\S'=S:=by
 unfold uW at h
 split at h
 ·rename_i xs k;obtain⟨ns,e1,e⟩:=bind_some h
  by_cases c:k∈ns
  ·rw[if_pos c] at e;cases e;exact⟨xs,k,ns,rfl,rfl,e1,c,rfl,rfl⟩
  ·rw[if_neg c] at e;cases e
 ·cases h
noncomputable def aAa(fo fe:FE):FE:=f2 fo fe uW
theorem aR6{K:FrG}{fo fe:FE}(σ:L2.St)(H:Hp)(Q:VK)(h:aS K (aAa fo fe) σ H Q):tBM K "list" (aJa K) (aS K fo) (fN K (cN fe gO)) σ H Q:=by
 obtain⟨F,L,S,env,w,S',R,E,e,q⟩:=h;obtain⟨⟨wo,S1⟩,e1,e⟩:=bind_some e;obtain⟨⟨we,S2⟩,e2,e⟩:=bind_some e;obtain⟨xs,k,ns,rfl,rfl,e5,hk,rfl,rfl⟩:=aLy e;refine⟨F,L,S,env,_,S1,R,E,e1,λ F1 L1 H1 o g1 R1 d1=>?_⟩
 cases (show Den K F1 (.list xs) o from d1) with
 | lst sq dl =>
   obtain rfl:=sE dl e5;refine⟨.inl ⟨rfl,_,R1.sub.seq sq⟩,F1,L1,S1,env,[.d (.int k)],S',R1,E.mono g1,?_,λ F2 L2 H2 vs g2 R2 d2=>?_⟩
   ·unfold cN;rw[e2];rfl
   ·cases d2 with
    | cons dd dr =>
      cases dr;cases (show Den K F2 (.int k) _ from dd)
      exact⟨_,ns,k,rfl,rfl,R2.sub.seq (g2.f.seq sq),hk,q F2 L2 H2 _ (g1.trans g2) R2 (.int _)⟩
end
noncomputable def jV(fa:FE)(fl fh:FO):FE:=λ env S=>(fa env S).bind λ p=>(fl env p.2).bind λ q=>(fh env q.2).bind λ r=>(dr r.2 p.1).bind λ d=>match d with
 | .list xs=>some (.d (.list (fJ xs q.1 r.1)),r.2)
 | .tuple xs=>some (.d (.tuple (fJ xs q.1 r.1)),r.2)
 | _=>none
noncomputable def fP(fa:FE):FL:=λ env S=>(fa env S).bind λ p=>match p.1 with
 | .d (.list ds)=>some (ds,p.2)
 | .d (.tuple ds)=>some (ds,p.2)
 | _=>none
section
variable {X : Cx}{pos : Pos}
theorem aUc{a:Expr}{lo hi:Option Expr}{p2:Pos}{fa:FE}{fl fh:FO}(ha:PE X a (aS X.K fa))(hl:PO X lo (kY X.K fl))(hh:PO X hi (kY X.K fh)):PE X (.Subscript a (.Slice lo hi none p2) pos) (aS X.K (jV fa fl fh)):=by
 rintro aB s σ H Q I ⟨F,L,S,env,w,S',R,E,e,q⟩;obtain⟨⟨w1,S1⟩,e1,e⟩:=bind_some e;obtain⟨⟨l,S2⟩,e2,e⟩:=bind_some e;obtain⟨⟨h,S3⟩,e3,e⟩:=bind_some e;obtain⟨d,e4,e⟩:=bind_some e;dsimp only at e e2 e3 e4;cases d with
 | list xs =>
   cases e;refine aJz (aSm ha hl hh) aB s σ H Q I ⟨F,L,S,env,_,_,R,E,?_,q⟩;unfold jY aJK;rw[e1];dsimp only[Option.bind];rw[e2];dsimp only;rw[e3];dsimp only;rw[e4];rfl
 | tuple xs =>
   cases e;refine aQ7 ha hl hh aB s σ H Q I ⟨F,L,S,env,_,_,R,E,?_,q⟩;unfold aIl;rw[e1];dsimp only[Option.bind];rw[e2];dsimp only;rw[e3];dsimp only;rw[e4];dsimp only[aJB]
 | _=>cases e
theorem aUn{tg a:Expr}{fa:FE}(ha:PE X a (aS X.K fa)):PI X tg a (hV X.K (fP fa)):=by
 rintro aB s σ H Rr I ⟨F,L,S,env,ds,S',R,E,e,q⟩;obtain⟨⟨w1,S1⟩,e1,e⟩:=bind_some e;dsimp only at e
 split at e
 ·rename_i ds';cases e;refine aS8 ha aB s σ H Rr I ⟨F,L,S,env,_,_,R,E,?_,q⟩;unfold aJA;rw[e1];rfl
 ·cases e;refine aTM ha aB s σ H Rr I ⟨F,L,S,env,_,_,R,E,?_,q⟩;unfold aJm;rw[e1];rfl
 ·cases e
end
inductive Ty where
 | int | bool | str | lst | tup
 deriving DecidableEq
noncomputable def Ty.s:Ty->String
 | .int => "int" | .bool => "bool" | .str => "str" | .lst => "list" | .tup => "tuple"
noncomputable def Ty.n:Ty->Str
 | .int => "int" | .bool => "bool" | .str => "str" | .lst => "list" | .tup => "tuple"
noncomputable def jR:Ty->D->Option D
 | _,.dict _=>none
 | .int,.int _=>some (.bool true)
 | .int,.bool _=>some (.bool true)
 | .bool,.bool _=>some (.bool true)
 | .str,.str _=>some (.bool true)
 | .lst,.list _=>some (.bool true)
 | .tup,.tuple _=>some (.bool true)
 | _,_=>some (.bool false)
theorem aTy{i:Int}:jR .int (.int i)=some (.bool true):=rfl
theorem aR0{i:Int}:jR .bool (.int i)=some (.bool false):=rfl
theorem aSO{xs:List D}:jR .tup (.tuple xs)=some (.bool true):=rfl
theorem aTs{b:Bool}:jR .bool (.bool b)=some (.bool true):=rfl
theorem aTY{b:Bool}:jR .int (.bool b)=some (.bool true):=rfl
theorem aPg(K:FrG){ty:Ty}{d z:D}(h:jR ty d=some z):vA K ty.s d=some z:=by
 cases ty<;>cases d<;>first | (cases h;done) | (cases h;rfl)
inductive B where
 | len | mx | mn | int | abs | tup | sum | all | any
 deriving DecidableEq
noncomputable def B.g:B->List D->Option D
 | .len=>hU | .mx=>nQ | .mn=>iH | .int=>vD | .abs=>aCX | .tup=>tN | .sum=>aCP | .all=>aCS | .any=>aDb
noncomputable def B.n:B->Str
 | .len => "len" | .mx => "max" | .mn => "min" | .int => "int" | .abs => "abs" | .tup => "tuple" | .sum => "sum" | .all => "all" | .any => "any"
inductive E where
 | var (i:Nat) | int (i:Int) | bl (b:Bool) | non | str (x:Str)
 | bin (op:Operator) (a b:E) | un (op:UnaryOp) (a:E) | cmp (op:CmpOp) (a b:E) | ltl (a b:E)
 | and (a b:E) | or (a b:E) | not (a:E) | ite (c a b:E)
 | tup (es:E) | lst (es:E) | nil | cons (a r:E)
 | chn (op op':CmpOp) (a b c:E) | con (x:Str) (ts:List Tv)
 | ix (a b:E) | dsp (k l m:Str) (a b c i:E) | tab (x:Str) (aU:List (Str × Tv)) (k:E) | slL (a lo hi:E) | sl (a lo hi:E) | no
 | call (f:Nat) (es:E) | blt (b:B) (es:E) | isi (a:E) (n:Ty) | bits (a:E) | app (o a:E) | pop (o a:E) | idx (o a:E)
 | lof (a:E) | lzip (a b:E) | lrg1 (a:E) | lrg2 (a b:E) | srt (a:E) | lrev (a:E) | lrep (a b:E) | comp (elt:E) (t:Tg) (it:E) (cond:E)
 | it (a:E) | rng1 (a:E) | rng2 (a b:E) | rng3 (a b c:E) | rrng (a:E) | enm (a:E) | zip (a b:E) | zip3 (a b c:E)
 | fz (a:E) | new (a:E)
noncomputable abbrev Calls:=Nat->Option (Nat × (List W->aC->Option (W × aC)))
noncomputable def kL(C:Calls)(f:Nat)(fs:FA):FE:=λ env S=>match C f with
 | some (np,call)=>zI fs np call env S
 | none=>none
section
variable (C : Calls)
mutual
noncomputable def ev:E->FE
 | .var i=>iY i
 | .int i=>fC (.int i)
 | .bl b=>fC (.bool b)
 | .non=>fC .none
 | .str x=>fC (.str x)
 | .bin op a b=>pC op (ev a) (ev b)
 | .un op a=>vZ op (ev a)
 | .cmp op a b=>mC op (ev a) (ev b)
 | .and a b=>uE (ev a) (ev b)
 | .or a b=>vF (ev a) (ev b)
 | .not a=>uC (ev a)
 | .ite c a b=>uO (tv c) (ev a) (ev b)
 | .tup es=>uP (av es)
 | .ix a b=>nT (ev a) (ev b)
 | .tab _ aU k=>f1 (ev k) (fV (zZ aU))
 | .con _ ts=>fC (.tuple (ts.map Tv.d))
 | .sl a lo hi=>jV (ev a) (ov lo) (ov hi)
 | .call f es=>kL C f (av es)
 | .blt b es=>pF (av es) b.g
 | .isi a n=>f1 (ev a) (fV (jR n))
 | .bits a=>aCC (ev a)
 | .app o a=>jS (ev o) (ev a)
 | .idx o a=>aAa (ev o) (ev a)
 | .fz a=>jY (lv a)
 | .new a=>gG (lv a)
 | _=>λ _ _=>none
noncomputable def tv:E->FT
 | .and a b=>uT (tv a) (tv b)
 | .or a b=>vX (tv a) (tv b)
 | .not a=>vB (tv a)
 | .var i=>cY (iY i)
 | .cmp op a b=>cY (mC op (ev a) (ev b))
 | .ix a b=>cY (nT (ev a) (ev b))
 | .call f es=>cY (kL C f (av es))
 | .blt b es=>cY (pF (av es) b.g)
 | .isi a n=>cY (f1 (ev a) (fV (jR n)))
 | .bin op a b=>cY (pC op (ev a) (ev b))
 | .bl b=>cY (fC (.bool b))
 | .no=>nO
 | _=>λ _ _=>none
noncomputable def av:E->FA
 | .nil=>gO
 | .cons a r=>cN (ev a) (av r)
 | _=>λ _ _=>none
noncomputable def ov:E->FO
 | .no=>nW
 | .cons a .nil=>jP (ev a)
 | _=>λ _ _=>none
noncomputable def lv:E->FL
 | .lst es=>uY (av es)
 | .lzip a b=>qT (ev a) (ev b)
 | .lrep a b=>vH (ev a) (ev b)
 | .comp elt t it cond=>gX t (lv it) (tv cond) (ev elt)
 | .it a=>fP (ev a)
 | .rng1 a=>uL (ev a)
 | .rng2 a b=>uN (ev a) (ev b)
 | .rng3 a b c=>zF (ev a) (ev b) (ev c)
 | .enm a=>tS (ev a)
 | .zip a b=>oX (ev a) (ev b)
 | .zip3 a b c=>zK (ev a) (ev b) (ev c)
 | _=>λ _ _=>none
end
inductive Sx where
 | skip | seq (a b:Sx) | expr (e:E) | ret (e:E)
 | ifs (c:E) (a b:Sx) | set (i:Nat) (e:E) | setC (nw:Bool) (i:Nat) (e:E) | setT (t:Tg) (e:E) | put (o i e:E)
 | loop (t:Tg) (it:E) (b:Sx)
noncomputable def xs:Sx->FS
 | .skip=>oW
 | .seq a b=>cX (xs a) (xs b)
 | .expr e=>uJ (ev C e)
 | .ret e=>nN (ev C e)
 | .ifs c a b=>mE (tv C c) (xs a) (xs b)
 | .set i e=>jA i (ev C e)
 | .setC nw i e=>jA i (match nw with | true=>gG (lv C e) | false=>jY (lv C e))
 | .setT t e=>zQ t (ev C e)
 | .put o i e=>iG (ev C o) (ev C i) (ev C e)
 | .loop t it b=>cJ t (lv C it) (xs b)
theorem aB3{i}:ev C (.var i)=iY i:=rfl
theorem aQX{i}:ev C (.int i)=fC (.int i):=rfl
theorem aTE{b}:ev C (.bl b)=fC (.bool b):=rfl
theorem aRB:ev C .non=fC .none:=rfl
theorem aPt{x}:ev C (.str x)=fC (.str x):=rfl
theorem aH1{op a b}:ev C (.bin op a b)=pC op (ev C a) (ev C b):=rfl
theorem aIL{op a}:ev C (.un op a)=vZ op (ev C a):=rfl
theorem aCm{op a b}:ev C (.cmp op a b)=mC op (ev C a) (ev C b):=rfl
theorem aHN{a b}:ev C (.and a b)=uE (ev C a) (ev C b):=rfl
theorem aIp{a b}:ev C (.or a b)=vF (ev C a) (ev C b):=rfl
theorem aHY{a}:ev C (.not a)=uC (ev C a):=rfl
theorem aHq{c a b}:ev C (.ite c a b)=uO (tv C c) (ev C a) (ev C b):=rfl
theorem aHk{es}:ev C (.tup es)=uP (av C es):=rfl
theorem aCz{a b}:ev C (.ix a b)=nT (ev C a) (ev C b):=rfl
theorem aPK{n0 aU k}:ev C (.tab n0 aU k)=f1 (ev C k) (fV (zZ aU)):=rfl
theorem aPX{n0 ts}:ev C (.con n0 ts)=fC (.tuple (ts.map Tv.d)):=rfl
theorem aCD{a lo hi}:ev C (.sl a lo hi)=jV (ev C a) (ov C lo) (ov C hi):=rfl
theorem aGo{f es}:ev C (.call f es)=kL C f (av C es):=rfl
theorem aHL{b es}:ev C (.blt b es)=pF (av C es) b.g:=rfl
theorem aHa{a n}:ev C (.isi a n)=f1 (ev C a) (fV (jR n)):=rfl
theorem aOc{a}:ev C (.bits a)=aCC (ev C a):=rfl
theorem aG8{o a}:ev C (.app o a)=jS (ev C o) (ev C a):=rfl
theorem aPy{o a}:ev C (.idx o a)=aAa (ev C o) (ev C a):=rfl
theorem aIw{a}:ev C (.fz a)=jY (lv C a):=rfl
theorem aB9{a}:ev C (.new a)=gG (lv C a):=rfl
theorem aHs{a b}:tv C (.and a b)=uT (tv C a) (tv C b):=rfl
theorem aIR{a b}:tv C (.or a b)=vX (tv C a) (tv C b):=rfl
theorem aHf{a}:tv C (.not a)=vB (tv C a):=rfl
theorem aPS{i}:tv C (.var i)=cY (iY i):=rfl
theorem aH8{op a b}:tv C (.cmp op a b)=cY (mC op (ev C a) (ev C b)):=rfl
theorem aSt{a b}:tv C (.ix a b)=cY (nT (ev C a) (ev C b)):=rfl
theorem aOo{f es}:tv C (.call f es)=cY (kL C f (av C es)):=rfl
theorem aQ8{b es}:tv C (.blt b es)=cY (pF (av C es) b.g):=rfl
theorem aPR{a n}:tv C (.isi a n)=cY (f1 (ev C a) (fV (jR n))):=rfl
theorem aPr{op a b}:tv C (.bin op a b)=cY (pC op (ev C a) (ev C b)):=rfl
theorem aTU{b}:tv C (.bl b)=cY (fC (.bool b)):=rfl
theorem aSx:tv C .no=nO:=rfl
theorem aPT:av C .nil=gO:=rfl
theorem aGI{a r}:av C (.cons a r)=cN (ev C a) (av C r):=rfl
theorem aSy:ov C .no=nW:=rfl
theorem aGw{a}:ov C (.cons a .nil)=jP (ev C a):=rfl
theorem aHD{es}:lv C (.lst es)=uY (av C es):=rfl
theorem aO3{a b}:lv C (.lzip a b)=qT (ev C a) (ev C b):=rfl
theorem kF{a b c}:lv C (.rng3 a b c)=zF (ev C a) (ev C b) (ev C c):=rfl
theorem aGG{a b}:lv C (.lrep a b)=vH (ev C a) (ev C b):=rfl
theorem aOu{elt t it cond}:lv C (.comp elt t it cond)=gX t (lv C it) (tv C cond) (ev C elt):=rfl
theorem kW{a}:lv C (.it a)=fP (ev C a):=rfl
theorem kE{a}:lv C (.rng1 a)=uL (ev C a):=rfl
theorem kH{a b}:lv C (.rng2 a b)=uN (ev C a) (ev C b):=rfl
theorem kN{a}:lv C (.enm a)=tS (ev C a):=rfl
theorem kQ{a b}:lv C (.zip a b)=oX (ev C a) (ev C b):=rfl
theorem kG{a b c}:lv C (.zip3 a b c)=zK (ev C a) (ev C b) (ev C c):=rfl
theorem aBY:xs C .skip=oW:=rfl
theorem iT{a b}:xs C (.seq a b)=cX (xs C a) (xs C b):=rfl
theorem aGV{e}:xs C (.expr e)=uJ (ev C e):=rfl
theorem aCb{e}:xs C (.ret e)=nN (ev C e):=rfl
theorem qI{c a b}:xs C (.ifs c a b)=mE (tv C c) (xs C a) (xs C b):=rfl
theorem yM{i e}:xs C (.set i e)=jA i (ev C e):=rfl
theorem aGn{nw i e}:xs C (.setC nw i e)=jA i (match nw with | true=>gG (lv C e) | false=>jY (lv C e)):=rfl
theorem aN9{t e}:xs C (.setT t e)=zQ t (ev C e):=rfl
theorem aHl{o i e}:xs C (.put o i e)=iG (ev C o) (ev C i) (ev C e):=rfl
theorem tE{t it b}:xs C (.loop t it b)=cJ t (lv C it) (xs C b):=rfl
end
theorem no{P:Prop}(h:false=true):P:=by cases h
theorem gN{a b:Bool}(h:(a&&b)=true):a=true/\b=true:=by
 cases a with
 | false=>exact no h
 | true=>exact⟨rfl,h⟩
theorem aL{a b:Bool}(h:(a&&b)=true):a=true:=(gN h).1
theorem aR{a b:Bool}(h:(a&&b)=true):b=true:=(gN h).2
theorem fD{c:Prop}{d:Decidable c}{f:c->Bool}(h:(@dite _ c d f λ _=>false)=true):c:=by
 cases d with
 | isTrue k=>exact k
 | isFalse _=>exact no h
noncomputable def iM(k:Str->Pos->Bool)(x:Expr):Bool:=if h:x.ctorIdx=23 then @Expr.Name.elim (λ _=>Bool) x h k else false
theorem lX{P:Expr->Prop}{k:Str->Pos->Bool}{x:Expr}(h:iM k x=true)(g:∀ a b,k a b=true->P (.Name a b)):P x:=@Expr.Name.elim (λ e=>iM k e=true->P e) x (fD h) g h
noncomputable def kCo(k:Const->Nat->Pos->Bool)(x:Expr):Bool:=if h:x.ctorIdx=19 then @Expr.Constant.elim (λ _=>Bool) x h k else false
theorem aUw{P:Expr->Prop}{k:Const->Nat->Pos->Bool}{x:Expr}(h:kCo k x=true)(g:∀ a b c,k a b c=true->P (.Constant a b c)):P x:=@Expr.Constant.elim (λ e=>kCo k e=true->P e) x (fD h) g h
noncomputable def vY(k:Expr->Operator->Expr->Pos->Bool)(x:Expr):Bool:=if h:x.ctorIdx=2 then @Expr.BinOp.elim (λ _=>Bool) x h k else false
theorem aJf{P:Expr->Prop}{k:Expr->Operator->Expr->Pos->Bool}{x:Expr}(h:vY k x=true)(g:∀ a b c d,k a b c d=true->P (.BinOp a b c d)):P x:=@Expr.BinOp.elim (λ e=>vY k e=true->P e) x (fD h) g h
noncomputable def vN(k:UnaryOp->Expr->Pos->Bool)(x:Expr):Bool:=if h:x.ctorIdx=3 then @Expr.UnaryOp.elim (λ _=>Bool) x h k else false
theorem aCQ{P:Expr->Prop}{k:UnaryOp->Expr->Pos->Bool}{x:Expr}(h:vN k x=true)(g:∀ a b c,k a b c=true->P (.UnaryOp a b c)):P x:=@Expr.UnaryOp.elim (λ e=>vN k e=true->P e) x (fD h) g h
noncomputable def kCm(k:Expr->List CmpOp->List Expr->Pos->Bool)(x:Expr):Bool:=if h:x.ctorIdx=15 then @Expr.Compare.elim (λ _=>Bool) x h k else false
theorem aU8{P:Expr->Prop}{k:Expr->List CmpOp->List Expr->Pos->Bool}{x:Expr}(h:kCm k x=true)(g:∀ a b c d,k a b c d=true->P (.Compare a b c d)):P x:=@Expr.Compare.elim (λ e=>kCm k e=true->P e) x (fD h) g h
noncomputable def kBo(k:BoolOp->List Expr->Pos->Bool)(x:Expr):Bool:=if h:x.ctorIdx=0 then @Expr.BoolOp.elim (λ _=>Bool) x h k else false
theorem aUE{P:Expr->Prop}{k:BoolOp->List Expr->Pos->Bool}{x:Expr}(h:kBo k x=true)(g:∀ a b c,k a b c=true->P (.BoolOp a b c)):P x:=@Expr.BoolOp.elim (λ e=>kBo k e=true->P e) x (fD h) g h
noncomputable def kIe(k:Expr->Expr->Expr->Pos->Bool)(x:Expr):Bool:=if h:x.ctorIdx=5 then @Expr.IfExp.elim (λ _=>Bool) x h k else false
theorem aUi{P:Expr->Prop}{k:Expr->Expr->Expr->Pos->Bool}{x:Expr}(h:kIe k x=true)(g:∀ a b c d,k a b c d=true->P (.IfExp a b c d)):P x:=@Expr.IfExp.elim (λ e=>kIe k e=true->P e) x (fD h) g h
noncomputable def vW(k:List Expr->Nat->Pos->Bool)(x:Expr):Bool:=if h:x.ctorIdx=25 then @Expr.Tuple.elim (λ _=>Bool) x h k else false
theorem rG{P:Expr->Prop}{k:List Expr->Nat->Pos->Bool}{x:Expr}(h:vW k x=true)(g:∀ a b c,k a b c=true->P (.Tuple a b c)):P x:=@Expr.Tuple.elim (λ e=>vW k e=true->P e) x (fD h) g h
noncomputable def kLi(k:List Expr->Pos->Bool)(x:Expr):Bool:=if h:x.ctorIdx=24 then @Expr.List.elim (λ _=>Bool) x h k else false
theorem aUB{P:Expr->Prop}{k:List Expr->Pos->Bool}{x:Expr}(h:kLi k x=true)(g:∀ a b,k a b=true->P (.List a b)):P x:=@Expr.List.elim (λ e=>kLi k e=true->P e) x (fD h) g h
noncomputable def kSu(k:Expr->Expr->Pos->Bool)(x:Expr):Bool:=if h:x.ctorIdx=21 then @Expr.Subscript.elim (λ _=>Bool) x h k else false
theorem aJv{P:Expr->Prop}{k:Expr->Expr->Pos->Bool}{x:Expr}(h:kSu k x=true)(g:∀ a b c,k a b c=true->P (.Subscript a b c)):P x:=@Expr.Subscript.elim (λ e=>kSu k e=true->P e) x (fD h) g h
noncomputable def kSl(k:Option Expr->Option Expr->Option Expr->Pos->Bool)(x:Expr):Bool:=if h:x.ctorIdx=26 then @Expr.Slice.elim (λ _=>Bool) x h k else false
theorem aU5{P:Expr->Prop}{k:Option Expr->Option Expr->Option Expr->Pos->Bool}{x:Expr}(h:kSl k x=true)(g:∀ a b c d,k a b c d=true->P (.Slice a b c d)):P x:=@Expr.Slice.elim (λ e=>kSl k e=true->P e) x (fD h) g h
noncomputable def kCa(k:Expr->List Expr->List Keyword->Pos->Bool)(x:Expr):Bool:=if h:x.ctorIdx=16 then @Expr.Call.elim (λ _=>Bool) x h k else false
theorem aJw{P:Expr->Prop}{k:Expr->List Expr->List Keyword->Pos->Bool}{x:Expr}(h:kCa k x=true)(g:∀ a b c d,k a b c d=true->P (.Call a b c d)):P x:=@Expr.Call.elim (λ e=>kCa k e=true->P e) x (fD h) g h
noncomputable def kAt(k:Expr->Str->Pos->Bool)(x:Expr):Bool:=if h:x.ctorIdx=20 then @Expr.Attribute.elim (λ _=>Bool) x h k else false
theorem aVc{P:Expr->Prop}{k:Expr->Str->Pos->Bool}{x:Expr}(h:kAt k x=true)(g:∀ a b c,k a b c=true->P (.Attribute a b c)):P x:=@Expr.Attribute.elim (λ e=>kAt k e=true->P e) x (fD h) g h
noncomputable def kLc(k:Expr->List Comprehension->Scope->Pos->Bool)(x:Expr):Bool:=if h:x.ctorIdx=8 then @Expr.ListComp.elim (λ _=>Bool) x h k else false
theorem aUR{P:Expr->Prop}{k:Expr->List Comprehension->Scope->Pos->Bool}{x:Expr}(h:kLc k x=true)(g:∀ a b c d,k a b c d=true->P (.ListComp a b c d)):P x:=@Expr.ListComp.elim (λ e=>kLc k e=true->P e) x (fD h) g h
noncomputable def kEx(k:Expr->Pos->Bool)(x:Stmt):Bool:=if h:x.ctorIdx=24 then @Stmt.Expr.elim (λ _=>Bool) x h k else false
theorem aVd{P:Stmt->Prop}{k:Expr->Pos->Bool}{x:Stmt}(h:kEx k x=true)(g:∀ a b,k a b=true->P (.Expr a b)):P x:=@Stmt.Expr.elim (λ e=>kEx k e=true->P e) x (fD h) g h
noncomputable def kRe(k:Option Expr->Pos->Bool)(x:Stmt):Bool:=if h:x.ctorIdx=3 then @Stmt.Return.elim (λ _=>Bool) x h k else false
theorem aUt{P:Stmt->Prop}{k:Option Expr->Pos->Bool}{x:Stmt}(h:kRe k x=true)(g:∀ a b,k a b=true->P (.Return a b)):P x:=@Stmt.Return.elim (λ e=>kRe k e=true->P e) x (fD h) g h
noncomputable def kSf(k:Expr->List Stmt->List Stmt->Pos->Bool)(x:Stmt):Bool:=if h:x.ctorIdx=12 then @Stmt.If.elim (λ _=>Bool) x h k else false
theorem aU9{P:Stmt->Prop}{k:Expr->List Stmt->List Stmt->Pos->Bool}{x:Stmt}(h:kSf k x=true)(g:∀ a b c d,k a b c d=true->P (.If a b c d)):P x:=@Stmt.If.elim (λ e=>kSf k e=true->P e) x (fD h) g h
noncomputable def rH(k:List Expr->Expr->Pos->Bool)(x:Stmt):Bool:=if h:x.ctorIdx=5 then @Stmt.Assign.elim (λ _=>Bool) x h k else false
theorem zX{P:Stmt->Prop}{k:List Expr->Expr->Pos->Bool}{x:Stmt}(h:rH k x=true)(g:∀ a b c,k a b c=true->P (.Assign a b c)):P x:=@Stmt.Assign.elim (λ e=>rH k e=true->P e) x (fD h) g h
noncomputable def kFo(k:Expr->Expr->List Stmt->List Stmt->Pos->Bool)(x:Stmt):Bool:=if h:x.ctorIdx=9 then @Stmt.For.elim (λ _=>Bool) x h k else false
theorem aUL{P:Stmt->Prop}{k:Expr->Expr->List Stmt->List Stmt->Pos->Bool}{x:Stmt}(h:kFo k x=true)(g:∀ a b c d e,k a b c d e=true->P (.For a b c d e)):P x:=@Stmt.For.elim (λ e=>kFo k e=true->P e) x (fD h) g h
noncomputable def jU{α:Type}(k:α->Bool)(l:List α):Bool:=match l with
 | [a]=>k a
 | _=>false
theorem kS{α:Type}{P:List α->Prop}{k:α->Bool}:∀ {l:List α},jU k l=true->(∀ a,k a=true->P [a])->P l
 | [],h,_=>no h
 | [a],h,g=>g a h
 | _::_::_,h,_=>no h
noncomputable def aDe{α:Type}(k:α->α->Bool)(l:List α):Bool:=match l with
 | a::r=>jU (k a) r
 | []=>false
theorem aID{α:Type}{P:List α->Prop}{k:α->α->Bool}:∀ {l:List α},aDe k l=true->(∀ a b,k a b=true->P [a,b])->P l
 | [],h,_=>no h
 | a::_,h,g=>kS (P:=λ r=>P (a::r)) h (g a)
noncomputable def aI2{α:Type}(k:α->α->α->Bool)(l:List α):Bool:=match l with
 | a::r=>aDe (k a) r
 | []=>false
theorem aSW{α:Type}{P:List α->Prop}{k:α->α->α->Bool}:∀ {l:List α},aI2 k l=true->(∀ a b c,k a b c=true->P [a,b,c])->P l
 | [],h,_=>no h
 | a::_,h,g=>aID (P:=λ r=>P (a::r)) h (g a)
theorem nB{α:Type}{P:List α->Prop}:∀ {l:List α},l.isEmpty=true->P []->P l
 | [],_,g=>g
 | _::_,h,_=>no h
noncomputable def aDc{α:Type}(o:Option α):Bool:=match o with
 | none=>true
 | some _=>false
theorem aIF{α:Type}{P:Option α->Prop}:∀ {o:Option α},aDc o=true->P none->P o
 | none,_,g=>g
 | some _,h,_=>no h
theorem aIH{α:Type}{P:Option α->Prop}{k:α->Bool}:∀ {o:Option α},o.any k=true->(∀ a,k a=true->P (some a))->P o
 | none,h,_=>no h
 | some a,h,g=>g a h
theorem dT{p:Prop}{d:Decidable p}(h:decide p=true):p:=oqT h
noncomputable def pM(sc:Scope)(x:Str):Bool:=match sc.names.lookup x with
 | some .local=>true | some .cell=>true | some .free=>true | _=>false
noncomputable def loc(sc:Scope)(x:Str):Bool:=match sc.names.lookup x with
 | some .local=>true | some .cell=>true | _=>false
noncomputable def aIJ(e:E):Bool:=decide (e.ctorIdx=E.nil.ctorIdx)
theorem aUG{P:E->Prop}{e:E}(h:aIJ e=true)(g:P .nil):P e:=@E.nil.elim P e (dT h) g
noncomputable def lo(sc:Scope)(x:Str):Bool:=decide (sc.names.lookup x=some .local)
noncomputable def gl(sc:Scope)(x:Str):Bool:=decide (sc.names.lookup x=some .globalImplicit)
noncomputable def cL(e:Expr):Bool:=![7,22,26].contains e.ctorIdx
noncomputable def kZ(e:Expr):Bool:=![0,3,5,15].contains e.ctorIdx
noncomputable def yR(e:Expr):Bool:=![16].contains e.ctorIdx
noncomputable def qJ(e:Expr):Bool:=![8,9,10].contains e.ctorIdx
noncomputable def qP(e:Expr):Bool:=vW (λ _ _ _=>true) e
noncomputable def pV:List Expr->Bool
 | []=>true
 | e::r=>cL e&&pV r
noncomputable def oZ(scope osc:Scope):Scope:={scope with names:=scope.names.map λ(n,k)=>if (k==.free&&osc.kind==.function&&osc.names.lookup n==some .cell) then (n,.cell) else (n,k) }
noncomputable def aCu(scope osc:Scope):Bool:=decide (scope.kind=.function)&&scope.names.all λ x=>(!decide (x.2=.cell))&&(!decide (x.2=.free)||decide (osc.names.lookup x.1=some .cell)||decide (osc.names.lookup x.1=some .free))&&(!decide (x.2=.local)||decide (scope.names.lookup x.1=some .local))
noncomputable def aAc(N:List Str)(scope:Scope)(is:List Nat):Nat->Bool
 | 0=>true
 | n+1=>aAc N scope is n&&(match N[n]? with
   | some x=>!decide (scope.names.lookup x=some .local)||is.contains n
   | none=>true)
noncomputable def aB7(b:Bool)(N:List Str)(sc:Scope)(i:Nat)(x:Str):Bool:=decide (N[i]? = some x)&&(match b with
 | true=>decide (sc.names.lookup x=some .local)
 | false=>loc sc x)
noncomputable def aB0(b:Bool)(N:List Str)(sc:Scope):List Nat->List Expr->Bool
 | [],es=>es.isEmpty
 | i::is,es=>(match es with
   | e::r=>iM (λ x _=>aB7 b N sc i x&&aB0 b N sc is r) e
   | []=>false)
noncomputable def uU(b:Bool)(N:List Str)(sc:Scope)(t:Tg)(e:Expr):Bool:=match t with
 | .one i=>iM (λ x _=>aB7 b N sc i x) e
 | .many is=>vW (λ es _ _=>aB0 b N sc is es) e
noncomputable def aGK(e:E):Bool:=decide (e.ctorIdx=(E.comp .no (.one 0) .no .no).ctorIdx)
theorem aUM{P:E->Prop}{e:E}(h:aGK e=true)(g:∀ a t b c,P (.comp a t b c)):P e:=@E.comp.elim P e (dT h) g
noncomputable def aC4(e:E):Bool:=decide (e.ctorIdx=E.no.ctorIdx)
theorem aJj{P:E->Prop}{e:E}(h:aC4 e=true)(g:P .no):P e:=@E.no.elim P e (dT h) g
noncomputable def rF(c:Const)(e:Expr):Bool:=kCo (λ d _ _=>decide (d=c)) e
theorem zP{P:Expr->Prop}{c:Const}{x:Expr}(h:rF c x=true)(g:∀ k p,P (.Constant c k p)):P x:=
 aUw h λ _ k p z=>(dT z)▸g k p
noncomputable def aCY(k:Expr->CmpOp->Expr->Bool)(e:Expr):Bool:=kCm (λ x os ys _=>jU (λ o=>jU (λ y=>k x o y&&cL y) ys) os) e
theorem aIs{P:Expr->Prop}{k:Expr->CmpOp->Expr->Bool}{x:Expr}(h:aCY k x=true)(g:∀ a o b p,k a o b=true->cL b=true->P (.Compare a [o] [b] p)):P x:=
 aU8 h λ a os _ p z=>kS (P:=λ os=>P (.Compare a os _ p)) z λ o z=>kS (P:=λ ys=>P (.Compare a [o] ys p)) z λ b z=>g a o b p (aL z) (aR z)
noncomputable def uI(op:BoolOp)(k:Expr->Expr->Bool)(e:Expr):Bool:=kBo (λ o es p=>decide (o=op)&&(match es with
 | [x,y]=>k x y
 | x::y::z::r=>k x (.BoolOp op (y::z::r) p)
 | _=>false)) e
theorem yO{P:Expr->Prop}{op:BoolOp}{k:Expr->Expr->Bool}{x:Expr}(h:uI op k x=true)(g:∀ a b p,k a b=true->P (.BoolOp op [a,b] p))(f:∀ a b c r p,k a (.BoolOp op (b::c::r) p)=true->P (.BoolOp op (a::b::c::r) p)):P x:=
 aUE h λ o es p z=>by
  obtain rfl:=dT (aL z)
  match es,aR z with
  | [a,b],z=>exact g a b p z
  | a::b::c::r,z=>exact f a b c r p z
  | [],z=>exact no z
  | [_],z=>exact no z
noncomputable def vL(k:Expr->Expr->Bool)(e:Expr):Bool:=kSu (λ x y _=>k x y&&cL y) e
theorem aCN{P:Expr->Prop}{k:Expr->Expr->Bool}{x:Expr}(h:vL k x=true)(g:∀ a b p,k a b=true->cL b=true->P (.Subscript a b p)):P x:=aJv h λ a b p z=>g a b p (aL z) (aR z)
noncomputable def aI1(k:Expr->Option Expr->Option Expr->Bool)(e:Expr):Bool:=kSu (λ x s _=>kSl (λ l h t _=>aDc t&&k x l h) s) e
theorem aTu{P:Expr->Prop}{k:Expr->Option Expr->Option Expr->Bool}{x:Expr}(h:aI1 k x=true)(g:∀ a l u p q,k a l u=true->P (.Subscript a (.Slice l u none p) q)):P x:=
 aJv h λ a _ q z=>aU5 (P:=λ s=>P (.Subscript a s q)) z λ l u _ p z=>aIF (P:=λ t=>P (.Subscript a (.Slice l u t p) q)) (aL z) (g a l u p q (aR z))
noncomputable def mY(k:Str->List Expr->Bool)(e:Expr):Bool:=kCa (λ f xs ks _=>iM (λ n _=>ks.isEmpty&&k n xs) f) e
theorem tO{P:Expr->Prop}{k:Str->List Expr->Bool}{x:Expr}(h:mY k x=true)(g:∀ n p xs q,k n xs=true->P (.Call (.Name n p) xs [] q)):P x:=
 aJw h λ _ xs ks q z=>lX (P:=λ f=>P (.Call f xs ks q)) z λ n p z=>nB (P:=λ ks=>P (.Call (.Name n p) xs ks q)) (aL z) (g n p xs q (aR z))
noncomputable def kB1(nm:Str)(sc:Scope)(k:Expr->Bool)(e:Expr):Bool:=mY (λ n xs=>decide (n=nm)&&gl sc n&&jU (λ y=>k y&&cL y) xs) e
theorem aC2{P:Expr->Prop}{nm:Str}{sc:Scope}{k:Expr->Bool}{x:Expr}(h:kB1 nm sc k x=true)(g:∀ p y q,gl sc nm=true->k y=true->cL y=true->P (.Call (.Name nm p) [y] [] q)):P x:=
 tO h λ n p xs q z=>by
  obtain rfl:=dT (aL (aL z));exact kS (P:=λ xs=>P (.Call (.Name n p) xs [] q)) (aR z) λ y u=>g p y q (aR (aL z)) (aL u) (aR u)
noncomputable def rO(nm:Str)(sc:Scope)(k l:Expr->Bool)(e:Expr):Bool:=mY (λ n xs=>decide (n=nm)&&gl sc n&&aDe (λ y z=>(k y&&cL y)&&(l z&&cL z)) xs) e
theorem aAb{P:Expr->Prop}{nm:Str}{sc:Scope}{k l:Expr->Bool}{x:Expr}(h:rO nm sc k l x=true)(g:∀ p y z q,gl sc nm=true->k y=true->cL y=true->l z=true->cL z=true->P (.Call (.Name nm p) [y,z] [] q)):P x:=
 tO h λ n p xs q z=>by
  obtain rfl:=dT (aL (aL z));exact aID (P:=λ xs=>P (.Call (.Name n p) xs [] q)) (aR z) λ y w u=>g p y w q (aR (aL z)) (aL (aL u)) (aR (aL u)) (aL (aR u)) (aR (aR u))
noncomputable def kB3(nm:Str)(sc:Scope)(k l m:Expr->Bool)(e:Expr):Bool:=mY (λ n xs=>decide (n=nm)&&gl sc n&&aI2 (λ y z w=>(k y&&cL y)&&((l z&&cL z)&&(m w&&cL w))) xs) e
theorem aJC{P:Expr->Prop}{nm:Str}{sc:Scope}{k l m:Expr->Bool}{x:Expr}(h:kB3 nm sc k l m x=true)(g:∀ p y z w q,gl sc nm=true->k y=true->cL y=true->l z=true->cL z=true->m w=true->cL w=true->P (.Call (.Name nm p) [y,z,w] [] q)):P x:=
 tO h λ n p xs q z=>by
  obtain rfl:=dT (aL (aL z));exact aSW (P:=λ xs=>P (.Call (.Name n p) xs [] q)) (aR z) λ y w v u=>g p y w v q (aR (aL z)) (aL (aL u)) (aR (aL u)) (aL (aL (aR u))) (aR (aL (aR u))) (aL (aR (aR u))) (aR (aR (aR u)))
noncomputable def kMe(nm:Str)(k:Expr->List Expr->Bool)(e:Expr):Bool:=kCa (λ f xs ks cp=>kAt (λ o m ap=>ks.isEmpty&&(ap.endLine==cp.line)&&decide (m=nm)&&yR o&&k o xs) f) e
theorem aJi{P:Expr->Prop}{nm:Str}{k:Expr->List Expr->Bool}{x:Expr}(h:kMe nm k x=true)(g:∀ o ap xs cp,(ap.endLine==cp.line)=true->yR o=true->k o xs=true->P (.Call (.Attribute o nm ap) xs [] cp)):P x:=
 aJw h λ _ xs ks cp z=>aVc (P:=λ f=>P (.Call f xs ks cp)) z λ o m ap z=>by
  obtain rfl:=dT (aR (aL (aL z)));exact nB (P:=λ ks=>P (.Call (.Attribute o m ap) xs ks cp)) (aL (aL (aL (aL z)))) (g o ap xs cp (aR (aL (aL (aL z)))) (aR (aL z)) (aR z))
noncomputable def aCW(nm:Str)(k l:Expr->Bool)(e:Expr):Bool:=kMe nm (λ o xs=>k o&&jU (λ y=>l y&&cL y) xs) e
theorem aIg{P:Expr->Prop}{nm:Str}{k l:Expr->Bool}{x:Expr}(h:aCW nm k l x=true)(g:∀ o ap y cp,(ap.endLine==cp.line)=true->yR o=true->k o=true->l y=true->cL y=true->P (.Call (.Attribute o nm ap) [y] [] cp)):P x:=
 aJi h λ o ap xs cp h1 h2 z=>kS (P:=λ xs=>P (.Call (.Attribute o nm ap) xs [] cp)) (aR z) λ y u=>g o ap y cp h1 h2 (aL z) (aL u) (aR u)
noncomputable def aIy(k:Expr->Expr->Expr->List Expr->Scope->Bool)(e:Expr):Bool:=kLc (λ el gs sc _=>jU (λ g=>decide (g.is_async=0)&&k el g.target g.iter g.ifs sc) gs) e
theorem aPH{P:Expr->Prop}{k:Expr->Expr->Expr->List Expr->Scope->Bool}{x:Expr}(h:aIy k x=true)(g:∀ e tg it ifs sc p,k e tg it ifs sc=true->P (.ListComp e [⟨tg,it,ifs,0⟩] sc p)):P x:=
 aUR h λ e _ sc p z=>kS (P:=λ gs=>P (.ListComp e gs sc p)) z λ aP z=>by
  obtain⟨tg,it,ifs,as⟩:=aP;obtain rfl:as=0:=dT (aL z);exact g e tg it ifs sc p (aR z)
noncomputable def aJy(N:List Str)(t:Tg)(cond:E)(sc:Scope)(fI:Expr->Expr->Bool)(fT fE:Scope->Expr->Bool)(x:Expr):Bool:=aIy (λ e tg iter ifs scope=>aCu scope sc&&aAc N scope t.slots N.length&&uU true N (oZ scope sc) t tg&&fI tg iter&&cL iter &&
 (match ifs with | []=>aC4 cond | y::r=>r.isEmpty&&fT (oZ scope sc) y)&&fE (oZ scope sc) e) x
theorem aI0{P:Expr->Prop}{N:List Str}{t:Tg}{cond:E}{sc:Scope}{fI:Expr->Expr->Bool}{fT fE:Scope->Expr->Bool}{x:Expr}(h:aJy N t cond sc fI fT fE x=true)(g:∀ e tg iter ifs scope p,aCu scope sc=true->aAc N scope t.slots N.length=true->uU true N (oZ scope sc) t tg=true->fI tg iter=true->cL iter=true->(match ifs with | []=>aC4 cond | y::r=>r.isEmpty&&fT (oZ scope sc) y)=true->fE (oZ scope sc) e=true->P (.ListComp e [⟨tg,iter,ifs,0⟩] scope p)):P x:=
 aPH h λ e tg iter ifs scope p h=>g e tg iter ifs scope p (aL (aL (aL (aL (aL (aL h)))))) (aR (aL (aL (aL (aL (aL h)))))) (aR (aL (aL (aL (aL h))))) (aR (aL (aL (aL h)))) (aR (aL (aL h))) (aR (aL h)) (aR h)
structure Tx where
 fn:List (Str × Nat)
 tb:List (Str × List (Str × Tv))
 cn:List (Str × List Tv)
section
variable (T : Tx)(N : List Str)
mutual
noncomputable def bH:E->Scope->Expr->Bool
 | .var i,sc,x=>iM (λ x _=>decide (N[i]? = some x)&&pM sc x && !(x==("__debug__" : Str)) && !(x==("__classdict__" : Str))) x
 | .int i,_,x=>rF (.int i) x
 | .bl i,_,x=>rF (.bool i) x
 | .non,_,x=>rF .none x
 | .str i,_,x=>rF (.str i) x
 | .bin op a b,sc,x=>vY (λ x op' y _=>decide (op'=op)&&bH a sc x&&bH b sc y) x
 | .un op a,sc,x=>vN (λ op' x _=>decide (op'=op) && !decide (op=.Not)&&bH a sc x) x
 | .cmp op a b,sc,x=>aCY (λ x op' y=>decide (op'=op)&&bH a sc x&&bH b sc y) x
 | .and a b,sc,x=>uI .And (λ x y=>bH a sc x&&bH b sc y) x
 | .or a b,sc,x=>uI .Or (λ x y=>bH a sc x&&bH b sc y) x
 | .not a,sc,x=>vN (λ o x _=>decide (o=.Not)&&bH a sc x) x
 | .ite c a b,sc,x=>kIe (λ x y z _=>lE c sc x&&bH a sc y&&bH b sc z) x
 | .tup es,sc,x=>vW (λ xs _ _=>mH es sc xs) x
 | .ix a b,sc,x=>vL (λ x y=>bH a sc x&&bH b sc y) x
 | .con n ts,sc,x=>iM (λ x _=>decide (x=n)&&T.cn.contains (n,ts)&&gl sc x && !(x==("__debug__" : Str))) x
 | .tab n aU k,sc,x=>vL (λ x y=>bH k sc y&&iM (λ x _=>decide (x=n)&&T.tb.contains (n,aU)&&gl sc x && !(x==("__debug__" : Str))) x) x
 | .sl a lo hi,sc,x=>aI1 (λ x l h=>bH a sc x&&okO lo sc l&&okO hi sc h) x
 | .call f es,sc,x=>mY (λ x xs=>decide ((T.fn[f]?).map (·.1)=some x)&&gl sc x && !(x==("__debug__" : Str))&&mH es sc xs&&pV xs) x
 | .blt b es,sc,x=>mY (λ x ys=>!ys.isEmpty&&decide (x=b.n)&&gl sc x&&mH es sc ys&&pV ys) x
 | .isi a n,sc,x=>rO "isinstance" sc (λ y=>bH a sc y) (λ z=>iM (λ z _=>decide (z=n.n)&&gl sc z) z) x
 | .bits a,sc,x=>kMe "bit_length" (λ x ys=>bH a sc x&&ys.isEmpty) x
 | .app o a,sc,x=>aCW "append" (λ x=>bH o sc x) (λ y=>bH a sc y) x
 | .idx o a,sc,x=>aCW "index" (λ x=>bH o sc x) (λ y=>bH a sc y) x
 | .fz a,sc,e=>vU a sc e
 | .new a,sc,e=>vU a sc e
 | _,_,_=>false
noncomputable def lE:E->Scope->Expr->Bool
 | .and a b,sc,x=>uI .And (λ x y=>lE a sc x&&lE b sc y) x
 | .or a b,sc,x=>uI .Or (λ x y=>lE a sc x&&lE b sc y) x
 | .not a,sc,x=>vN (λ o x _=>decide (o=.Not)&&lE a sc x) x
 | .cmp op a b,sc,x=>aCY (λ x op' y=>decide (op'=op)&&bH a sc x&&bH b sc y) x
 | .var i,sc,x=>iM (λ x _=>decide (N[i]? = some x)&&pM sc x && !(x==("__debug__" : Str)) && !(x==("__classdict__" : Str))) x&&kZ x
 | .bl i,_,x=>rF (.bool i) x&&kZ x
 | .bin op a b,sc,x=>vY (λ x op' y _=>decide (op'=op)&&bH a sc x&&bH b sc y) x&&kZ x
 | .ix a b,sc,x=>vL (λ x y=>bH a sc x&&bH b sc y) x&&kZ x
 | .call f es,sc,x=>mY (λ x xs=>decide ((T.fn[f]?).map (·.1)=some x)&&gl sc x && !(x==("__debug__" : Str))&&mH es sc xs&&pV xs) x&&kZ x
 | .blt b es,sc,x=>mY (λ x ys=>!ys.isEmpty&&decide (x=b.n)&&gl sc x&&mH es sc ys&&pV ys) x&&kZ x
 | .isi a n,sc,x=>rO "isinstance" sc (λ y=>bH a sc y) (λ z=>iM (λ z _=>decide (z=n.n)&&gl sc z) z) x&&kZ x
 | _,_,_=>false
noncomputable def mH:E->Scope->List Expr->Bool
 | .nil,_,xs=>xs.isEmpty
 | .cons a r,sc,xs=>(match xs with
   | x::xs=>bH a sc x&&cL x&&mH r sc xs
   | []=>false)
 | _,_,_=>false
noncomputable def okO:E->Scope->Option Expr->Bool
 | .no,_,x=>aDc x
 | .cons a r,sc,x=>aIJ r&&x.any λ x=>bH a sc x
 | _,_,_=>false
noncomputable def vU:E->Scope->Expr->Bool
 | .lst es,sc,x=>kLi (λ xs _=>mH es sc xs) x
 | .lzip a b,sc,x=>kB1 "list" sc (λ y=>rO "zip" sc (λ z=>bH a sc z) (λ w=>bH b sc w) y) x
 | .lrep a b,sc,x=>vY (λ x o y _=>decide (o=.Mult)&&bH a sc x&&bH b sc y) x
 | .comp elt t it cond,sc,x=>aJy N t cond sc (λ g y=>okI it sc g y) (λ s y=>lE cond s y) (λ s y=>bH elt s y) x
 | _,_,_=>false
noncomputable def okI:E->Scope->Expr->Expr->Bool
 | .it a,sc,_,x=>bH a sc x
 | .rng1 a,sc,_,x=>kB1 "range" sc (λ y=>bH a sc y) x
 | .rng2 a b,sc,_,x=>rO "range" sc (λ y=>bH a sc y) (λ z=>bH b sc z) x
 | .rng3 a b c,sc,_,x=>kB3 "range" sc (λ y=>bH a sc y) (λ z=>bH b sc z) (λ w=>bH c sc w) x
 | .zip a b,sc,tg,x=>qP tg&&rO "zip" sc (λ y=>bH a sc y) (λ z=>bH b sc z) x
 | .zip3 a b c,sc,tg,x=>qP tg&&kB3 "zip" sc (λ y=>bH a sc y) (λ z=>bH b sc z) (λ w=>bH c sc w) x
 | .enm a,sc,tg,x=>qP tg&&kB1 "enumerate" sc (λ y=>bH a sc y) x
 | _,_,_,_=>false
end
mutual
noncomputable def okS:Sx->Scope->Stmt->Bool
 | .expr e,sc,st=>kEx (λ x _=>bH T N e sc x&&qJ x) st
 | .ret e,sc,st=>kRe (λ v _=>v.any λ x=>bH T N e sc x) st
 | .ifs c a b,sc,st=>kSf (λ x y z _=>lE T N c sc x&&nP a sc y&&nP b sc z) st
 | .set i e,sc,st=>rH (λ ts y _=>bH T N e sc y&&qJ y&&jU (λ t=>iM (λ x _=>decide (N[i]? = some x)&&loc sc x) t) ts) st
 | .setC _ i e,sc,st=>rH (λ ts y _=>aGK e&&vU T N e sc y&&jU (λ t=>iM (λ x _=>decide (N[i]? = some x)&&loc sc x) t) ts) st
 | .setT t e,sc,st=>rH (λ ts y _=>bH T N e sc y&&qJ y && !qP y&&jU (λ tg=>qP tg&&uU false N sc t tg) ts) st
 | .put o i e,sc,st=>rH (λ ts z _=>bH T N e sc z&&qJ z&&jU (λ t=>vL (λ x y=>bH T N o sc x&&bH T N i sc y) t) ts) st
 | .loop t it b,sc,st=>kFo (λ tg x y z _=>z.isEmpty&&uU false N sc t tg&&okI T N it sc tg x&&cL x&&nP b sc y) st
 | _,_,_=>false
noncomputable def nP:Sx->Scope->List Stmt->Bool
 | .skip,_,l=>l.isEmpty
 | .seq a b,sc,l=>(match l with
   | st::r=>okS a sc st&&nP b sc r
   | []=>false)
 | _,_,_=>false
end
end
noncomputable def bltNames:List Str:=["len", "max", "min", "int", "abs", "tuple", "sum", "all", "any", "isinstance", "list", "range", "enumerate", "bool", "str", "reversed", "zip", "sorted"]
structure Ctx(T:Tx)(C:Calls)(X:Cx):Prop where
 nd:X.N.Nodup
 calm:X.calm=true
 xe:X.xe=λ _ _=>False
 kind:X.env.scope.kind=.function
 room:∃ k,Room k X.A/\∀ f np call x,C f=some (np,call)->(T.fn[f]?).map (·.1)=some x->∃ fa fd ps,X.mg x=some (.ref fa)/\PySem.W.keepIn X.K (.ref fa)=true/\lU X.K fd ps []/\FnOk X.prog X.w X.K X.mg X.base rS k fa fd ps (rK X.K np call)
 blt:∀ x∈bltNames,X.mg x=none
 tbs:∀ x aU,(x,aU)∈T.tb->∃ a,X.mg x=some (.ref a)/\uG X.K X.w a aU
 cns:∀ x ts,(x,ts)∈T.cn->∃ a,X.mg x=some (.ref a)/\qK X.K a ts
theorem Ctx.units{T:Tx}{C:Calls}{X:Cx}(h:Ctx T C X):X.A.units+64 < cLine:=let ⟨_,r,_⟩:=h.room;r.units
theorem Ctx.own{T:Tx}{C:Calls}{X:Cx}(h:Ctx T C X):PassesOwn (model X.prog X.w) X.A X.env X.xe:=by rw[h.xe];exact PassesOwn.never
theorem Ctx.comp{T:Tx}{C:Calls}{X Y:Cx}{scope:Scope}(h:Ctx T C X)(hk:scope.kind=.function)(hy:jK X scope Y):Ctx T C Y/\Y.env.scope=oZ scope X.env.scope/\Y.N=X.N/\Y.K=X.K:=by
 obtain⟨aB,fp,Ca,s₀,H₀,rfl⟩:=hy;exact⟨⟨h.nd,h.calm,rfl,hk,h.room,h.blt,h.tbs,h.cns⟩,rfl,rfl,rfl⟩
theorem fZ{e:Expr}(h:cL e=true)(es:List Expr)(env:Env):starEach (e::es) env=(false,eval e env)::starEach es env:=by
 cases e<;>first | rfl | exact no h
theorem aBt:∀ {es:List Expr} (h:pV es=true) (env:Env) (pos:Pos),(backTo pos (starEach es env)).any (·.1)=false
 | [],_,_,_=>rfl
 | e::es,h,env,pos=>by
   obtain⟨h1,h2⟩:=gN h;rw[fZ h1];show(false||(backTo pos (starEach es env)).any (·.1))=false
   rw[aBt h2 env pos];rfl
theorem aIA{e:Expr}(h:cL e=true):xP e:=by
 intro o i;cases e<;>first | rfl | exact no h
theorem aFB{e:Expr}(h:cL e=true)(op:CmpOp):behindInMarks op e=false:=by
 cases e<;>first | rfl | exact no h
theorem aBb{e:Expr}(h:cL e=true)(env:Env)(x:Value):foldedSetIterable e env x=pure x:=by
 cases e<;>first | rfl | exact no h
theorem qC{e:Expr}(h:yR e=true)(m:Str)(env:Env):attributeBase e m env (eval e env)=eval e env:=by
 cases e<;>first | rfl | exact no h
theorem aBD{e:Expr}(h:qJ e=true)(t:Option Expr)(line:Nat)(env:Env):swapsWith e t line env=pure false:=by
 cases e<;>first | rfl | exact no h
theorem aQp{e:Expr}(h:kZ e=true)(env:Env)(fF:Sem Value):isTrue e env fF=(do let v <- fF;standAt e.pos;holding [v] (truthy v)):=by
 cases e<;>first | rfl | exact no h
theorem aLR{o i:Expr}{pos:Pos}{env:Env}(h:cL i=true)(v:Value):assign (.Subscript o i pos) env v=(do
 let ov <- holding [v] (eval o env)
 let iv <- holding [v,ov] (eval i env)
 standAt pos
 holding [v,ov,iv] (setItem ov iv v)
 release [v,ov,iv] []):=by
 cases i<;>first | rfl | exact no h
section
variable {X : Cx}
theorem aQR{x:Str}(h:pM X.env.scope x=true):vR X.env.scope x:=by
 unfold pM at h;unfold vR
 split at h<;>first | exact .inl (by assumption) | exact .inr (.inl (by assumption)) | exact .inr (.inr (by assumption)) | exact no h
theorem aCt{x:Str}(h:loc X.env.scope x=true):L2.Loc X.env.scope x:=by
 unfold loc at h;unfold L2.Loc
 split at h<;>first | exact .inl (by assumption) | exact .inr (by assumption) | exact no h
theorem gY{x:Str}(h:gl X.env.scope x=true):Gl X x:=(oqT h:X.env.scope.names.lookup x=some .globalImplicit)
theorem sI{x y:Str}(h:(!(x==y))=true):(x==y)=false:=by
 cases e:x==y with
 | false=>rfl
 | true=>rw[e] at h;exact no h
def aCk(b:Bool)(X:Cx):Prop:=b=true\/∀ x,X.fn x=true
theorem aGv{b:Bool}(st:aCk b X){i:Nat}{x:Str}(h:aB7 b X.N X.env.scope i x=true):X.N[i]? = some x/\L2.Loc X.env.scope x/\(X.fn x=true\/X.env.scope.names.lookup x=some .local):=by
 obtain⟨h1,h2⟩:=gN h;cases b with
 | true =>
   have h3:=oqT h2;exact⟨oqT h1,.inl h3,.inr h3⟩
 | false =>
   refine⟨oqT h1,aCt h2,?_⟩;rcases st with z | z
   ·cases z
   ·exact .inl (z x)
noncomputable def uQ:List Nat->iQ
 | []=>aCV
 | i::is=>aCI (nE i) (uQ is)
noncomputable def rJ(K:FrG):Tg->TG
 | .one i=>nE i
 | .many is=>aCZ K is.length (uQ is)
theorem aHu(K:FrG):∀ is:List Nat,vQ K is (uQ is)
 | []=>aO5
 | _::is=>aMF (aHu K is)
theorem zC(K:FrG)(t:Tg):GA K t (rJ K t):=by
 cases t with
 | one i=>exact aQ3 i
 | many is=>exact aN6 (aHu K is)
theorem aFw{b:Bool}(st:aCk b X)(nd:X.N.Nodup):∀ {is:List Nat}{es:List Expr},aB0 b X.N X.env.scope is es=true->pK X es (uQ is)/\(assignEach es X.env).length=is.length/\(assignEach es X.env).findIdx? (·.1)=none
 | [],[],_=>⟨aNA,rfl,rfl⟩
 | [],_::_,h=>no h
 | _::_,[],h=>no h
 | i::is,e::r,h=>lX (P:=λ e=>pK X (e::r) (uQ (i::is))/\(assignEach (e::r) X.env).length=(i::is).length/\(assignEach (e::r) X.env).findIdx? (·.1)=none) h λ x p h=>by
   obtain⟨a1,a2,a3⟩:=aGv st (aL h);obtain⟨pg,hl2,hf⟩:=aFw st nd (aR h);refine⟨aNi (aBO nd a1 a2 a3) pg rfl,?_,?_⟩
   ·show((false,assign (.Name x p) X.env)::assignEach r X.env).length=_;rw[List.length_cons,List.length_cons,hl2]
   ·show((false,assign (.Name x p) X.env)::assignEach r X.env).findIdx? (·.1)=none;rw[List.findIdx?_cons,hf];rfl
theorem zJ{b:Bool}(st:aCk b X)(nd:X.N.Nodup)(hc:X.calm=true){t:Tg}{tg:Expr}(h:uU b X.N X.env.scope t tg=true):PG X tg (rJ X.K t):=by
 cases t with
 | one i=>exact lX (P:=λ e=>PG X e (nE i)) h λ x p h=>let ⟨a1,a2,a3⟩:=aGv st h;aBO nd a1 a2 a3
 | many is=>exact rG (P:=λ e=>PG X e (rJ X.K (.many is))) h λ es k p h=>let ⟨pg,hl2,hf⟩:=aFw st nd h;aP4 hc pg hl2 hf
end
section
variable (T : Tx)(C : Calls)
def SE(c:E):Prop:=∀ X,Ctx T C X->∀ x,bH T X.N c X.env.scope x=true->PE X x (aS X.K (ev C c))
def ST(c:E):Prop:=∀ X,Ctx T C X->∀ x,lE T X.N c X.env.scope x=true->PT X x (fO X.K (tv C c))/\∀ op es p,x=.BoolOp op es p->PW X x (fO X.K (tv C c))
def SA(c:E):Prop:=∀ X,Ctx T C X->∀ x,mH T X.N c X.env.scope x=true->PA X x (fN X.K (av C c))
def SO(c:E):Prop:=∀ X,Ctx T C X->∀ x,okO T X.N c X.env.scope x=true->PO X x (kY X.K (ov C c))
def SL(c:E):Prop:=∀ X,Ctx T C X->∀ x,vU T X.N c X.env.scope x=true->PE X x (iO X.K (lv C c))
def SI(c:E):Prop:=∀ X,Ctx T C X->∀ tg x,okI T X.N c X.env.scope tg x=true->PI X tg x (hV X.K (lv C c))
end
section
variable {T : Tx}{C : Calls}
theorem aOp{X:Cx}{x:Expr}{f:FE}(h:∀ env S,f env S=none):PE X x (aS X.K f):=λ aB s σ H Q I aP=>by
 obtain⟨F,L,S,env,w,S',R,E,e,q⟩:=aP;rw[h] at e;cases e
theorem aR8{X:Cx}{x:Expr}{f:FE}(h:PE X x (aS X.K f))(ht:kZ x=true):PT X x (fO X.K (cY f))/\∀ op es p,x=.BoolOp op es p->PW X x (fO X.K (cY f)):=
 ⟨aSl h λ fF=>aQp ht X.env fF,λ op es p e=>by subst e;exact no ht⟩
theorem aHy(i:Nat):SE T C (.var i):=λ X hX x hx=>lX (P:=λ x=>PE X x _) hx λ y p h=>aTc (dT (aL (aL (aL h)))) (aQR (aR (aL (aL h)))) (sI (aR (aL h))) (sI (aR h))
theorem aPG(i:Int):SE T C (.int i):=λ X hX x h=>zP (P:=λ x=>PE X x _) h λ k p=>aRV
theorem aIh(i:Bool):SE T C (.bl i):=λ X hX x h=>zP (P:=λ x=>PE X x _) h λ k p=>aUA
theorem aRs:SE T C .non:=λ X hX x h=>zP (P:=λ x=>PE X x _) h λ k p=>aTw
theorem aPO(i:Str):SE T C (.str i):=λ X hX x h=>zP (P:=λ x=>PE X x _) h λ k p=>aSY
theorem aHg{op:Operator}{a b:E}(ha:SE T C a)(hb:SE T C b):SE T C (.bin op a b):=λ X hX x hx=>aJf (P:=λ x=>PE X x _) hx λ l o r p h=>by
 obtain rfl:=dT (aL (aL h));exact aS2 (ha X hX _ (aR (aL h))) (hb X hX _ (aR h))
theorem aSU{op:UnaryOp}{a:E}(ha:SE T C a):SE T C (.un op a):=λ X hX x hx=>aCQ (P:=λ x=>PE X x _) hx λ o r p h=>by
 obtain rfl:=dT (aL (aL h));exact aUZ (ha X hX _ (aR h))
theorem aRj{op:CmpOp}{a b:E}(ha:SE T C a)(hb:SE T C b):SE T C (.cmp op a b):=λ X hX x hx=>aIs (P:=λ x=>PE X x _) hx λ l o r p h h4=>by
 obtain rfl:=dT (aL (aL h));exact aTz hX.units (ha X hX _ (aR (aL h))) (hb X hX _ (aR h)) (aFB h4 o)
theorem aIE{X:Cx}{x:Expr}{t:TT}(h:PT X x t)(n:x.ctorIdx≠0):PT X x t/\∀ op es p,x=.BoolOp op es p->PW X x t:=
 ⟨h,λ op es p e=>absurd (congrArg Expr.ctorIdx e) n⟩
theorem aQA{op:CmpOp}{a b:E}(ha:SE T C a)(hb:SE T C b):ST T C (.cmp op a b):=λ X hX x hx=>aIs (P:=λ x=>PT X x _/\∀ op es p,x=.BoolOp op es p->PW X x _) hx λ l o r p h h4=>by
 obtain rfl:=dT (aL (aL h));exact aIE (aQY hX.units (ha X hX _ (aR (aL h))) (hb X hX _ (aR h)) (aFB h4 o)) (Nat.succ_ne_zero 14)
theorem aPV{n:Str}{ts:List Tv}:SE T C (.con n ts):=λ X hX x hx=>lX (P:=λ x=>PE X x _) hx λ y p h=>by
 obtain rfl:=dT (aL (aL (aL h)));exact aTb (gY (aR (aL h))) (sI (aR h)) (hX.cns _ _ (List.contains_iff_mem.mp (aR (aL (aL h)))))
theorem aPj{a b:E}(ha:SE T C a)(hb:SE T C b):SE T C (.and a b):=λ X hX x hx=>yO (P:=λ x=>PE X x _) hx
 (λ l r p h=>PE.weak (aHJ (ha X hX _ (aL h)) (aHS (hb X hX _ (aR h)))) aHI) λ l b c r p h=>PE.weak (aHJ (ha X hX _ (aL h)) (hb X hX _ (aR h))) aHI
theorem aR3{a b:E}(ha:SE T C a)(hb:SE T C b):SE T C (.or a b):=λ X hX x hx=>yO (P:=λ x=>PE X x _) hx
 (λ l r p h=>PE.weak (aIO (ha X hX _ (aL h)) (aHS (hb X hX _ (aR h)))) aIz) λ l b c r p h=>PE.weak (aIO (ha X hX _ (aL h)) (hb X hX _ (aR h))) aIz
theorem aHp{X:Cx}{x:Expr}{t:TT}(k:PW X x t):PT X x t/\∀ op es p,x=.BoolOp op es p->PW X x t:=⟨k.pt,λ _ _ _ _=>k⟩
theorem aPd{a b:E}(ha:ST T C a)(hb:ST T C b):ST T C (.and a b):=λ X hX x hx=>aHp (yO (P:=λ x=>PW X x _) hx
 (λ l r p h=>PW.weak (aHT (ha X hX _ (aL h)).1 (aOS (hb X hX _ (aR h)).1)) aIq) λ l b c r p h=>PW.weak (aHT (ha X hX _ (aL h)).1 ((hb X hX _ (aR h)).2 _ _ _ rfl)) aIq)
theorem aSF{a b:E}(ha:ST T C a)(hb:ST T C b):ST T C (.or a b):=λ X hX x hx=>aHp (yO (P:=λ x=>PW X x _) hx
 (λ l r p h=>PW.weak (aIb (ha X hX _ (aL h)).1 (aPC (hb X hX _ (aR h)).1)) aI3) λ l b c r p h=>PW.weak (aIb (ha X hX _ (aL h)).1 ((hb X hX _ (aR h)).2 _ _ _ rfl)) aI3)
theorem aPq{a:E}(ha:SE T C a):SE T C (.not a):=λ X hX x hx=>aCQ (P:=λ x=>PE X x _) hx λ o y p h=>by
 obtain rfl:=dT (aL h);exact aPx (ha X hX _ (aR h))
theorem aQq{a:E}(ha:ST T C a):ST T C (.not a):=λ X hX x hx=>aCQ (P:=λ x=>PT X x _/\∀ op es p,x=.BoolOp op es p->PW X x _) hx λ o y p h=>by
 obtain rfl:=dT (aL h);exact aIE (aS6 (ha X hX _ (aR h)).1) (Nat.succ_ne_zero 2)
theorem aQW{c a b:E}(hc:ST T C c)(ha:SE T C a)(hb:SE T C b):SE T C (.ite c a b):=λ X hX x hx=>aUi (P:=λ x=>PE X x _) hx λ x y z p h=>aTJ (hc X hX _ (aL (aL h))).1 (ha X hX _ (aR (aL h))) (hb X hX _ (aR h))
theorem aQ9{a:E}(ha:SA T C a):SE T C (.tup a):=λ X hX x hx=>rG (P:=λ x=>PE X x _) hx λ xs k p h=>aSL (ha X hX _ h)
theorem aQc{a:E}(ha:SA T C a):SL T C (.lst a):=λ X hX x hx=>aUB (P:=λ x=>PE X x _) hx λ xs p h=>aT2 (ha X hX _ h)
theorem aPo:SA T C .nil:=λ X hX x h=>nB (P:=λ x=>PA X x _) h aCv
theorem aNB{a r:E}(ha:SE T C a)(hr:SA T C r):SA T C (.cons a r):=λ X hX x h=>by
 cases x with
 | nil=>exact no h
 | cons y ys=>exact kK (ha X hX _ (aL (aL h))) (hr X hX _ (aR h)) (fZ (aR (aL h)) _ _)
theorem aRM:SO T C .no:=λ X hX x h=>aIF (P:=λ x=>PO X x _) h aUy
theorem aN7{a r:E}(ha:SE T C a):SO T C (.cons a r):=λ X hX x h=>aUG (P:=λ r=>PO X x (kY X.K (ov C (.cons a r)))) (aL h) (aIH (P:=λ x=>PO X x _) (aR h) λ y h=>aRa (ha X hX _ h))
theorem aIe{a b:E}(ha:SE T C a)(hb:SE T C b):SE T C (.ix a b):=λ X hX x hx=>aCN (P:=λ x=>PE X x _) hx λ l r p h h3=>aUk (ha X hX _ (aL h)) (hb X hX _ (aR h)) (aIA h3)
theorem aQh{n:Str}{aU:List (Str × Tv)}{k:E}(hk:SE T C k):SE T C (.tab n aU k):=λ X hX x hx=>aCN (P:=λ x=>PE X x _) hx λ y z p g h6=>lX (P:=λ y=>PE X (.Subscript y z p) _) (aR g) λ u q h=>by
 obtain rfl:=dT (aL (aL (aL h)));exact aSq (gY (aR (aL h))) (sI (aR h)) (hX.tbs _ _ (List.contains_iff_mem.mp (aR (aL (aL h))))) (hk X hX _ (aL g)) (aIA h6)
theorem aSM{a lo hi:E}(ha:SE T C a)(hl:SO T C lo)(hh:SO T C hi):SE T C (.sl a lo hi):=λ X hX x hx=>aTu (P:=λ x=>PE X x _) hx λ y l u p q h=>aUc (ha X hX _ (aL (aL h))) (hl X hX _ (aR (aL h))) (hh X hX _ (aR h))
theorem aOM{N:List Str}{a:E}{sc:Scope}(h:mH T N a sc []=true):a=.nil:=by
 cases a<;>first | rfl | exact no h
theorem aLY{f np:Nat}{call:List W->aC->Option (W × aC)}{fs:FA}(h:C f=some (np,call)):kL C f fs=zI fs np call:=by
 funext env S
 unfold kL;rw[h]
theorem aGT{f:Nat}{a:E}(ha:SA T C a):SE T C (.call f a):=λ X hX x hx=>tO (P:=λ x=>PE X x _) hx λ y p zs q h=>by
 cases hC:C f with
 | none=>exact aOp λ env S=>by show kL C f (av C a) env S=none;unfold kL;rw[hC]
 | some nc =>
   obtain⟨k,rm,fs⟩:=hX.room;obtain⟨fa,fd,ps,m1,m2,m3,m4⟩:=fs f nc.1 nc.2 y hC (dT (aL (aL (aL (aL h)))));have hw:∀ σ H Q,aS X.K (ev C (.call f a)) σ H Q->zN (rK X.K nc.1 nc.2) [] E0 (fN X.K (av C a)) σ H Q:=λ σ H Q hq=>aQN σ H Q (aLY (fs:=av C a) hC▸hq)
   have h2:=gY (aR (aL (aL (aL h))));have h3:=sI (aR (aL (aL h)));cases zs with
   | nil =>
     refine PE.weak (aM4 m4 rm h2 m1 m2 m3 .nil aIS h3) λ σ H Q hq=>?_
     obtain⟨F,L,S,env,ws,S',R,E,e,q2⟩:=hw σ H Q hq;cases aOM (aR (aL h));cases e;exact q2 F L H [] Gr.refl R .nil
   | cons z zr=>exact PE.weak (aOZ m4 rm h2 m1 m2 m3 .nil aIS (ha X hX _ (aR (aL h))) h3 (fZ (aL (aR h)) _ _) (aBt (aR (aR h)) _ _)) hw
theorem aHP{b:B}{a:E}(ha:SA T C a):SE T C (.blt b a):=λ X hX x hx=>tO (P:=λ x=>PE X x _) hx λ y p zs q h=>by
 obtain rfl:=dT (aR (aL (aL (aL h))));cases zs with
 | nil=>exact no (aL (aL (aL (aL h))))
 | cons z zr =>
 have A:=ha X hX _ (aR (aL h));have G:=gY (aR (aL (aL h)));have s1:=fZ (aL (aR h)) zr X.env;have s2:=aBt (aR (aR h)) X.env q;cases b with
 | len=>exact PE.weak (mN aRS G (hX.blt _ (by decide)) (by decide +kernel) A (by decide) (by decide) s1 s2) lV
 | mx=>exact PE.weak (mN (aS3 hX.calm) G (hX.blt _ (by decide)) (by decide +kernel) A (by decide) (by decide) s1 s2) lV
 | mn=>exact PE.weak (mN (aSo hX.calm) G (hX.blt _ (by decide)) (by decide +kernel) A (by decide) (by decide) s1 s2) lV
 | abs=>exact PE.weak (mN aTe G (hX.blt _ (by decide)) (by decide +kernel) A (by decide) (by decide) s1 s2) lV
 | sum=>exact PE.weak (mN (aSC hX.calm) G (hX.blt _ (by decide)) (by decide +kernel) A (by decide) (by decide) s1 s2) lV
 | all=>exact PE.weak (mN (aR2 hX.calm) G (hX.blt _ (by decide)) (by decide +kernel) A (by decide) (by decide) s1 s2) lV
 | any=>exact PE.weak (mN (aTW hX.calm) G (hX.blt _ (by decide)) (by decide +kernel) A (by decide) (by decide) s1 s2) lV
 | int=>exact PE.weak (aFf aS7 G (hX.blt _ (by decide)) (by decide +kernel) A (by decide) (by decide) s1 s2) lV
 | tup=>exact PE.weak (aFf aOC G (hX.blt _ (by decide)) (by decide +kernel) A (by decide) (by decide) s1 s2) lV
theorem aFM(n:Ty):bootBuiltins n.n=some (.type n.s)/\n.n∈bltNames:=by cases n<;>exact⟨by decide +kernel,by decide⟩
theorem aHt{a:E}{n:Ty}(ha:SE T C a):SE T C (.isi a n):=λ X hX x hx=>aAb (P:=λ x=>PE X x _) hx λ p y w q h3 h5 h6 h7 _=>lX (P:=λ w=>PE X (.Call (.Name "isinstance" p) [y,w] [] q) _) h7 λ z pz h=>by
 obtain rfl:=dT (aL h);have k:=aTO (X:=X) (n:=n.s) (x:=n.n) (p:=p) (p':=pz) (pos:=q) (ha X hX _ h5) (gY h3) (hX.blt _ (by decide)) (by decide +kernel) (gY (aR h)) (hX.blt _ (aFM n).2) (aFM n).1 (by cases n<;>decide) (by cases n<;>decide) (fZ h6 _ _)
 refine PE.weak k λ σ H Q ⟨F,L,S,env,w,S',R,E,e,q2⟩=>⟨F,L,S,env,w,S',R,E,?_,q2⟩
 obtain⟨⟨w1,S1⟩,e1,e2⟩:=bind_some e;obtain⟨d,z,e3,e4,rfl,rfl⟩:=sX e2;unfold aJN f1;rw[e1];show fV (vA X.K n.s) _ w1=_;unfold fV;rw[e3];dsimp only[Option.bind];rw[aPg X.K e4]
theorem aNI{a:E}(ha:SE T C a):SE T C (.bits a):=λ X hX x hx=>aJi (P:=λ x=>PE X x _) hx λ o ap xs cp h4 h3 h=>nB (P:=λ xs=>PE X (.Call (.Attribute o "bit_length" ap) xs [] cp) _) (aR h) (by
 refine PE.weak (aP0 PySem.F.plainAttrs_int PySem.F.slot_int_bit_length PySem.F.type_int_bit_length aOa (ha X hX _ (aL h)) (qC h3 _ _) h4) λ σ H Q hPq46=>?_
 obtain⟨F,L,S,env,w,S',R,E,e,q⟩:=hPq46;obtain⟨⟨w1,S1⟩,e1,e2⟩:=bind_some e;obtain⟨d,z,e3,e4,rfl,rfl⟩:=sX e2;refine⟨F,L,S,env,w1,_,R,E,e1,λ F1 L1 H1 v g1 R1 d1=>?_⟩
 have nw:=jJ R1 d1 e3;cases d<;>first | (cases e4;done) | skip
 cases e4;obtain rfl:=nw.int;exact⟨rfl,_,rfl,rfl,q F1 L1 H1 _ g1 R1 (Den.int _)⟩)
theorem iN{X:Cx}{z:Expr}(h:cL z=true):starEach [z] X.env=(false,eval z X.env)::starEach [] X.env:=fZ h [] X.env
theorem nR{X:Cx}{a:E}{z:Expr}(ha:SE T C a)(hX:Ctx T C X)(h:bH T X.N a X.env.scope z=true)(hp:cL z=true):PA X [z] (fN X.K (cN (ev C a) gO)):=kK (ha X hX _ h) aCv (iN hp)
theorem aQT{o a:E}(ho:SE T C o)(ha:SE T C a):SE T C (.app o a):=λ X hX x hx=>aIg (P:=λ x=>PE X x _) hx λ y ap z cp h4 h3 h2 h5 h6 =>
 PE.weak (aId PySem.F.plainAttrs_list PySem.F.slot_list_append PySem.F.type_list_append aEY (ho X hX _ h2) (nR ha hX h5 h6) (qC h3 _ _) (by rw[iN h6];rfl) h4 (iN h6) rfl) aR4
theorem aPB{o a:E}(ho:SE T C o)(ha:SE T C a):SE T C (.idx o a):=λ X hX x hx=>aIg (P:=λ x=>PE X x _) hx λ y ap z cp h4 h3 h2 h5 h6 =>
 PE.weak (aId PySem.F.plainAttrs_list PySem.F.slot_list_index PySem.F.type_list_index aML (ho X hX _ h2) (nR ha hX h5 h6) (qC h3 _ _) (by rw[iN h6];rfl) h4 (iN h6) rfl) aR6
theorem aOU{a b:E}(ha:SE T C a)(hb:SE T C b):SL T C (.lzip a b):=λ X hX x hx=>aC2 (P:=λ x=>PE X x _) hx λ p y q h2 h3 _=>aAb (P:=λ y=>PE X (.Call (.Name "list" p) [y] [] q) _) h3 λ p' z w q' h4 h5 h6 h7 h8 =>
 aPZ (ha X hX _ h5) (hb X hX _ h7) hX.calm (gY h2) (hX.blt _ (by decide)) (gY h4) (hX.blt _ (by decide)) (fZ h6 [w] X.env) (iN h8)
theorem aNy{a b:E}(ha:SE T C a)(hb:SE T C b):SL T C (.lrep a b):=λ X hX x hx=>aJf (P:=λ x=>PE X x _) hx λ l o r p h=>by
 obtain rfl:=dT (aL (aL h));exact aTl (ha X hX _ (aR (aL h))) (hb X hX _ (aR h))
theorem aSA{a:E}(ha:SE T C a):SI T C (.it a):=λ X hX tg x h=>aUn (ha X hX _ h)
theorem aNP{a:E}(ha:SE T C a):SI T C (.rng1 a):=λ X hX tg x hx=>aC2 (P:=λ x=>PI X tg x _) hx λ p z q h2 h3 h4 =>
 PI.weak (aMd (gY h2) (hX.blt _ (by decide)) (nR ha hX h3 h4) (iN h4)) aPc
theorem aNG{a b c:E}(ha:SE T C a)(hb:SE T C b)(hc:SE T C c):SI T C (.rng3 a b c):=λ X hX tg x hx=>aJC (P:=λ x=>PI X tg x _) hx λ p z w v q h2 h3 h4 h5 h6 h7 h8=>by
 have st:=fZ h4 [w,v] X.env;have st2:=fZ h6 [v] X.env;exact PI.weak (aLx (gY h2) (hX.blt _ (by decide)) (kK (ha X hX _ h3) (kK (hb X hX _ h5) (nR hc hX h7 h8) st2) st) st (by rw[st2,iN h8];rfl)) aP5
theorem aO0{a b:E}(ha:SE T C a)(hb:SE T C b):SI T C (.rng2 a b):=λ X hX tg x hx=>aAb (P:=λ x=>PI X tg x _) hx λ p z z2 q h2 h3 h4 h5 h6=>by
 have st:=fZ h4 [z2] X.env;exact PI.weak (aLH (gY h2) (hX.blt _ (by decide)) (kK (ha X hX _ h3) (nR hb hX h5 h6) st) (by rw[st,iN h6];rfl) (iN h6)) aQ5
theorem aRy{a:E}(ha:SE T C a):SI T C (.enm a):=λ X hX tg x hx=>rG (P:=λ tg=>PI X tg x _) (aL hx) λ ts k tp _=>aC2 (P:=λ x=>PI X _ x _) (aR hx) λ p z q h2 h3 h4 =>
 PI.weak (aM7 (gY h2) (hX.blt _ (by decide)) (nR ha hX h3 h4) (iN h4)) aNX
theorem aRh{a b:E}(ha:SE T C a)(hb:SE T C b):SI T C (.zip a b):=λ X hX tg x hx=>rG (P:=λ tg=>PI X tg x _) (aL hx) λ ts k tp _=>aAb (P:=λ x=>PI X _ x _) (aR hx) λ p z z2 q h2 h3 h4 h5 h6 =>
 PI.weak (aQD (gY h2) (hX.blt _ (by decide)) (kK (ha X hX _ h3) (nR hb hX h5 h6) (fZ h4 [z2] X.env)) (fZ h4 [z2] X.env) (iN h6)) aTT
theorem aO6{a b c:E}(ha:SE T C a)(hb:SE T C b)(hc:SE T C c):SI T C (.zip3 a b c):=λ X hX tg x hx=>rG (P:=λ tg=>PI X tg x _) (aL hx) λ ts k tp _=>aJC (P:=λ x=>PI X _ x _) (aR hx) λ p z z2 z3 q h2 h3 h4 h5 h6 h7 h8 =>
 PI.weak (aNU (gY h2) (hX.blt _ (by decide)) (kK (ha X hX _ h3) (kK (hb X hX _ h5) (nR hc hX h7 h8) (fZ h6 [z3] X.env)) (fZ h4 [z2,z3] X.env)) (fZ h4 [z2,z3] X.env) (fZ h6 [z3] X.env) (iN h8)) aRz
theorem or2{a b:Bool}(h:(a||b)=true)(n:a=false):b=true:=by
 rw[n] at h;exact h
theorem aGk{scope osc:Scope}(h:aCu scope osc=true):ScOk scope osc:=by
 have h2:=List.all_eq_true.mp (aR h);refine⟨dT (aL h),λ x hx e=>?_,λ x hx e=>?_,λ x hx e=>?_⟩
 ·have:=h2 x hx;simp[e] at this
 ·have:=h2 x hx;simp[e] at this;exact this
 ·have:=h2 x hx;simp[e] at this;exact this
theorem aB5{N:List Str}{scope:Scope}{is:List Nat}:∀ {n:Nat},aAc N scope is n=true->∀ i,i < n->∀ x,N[i]? = some x->scope.names.lookup x=some .local->i∈is
 | 0,_,i,hi,_,_,_=>absurd hi (Nat.not_lt_zero i)
 | n+1,h,i,hi,x,e,el=>by
   rcases Nat.lt_succ_iff_lt_or_eq.mp hi with z | z
   ·exact aB5 (aL h) i z x e el
   ·subst z;have h2:=aR h;rw[e] at h2;exact List.contains_iff_mem.mp (or2 h2 (by rw[el];rfl))
theorem aN1{elt it cond:E}{t:Tg}(he:SE T C elt)(hi:SI T C it)(hc:ST T C cond):SL T C (.comp elt t it cond):=λ X hX x hx=>aI0 (P:=λ x=>PE X x _) hx λ e tg iter ifs scope p h1 h2 h3 h4 h5 h6 h7=>by
 have sok:=aGk h1;refine aHW (g:=rJ X.K t) hX.calm sok (λ i x a1 a2=>aB5 h2 i (gIm a1).1 x a1 a2) (hi X hX tg iter h4) (λ Y hY=>?_) (zC X.K t) (λ Y hY=>?_) (λ Y hY=>?_) (aBb h5 X.env)
 ·obtain⟨c1,c2,c3,c4⟩:=hX.comp sok.kind hY;rw[<- c4];exact zJ (.inl rfl) c1.nd c1.calm (by rw[c2,c3];exact h3)
 ·obtain⟨c1,c2,c3,c4⟩:=hX.comp sok.kind hY;cases ifs with
  | nil=>exact aJj (P:=λ cond=>lH Y [] (tv C cond)) h6 aEN
  | cons y r=>exact nB (P:=λ r=>lH Y (y::r) _) (aL h6) (aEH (hc Y c1 y (by rw[c2,c3];exact aR h6)).1)
 ·obtain⟨c1,c2,c3,c4⟩:=hX.comp sok.kind hY;rw[<- c4];exact he Y c1 e (by rw[c2,c3];exact h7)
theorem aTf{a:E}(ha:SL T C a):SE T C (.fz a):=λ X hX x h=>aJz (ha X hX x h)
theorem aP9{a:E}(ha:SL T C a):SE T C (.new a):=λ X hX x h=>aTD (ha X hX x h)
theorem oV{c:E}(h:SE T C c)(ht:tv C c=cY (ev C c))(hk:∀ N sc x,lE T N c sc x=(bH T N c sc x&&kZ x)):ST T C c:=λ X hX x q=>by
 rw[hk] at q;rw[ht];exact aR8 (h X hX x (aL q)) (aR q)
structure Sn(T:Tx)(C:Calls)(c:E):Prop where
 e:SE T C c:=by exact λ _ _ _ h=>no h
 t:ST T C c:=by exact λ _ _ _ h=>no h
 a:SA T C c:=by exact λ _ _ _ h=>no h
 o:SO T C c:=by exact λ _ _ _ h=>no h
 l:SL T C c:=by exact λ _ _ _ h=>no h
 i:SI T C c:=by exact λ _ _ _ _ h=>no h
theorem sn(c:E):Sn T C c:=by
 induction c with
 | var i=>exact {e:=aHy i,t:=oV (aHy i) rfl λ _ _ _=>rfl }
 | int i=>exact {e:=aPG i }
 | bl b=>exact {e:=aIh b,t:=oV (aIh b) rfl λ _ _ _=>rfl }
 | non=>exact {e:=aRs }
 | str x=>exact {e:=aPO x }
 | bin op a b aV cF=>exact {e:=aHg aV.e cF.e,t:=oV (aHg aV.e cF.e) rfl λ _ _ _=>rfl }
 | un op a aV=>exact {e:=aSU aV.e }
 | cmp op a b aV cF=>exact {e:=aRj aV.e cF.e,t:=aQA aV.e cF.e }
 | ltl a b aV cF=>exact {}
 | and a b aV cF=>exact {e:=aPj aV.e cF.e,t:=aPd aV.t cF.t }
 | or a b aV cF=>exact {e:=aR3 aV.e cF.e,t:=aSF aV.t cF.t }
 | not a aV=>exact {e:=aPq aV.e,t:=aQq aV.t }
 | ite c a b ihc aV cF=>exact {e:=aQW ihc.t aV.e cF.e }
 | tup a aV=>exact {e:=aQ9 aV.a }
 | lst a aV=>exact {l:=aQc aV.a }
 | nil=>exact {a:=aPo }
 | cons a r aV ihr=>exact {a:=aNB aV.e ihr.a,o:=aN7 aV.e }
 | chn op gP a b c aV cF ihc=>exact {}
 | con x ts=>exact {e:=aPV }
 | ix a b aV cF=>exact {e:=aIe aV.e cF.e,t:=oV (aIe aV.e cF.e) rfl λ _ _ _=>rfl }
 | dsp k l m a b c i aV cF ihc ihi=>exact {}
 | tab x aU k ihk=>exact {e:=aQh ihk.e }
 | slL a lo hi aV ihlo ihhi=>exact {}
 | sl a lo hi aV ihlo ihhi=>exact {e:=aSM aV.e ihlo.o ihhi.o }
 | no=>exact {o:=aRM }
 | call f a aV=>exact {e:=aGT aV.a,t:=oV (aGT aV.a) rfl λ _ _ _=>rfl }
 | blt b a aV=>exact {e:=aHP aV.a,t:=oV (aHP aV.a) rfl λ _ _ _=>rfl }
 | isi a n aV=>exact {e:=aHt aV.e,t:=oV (aHt aV.e) rfl λ _ _ _=>rfl }
 | bits a aV=>exact {e:=aNI aV.e }
 | app o a iho aV=>exact {e:=aQT iho.e aV.e }
 | pop o a iho aV=>exact {}
 | idx o a iho aV=>exact {e:=aPB iho.e aV.e }
 | lof a aV=>exact {}
 | lzip a b aV cF=>exact {l:=aOU aV.e cF.e }
 | lrg1 a aV=>exact {}
 | lrg2 a b aV cF=>exact {}
 | srt a aV=>exact {}
 | lrev a aV=>exact {}
 | lrep a b aV cF=>exact {l:=aNy aV.e cF.e }
 | comp elt t it cond ihelt ihit ihcond=>exact {l:=aN1 ihelt.e ihit.i ihcond.t }
 | it a aV=>exact {i:=aSA aV.e }
 | rng1 a aV=>exact {i:=aNP aV.e }
 | rng2 a b aV cF=>exact {i:=aO0 aV.e cF.e }
 | rng3 a b c aV cF ihc=>exact {i:=aNG aV.e cF.e ihc.e }
 | rrng a aV=>exact {}
 | enm a aV=>exact {i:=aRy aV.e }
 | zip a b aV cF=>exact {i:=aRh aV.e cF.e }
 | zip3 a b c aV cF ihc=>exact {i:=aO6 aV.e cF.e ihc.e }
 | fz a aV=>exact {e:=aTf aV.l }
 | new a aV=>exact {e:=aP9 aV.l }
end
section
variable (T : Tx)(C : Calls)
def SS(c:Sx):Prop:=∀ X,Ctx T C X->(∀ x,X.fn x=true)->∀ st,okS T X.N c X.env.scope st=true->PS X st (dG X.K (xs C c))
def nU(c:Sx):Prop:=∀ X,Ctx T C X->(∀ x,X.fn x=true)->∀ st,nP T X.N c X.env.scope st=true->dN X st (dG X.K (xs C c))
end
section
variable {T : Tx}{C : Calls}
theorem aGY{e t:Expr}(h:qJ e=true)(line:Nat)(env:Env):swapsWithSole [t] e line env=pure false:=aBD h _ _ _
theorem aLd{e:Expr}{ts:List Expr}{k:Nat}{p:Pos}{env:Env}(h:qP e=false):swappedStores [.Tuple ts k p] e env=pure none:=by
 cases e<;>first | rfl | exact no h.symm
theorem aKQ{o i e:Expr}{p:Pos}{env:Env}:swappedStores [.Subscript o i p] e env=pure none:=by
 cases e<;>rfl
theorem aPa{a b:Sx}(ha:SS T C a)(hb:nU T C b):nU T C (.seq a b):=λ X hX hf st h=>by
 cases st with
 | nil=>exact no h
 | cons s r =>
   obtain⟨h1,h2⟩:=gN h;exact aRZ (ha X hX hf _ h1) (hb X hX hf _ h2)
theorem aOe:nU T C .skip:=λ X hX hf st h=>nB (P:=λ st=>dN X st _) h aPz
theorem aOy{e:E}:SS T C (.expr e):=λ X hX hf st h=>aVd (P:=λ st=>PS X st _) h λ x p h=>aQn ((sn e).e X hX _ (aL h)) (aBD (aR h) _ _ _)
theorem aQs{e:E}:SS T C (.ret e):=λ X hX hf st h=>aUt (P:=λ st=>PS X st _) h λ _ p h=>aIH (P:=λ v=>PS X (.Return v p) _) h λ x h=>aSB ((sn e).e X hX _ h)
theorem aQt{c:E}{a b:Sx}(ha:nU T C a)(hb:nU T C b):SS T C (.ifs c a b):=λ X hX hf st h=>aU9 (P:=λ st=>PS X st _) h λ x y z p h=>aUT ((sn c).t X hX _ (aL (aL h))).1 (ha X hX hf _ (aR (aL h))) (hb X hX hf _ (aR h))
theorem aRt{i:Nat}{e:E}:SS T C (.set i e):=λ X hX hf st h=>zX (P:=λ st=>PS X st _) h λ _ y p h=>kS (P:=λ ts=>PS X (.Assign ts y p) _) (aR h) λ _ g=>lX (P:=λ t=>PS X (.Assign [t] y p) _) g λ x q g =>
 aIV hX.nd (dT (aL g)) (aCt (aR g)) ((sn e).e X hX _ (aL (aL h))) (aBD (aR (aL h)) _ _ _) (.inl (hf _))
theorem aUh{K:FrG}{f:FL}(σ:St)(H:Hp)(Q:VK)(h:aS K (jY f) σ H Q):iO K f σ H Q:=by
 obtain⟨F,L,S,env,w,S',R,E,e,q⟩:=h;obtain⟨⟨ds,S1⟩,e1,e2⟩:=bind_some e;cases e2;exact⟨F,L,S,env,ds,_,R,E,e1,λ F1 L1 H1 p xs g1 R1 hF hL hH dl=>q _ L1 _ _ (g1.trans (Gr.new hF)) (R1.adopt hF hL hH) (Den.lst (bR.of cV) (dl.mono (cQ hF)))⟩
theorem aSQ{K:FrG}{f:FL}(σ:St)(H:Hp)(Q:VK)(h:aS K (gG f) σ H Q):iO K f σ H Q:=by
 obtain⟨F,L,S,env,w,S',R,E,e,q⟩:=h;obtain⟨⟨ds,S1⟩,e1,e2⟩:=bind_some e;cases e2;refine⟨F,L,S,env,ds,_,R,E,e1,λ F1 L1 H1 p xs g1 R1 hF hL hH dl=>q _ _ _ _ (g1.trans Gr.newLoc) (R1.adoptLoc hF hL hH dl) ⟨p,?_,rfl⟩⟩
 dsimp only;rw[<- R1.len,List.getElem?_append_right (Nat.le_refl _)];simp
theorem aUU{K:FrG}{f:FL}(nw:Bool):∀ (σ:St) (H:Hp) (Q:VK),aS K (match nw with | true=>gG f | false=>jY f) σ H Q->iO K f σ H Q:=by
 cases nw
 ·exact aUh
 ·exact aSQ
theorem aNn{nw:Bool}{i:Nat}{e:E}:SS T C (.setC nw i e):=λ X hX hf st h=>zX (P:=λ st=>PS X st _) h λ _ y p h=>kS (P:=λ ts=>PS X (.Assign ts y p) _) (aR h) λ _ g=>lX (P:=λ t=>PS X (.Assign [t] y p) _) g λ x q g=>by
 refine aUM (P:=λ e=>vU T X.N e X.env.scope y=true->PS X (.Assign [.Name x q] y p) (dG X.K (xs C (.setC nw i e)))) (aL (aL h)) (λ elt t it cond hL=>aI0 (P:=λ y=>PS X (.Assign [.Name x q] y p) (dG X.K (xs C (.setC nw i (.comp elt t it cond))))) hL λ e tg iter ifs scope r h1 h2 h3 h4 h5 h6 h7=>?_) (aR (aL h))
 have sok:=aGk h1;refine aMa (g:=rJ X.K t) hX.nd (dT (aL g)) (aCt (aR g)) (.inl (hf _)) hX.calm sok (λ i x a1 a2=>aB5 h2 i (gIm a1).1 x a1 a2) ((sn it).i X hX tg iter h4) (λ Y hY=>?_) (zC X.K t) (λ Y hY=>?_) (λ Y hY=>?_) (aBb h5 X.env) (aUU nw)
 ·obtain⟨c1,c2,c3,c4⟩:=hX.comp sok.kind hY;rw[<- c4];exact zJ (.inl rfl) c1.nd c1.calm (by rw[c2,c3];exact h3)
 ·obtain⟨c1,c2,c3,c4⟩:=hX.comp sok.kind hY;cases ifs with
  | nil=>exact aJj (P:=λ cond=>lH Y [] (tv C cond)) h6 aEN
  | cons y r=>exact nB (P:=λ r=>lH Y (y::r) _) (aL h6) (aEH ((sn cond).t Y c1 y (by rw[c2,c3];exact aR h6)).1)
 ·obtain⟨c1,c2,c3,c4⟩:=hX.comp sok.kind hY;rw[<- c4];exact(sn elt).e Y c1 e (by rw[c2,c3];exact h7)
theorem aUI{b:Bool}(h:(!b)=true):b=false:=by
 cases b with
 | false=>rfl
 | true=>exact no h
theorem aOx{t:Tg}{e:E}:SS T C (.setT t e):=λ X hX hf st h=>zX (P:=λ st=>PS X st _) h λ _ v p h=>kS (P:=λ ts=>PS X (.Assign ts v p) _) (aR h) λ tg g=>by
 have h1:=zJ (.inr hf) hX.nd hX.calm (aR g)
 revert h1
 exact rG (P:=λ tg=>PG X tg (rJ X.K t)->PS X (.Assign [tg] v p) (dG X.K (xs C (.setT t e)))) (aL g) λ ts k q _ h1=>PS.weak (aH3 ((sn e).e X hX _ (aL (aL (aL h)))) h1 (aGY (aR (aL (aL h))) _ _) (aLd (aUI (aR (aL h)))) rfl) (aQx (zC X.K t))
theorem aQ1{o i e:E}:SS T C (.put o i e):=λ X hX hf st h=>zX (P:=λ st=>PS X st _) h λ _ z p h=>kS (P:=λ ts=>PS X (.Assign ts z p) _) (aR h) λ _ g=>aCN (P:=λ t=>PS X (.Assign [t] z p) _) g λ x y q g h3 =>
 aRN ((sn o).e X hX _ (aL g)) ((sn i).e X hX _ (aR g)) ((sn e).e X hX _ (aL (aL h))) (aLR h3) (aGY (aR (aL h)) _ _) aKQ
theorem aOO{t:Tg}{it:E}{b:Sx}(hb:nU T C b):SS T C (.loop t it b):=λ X hX hf st h=>aUL (P:=λ st=>PS X st _) h λ tg x y z p h=>nB (P:=λ z=>PS X (.For tg x y z p) _) (aL (aL (aL (aL h))))
 (aRQ hX.own hX.calm ((sn it).i X hX _ _ (aR (aL (aL h)))) (zJ (.inr hf) hX.nd hX.calm (aR (aL (aL (aL h))))) (zC X.K t) (hb X hX hf _ (aR h)) (aBb (aR (aL h)) X.env))
theorem ss(c:Sx):SS T C c/\nU T C c:=by
 have N2:∀ {c:Sx},SS T C c->(∀ N sc st,nP T N c sc st=false)->SS T C c/\nU T C c:=λ q hh=>⟨q,λ X hX hf st h=>by rw[hh] at h;exact no h⟩
 induction c with
 | skip=>exact⟨λ X hX hf st h=>no h,aOe⟩
 | seq a b aV cF=>exact⟨λ X hX hf st h=>no h,aPa aV.1 cF.2⟩
 | expr e=>exact N2 aOy λ _ _ _=>rfl
 | ret e=>exact N2 aQs λ _ _ _=>rfl
 | ifs c a b aV cF=>exact N2 (aQt aV.2 cF.2) λ _ _ _=>rfl
 | set i e=>exact N2 aRt λ _ _ _=>rfl
 | setC nw i e=>exact N2 aNn λ _ _ _=>rfl
 | setT t e=>exact N2 aOx λ _ _ _=>rfl
 | put o i e=>exact N2 aQ1 λ _ _ _=>rfl
 | loop t it b cF=>exact N2 (aOO cF.2) λ _ _ _=>rfl
end
structure Fn where
 name:Str
 np:Nat
 N:List Str
 body:Sx
 st:Stmt
noncomputable def aD(fs:List Fn):Nat->Calls
 | 0=>λ _=>none
 | d+1=>λ f=>(fs[f]?).map λ F=>(F.np,eX (xs (aD fs d) F.body) F.N.length)
structure Tbs where
 tb:List (Str × List (Str × Tv))
 cn:List (Str × List Tv)
noncomputable def tab(fs:List Fn)(tb:Tbs):Tx:=⟨fs.map λ F=>(F.name,F.np),tb.tb,tb.cn⟩
noncomputable def aCg:List Str->Bool
 | []=>true
 | x::r=>!r.contains x&&aCg r
theorem aFX:∀ {l:List Str},aCg l=true->l.Nodup
 | [],_=>List.nodup_nil
 | x::r,h=>by
   obtain⟨h1,h2⟩:=gN h;refine List.nodup_cons.mpr ⟨λ z=>?_,aFX h2⟩
   have:r.contains x=true:=by simpa using z
   rw[this] at h1;exact no h1
noncomputable def zW(fs:List Fn)(tb:Tbs)(F:Fn):Bool:=
 decide ((eK F.st).kind=.function) && !(eK F.st).isCoroutine && !(eK F.st).isGenerator&&aCg F.N&&decide (F.np<=F.N.length)&&(F.N.take F.np).all (loc (eK F.st))&&(eK F.st).names.all (λ y=>!decide (y.2=.free)) &&
  nP (tab fs tb) F.N F.body (eK F.st) (kJ F.st)
theorem aP1{sc:Scope}{x:Str}(h:loc sc x=true):sc.names.lookup x=some .local\/sc.names.lookup x=some .cell:=by
 unfold loc at h
 split at h<;>first | exact .inl (by assumption) | exact .inr (by assumption) | exact no h
theorem aNg{fs:List Fn}{tb:Tbs}{F:Fn}(h:zW fs tb F=true):FnScope F.N (F.N.take F.np) (eK F.st)/\nP (tab fs tb) F.N F.body (eK F.st) (kJ F.st)=true/\(F.N.take F.np).length=F.np:=by
 obtain⟨h,h8⟩:=gN h;obtain⟨h,h7⟩:=gN h;obtain⟨h,h6⟩:=gN h;obtain⟨h,h5⟩:=gN h;obtain⟨h,h4⟩:=gN h;obtain⟨h,h3⟩:=gN h;obtain⟨h1,h2⟩:=gN h;have hl:(F.N.take F.np).length=F.np:=by
  rw[List.length_take];have:=oqT h5;omega
 refine⟨⟨oqT h1,?_,?_,aFX h4,by rw[hl],λ x hx=>aP1 (List.all_eq_true.mp h6 x hx),λ y hy=>?_⟩,h8,hl⟩
 ·cases q:(eK F.st).isCoroutine with
  | false=>rfl
  | true=>rw[q] at h2;exact no h2
 ·cases q:(eK F.st).isGenerator with
  | false=>rfl
  | true=>rw[q] at h3;exact no h3
 ·have:=List.all_eq_true.mp h7 y hy;intro z;rw[dqT z] at this;exact no this
section
variable {P : Program}{w : World}{K : FrG}{mg : Str -> Option Value}{base : Heap}
theorem aGQ(fs:List Fn)(tb:Tbs)(hk:∀ F∈fs,zW fs tb F=true)(top:∀ F∈fs,∃ fa fd,Fun K F.name F.name F.st fa fd/\mg F.name=some (.ref fa)/\lU K fd (F.N.take F.np) [])(hb:∀ x∈bltNames,mg x=none)(ht:∀ x aU,(x,aU)∈tb.tb->∃ a,mg x=some (.ref a)/\uG K w a aU)(hcn:∀ x ts,(x,ts)∈tb.cn->∃ a,mg x=some (.ref a)/\qK K a ts) :
 ∀ d f F np call fa fd,fs[f]? = some F->aD fs d f=some (np,call)->Fun K F.name F.name F.st fa fd->FnOk P w K mg base rS d fa fd (F.N.take F.np) (rK K np call)
 | 0,f,F,np,call,fa,fd,eF,e,Fu=>by cases e
 | d+1,f,F,np,call,fa,fd,eF,e,Fu=>by
   have ih:=aGQ fs tb hk top hb ht hcn d;have e2:(F.np,eX (xs (aD fs d) F.body) F.N.length)=(np,call):=by
    have e':(fs[f]?).map (λ F=>(F.np,eX (xs (aD fs d) F.body) F.N.length))=some (np,call):=e
    rw[eF] at e';exact Option.some.inj e'
   cases e2;have hm:F∈fs:=xAl eF;obtain⟨sc,hok,hl⟩:=aNg (hk F hm);refine Fu.ok sc (λ vs H Q E h=>?_) λ cdv A outer s H vs Q E hr h=>?_
   ·obtain⟨F1,L,S,ws,w1,S',hn,R,dl,_⟩:=h;rw[hl,<- hn];exact dl.length.symm
   ·refine⟨_,(ss (T:=tab fs tb) (C:=aD fs d) F.body).2 _ ⟨sc.nd,rfl,rfl,sc.kind,⟨d,hr,λ f' np' call' x' e1 e2=>?_⟩,hb,λ x aU hx=>ht x aU hx,λ x ts hx=>hcn x ts hx⟩ (λ _=>rfl) _ hok,aQE h⟩
    have e2:((fs.map λ F=>(F.name,F.np))[f']?).map (·.1)=some x':=e2
    rw[xAb] at e2;cases q:fs[f']? with
    | none=>rw[q] at e2;cases e2
    | some F' =>
      rw[q] at e2;have hx:F'.name=x':=Option.some.inj e2;subst hx;obtain⟨fa',fd',Fu',hmg',hbi'⟩:=top F' (xAl q);exact⟨fa',fd',_,hmg',Fu'.kp,hbi',ih f' F' np' call' fa' fd' q e1 Fu'⟩
end
structure TopFn(K:FrG)(F:Fn):Prop where
 ex:∃ (f:Addr) (oc:Value) (od an:Option Addr) (sl:Array (Option Value)) (kV dc pm cd ct:Value),PySem.W.nsIn K mainGlobals F.name=some (some (.ref f)) /\
  K.lookup f=some ⟨oc,od,.func (PySem.W.fnOf F.name F.name (mO F.st) (kJ F.st) (eK F.st) .none kV dc pm an cd ct),sl⟩/\PySem.W.codeIn K cd F.name=true/\PySem.W.keepIn K (.ref f)=true
theorem top_mk{K:FrG}{F:Fn}{f:Addr}{oc:Value}{od an:Option Addr}{sl:Array (Option Value)}{kV dc pm cd ct:Value}(a:PySem.W.nsIn K mainGlobals F.name=some (some (.ref f)))
 (l:K.lookup f=some ⟨oc,od,.func (PySem.W.fnOf F.name F.name (mO F.st) (kJ F.st) (eK F.st) .none kV dc pm an cd ct),sl⟩) (c:PySem.W.codeIn K cd F.name=true) (k:PySem.W.keepIn K (.ref f)=true):TopFn K F:=
 ⟨f,oc,od,an,sl,kV,dc,pm,cd,ct,a,l,c,k⟩
structure TabTop(K:FrG)(w:World)(t:Str × List (Str × Tv)):Prop where
 ex:∃ (a:Addr) (es:Array DictEntry) (ep:Nat),PySem.W.nsIn K mainGlobals t.1=some (some (.ref a))/\K.lookup a=some {cls:=.type "dict",data:=.dict es ep }/\qU w es.toList t.2
theorem tab_mk{K:FrG}{w:World}{t:Str × List (Str × Tv)}{a:Addr}{es:Array DictEntry}{ep:Nat}(a1:PySem.W.nsIn K mainGlobals t.1=some (some (.ref a)))
 (l1:K.lookup a=some {cls:=.type "dict",data:=.dict es ep }) (c1:qU w es.toList t.2):TabTop K w t:=⟨a,es,ep,a1,l1,c1⟩
structure ConTop(K:FrG)(t:Str × List Tv):Prop where
 ex:∃ a:Addr,PySem.W.nsIn K mainGlobals t.1=some (some (.ref a))/\qK K a t.2
theorem con_mk{K:FrG}{t:Str × List Tv}{a:Addr}{aE:Array Value}{n:Nat}{od:Option Addr}{sl:Array (Option Value)}(a1:PySem.W.nsIn K mainGlobals t.1=some (some (.ref a)))
 (l1:K.lookup a=some {cls:=.type "tuple",dict:=od,data:=.seq aE n,slots:=sl }) (z1:aE.size<=100) (c1:zM aE.toList t.2):ConTop K t:=
 ⟨a,a1,_,aE,n,l1,rfl,rfl,xAi z1 (by decide),c1⟩
def aB1(F:Fn):Prop:=∀ (kV doc pm:Value) (an:Option Addr) (cdv ct:Value) (us:List Value),us.length=(F.N.take F.np).length->bindArgs (PySem.W.fnOf F.name F.name (mO F.st) (kJ F.st) (eK F.st) .none kV doc pm an cdv ct) ⟨us,[]⟩=pure ((F.N.take F.np).zip us)
noncomputable def aCH(F:Fn):Bool:=match mO F.st with
 | ⟨[],as,none,[],_,none,_⟩=>decide (F.N.take F.np=as.map (·.arg))&&decide (F.N.take F.np).Nodup
 | _=>false
theorem aF1:∀ {ns:List Str}{us:List Value},ns.Nodup->us.length=ns.length->(∀ n∈ns,((ns.zip us).lookup n).isNone=false)/\ns.filterMap (λ n=>((ns.zip us).lookup n).map (n,·))=ns.zip us
 | [],us,_,_=>⟨λ n h=>(nomatch h),by cases us<;>rfl⟩
 | x::ns,[],_,h=>by cases h
 | x::ns,u::us,hn,hl=>by
   obtain⟨h1,h2⟩:=List.nodup_cons.mp hn;obtain⟨i1,i2⟩:=aF1 h2 (Nat.succ.inj hl);have e:∀ n∈ns,((x,u)::ns.zip us).lookup n=(ns.zip us).lookup n:=λ n m=>by
    rw[List.lookup_cons];have:(n==x)=false:=by
     rw[beq_eq_false_iff_ne];rintro rfl;exact h1 m
    rw[this]
   refine⟨λ n m=>?_,?_⟩
   ·rw[List.zip_cons_cons];rcases List.mem_cons.mp m with rfl | m
    ·rw[List.lookup_cons,beq_self_eq_true];rfl
    ·rw[e n m];exact i1 n m
   ·rw[List.zip_cons_cons,List.filterMap_cons,List.lookup_cons,beq_self_eq_true];show(x,u)::_=_;congr 1;rw[<- i2];rw[i2];have g:∀ l:List Str,(∀ n∈l,n∈ns)->l.filterMap (λ n=>(((x,u)::ns.zip us).lookup n).map (n,·))=l.filterMap (λ n=>((ns.zip us).lookup n).map (n,·)):=λ l=>by
     induction l with
     | nil=>intro _;rfl
     | cons y l ih=>intro hl;rw[List.filterMap_cons,List.filterMap_cons,e y (hl y xAd),ih λ n m=>hl n (xAg _ m)]
    rw[g ns λ n m=>m,i2]
theorem aMM{F:Fn}(h:aCH F=true):aB1 F:=by
 intro kV doc pm an cdv ct us hu;unfold aCH at h
 split at h
 ·rename_i as kd df e;obtain⟨h1,h2⟩:=gN h;have h1:=oqT h1;rw[e];rw[h1] at hu h2 ⊢;obtain⟨i1,i2⟩:=aF1 (oqT h2) hu;have m:((as.map (·.arg)).take (as.map (·.arg)).length).filter (λ n=>(((as.map (·.arg)).zip us).lookup n).isNone)=[]:=by
   rw[List.take_length,List.filter_eq_nil_iff];intro n hn;rw[i1 n hn];decide
  unfold bindArgs;have q:seqItems? Value.none=(pure none:Sem (Option (Array Value))):=rfl;simp only[PySem.W.fnOf,q,pure_bind,List.map_nil,List.nil_append,List.append_nil,List.forIn_nil,Option.getD_none,List.length_nil,List.drop_nil,List.zip_nil_right,Nat.sub_zero,hu,gt_iff_lt,Nat.lt_irrefl,decide_false,Bool.false_and,Bool.false_eq_true,if_false,m,List.isEmpty_nil,Bool.not_true,i2,Option.isNone_none]
 ·exact no h
theorem aEp:∀ {ns:List Int}{i:Int},i∈ns->Builtin.Int.intBits i<=PySem.W.WData.weightAll (ns.map PySem.W.WData.int)
 | [],i,h=>by cases h
 | n::r,i,h=>by
   have e:PySem.W.WData.weightAll ((n::r).map PySem.W.WData.int)=Builtin.Int.intBits n+1+PySem.W.WData.weightAll (r.map PySem.W.WData.int):=rfl;rw[e];rcases List.mem_cons.mp h with z | z
   ·subst z;omega
   ·have:=aEp z;omega
theorem aMH{ns:List Int}(h:PySem.W.WData.layableAll [PySem.W.WData.list (ns.map PySem.W.WData.int)]=true):∀ i∈ns,Builtin.Int.intBits i<=1048576:=λ i hi=>by
 have h1:PySem.W.WData.layable (PySem.W.WData.list (ns.map PySem.W.WData.int))=true:=by
  have:=List.all_eq_true.mp h _ xAd;exact this
 have h2:PySem.W.WData.weight (PySem.W.WData.list (ns.map PySem.W.WData.int))<=2^20:=oqT (gN h1).2;exact xAi (aEp hi) h2
theorem aNL{l:PySem.W.OpenLaw}{n:Nat}{q:Program}{loose:List Str}{XP:(Str->Option Value)->Heap->Prop}{YP:World->Heap->Prop}{d:DefRec}
 (hn:l.most=some n) (hdf:d.params.defaults=[])
 (go:∀ (w:World) (s₀ s₁:Shared) (mg mb:Str->Option Value) (fa:Addr) (a:Addr) (vs:List Value) (ns:List Int),
   PySem.W.Ground q loose [] XP w s₀ mg mb s₁.heap->YP w s₁.heap->mg d.name=some (.ref fa) ->
   s₁.heap.get? a=some {cls:=.type "list",data:=.seq vs.toArray }->IntsAre vs ns->ns.length<=n->(∀ i∈ns,Builtin.Int.intBits i<=1048576)->s₁.gens = #[] ->
   codeAny (model l.prog w) callerA (.call (.ref fa) ⟨[.ref a],[]⟩) (λ r s'=>r=.ok (.ret (.bool true))/\OldK s₁.heap s'.heap/\s'.os=s₁.os/\AllBare s'.gens) s₁) :
 PySem.W.WalkO q loose XP YP l.row.toRowW d [] (λ f vs=>PySem.call f vs):=by
 intro w s₀ s₁ mg mb G Y fa o pm cd doc dV kV ho hd hcd hD hmg hg args vals as hpre hlay hrd hwl hlo;obtain rfl:dV=.none:=PySem.W.Dflts.none hD hdf;obtain rfl:kV=.none:=PySem.W.Dflts.noKw hD;obtain⟨a,vs,ns,rfl,rfl,hobj,hints,cH⟩:=Att.script_of hn hpre hwl;refine PySem.W.enter_call (codeAny_mono (go w s₀ s₁ mg mb fa a vs ns G Y hmg hobj hints cH (aMH hlay) hg) λ r s' hq=>?_)
 obtain⟨rfl,h2,h3,h4⟩:=hq;exact⟨.inl ⟨.bool true,.bool true,[],rfl,λ _=>rfl,.bool true,Att.post_true l _,λ _=>⟨List.Pairwise.nil,λ _ hm=>(nomatch hm)⟩⟩,h2,h3,h4⟩
theorem law_of{l:PySem.W.OpenLaw}{q:Program}{loose:List Str}{XP:(Str->Option Value)->Heap->Prop}{YP:World->Heap->Prop}{d:DefRec}{K:Params->FrG}(fs:List Fn)(tb:Tbs)(f D:Nat)(L:Fn)(x:Str)
 (hn:l.most=some 63) (hdf:d.params.defaults=[]) (hr:Room D callerA) (hY:∀ (w:World) (h:Heap),YP w h->(K w.params).In h)
 (hk:∀ F∈fs,zW fs tb F=true) (hb:∀ F∈fs,aB1 F) (hL:fs[f]? = some L) (hname:L.name=d.name) (hps:L.N.take L.np=[x])
 (top:∀ w:World,∀ h:Heap,(K w.params).In h->∀ F∈fs,TopFn (K w.params) F) (tbl:∀ w:World,∀ h:Heap,(K w.params).In h->∀ t∈tb.tb,TabTop (K w.params) w t) (cnl:∀ w:World,∀ h:Heap,(K w.params).In h->∀ t∈tb.cn,ConTop (K w.params) t) (tbn:∀ w:World,∀ h:Heap,(K w.params).In h->∀ x∈bltNames,PySem.W.nsIn (K w.params) mainGlobals x=some none)
 (main:∀ ns:List Int,ns.length<=63->(∀ i∈ns,Builtin.Int.intBits i<=1048576)->∃ call S',aD fs D f=some (1,call)/\call [.d (.list (ns.map PyData.int))] []=some (.d (.bool true),S')) :
 PySem.W.WalkO q loose XP YP l.row.toRowW d [] (λ f vs=>PySem.call f vs):=by
 obtain⟨call,S0,hcall,_⟩:=main [] (by simp) (by simp)
 refine aNL hn hdf λ w s₀ s₁ mg mb fa a vs ns G Y hmg hobj hints cH hsm hg=>?_
 have KX:=hY w _ Y;have tops:∀ F∈fs,∃ fa fd,Fun (K w.params) F.name F.name F.st fa fd/\mg F.name=some (.ref fa)/\lU (K w.params) fd (F.N.take F.np) []:=λ F hF=>by
  obtain⟨f,oc,od,an,sl,kV,dc,pm,cd,ct,a,l,c,k⟩:=(top w _ KX F hF).ex;have Fu:=aQJ (st:=F.st) l c k;exact⟨f,_,Fu,PySem.W.mg_of KX G.T.g a,Fu.binds (hb F hF)⟩
 have hblt:∀ x∈bltNames,mg x=none:=λ y hy=>PySem.W.mg_none_of KX G.T.g (tbn w _ KX y hy)
 have htab:∀ x aU,(x,aU)∈tb.tb->∃ a,mg x=some (.ref a)/\uG (K w.params) w a aU:=λ x aU hx=>by
  obtain⟨a,es,ep,a1,l1,c1⟩:=(tbl w _ KX (x,aU) hx).ex;exact⟨a,PySem.W.mg_of KX G.T.g a1,es,ep,l1,c1⟩
 have hcon:∀ x ts,(x,ts)∈tb.cn->∃ a,mg x=some (.ref a)/\qK (K w.params) a ts:=λ x ts hx=>by
  obtain⟨a,a1,c1⟩:=(cnl w _ KX (x,ts) hx).ex;exact⟨a,PySem.W.mg_of KX G.T.g a1,c1⟩
 obtain⟨fa1,fd,Fu,hmg1,hbi⟩:=tops L (xAl hL);rw[<- hname,hmg1] at hmg;cases hmg;refine L2.law_call (fd:=fd) (sp:=rK (K w.params) 1 call) (CX:=rS) (x:=x) KX G.T.g G.T.b G.T.builtins G.T.nolimit hg hobj hints (xAi cH (by decide)) hr (λ base kb nb=>?_) (λ s u=>?_) (λ H hO hS=>?_) λ _ _ _ z=>z
 ·have P1:=aGQ (P:=l.prog) (w:=w) (base:=base) fs tb hk tops hblt htab hcon D f L 1 call _ _ hL hcall Fu;rw[hps] at P1;exact P1
 ·obtain⟨oc,od,kV,doc,pm,an,cdv,ct,osl,rfl,lk,hcd⟩:=Fu.ex;have:=hb L (xAl hL) kV doc pm an cdv ct [u] (by rw[hps];rfl)
  rw[hps] at this;exact .of_eq this
 ·obtain⟨call',S',hcall',hrun⟩:=main ns cH hsm;rw[hcall] at hcall';cases hcall';refine⟨H,[],[],[.d (.list (ns.map PyData.int))],.d (.bool true),S',rfl,⟨cC.refl _,List.nodup_nil,rfl,λ n a ds e=>by simp at e,λ n a e=>by simp at e⟩,.cons (Den.lst hS (DenL.of_ints ns)) .nil,hrun,λ F' L' H' v g R d=>?_⟩
  cases (show Den (K w.params) F' (.bool true) v from d)
  rfl
end EV
namespace EV
open PySem L2
theorem aBZ{α:Type}(S:List α)(a b:α):(S++[a]).set S.length b=S++[b]:=by simp
theorem aBk{α:Type}{t:Tg}{fc:FT}{fe:FE}{env:aT}{S:aC}(enc g:α->D)(p:α->Bool):∀ (l:List α) (aF:List D),aF.length+l.length<=sizeLine ->
 (∀ a∈l,∃ e1,t.put (enc a) env=some e1/\(∀ S',fc e1 S'=some (p a,S'))/\(p a=true->∀ S',fe e1 S'=some (.d (g a),S'))) ->
 hJ t fc fe S.length env (l.map enc) (S++[some aF])=some (S++[some (aF++(l.filter p).map g)])
 | [],aF,_,_=>by simp[hJ]
 | a::l,aF,hz,h=>by
   obtain⟨e1,h1,h2,h3⟩:=h a xAd;have hlt:aF.length < sizeLine:=by simp at hz;omega
   have cS:=λ x (hx:x∈l)=>h x (xAg _ hx)
   simp only[List.map_cons,hJ,h1,Option.bind_some,h2];cases hp:p a with
   | false =>
     simp only[Bool.false_eq_true,if_false];rw[aBk enc g p l aF (by simp at hz;omega) cS]
     simp[List.filter_cons,hp]
   | true =>
     have ea:eZ (S++[some aF]) (.loc S.length) (.d (g a))=some (.d .none,S++[some (aF++[g a])]):=by
      unfold eZ;simp only[List.getElem?_append_right (Nat.le_refl S.length),Nat.sub_self,List.getElem?_cons_zero];rw[if_pos hlt,aBZ]
     simp only[if_true,h3 hp,Option.bind_some,ea];rw[aBk enc g p l (aF++[g a]) (by simp at hz ⊢;omega) cS]
     simp[List.filter_cons,hp]
theorem aFn{α:Type}{t:Tg}{fi:FL}{fc:FT}{fe:FE}{env:aT}{S S1:aC}(enc g:α->D)(p:α->Bool)(l:List α)(hi:fi env S=some (l.map enc,S1))(hz:l.length<=sizeLine)
 (h:∀ a∈l,∃ e1,t.put (enc a) (clr t.slots env)=some e1/\(∀ S',fc e1 S'=some (p a,S'))/\(p a=true->∀ S',fe e1 S'=some (.d (g a),S'))):gX t fi fc fe env S=some ((l.filter p).map g,S1):=by
 unfold gX;rw[hi];simp only[Option.bind_some];rw[aBk enc g p l [] (by simpa using hz) h]
 simp
theorem aBp{α:Type}{t:Tg}{fc:FT}{fe:FE}{env:aT}{S:aC}(enc g:α->D)(p:α->Bool):∀ (l:List α) (aF:List D),aF.length+l.length<=sizeLine ->
 (∀ a∈l,∃ e1,t.put (enc a) env=some e1/\(∀ aF,fc e1 (S++[some aF])=some (p a,S++[some aF]))/\(p a=true->∀ aF,fe e1 (S++[some aF])=some (.d (g a),S++[some aF]))) ->
 hJ t fc fe S.length env (l.map enc) (S++[some aF])=some (S++[some (aF++(l.filter p).map g)])
 | [],aF,_,_=>by simp[hJ]
 | a::l,aF,hz,h=>by
   obtain⟨e1,h1,h2,h3⟩:=h a xAd;have hlt:aF.length < sizeLine:=by simp at hz;omega
   have cS:=λ x (hx:x∈l)=>h x (xAg _ hx)
   simp only[List.map_cons,hJ,h1,Option.bind_some,h2];cases hp:p a with
   | false =>
     simp only[Bool.false_eq_true,if_false];rw[aBp enc g p l aF (by simp at hz;omega) cS]
     simp[List.filter_cons,hp]
   | true =>
     have ea:eZ (S++[some aF]) (.loc S.length) (.d (g a))=some (.d .none,S++[some (aF++[g a])]):=by
      unfold eZ;simp only[List.getElem?_append_right (Nat.le_refl S.length),Nat.sub_self,List.getElem?_cons_zero];rw[if_pos hlt,aBZ]
     simp only[if_true,h3 hp,Option.bind_some,ea];rw[aBp enc g p l (aF++[g a]) (by simp at hz ⊢;omega) cS]
     simp[List.filter_cons,hp]
theorem aMt{α:Type}{t:Tg}{fi:FL}{fc:FT}{fe:FE}{env:aT}{S S1:aC}(enc g:α->D)(p:α->Bool)(l:List α)(hi:fi env S=some (l.map enc,S1))(hz:l.length<=sizeLine)
 (h:∀ a∈l,∃ e1,t.put (enc a) (clr t.slots env)=some e1/\(∀ aF,fc e1 (S1++[some aF])=some (p a,S1++[some aF]))/\(p a=true->∀ aF,fe e1 (S1++[some aF])=some (.d (g a),S1++[some aF]))):gX t fi fc fe env S=some ((l.filter p).map g,S1):=by
 unfold gX;rw[hi];simp only[Option.bind_some];rw[aBp enc g p l [] (by simpa using hz) h]
 simp
theorem mQ{α:Type}{t:Tg}{fi:FL}{fe:FE}{env:aT}{S S1:aC}(enc g:α->D)(l:List α)(hi:fi env S=some (l.map enc,S1))(hz:l.length<=sizeLine)
 (h:∀ a∈l,∃ e1,t.put (enc a) (clr t.slots env)=some e1/\∀ S',fe e1 S'=some (.d (g a),S')):gX t fi nO fe env S=some (l.map g,S1):=by
 rw[aFn (fc:=nO) enc g (λ _=>true) l hi hz λ a ha=>let ⟨e1,h1,h2⟩:=h a ha;⟨e1,h1,λ _=>rfl,λ _=>h2⟩]
 rw[List.filter_eq_self.mpr (λ _ _=>rfl)]
theorem aF3{t:Tg}{fb:FS}{S:aC}(P:aT->Prop):∀ (ds:List D) (env:aT),P env->(∀ d∈ds,∀ env,P env->∃ e1 aI,t.put d env=some e1/\fb e1 S=some (.nx aI,S)/\P aI) ->
 ∃ aI,fH t fb ds env S=some (.nx aI,S)/\P aI
 | [],env,h0,_=>⟨env,rfl,h0⟩
 | d::ds,env,h0,h=>by
   obtain⟨e1,aI,h1,h2,h3⟩:=h d xAd env h0;obtain⟨env2,h4,h5⟩:=aF3 P ds aI h3 λ x hx=>h x (xAg _ hx)
   exact⟨env2,by simp only[fH,h1,Option.bind_some,h2];exact h4,h5⟩
theorem aFW(n:Nat):∀ lo:Int,jQ lo n=(List.range n).map λ k=>PyData.int (lo+(k:Nat)):=by
 induction n with
 | zero=>intro lo;rfl
 | succ n ih =>
   intro lo;rw[jQ,ih,List.range_succ_eq_map,List.map_cons,List.map_map];congr 1
   ·simp
   ·apply List.map_congr_left;intro k _;simp only[Function.comp];congr 1
    push_cast
    omega
theorem aET:∀ (ds:List D) (k:Int),iD k ds=(ds.zipIdx).map λ p=>PyData.tuple [.int (k+(p.2:Nat)),p.1]
 | [],_=>rfl
 | d::r,k=>by
   rw[iD,aET r (k+1),List.zipIdx_cons,List.map_cons];congr 1
   ·simp
   ·rw[List.zipIdx_succ,List.map_map];apply List.map_congr_left;intro p _;simp only[Function.comp];congr 3
    push_cast
    omega
end EV
namespace BM
theorem sV(n:Nat):0 < 2^n:=xAf n
noncomputable def nH(n w:Nat):List Bool:=(List.range w).map n.testBit
theorem aLB(n w i:Nat):(nH n w).getD i false=(decide (i < w)&&n.testBit i):=by
 unfold nH
 by_cases h:i < w
 ·simp[List.getD,h]
 ·simp[List.getD,h]
theorem dD{n w i:Nat}(h:n < 2^w)(hi:w<=i):n.testBit i=false:=Nat.testBit_lt_two_pow (xAc h (Nat.pow_le_pow_right (by decide) hi))
noncomputable def bl(n:Nat):Nat:=if n=0 then 0 else n.log2+1
theorem tV{n:Nat}(h:n≠0):bl n=n.log2+1:=if_neg h
theorem qR(n:Nat):n < 2^bl n:=by
 by_cases h:n=0
 ·subst h;decide
 ·rw[tV h];exact Nat.lt_log2_self
theorem aQr{n:Nat}(h:n≠0):n.testBit (bl n - 1)=true:=by
 rw[tV h,Nat.add_sub_cancel];have h1:2^n.log2<=n:=Nat.log2_self_le h;have h2:n < 2^(n.log2+1):=Nat.lt_log2_self;rw[Nat.testBit_eq_decide_div_mod_eq];have:n / 2^n.log2=1:=by
  apply Nat.div_eq_of_lt_le
  ·omega
  ·rw[Nat.pow_succ] at h2;omega
 simp[this]
theorem qN{n w:Nat}(h:n < 2^w):bl n<=w:=by
 by_cases h0:n=0
 ·subst h0;simp[bl]
 ·rw[tV h0];exact(Nat.log2_lt h0).mpr h
theorem aFh{n k:Nat}(h1:n < 2^k)(h2:k=0\/n.testBit (k - 1)=true):bl n=k:=by
 rcases h2 with h2 | h2
 ·subst h2;have:n=0:=by simpa using h1
  subst this;rfl
 ·have h3:=qN h1;rcases Nat.lt_or_ge (bl n) k with h4 | h4
  ·exfalso;have:=dD (qR n) (show bl n<=k - 1 by omega)
   rw[this] at h2;cases h2
  ·omega
theorem eE(w i:Nat):(2^w - 1).testBit i=decide (i < w):=Nat.testBit_two_pow_sub_one w i
noncomputable def kX(l:List Bool):Nat:=(l.takeWhile id).length
theorem aE4(r:List Bool):kX (true::r)=kX r+1:=by simp[kX]
theorem aEt(r:List Bool):kX (false::r)=0:=by simp[kX]
theorem aFJ:∀ (l:List Bool) (i:Nat),i < kX l->l[i]? = some true
 | [],i,h=>by simp[kX] at h
 | false::r,i,h=>by simp[aEt] at h
 | true::r,0,h=>rfl
 | true::r,i+1,h=>by rw[aE4] at h;simpa using aFJ r i (by omega)
theorem aKB(m:Nat):(2*m+1) ^^^ (2*m+1+1)=2*(m ^^^ (m+1))+1:=by
 apply xAm;intro i;cases i with
 | zero=>rw[Nat.testBit_xor];simp[Nat.testBit_zero];omega
 | succ i =>
   rw[Nat.testBit_xor,Nat.testBit_succ,Nat.testBit_succ,Nat.testBit_succ];rw[show(2*m+1) / 2=m by omega,show(2*m+1+1) / 2=m+1 by omega,show(2*(m ^^^ (m+1))+1) / 2=(m ^^^ (m+1)) by omega,Nat.testBit_xor]
theorem aKp(m:Nat):(2*m) ^^^ (2*m+1)=1:=by
 apply xAm;intro i;cases i with
 | zero=>rw[Nat.testBit_xor];simp[Nat.testBit_zero]
 | succ i =>
   rw[Nat.testBit_xor,Nat.testBit_succ,Nat.testBit_succ,Nat.testBit_succ];rw[show(2*m) / 2=m by omega,show(2*m+1) / 2=m by omega]
   simp
theorem aLK(x:Nat):bl (2*x+1)=bl x+1:=by
 apply aFh
 ·have:=qR x;rw[Nat.pow_succ];omega
 ·right
  rw[Nat.add_sub_cancel]
  by_cases h:x=0
  ·subst h;rfl
  ·have h2:=aQr h;have h3:bl x=(bl x - 1)+1:=by rw[tV h];omega
   rw[h3,Nat.testBit_succ,show(2*x+1) / 2=x by omega]
   exact h2
theorem aEe(n:Nat):n ^^^ (n+1)≠0:=by
 intro h;have:n=n+1:=by
  have:=congrArg (λ z=>z ^^^ (n+1)) h
  simpa [Nat.xor_assoc] using this
 omega
theorem aE6{n:Nat}(h:n≠0):1<=bl n:=by rw[tV h];omega
theorem aK7(n w:Nat):nH n (w+1)=n.testBit 0::nH (n / 2) w:=by
 unfold nH;rw[List.range_succ_eq_map,List.map_cons,List.map_map];congr 1;apply List.map_congr_left;intro i _;simp only[Function.comp];exact Nat.testBit_succ n i
theorem aEu:∀ (w n:Nat),n < 2^w->bl (n ^^^ (n+1)) - 1=kX (nH n w)
 | 0,n,h=>by
   have:n=0:=by simpa using h
   subst this;rfl
 | w+1,n,h=>by
   rw[aK7];have hd:n / 2 < 2^w:=by rw[Nat.pow_succ] at h;omega
   have ih:=aEu w (n / 2) hd;rcases Nat.mod_two_eq_zero_or_one n with p | p
   ·have e:n=2*(n / 2):=by omega
    have e2:n ^^^ (n+1)=1:=by rw[e];exact aKp _
    rw[e2,Nat.testBit_zero,p];rw[show bl 1=1 from by decide];simp[aEt]
   ·have e:n=2*(n / 2)+1:=by omega
    have e2:n ^^^ (n+1)=2*((n / 2) ^^^ (n / 2+1))+1:=by
     have:=aKB (n / 2);rw[<- e] at this;exact this
    rw[e2,aLK,Nat.testBit_zero,p];simp only[decide_true,aE4];have:=aE6 (aEe (n / 2));omega
noncomputable def hi(l:List Bool):Nat:=l.length - kX (l.reverse.map (!·))
theorem aKK{n w:Nat}(h:n < 2^w):n ^^^ (2^w - 1) < 2^w:=Nat.xor_lt_two_pow h (by have:=sV w;omega)
noncomputable def dX(n w v:Nat):Nat:=if n &&& 2^(w - 1)=0 then n else n ||| ((2^v - 1) ^^^ (2^w - 1))
theorem aD6(n k:Nat):(n &&& 2^k=0) ↔ n.testBit k=false:=by
 constructor
 ·intro h;have:=congrArg (λ z=>z.testBit k) h
  simpa [Nat.testBit_and,Nat.testBit_two_pow_self] using this
 ·intro h;apply xAm;intro i;rw[Nat.testBit_and,Nat.testBit_two_pow,Nat.zero_testBit]
  by_cases e:k=i
  ·subst e;simp[h]
  ·simp[e]
theorem aD0{n w v:Nat}(h:n < 2^w)(hw:0 < w)(hv:w<=v)(i:Nat):(dX n w v).testBit i=if i < w then n.testBit i else (decide (i < v)&&n.testBit (w - 1)):=by
 unfold dX;cases e:n.testBit (w - 1) with
 | false =>
   rw[if_pos ((aD6 _ _).mpr e)]
   split
   ·rfl
   ·rw[dD h (by omega)];simp
 | true =>
   rw[if_neg (λ z=>by rw[(aD6 _ _).mp z] at e;cases e)]
   rw[xAp,Nat.testBit_xor,eE,eE]
   split
   ·rename_i hi;have:i < v:=by omega
    simp[hi,this]
   ·rename_i hi;rw[dD h (by omega)]
    simp[hi]
theorem sC{n w v:Nat}(h:n < 2^w)(hw:0 < w)(hv:w<=v):dX n w v < 2^v:=by
 apply Nat.lt_pow_two_of_testBit;intro i hi;rw[aD0 h hw hv,if_neg (by omega)]
 have:¬ i < v:=by omega
 simp[this]
noncomputable def yL(x d:Nat):Nat:=x / 2^d*2^d
theorem wX(x d i:Nat):(yL x d).testBit i=(decide (d<=i)&&x.testBit i):=by
 unfold yL;rw[Nat.testBit_mul_two_pow]
 by_cases h:d<=i
 ·simp[h,Nat.testBit_div_two_pow,show i - d+d=i by omega]
 ·simp[h]
noncomputable def pL(x w:Nat):Nat:=2^w - 1 - x
theorem qD{x w:Nat}(h:x < 2^w)(i:Nat):(pL x w).testBit i=(decide (i < w) && !x.testBit i):=by
 unfold pL;rw[show 2^w - 1 - x=2^w - (x+1) by omega]
 exact Nat.testBit_two_pow_sub_succ h i
noncomputable def tQ(l g w:Nat):Nat:=(2^w - 1) ^^^ (2^bl (l ^^^ g) - 1)
theorem aA5{l g w:Nat}(hl:l < 2^w)(hg:g < 2^w)(i:Nat):(tQ l g w).testBit i=(decide (i < w)&&decide (bl (l ^^^ g)<=i)):=by
 unfold tQ;rw[Nat.testBit_xor,eE,eE];have hd:bl (l ^^^ g)<=w:=qN (Nat.xor_lt_two_pow hl hg)
 by_cases h1:i < w<;>by_cases h2:i < bl (l ^^^ g)
 ·simp[h1,h2,show ¬ bl (l ^^^ g)<=i by omega]
 ·simp[h1,h2,show bl (l ^^^ g)<=i by omega]
 ·omega
 ·simp[h1,h2]
noncomputable def nG(l g w:Nat):Nat:=tQ l g w &&& l
noncomputable def sP(l g w:Nat):Nat:=tQ l g w ^^^ nG l g w
theorem aNj{l g w:Nat}(hl:l < 2^w)(hg:g < 2^w):nG l g w=yL l (bl (l ^^^ g)):=by
 apply xAm;intro i;rw[nG,Nat.testBit_and,aA5 hl hg,wX]
 by_cases h1:i < w
 ·simp[h1]
 ·rw[dD hl (by omega)];simp
theorem aKO{l g w:Nat}(hl:l < 2^w)(hg:g < 2^w):sP l g w=yL (pL l w) (bl (l ^^^ g)):=by
 apply xAm;intro i;rw[sP,Nat.testBit_xor,nG,Nat.testBit_and,aA5 hl hg,wX,qD hl]
 by_cases h1:i < w<;>by_cases h2:bl (l ^^^ g)<=i<;>cases l.testBit i<;>simp[h1,h2]
theorem aVp{l g i:Nat}(h:bl (l ^^^ g)<=i):l.testBit i=g.testBit i:=by
 have:=dD (qR (l ^^^ g)) h;rw[Nat.testBit_xor] at this;cases a:l.testBit i<;>cases b:g.testBit i<;>simp[a,b] at this ⊢
theorem aL6{l g d:Nat}(h:l ^^^ g < 2^d):l / 2^d=g / 2^d:=by
 apply xAm;intro i;rw[Nat.testBit_div_two_pow,Nat.testBit_div_two_pow];have:=dD h (show d<=i+d by omega)
 rw[Nat.testBit_xor] at this;cases a:l.testBit (i+d)<;>cases b:g.testBit (i+d)<;>simp[a,b] at this ⊢
theorem aKN{l m g:Nat}(h1:l<=m)(h2:m<=g):m / 2^bl (l ^^^ g)=l / 2^bl (l ^^^ g):=by
 have e:=aL6 (qR (l ^^^ g));have a:=Nat.div_le_div_right (c:=2^bl (l ^^^ g)) h1;have b:=Nat.div_le_div_right (c:=2^bl (l ^^^ g)) h2;omega
theorem aEl{l m g i:Nat}(h1:l<=m)(h2:m<=g)(hi:bl (l ^^^ g)<=i):m.testBit i=l.testBit i:=by
 have:=congrArg (λ z=>z.testBit (i - bl (l ^^^ g))) (aKN h1 h2)
 simp only[Nat.testBit_div_two_pow] at this;rwa [show i - bl (l ^^^ g)+bl (l ^^^ g)=i by omega] at this
theorem aKc{l m g w:Nat}(hl:l < 2^w)(hg:g < 2^w)(h1:l<=m)(h2:m<=g):m &&& sP l g w=0:=by
 apply xAm;intro i;rw[Nat.testBit_and,aKO hl hg,wX,qD hl,Nat.zero_testBit]
 by_cases h:bl (l ^^^ g)<=i
 ·rw[aEl h1 h2 h];cases l.testBit i<;>simp
 ·simp[h]
theorem aKF{l m g w:Nat}(hl:l < 2^w)(hg:g < 2^w)(h1:l<=m)(h2:m<=g):m &&& nG l g w=nG l g w:=by
 apply xAm;intro i;rw[Nat.testBit_and,aNj hl hg,wX]
 by_cases h:bl (l ^^^ g)<=i
 ·rw[aEl h1 h2 h];cases l.testBit i<;>simp
 ·simp[h]
end BM
namespace BM
theorem kI(n k i:Nat):(n / 2^k).testBit i=n.testBit (k+i):=by rw[Nat.testBit_div_two_pow,Nat.add_comm]
theorem kD(n:Nat):n=0 ↔ ∀ i,n.testBit i=false:=by
 constructor
 ·rintro rfl i;simp
 ·intro h;apply xAm;intro i;simp[h i]
theorem aAL(m k:Nat):m / 2^k=0 ↔ ∀ i,k<=i->m.testBit i=false:=by
 rw[kD];constructor
 ·intro h i hi;have:=h (i - k);rw[kI,show k+(i - k)=i by omega] at this
  exact this
 ·intro h i;rw[kI];exact h _ (by omega)
noncomputable def iJ(a b:Nat):Nat:=a - (a &&& b)
theorem aEj{x k q:Nat}(h:x < 2^k)(i:Nat):(x+q*2^k).testBit i=if i < k then x.testBit i else q.testBit (i - k):=by
 rw[Nat.add_comm,Nat.mul_comm,Nat.testBit_two_pow_mul_add _ h]
theorem aOb{n w:Nat}(h:n < 2^w)(hw:0 < w):n / 2^(w - 1)=(n.testBit (w - 1)).toNat:=by
 rw[Nat.toNat_testBit];have:n / 2^(w - 1) < 2:=by
  rw[Nat.div_lt_iff_lt_mul (xAf _),<- Nat.pow_succ'];rw[show(w - 1).succ=w by omega]
  exact h
 exact(Nat.mod_eq_of_lt this).symm
end BM
namespace BM
open PySem
theorem aJI(a b:Nat):Builtin.bitAnd a b=((a &&& b:Nat):Int):=by
 unfold Builtin.bitAnd;rw[dqT (Int.natCast_nonneg a),dqT (Int.natCast_nonneg b)];simp
theorem bOr(a b:Nat):Builtin.bitOr a b=((a ||| b:Nat):Int):=by
 unfold Builtin.bitOr Builtin.bitAnd Builtin.bitNot;rw[dqF (show ¬ (0:Int) <= -(a:Int) - 1 by omega),dqF (show ¬ (0:Int) <= -(b:Int) - 1 by omega)]
 have e1:(-(-(a:Int) - 1) - 1).toNat=a:=by omega
 have e2:(-(-(b:Int) - 1) - 1).toNat=b:=by omega
 simp only[e1,e2];omega
theorem aEm:∀ (n a b:Nat),a<=n->(a ^^^ b)+(a &&& b)=(a ||| b)
 | 0,a,b,h=>by
   have:a=0:=by omega
   subst this;simp
 | n+1,a,b,h=>by
   by_cases ha:a=0
   ·subst ha;simp
   have ih:=aEm n (a / 2) (b / 2) (by omega)
   have x2:=Nat.xor_div_two (a:=a) (b:=b);have a2:=Nat.and_div_two (a:=a) (b:=b);have o2:=Nat.or_div_two (a:=a) (b:=b);have xm:(a ^^^ b)%2=(a%2+b%2)%2:=by
    have:=Nat.testBit_xor a b 0;simp only[Nat.testBit_zero] at this;rcases Nat.mod_two_eq_zero_or_one a with p | p<;>rcases Nat.mod_two_eq_zero_or_one b with q | q<;>rcases Nat.mod_two_eq_zero_or_one (a ^^^ b) with r | r<;>simp[p,q,r] at this ⊢
   have am:(a &&& b)%2=(a%2)*(b%2):=by
    have:=Nat.testBit_and a b 0;simp only[Nat.testBit_zero] at this;rcases Nat.mod_two_eq_zero_or_one a with p | p<;>rcases Nat.mod_two_eq_zero_or_one b with q | q<;>rcases Nat.mod_two_eq_zero_or_one (a &&& b) with r | r<;>simp[p,q,r] at this ⊢
   have om:(a ||| b)%2=(a%2+b%2) - (a%2)*(b%2):=by
    have:=xAp a b 0;simp only[Nat.testBit_zero] at this;rcases Nat.mod_two_eq_zero_or_one a with p | p<;>rcases Nat.mod_two_eq_zero_or_one b with q | q<;>rcases Nat.mod_two_eq_zero_or_one (a ||| b) with r | r<;>simp[p,q,r] at this ⊢
   have h1:=Nat.div_add_mod (a ^^^ b) 2;have h2:=Nat.div_add_mod (a &&& b) 2;have h3:=Nat.div_add_mod (a ||| b) 2
   rcases Nat.mod_two_eq_zero_or_one a with p | p<;>rcases Nat.mod_two_eq_zero_or_one b with q | q<;>rw[p,q] at xm am om<;>omega
theorem aUl(a b:Nat):Builtin.bitXor a b=((a ^^^ b:Nat):Int):=by
 unfold Builtin.bitXor;rw[aJI,bOr];have:=aEm a a b (Nat.le_refl _);omega
theorem aK4(a:Nat):((a:Int)).natAbs=a:=by omega
theorem aEc(a:Nat):Builtin.Int.intBits a=if a=0 then 0 else a.log2+1:=by
 unfold Builtin.Int.intBits
 by_cases h:a=0
 ·subst h;rfl
 ·rw[if_neg h,if_neg (by simp;omega),aK4]
theorem aKW{a n:Nat}(h:a < 2^n):Builtin.Int.intBits a<=n:=by
 rw[aEc]
 split
 ·exact Nat.zero_le _
 ·rename_i h0;exact(Nat.log2_lt h0).mpr h
theorem aBx(n:Nat):((2^n:Nat):Int)=(2:Int)^n:=by simp
theorem aUb{x y:Int}(h:y.natAbs.log2 < 9000):Builtin.divisionGoesByPylong x y=false:=by
 unfold Builtin.divisionGoesByPylong;dsimp only;have:¬ ((if (y==0)=true then 0 else y.natAbs.log2 / 30+1) > 300):=by
  split
  ·omega
  ·omega
 rw[dqF this];rfl
end BM
namespace EV
open PySem L2 BM
theorem cK(i j:Int):cB .Add (.int i) (.int j)=some (.int (i+j)):=rfl
theorem cG(i j:Int):cB .Sub (.int i) (.int j)=some (.int (i - j)):=rfl
theorem dJ(a b:Nat):cB .BitAnd (.int a) (.int b)=some (.int ((a &&& b:Nat):Int)):=by simp only[cB,kP,aJI]
theorem eO(a b:Nat):cB .BitOr (.int a) (.int b)=some (.int ((a ||| b:Nat):Int)):=by simp only[cB,kP,bOr]
theorem lJ(a b:Nat):cB .BitXor (.int a) (.int b)=some (.int ((a ^^^ b:Nat):Int)):=by simp only[cB,kP,aUl]
theorem gL{w:Nat}(h1:w<=100000):cB .LShift (.int 1) (.int w)=some (.int ((2^w:Nat):Int)):=by
 have c:(0:Int)<=w/\(Builtin.Int.intBits 1:Int)+w<=2^27:=⟨by omega,by(have:(Builtin.Int.intBits 1:Int)=1:=(by decide);omega)⟩
 simp only[cB,kP];rw[if_pos c,Int.one_mul,Int.toNat_natCast,aBx]
theorem tI{n a k:Nat}(h:n < 2^a)(h2:a+k<=100000):cB .LShift (.int (n:Nat)) (.int (k:Nat))=some (.int ((n*2^k:Nat):Int)):=by
 have c:(0:Int)<=(k:Nat)/\((Builtin.Int.intBits (n:Int):Nat):Int)+(k:Nat)<=2^27:=by
  have:=aKW h;exact⟨by omega,by omega⟩
 simp only[cB,kP];rw[if_pos c,Int.toNat_natCast,<- aBx];congr 2
theorem fR{i j:Int}(h:0 < j):cB .Mod (.int i) (.int j)=some (.int (i%j)):=by
 simp only[cB,kP];rw[if_pos (by omega),Int.fmod_eq_emod_of_nonneg _ (by omega)]
theorem mP{i j:Int}(h:0 < j)(h2:j < 2^64):cB .FloorDiv (.int i) (.int j)=some (.int (i / j)):=by
 simp only[cB,kP];have h3:j.natAbs.log2 < 9000:=Nat.lt_trans ((Nat.log2_lt (by omega)).mpr (show j.natAbs < 2^64 by omega)) (by decide)
 rw[if_pos ⟨by omega,aUb h3⟩,Int.fdiv_eq_ediv_of_nonneg _ (by omega)]
theorem aKJ{i j:Int}(h1 : -(2^64) < j)(h2:j < 2^64):nI i j=true:=by
 unfold nI;have:=intBits_le_64 h1 h2;have h:¬ (Builtin.Int.intBits j > shortFactorBits):=Nat.not_lt.mpr this;rw[dqF h];simp
theorem aKx{i j:Int}(h1 : -(2^64) < i)(h2:i < 2^64):nI i j=true:=by
 unfold nI;have:=intBits_le_64 h1 h2;have h:¬ (Builtin.Int.intBits i > shortFactorBits):=Nat.not_lt.mpr this;rw[dqF h];simp
theorem yB{i j:Int}(h1 : -(2^64) < j)(h2:j < 2^64):cB .Mult (.int i) (.int j)=some (.int (i*j)):=by
 show(if nI i j=true then some (PyData.int (i*j)) else none)=_
 rw[if_pos (aKJ h1 h2)]
theorem oJ{i j:Int}(h1 : -(2^64) < i)(h2:i < 2^64):cB .Mult (.int i) (.int j)=some (.int (i*j)):=by
 show(if nI i j=true then some (PyData.int (i*j)) else none)=_
 rw[if_pos (aKx h1 h2)]
theorem aOH{xs ys:List D}(h:xs.length+ys.length<=1000000):cB .Add (.list xs) (.list ys)=some (.list (xs++ys)):=by
 show(if xs.length+ys.length<=sizeLine then some (PyData.list (xs++ys)) else none)=_
 rw[if_pos (by rw[sizeLine_eq];omega)]
theorem aM8{α:Type}(k:Nat)(x:α):vK k [x]=List.replicate k x:=by
 unfold vK
 induction k with
 | zero=>rfl
 | succ k ih=>rw[List.replicate_succ,List.flatten_cons,ih,List.replicate_succ];rfl
theorem bM(i j:Int):aX .Eq (.int i) (.int j)=some (.bool (i==j)):=rfl
theorem lQ(i j:Int):aX .NotEq (.int i) (.int j)=some (.bool (!(i==j))):=rfl
theorem eV(i j:Int):aX .Lt (.int i) (.int j)=some (.bool (decide (i < j))):=rfl
theorem aRp(i j:Int):aX .LtE (.int i) (.int j)=some (.bool (decide (i<=j))):=rfl
theorem jM(i j:Int):aX .Gt (.int i) (.int j)=some (.bool (decide (j < i))):=rfl
theorem aHn(i j:Int):aX .GtE (.int i) (.int j)=some (.bool (decide (j<=i))):=rfl
end EV
namespace EV
open PySem L2 BM
theorem oB{α β:Type}(a:α)(f:α->Option β):(some a).bind f=f a:=of_eq_true (eq_self (f a))
theorem oM{α β:Type}(a:α)(f:α->β):(some a).map f=some (f a):=of_eq_true (eq_self (some (f a)))
noncomputable def cl(fs:List Fn)(d f:Nat)(ws:List W)(S:aC):Option (W × aC):=match aD fs d f with
 | some (np,call)=>if ws.length=np then call ws S else none
 | none=>none
theorem aEQ(fs:List Fn)(d f:Nat)(fa:FA)(env:aT)(S:aC):kL (aD fs d) f fa env S=(fa env S).bind λ p=>cl fs d f p.1 p.2:=by
 unfold kL cl zI;cases aD fs d f with
 | none=>cases fa env S<;>rfl
 | some q=>rfl
theorem aQ{fs:List Fn}{f:Nat}{F:Fn}(h:fs[f]? = some F)(d:Nat)(ws:List W)(S:aC)(hw:ws.length=F.np):cl fs (d+1) f ws S=eX (xs (aD fs d) F.body) F.N.length ws S:=by
 have e:aD fs (d+1) f=some (F.np,eX (xs (aD fs d) F.body) F.N.length):=by
  show(fs[f]?).map _=_;rw[h];rfl
 unfold cl;rw[e];exact if_pos hw
theorem aOQ{fs:List Fn}{f d:Nat}{F:Fn}{w r:W}{S:aC}(h:fs[f]? = some F)(hn:F.np=1)(e:cl fs (d+1) f [w] []=some (r,S)):∃ call S',aD fs (d+1) f=some (1,call)/\call [w] []=some (r,S'):=by
 refine⟨eX (xs (aD fs d) F.body) F.N.length,S,?_,?_⟩
 ·show(fs[f]?).map _=_;rw[h,<- hn];rfl
 ·rw[<- aQ h d [w] [] (by rw[hn];rfl)]
  exact e
theorem szT{n:Nat}(h:n<=1000):(n<=sizeLine)=True:=by
 rw[sizeLine_eq];exact eq_true (by omega)
end EV
namespace EV
open PySem L2 BM
theorem xC(w:Nat):((2^w:Nat):Int) - 1=((2^w - 1:Nat):Int):=by
 have:=sV w;omega
theorem pP{fa:FE}{env:aT}{S S1:aC}{w:Nat}(h:fa env S=some (.d (.int w),S1))(hw:w<=1000000):uL fa env S=some ((List.range w).map (λ k=>PyData.int (k:Nat)),S1):=by
 have c : -(2^62)<=((w:Nat):Int)/\((w:Nat):Int) < 2^62:=⟨by omega,by omega⟩
 unfold uL;rw[h,oB];simp only[];rw[if_pos c,aFW,Int.toNat_natCast];congr 2;apply List.map_congr_left;intro k _;rw[Int.zero_add]
theorem aKy{fa:FE}{env:aT}{S S1:aC}{ds:List D}(h:fa env S=some (.d (.tuple ds),S1)):tS fa env S=some (ds.zipIdx.map (λ p=>PyData.tuple [.int (p.2:Nat),p.1]),S1):=by
 simp only[tS,h,oB];rw[aET];simp
theorem aFV{i:Nat}{env:aT}{S:aC}{w:W}(h:env[i]? = some (some w)):iY i env S=some (w,S):=by
 unfold iY;rw[h]
theorem mW{xs:List D}{k:Nat}{x:D}(h:xs[k]? = some x):aO (.list xs) (.int (k:Nat))=some x:=by
 have hl:k < xs.length:=(gIm h).1;show(jB xs.length ((k:Nat):Int)).bind (λ j=>xs[j]?)=some x
 unfold jB;rw[if_pos (by omega),if_pos (by omega),oB,Int.toNat_natCast]
 exact h
theorem eG{xs:List D}{k:Nat}{x:D}(h:xs[k]? = some x):aO (.tuple xs) (.int (k:Nat))=some x:=mW (xs:=xs) h
theorem aQ6(xs:List D)(k:Nat):fJ xs none (some (k:Nat))=xs.take k:=by
 unfold fJ;rw[HT.sIx_none,HT.sIx_nat,List.drop_zero,Nat.sub_zero];rcases Nat.le_total k xs.length with h | h
 ·rw[Nat.min_eq_left h]
 ·rw[Nat.min_eq_right h,List.take_length,List.take_of_length_le h]
theorem aHM{t:Tg}{fi:FL}{fb:FS}{env:aT}{S S1:aC}{ds:List D}(P:aT->Prop)(hi:fi env S=some (ds,S1))(h0:P env)(h:∀ d∈ds,∀ env,P env->∃ e1 aI,t.put d env=some e1/\fb e1 S1=some (.nx aI,S1)/\P aI) :
 ∃ aI,cJ t fi fb env S=some (.nx aI,S1)/\P aI:=by
 obtain⟨aI,h1,h2⟩:=aF3 (t:=t) (fb:=fb) (S:=S1) P ds env h0 h;exact⟨aI,by unfold cJ;rw[hi,oB];exact h1,h2⟩
theorem aGM{t:Tg}{fb:FS}(P:Nat->aT->aC->Prop):∀ (ds:List D) (i:Nat) (env:aT) (S:aC),P i env S->(∀ j d env S,ds[j]? = some d->P (i+j) env S->∃ e1 aI S',t.put d env=some e1/\fb e1 S=some (.nx aI,S')/\P (i+j+1) aI S') ->
 ∃ aI S',fH t fb ds env S=some (.nx aI,S')/\P (i+ds.length) aI S'
 | [],i,env,S,h0,_=>⟨env,S,rfl,h0⟩
 | d::ds,i,env,S,h0,h=>by
   obtain⟨e1,aI,S',h1,h2,h3⟩:=h 0 d env S rfl h0;obtain⟨env2,S2,h4,h5⟩:=aGM P ds (i+1) aI S' h3 λ j d' env S a b=>by
    have:=h (j+1) d' env S (by simpa using a) (by rw[show i+(j+1)=i+1+j by omega];exact b)
    rw[show i+(j+1)=i+1+j by omega] at this
    exact this
   refine⟨env2,S2,by simp only[fH,h1,oB,h2];exact h4,?_⟩
   have:i+(d::ds).length=i+1+ds.length:=by simp;omega
   rw[this];exact h5
theorem lK{t:Tg}{fi:FL}{fb:FS}{env:aT}{S S1:aC}{ds:List D}(P:Nat->aT->aC->Prop)(hi:fi env S=some (ds,S1))(h0:P 0 env S1)(h:∀ j d env S,ds[j]? = some d->P j env S->∃ e1 aI S',t.put d env=some e1/\fb e1 S=some (.nx aI,S')/\P (j+1) aI S') :
 ∃ aI S',cJ t fi fb env S=some (.nx aI,S')/\P ds.length aI S':=by
 obtain⟨aI,S',h1,h2⟩:=aGM (t:=t) (fb:=fb) P ds 0 env S1 h0 λ j d env S a b=>by
  have:=h j d env S a (by simpa using b)
  simpa using this
 exact⟨aI,S',by unfold cJ;rw[hi,oB];exact h1,by simpa using h2⟩
theorem aEf{fa fb:FE}{env:aT}{S S1 S2:aC}{v w:Nat}(h:fa env S=some (.d (.int v),S1))(h2:fb env S1=some (.d (.int w),S2))(hv:v<=1000000)(hw:w<=1000000):uN fa fb env S=some ((List.range (w - v)).map (λ k=>PyData.int ((v+k:Nat):Int)),S2):=by
 have c : -(2^62)<=((v:Nat):Int)/\((v:Nat):Int) < 2^62 /\ -(2^62)<=((w:Nat):Int)/\((w:Nat):Int) < 2^62:=⟨by omega,by omega,by omega,by omega⟩
 have e:(((w:Nat):Int) - ((v:Nat):Int)).toNat=w - v:=by omega
 unfold uN;rw[h,oB];simp only[];rw[h2,oB];simp only[];rw[if_pos c,aFW,e];congr 2
theorem dR{xs:List D}:hU [.list xs]=some (.int xs.length):=rfl
theorem dQ{xs:List D}:hU [.tuple xs]=some (.int xs.length):=rfl
theorem iU{xs:List D}:tN [.list xs]=some (.tuple xs):=rfl
theorem iR{xs:List D}:tN [.tuple xs]=some (.tuple xs):=rfl
theorem tT{i:Int}:vD [.int i]=some (.int i):=rfl
theorem tX{k:Bool}:vD [.bool k]=some (.int (if k then 1 else 0)):=rfl
theorem jG(n k:Nat):cB .RShift (.int (n:Nat)) (.int (k:Nat))=some (.int ((n / 2^k:Nat):Int)):=by
 have c:(0:Int)<=(k:Nat):=by omega
 simp only[cB,kP];rw[if_pos c,Int.toNat_natCast,<- aBx];congr 2
theorem aFC(a b:Nat):cB .BitAnd (.int (a:Nat)) (.int (Builtin.bitNot (b:Nat)))=some (.int ((iJ a b:Nat):Int)):=by
 have h1:decide ((0:Int)<=(a:Nat))=true:=dqT (by omega)
 have h2:decide ((0:Int)<=Builtin.bitNot (b:Nat))=false:=dqF (by unfold Builtin.bitNot;omega)
 have h3:(Builtin.bitNot (Builtin.bitNot (b:Nat))).toNat=b:=by unfold Builtin.bitNot;omega
 have h4:a &&& b<=a:=Nat.and_le_left;simp only[cB,kP];unfold Builtin.bitAnd;rw[h1,h2];simp only[h3,Int.toNat_natCast];congr 2;unfold iJ;omega
theorem aGq(i:Int):nZ .Invert (.int i)=some (.int (Builtin.bitNot i)):=rfl
theorem aFz{x:D}{k:Nat}(h:k<=1000):cB .Mult (.tuple [x]) (.int (k:Nat))=some (.tuple (List.replicate k x)):=by
 show(if 0<=((k:Nat):Int)/\((k:Nat):Int)<=1000 then some (PyData.tuple (List.replicate ((k:Nat):Int).toNat x)) else none)=_
 rw[if_pos ⟨by omega,by omega⟩,Int.toNat_natCast]
theorem aFL{α:Type}{t:Tg}{fe:FE}{env:aT}{n N:Nat}(enc:α->D)(I:Nat->aC->Prop)(Q:α->D->Prop):∀ (l:List α) (aF:List D) (j:Nat) (S:aC),aF.length+l.length<=sizeLine->j+l.length<=N->S.length=n->I j S ->
 (∀ a∈l,∃ e1,t.put (enc a) env=some e1/\∀ j S aF,j < N->S.length=n->I j S->∃ v S',fe e1 (S++[some aF])=some (.d v,S'++[some aF])/\S'.length=n/\I (j+1) S'/\Q a v) ->
 ∃ vs S',hJ t nO fe n env (l.map enc) (S++[some aF])=some (S'++[some (aF++vs)])/\S'.length=n/\I (j+l.length) S'/\vs.length=l.length/\∀ (i:Nat) (a:α),l[i]? = some a->∃ v,vs[i]? = some v/\Q a v
 | [],aF,j,S,_,_,hn,hI,_=>⟨[],S,by simp[hJ],hn,hI,rfl,by simp⟩
 | a::l,aF,j,S,hz,hN,hn,hI,h=>by
   obtain⟨e1,h1,h2⟩:=h a xAd;obtain⟨v,S1,h3,h4,h5,h6⟩:=h2 j S aF (by simp at hN;omega) hn hI
   have hlt:aF.length < sizeLine:=by simp at hz;omega
   have ea:eZ (S1++[some aF]) (.loc n) (.d v)=some (.d .none,S1++[some (aF++[v])]):=by
    unfold eZ;subst h4;simp only[List.getElem?_append_right (Nat.le_refl S1.length),Nat.sub_self,List.getElem?_cons_zero];rw[if_pos hlt,aBZ]
   obtain⟨vs,S2,h7,h8,h9,h10,h11⟩:=aFL enc I Q l (aF++[v]) (j+1) S1 (by simp at hz ⊢;omega) (by simp at hN;omega) h4 h5 λ x hx=>h x (xAg _ hx)
   refine⟨v::vs,S2,?_,h8,by rw[List.length_cons,show j+(l.length+1)=j+1+l.length by omega];exact h9,by simp[h10],λ i b hb=>?_⟩
   ·simp only[List.map_cons,hJ,h1,nO,oB,if_true,h3,ea];rw[h7];simp
   ·cases i with
    | zero=>simp at hb;subst hb;exact⟨v,rfl,h6⟩
    | succ i=>simpa using h11 i b (by simpa using hb)
theorem aFk{α:Type}{t:Tg}{fi:FL}{fe:FE}{env:aT}{S S1:aC}(enc:α->D)(I:Nat->aC->Prop)(Q:α->D->Prop)(l:List α)(hi:fi env S=some (l.map enc,S1))(hz:l.length<=sizeLine)(h0:I 0 S1)
 (h:∀ a∈l,∃ e1,t.put (enc a) (clr t.slots env)=some e1/\∀ j S aF,j < l.length->S.length=S1.length->I j S->∃ v S',fe e1 (S++[some aF])=some (.d v,S'++[some aF])/\S'.length=S1.length/\I (j+1) S'/\Q a v) :
 ∃ vs S',gX t fi nO fe env S=some (vs,S')/\S'.length=S1.length/\I l.length S'/\vs.length=l.length/\∀ (i:Nat) (a:α),l[i]? = some a->∃ v,vs[i]? = some v/\Q a v:=by
 obtain⟨vs,S',h1,h2,h3,h4,h5⟩:=aFL (fe:=fe) (n:=S1.length) (N:=l.length) enc I Q l [] 0 S1 (by simpa using hz) (by simp) rfl h0 h
 refine⟨vs,S',?_,h2,by simpa using h3,h4,h5⟩
 unfold gX;rw[hi];simp only[oB];rw[h1];simp[<- h2]
theorem aCj{α:Type}(a:α):List.take 1 [a]=[a]:=rfl
theorem aCh{α:Type}(a b:α):List.take 1 [a,b]=[a]:=rfl
theorem aCs{α:Type}(a b:α):List.take 2 [a,b]=[a,b]:=rfl
end EV
namespace EV
open PySem L2 BM
section
variable {C : Calls}{env : aT}{S S1 S2 S3 S4 : aC}{a b c e es r : E}
theorem aSw{i:Nat}{w:W}(h:env[i]? = some (some w)):ev C (.var i) env S=some (w,S):=by rw[aB3];exact aFV h
theorem aT3{i:Int}:ev C (.int i) env S=some (.d (.int i),S):=rfl
theorem aU1{i:Bool}:ev C (.bl i) env S=some (.d (.bool i),S):=rfl
theorem aTd:ev C .non env S=some (.d .none,S):=rfl
theorem aTh{i:Str}:ev C (.str i) env S=some (.d (.str i),S):=rfl
theorem aSN{op:Operator}{x y z:D}(ha:ev C a env S=some (.d x,S1))(hb:ev C b env S1=some (.d y,S2))(hz:cB op x y=some z):ev C (.bin op a b) env S=some (.d z,S2):=by
 simp only[aH1,pC,f2,ha,oB,hb,gP,dr,hz]
theorem aUW{op:UnaryOp}{x z:D}(ha:ev C a env S=some (.d x,S1))(hz:nZ op x=some z):ev C (.un op a) env S=some (.d z,S1):=by
 simp only[aIL,vZ,f1,ha,oB,fV,dr,hz]
theorem aIo{op:CmpOp}{x y z:D}(ha:ev C a env S=some (.d x,S1))(hb:ev C b env S1=some (.d y,S2))(hz:aX op x y=some z):ev C (.cmp op a b) env S=some (.d z,S2):=by
 simp only[aCm,mC,f2,ha,oB,hb,gP,dr,hz]
theorem aUY{wa:W}{x y z:D}(ha:ev C a env S=some (wa,S1))(hb:ev C b env S1=some (.d y,S2))(hx:dr S2 wa=some x)(hz:aO x y=some z):ev C (.ix a b) env S=some (.d z,S2):=by
 have h2:dr S2 (.d y)=some y:=rfl;simp only[aCz,nT,f2,ha,oB,hb,gP,hx,h2,hz]
theorem aS0{x:D}:dr S (.d x)=some x:=rfl
theorem aSc{n:Nat}{l:List D}(h:S[n]? = some (some l)):dr S (.loc n)=some (.list l):=by
 simp only[dr,h]
theorem aPv:mI S []=some []:=rfl
theorem aSD{w:W}{ws:List W}{x:D}{ds:List D}(h:dr S w=some x)(k:mI S ws=some ds):mI S (w::ws)=some (x::ds):=by
 simp only[mI,h,k,oB]
noncomputable def slD(d:D)(l h:Option Int):Option D:=match d with
 | .list xs=>some (.list (fJ xs l h))
 | .tuple xs=>some (.tuple (fJ xs l h))
 | _=>none
theorem aUK{lo hi:E}{wa:W}{l h:Option Int}{x z:D}(ha:ev C a env S=some (wa,S1))(hl:ov C lo env S1=some (l,S2))(hh:ov C hi env S2=some (h,S3))(hx:dr S3 wa=some x)(hz:slD x l h=some z):ev C (.sl a lo hi) env S=some (.d z,S3):=by
 simp only[aCD,jV,ha,oB,hl,hh,hx];cases x<;>first | (cases hz;done) | (cases hz;rfl)
theorem aUj:ov C .no env S=some (none,S):=rfl
theorem aRq{i:Int}(h:ev C a env S=some (.d (.int i),S1)):ov C (.cons a .nil) env S=some (some i,S1):=by
 simp only[aGw,jP,h,oB]
theorem aTx{o:E}{wo wa w:W}(ho:ev C o env S=some (wo,S1))(ha:ev C a env S1=some (wa,S2))(h:eZ S2 wo wa=some (w,S3)):ev C (.app o a) env S=some (w,S3):=by
 simp only[aG8,jS,f2,ho,oB,ha,h]
theorem aSe{p:Bool}{R:Option (W × aC)}(ht:tv C c env S=some (p,S1))(k:cond p (ev C a env S1) (ev C b env S1)=R):ev C (.ite c a b) env S=R:=by
 rw[<- k];cases p<;>simp only[aHq,uO,ht,oB,Bool.false_eq_true,if_false,if_true,cond_true,cond_false]
theorem aSa{p:Bool}{R:Option (W × aC)}(ha:ev C a env S=some (.d (.bool p),S1))(k:cond p (ev C b env S1) (some (.d (.bool false),S1))=R):ev C (.and a b) env S=R:=by
 rw[<- k];cases p<;>simp only[aHN,uE,ha,oB,cond_true,cond_false]
theorem aUp{p:Bool}{R:Option (W × aC)}(ha:ev C a env S=some (.d (.bool p),S1))(k:cond p (some (.d (.bool true),S1)) (ev C b env S1)=R):ev C (.or a b) env S=R:=by
 rw[<- k];cases p<;>simp only[aIp,vF,ha,oB,cond_true,cond_false]
theorem aSE{p:Bool}(ha:ev C a env S=some (.d (.bool p),S1)):ev C (.not a) env S=some (.d (.bool (!p)),S1):=by
 simp only[aHY,uC,ha,oB]
theorem aTa{ty:Ty}{wa:W}{x z:D}(ha:ev C a env S=some (wa,S1))(hx:dr S1 wa=some x)(hz:jR ty x=some z):ev C (.isi a ty) env S=some (.d z,S1):=by
 simp only[aHa,f1,ha,oB,fV,hx,hz]
theorem aRe{fs:List Fn}{d f:Nat}{ws:List W}{w:W}(ha:av (aD fs d) es env S=some (ws,S1))(hc:cl fs d f ws S1=some (w,S2)):ev (aD fs d) (.call f es) env S=some (w,S2):=by
 rw[aGo,aEQ,ha,oB];exact hc
theorem aTm{t:B}{ws:List W}{ds:List D}{z:D}(ha:av C es env S=some (ws,S1))(hd:mI S1 ws=some ds)(hz:t.g ds=some z):ev C (.blt t es) env S=some (.d z,S1):=by
 simp only[aHL,pF,ha,oB,hd,hz]
theorem aSn{ws:List W}{ds:List D}(ha:av C es env S=some (ws,S1))(hd:pB ws=some ds)(hl:ds.length<=1000):ev C (.tup es) env S=some (.d (.tuple ds),S1):=by
 simp only[aHk,uP,ha,oB,hd,szT hl,if_true]
theorem aUq{ds:List D}(h:lv C a env S=some (ds,S1)):ev C (.fz a) env S=some (.d (.list ds),S1):=by
 simp only[aIw,jY,h,oB]
theorem aRY{ws:List W}{ds:List D}(ha:av C es env S=some (ws,S1))(hd:pB ws=some ds)(hl:ds.length<=1000):lv C (.lst es) env S=some (ds,S1):=by
 simp only[aHD,uY,ha,oB,hd,szT hl,if_true]
theorem aTj{ds:List D}(h:lv C a env S=some (ds,S1)):ev C (.new a) env S=some (.loc S1.length,S1++[some ds]):=by
 simp only[aB9,gG,h,oB]
theorem aRG:av C .nil env S=some ([],S):=rfl
theorem aQF{w:W}{ws:List W}(ha:ev C a env S=some (w,S1))(hr:av C r env S1=some (ws,S2)):av C (.cons a r) env S=some (w::ws,S2):=by
 simp only[aGI,cN,ha,oB,hr]
theorem aRo{op:CmpOp}{x y:D}{p:Bool}(ha:ev C a env S=some (.d x,S1))(hb:ev C b env S1=some (.d y,S2))(hz:aX op x y=some (.bool p)):tv C (.cmp op a b) env S=some (p,S2):=by
 have:=aIo ha hb hz;rw[aCm] at this;simp only[aH8,cY,this,oB,dr,pG]
theorem aSP{x:D}{p:Bool}(ht:tv C e=cY (ev C e))(ha:ev C e env S=some (.d x,S1))(hz:pG x=some p):tv C e env S=some (p,S1):=by
 rw[ht];simp only[cY,ha,oB,dr,hz]
theorem aQ2{p:Bool}{R:Option (Bool × aC)}(ha:tv C a env S=some (p,S1))(hb:cond p (tv C b env S1) (some (false,S1))=R):tv C (.and a b) env S=R:=by
 rw[<- hb];cases p<;>simp only[aHs,uT,ha,oB,Bool.false_eq_true,if_false,if_true,cond_true,cond_false]
theorem aRU{p:Bool}{R:Option (Bool × aC)}(ha:tv C a env S=some (p,S1))(hb:cond p (some (true,S1)) (tv C b env S1)=R):tv C (.or a b) env S=R:=by
 rw[<- hb];cases p<;>simp only[aIR,vX,ha,oB,Bool.false_eq_true,if_false,if_true,cond_true,cond_false]
theorem aPM{p:Bool}(ha:tv C a env S=some (p,S1)):tv C (.not a) env S=some (!p,S1):=by
 simp only[aHf,vB,ha,oB]
theorem rD{α:Type}{x y z:α}(h:x=z):cond true x y=z:=h
theorem rB{α:Type}{x y z:α}(h:y=z):cond false x y=z:=h
variable {s t u : Sx}{aI : aT}{R : Option (Fl × aC)}{w : W}
theorem nA{fl:Fl}(h:xs C s env S=some (fl,S1))(k:some (fl,S1)=R):xs C s env S=R:=h.trans k
theorem qM{w:W}{R:Option (W × aC)}(h:ev C e env S=some (w,S1))(k:some (w,S1)=R):ev C e env S=R:=h.trans k
theorem qO{p:Bool}{R:Option (Bool × aC)}(h:tv C e env S=some (p,S1))(k:some (p,S1)=R):tv C e env S=R:=h.trans k
theorem qQ{l:List D}{R:Option (List D × aC)}(h:lv C e env S=some (l,S1))(k:some (l,S1)=R):lv C e env S=R:=h.trans k
theorem aQj:xs C .skip env S=some (.nx env,S):=rfl
noncomputable def rE(C:Calls)(t:Sx)(fl:Fl)(S:aC):Option (Fl × aC):=match fl with
 | .nx e=>xs C t e S
 | fl=>some (fl,S)
theorem aSg{fl:Fl}(h:xs C s env S=some (fl,S1))(k:rE C t fl S1=R):xs C (.seq s t) env S=R:=by
 rw[<- k];cases fl<;>simp only[iT,cX,h,oB,rE]
theorem aU7(k:xs C t aI S=R):rE C t (.nx aI) S=R:=k
theorem aUe(k:some (.rt w,S)=R):rE C t (.rt w) S=R:=k
theorem aUS(k:some (.bk aI,S)=R):rE C t (.bk aI) S=R:=k
theorem aU0(k:some (.ct aI,S)=R):rE C t (.ct aI) S=R:=k
theorem aRR{o i:E}{wo wi we:W}(he:ev C e env S=some (we,S1))(ho:ev C o env S1=some (wo,S2))(hi:ev C i env S2=some (wi,S3))(h:hB S3 wo wi we=some S4):xs C (.put o i e) env S=some (.nx env,S4):=by
 simp only[aHl,iG,he,oB,ho,hi,h]
theorem aTV{i:Nat}(h:ev C e env S=some (w,S1))(he:env.set i (some w)=aI):xs C (.set i e) env S=some (.nx aI,S1):=by
 rw[<- he];simp only[yM,jA,h,oB]
theorem aSX(h:ev C e env S=some (w,S1)):xs C (.ret e) env S=some (.rt w,S1):=by
 simp only[aCb,nN,h,oB]
theorem aQo(h:ev C e env S=some (w,S1)):xs C (.expr e) env S=some (.nx env,S1):=by
 simp only[aGV,uJ,h,oB]
theorem aRT{p:Bool}(ht:tv C a env S=some (p,S1))(k:cond p (xs C s env S1) (xs C t env S1)=R):xs C (.ifs a s t) env S=R:=by
 rw[<- k];cases p<;>simp only[qI,mE,ht,oB,Bool.false_eq_true,if_false,if_true,cond_true,cond_false]
theorem aPU{tg:Tg}(h:cJ tg (lv C a) (xs C s) env S=R):xs C (.loop tg a s) env S=R:=h
theorem aHX{body:Sx}{n:Nat}{ws:List W}{x:D}(he:ws.map some++List.replicate (n - ws.length) none=env)(k:xs C body env S=some (.rt (.d x),S1))(hS:S1.take S.length=S2):eX (xs C body) n ws S=some (.d x,S2):=by
 subst he;simp only[eX,k,oB,lA,hS]
end
end EV
namespace K72
open PySem L2 EV BM
local macro_rules
 | `(tactic| omega)=>`(tactic| first | (with_reducible assumption) | (with_reducible exact Nat.le_refl _) | (with_reducible exact Nat.le_add_right _ _) | (with_reducible exact xAi ‹_› (by decide)) | (with_reducible exact xAc ‹_› (by decide)) | (with_reducible exact xAj ‹_› (by decide)) | (with_reducible exact Nat.le_of_lt ‹_›) | (with_reducible exact xAi (Nat.le_of_lt ‹_›) (by decide)) | (with_reducible exact xAi (Nat.add_le_add_right ‹_› _) (by decide)) | (with_reducible exact Nat.add_le_add_left (by decide) _) | (with_reducible exact Nat.le_of_not_lt ‹_›) | (with_reducible exact Nat.lt_of_not_le ‹_›) | (with_reducible exact Nat.not_lt_of_le ‹_›) | (with_reducible exact Nat.not_le_of_lt ‹_›) | (with_reducible exact xAc ‹_› ‹_›) | (with_reducible exact xAi ‹_› ‹_›) | (with_reducible exact xAi ‹_› (Nat.add_le_add_left (by decide) _)) | (with_reducible exact xAi ‹_› (xAi (Nat.add_le_add_right ‹_› _) (by decide))) | omega (config:={}))
 | `(tactic| simp only[evs])=>`(tactic| simp only[evs,True])
 | `(tactic| simp only[evs,$ls,*])=>`(tactic| simp only[aB3,aQX,aTE,aRB,aPt,aH1,aIL,aCm,aHN,aIp,aHY,aHq,aHk,aCz,aPK,aPX,aCD,aGo,aHL,aHa,aOc,aG8,aPy,aIw,aB9,aHs,aIR,aHf,aPS,aH8,aSt,aOo,aQ8,aPR,aPr,aTU,aSx,aPT,aGI,aSy,aGw,aHD,aGG,aOu,kW,kE,kH,kF,aO3,kN,kQ,kG,aBY,iT,aGV,aCb,qI,yM,aGn,aN9,aHl,tE,cX,jA,zQ,mE,nN,aS4,uJ,oW,pC,vZ,mC,cY,f2,f1,gP,fV,dr,mI,fC,iY,lA,aEQ,cN,gO,uP,uY,jY,pF,nT,uT,vX,vB,uE,vF,uC,uO,pB,B.g,aTy,aR0,aSO,aTs,aTY,pG,Tg.put,mU,Tg.slots,List.map_cons,List.map_nil,List.length_cons,List.length_nil,Nat.reduceAdd,Nat.reduceSub,Nat.zero_add,List.replicate_succ,List.replicate_zero,List.cons_append,List.nil_append,List.getElem?_cons_zero,List.getElem?_cons_succ,List.set_cons_zero,List.set_cons_succ,oB,oM,List.take_length,Bool.not_false,Bool.not_true,Bool.false_eq_true,if_true,if_false,reduceIte,Nat.reduceLeDiff,Nat.reduceEqDiff,szT,List.take_nil,List.take_zero,aPN,oX,zK,nM,aCj,aCh,aCs,$ls,*])
 | `(tactic| simp only[gc,$as,*])=>`(tactic| first | (with_reducible assumption) | (focus (simp only[$as,*]<;>with_reducible rfl)))
 | `(tactic| simp only[gl,$as,*])=>`(tactic| first | (focus (simp only[$as,*]<;>rfl)) | (focus rfl))
 | `(tactic| simp only[go,$as,*])=>`(tactic| first | with_reducible exact aT3 | with_reducible exact aTh | with_reducible exact aU1 | with_reducible exact aTd | with_reducible exact aRG | with_reducible exact aQj | with_reducible exact aUj | with_reducible exact aS0 | with_reducible exact aPv | ((with_reducible apply aSw);rfl) | ((with_reducible apply aQF);simp only[go,$as,*];simp only[go,$as,*]) | ((with_reducible apply aSg);simp only[go,$as,*];first | ((with_reducible apply aU7);simp only[go,$as,*]) | ((with_reducible apply aUe);rfl) | ((with_reducible apply aUS);rfl) | ((with_reducible apply aU0);rfl)) | ((with_reducible apply aTV);simp only[go,$as,*];(focus (dsimp only[List.set_cons_zero,List.set_cons_succ]<;>rfl))) | ((with_reducible apply aSX);simp only[go,$as,*]) | ((with_reducible apply aQo);simp only[go,$as,*]) | ((with_reducible apply aRe);simp only[go,$as,*];simp only[gc,$as,*]) | ((with_reducible apply aSN);simp only[go,$as,*];simp only[go,$as,*];simp only[gl,$as,*]) | ((with_reducible apply aUY);simp only[go,$as,*];simp only[go,$as,*];simp only[go,$as,*];simp only[gl,$as,*]) | ((with_reducible apply aSc);simp only[gl,$as,*]) | ((with_reducible apply aRT);simp only[go,$as,*];first | ((with_reducible apply rD);simp only[go,$as,*]) | ((with_reducible apply rB);simp only[go,$as,*])) | ((with_reducible apply aRo);simp only[go,$as,*];simp only[go,$as,*];simp only[gl,$as,*]) | ((with_reducible apply aQ2);simp only[go,$as,*];first | ((with_reducible apply rD);simp only[go,$as,*]) | ((with_reducible apply rB);rfl)) | ((with_reducible apply aRU);simp only[go,$as,*];first | ((with_reducible apply rD);rfl) | ((with_reducible apply rB);simp only[go,$as,*])) | ((with_reducible apply aPM);simp only[go,$as,*]) | ((with_reducible apply aTm);simp only[go,$as,*];simp only[go,$as,*];simp only[gl,B.g,$as,*]) | ((with_reducible apply aSD);simp only[go,$as,*];simp only[go,$as,*]) | ((with_reducible apply aSn);simp only[go,$as,*];rfl;simp only[gl,List.length_cons,List.length_nil,Nat.reduceAdd,Nat.reduceLeDiff,$as,*]) | ((with_reducible apply aUq);simp only[go,$as,*]) | ((with_reducible apply aRY);simp only[go,$as,*];rfl;simp only[gl,List.length_cons,List.length_nil,Nat.reduceAdd,Nat.reduceLeDiff,$as,*]) | ((with_reducible apply aTj);simp only[go,$as,*]) | ((with_reducible apply aUK);simp only[go,$as,*];simp only[go,$as,*];simp only[go,$as,*];simp only[go,$as,*];simp only[gl,slD,$as,*]) | ((with_reducible apply aRq);simp only[go,$as,*]) | ((with_reducible apply aUW);simp only[go,$as,*];simp only[gl,$as,*]) | ((with_reducible apply aIo);simp only[go,$as,*];simp only[go,$as,*];simp only[gl,$as,*]) | ((with_reducible apply aTx);simp only[go,$as,*];simp only[go,$as,*];simp only[gl,$as,*]) | ((with_reducible apply aRR);simp only[go,$as,*];simp only[go,$as,*];simp only[go,$as,*];simp only[gl,$as,*]) | ((with_reducible apply aSe);simp only[go,$as,*];first | ((with_reducible apply rD);simp only[go,$as,*]) | ((with_reducible apply rB);simp only[go,$as,*])) | ((with_reducible apply aSa);simp only[go,$as,*];first | ((with_reducible apply rD);simp only[go,$as,*]) | ((with_reducible apply rB);rfl)) | ((with_reducible apply aUp);simp only[go,$as,*];first | ((with_reducible apply rD);rfl) | ((with_reducible apply rB);simp only[go,$as,*])) | ((with_reducible apply aSE);simp only[go,$as,*]) | ((with_reducible apply aTa);simp only[go,$as,*];simp only[go,$as,*];rfl) | ((with_reducible apply aPU);simp only[gc,$as,*]) | ((with_reducible apply aSP rfl);simp only[go,$as,*];rfl) | simp only[gc,$as,*] | (focus (simp only[evs,$as,*]<;>with_reducible rfl)))
local macro_rules
 | `(tactic| simp only[gR1,$d0:term,$as,*])=>`(tactic| first | (apply aHX rfl;(focus (dsimp only[$d0:term,List.map,List.length_cons,List.length_nil,Nat.reduceAdd,Nat.reduceSub,Nat.zero_add,List.replicate_succ,List.replicate_zero,List.cons_append,List.nil_append];apply nA;simp only[go,$as,*];(first | (focus rfl) | (focus (simp only[$as,*]<;>rfl)))));(first | exact List.take_length | (focus (simp only[aCj,aCh,aCs,$as,*]<;>rfl)) | (focus rfl))) | (simp only[evs,eX,$d0:term,$as,*]<;>rfl))
local macro_rules
 | `(tactic| simp only[gR2,$d0:term,$d1:term,$as,*])=>`(tactic| first | (apply aHX rfl;(focus (dsimp only[$d0:term,$d1:term,List.map,List.length_cons,List.length_nil,Nat.reduceAdd,Nat.reduceSub,Nat.zero_add,List.replicate_succ,List.replicate_zero,List.cons_append,List.nil_append];apply nA;simp only[go,$as,*];(first | (focus rfl) | (focus (simp only[$as,*]<;>rfl)))));(first | exact List.take_length | (focus (simp only[aCj,aCh,aCs,$as,*]<;>rfl)) | (focus rfl))) | (simp only[evs,eX,$d0:term,$d1:term,$as,*]<;>rfl))
local macro_rules
 | `(tactic| simp only[gS0,$as,*])=>`(tactic| first | ((first | apply nA | apply qM | apply qO | apply qQ);simp only[go,$as,*];(first | (focus rfl) | (focus (simp only[$as,*]<;>rfl)))) | (simp only[evs,$as,*]<;>rfl))
local macro_rules
 | `(tactic| simp only[gS1,$d0:term,$as,*])=>`(tactic| first | (dsimp only[$d0:term];(first | apply nA | apply qM | apply qO | apply qQ);simp only[go,$as,*];(first | (focus rfl) | (focus (simp only[$as,*]<;>rfl)))) | (simp only[evs,$d0:term,$as,*]<;>rfl))
local macro_rules
 | `(tactic| simp only[gS2,$d0:term,$d1:term,$as,*])=>`(tactic| first | (dsimp only[$d0:term,$d1:term];(first | apply nA | apply qM | apply qO | apply qQ);simp only[go,$as,*];(first | (focus rfl) | (focus (simp only[$as,*]<;>rfl)))) | (simp only[evs,$d0:term,$d1:term,$as,*]<;>rfl))
local macro_rules
 | `(tactic| simp only[gS3,$d0:term,$d1:term,$d2:term,$as,*])=>`(tactic| first | (dsimp only[$d0:term,$d1:term,$d2:term];(first | apply nA | apply qM | apply qO | apply qQ);simp only[go,$as,*];(first | (focus rfl) | (focus (simp only[$as,*]<;>rfl)))) | (simp only[evs,$d0:term,$d1:term,$d2:term,$as,*]<;>rfl))
local macro_rules
 | `(tactic| simp only[gS4,$d0:term,$d1:term,$d2:term,$d3:term,$as,*])=>`(tactic| first | (dsimp only[$d0:term,$d1:term,$d2:term,$d3:term];(first | apply nA | apply qM | apply qO | apply qQ);simp only[go,$as,*];(first | (focus rfl) | (focus (simp only[$as,*]<;>rfl)))) | (simp only[evs,$d0:term,$d1:term,$d2:term,$d3:term,$as,*]<;>rfl))
local macro_rules
 | `(tactic| simp only[gS5,$d0:term,$d1:term,$d2:term,$d3:term,$d4:term,$as,*])=>`(tactic| first | (dsimp only[$d0:term,$d1:term,$d2:term,$d3:term,$d4:term];(first | apply nA | apply qM | apply qO | apply qQ);simp only[go,$as,*];(first | (focus rfl) | (focus (simp only[$as,*]<;>rfl)))) | (simp only[evs,$d0:term,$d1:term,$d2:term,$d3:term,$d4:term,$as,*]<;>rfl))
noncomputable def top(i:Nat):Stmt:=PySem.Challenge.pw_fewbits_k72_least_stays.main.body.getD i (.Pass ⟨0,0,0,0⟩)
noncomputable def rT:List (Str × Tv):=[("in",.int 0),("num",.int 0),("not",.int 1),("and",.int 2),("or",.int 2),("xor",.int 2),("add",.int 2),("sub",.int 2),("mul",.int 2),("left",.int 1),("right",.int 1),("slide",.int 1),("cut",.int 1),("wide",.int 1),("sign",.int 1),("same",.int 2),("less",.int 2),("under",.int 2),("pick",.int 3)]
noncomputable def tJ:List Tv:=[.str "cut",.str "nought",.str "sign"]
noncomputable def sU:List Tv:=[.str "left",.str "right",.str "slide"]
noncomputable def aB2:List Tv:=[.str "add",.str "sub",.str "mul"]
noncomputable def sF:List Tv:=[.str "same",.str "less",.str "under"]
noncomputable def pS:List Tv:=[.int 0,.int 0,.int 1]
noncomputable def sR:List Tv:=[.int 1,.int 0,.int 1]
noncomputable def uM:List Tv:=[.int 0,.int 1,.int 1]
noncomputable def tbs:Tbs:=⟨[("OPERAND_COUNTS",rT)],[("WORDS",tJ),("SHIFTS",sU),("SUMS",aB2),("COMPARES",sF),("NOTHING",pS),("NOUGHT",sR),("ONE",uM)]⟩
abbrev J0:E:=.int 0
abbrev J1:E:=.int 1
abbrev J2:E:=.int 2
abbrev J3:E:=.int 3
abbrev J4:E:=.int 4
abbrev J5:E:=.int 5
abbrev J6:E:=.int 6
abbrev J7:E:=.int 7
abbrev J8:E:=.int 8
abbrev V0:E:=.var 0
abbrev V1:E:=.var 1
abbrev V2:E:=.var 2
abbrev V3:E:=.var 3
abbrev V4:E:=.var 4
abbrev V5:E:=.var 5
abbrev V6:E:=.var 6
abbrev V7:E:=.var 7
abbrev V8:E:=.var 8
abbrev V9:E:=.var 9
noncomputable def pY:Sx:=(.seq (.setT (.many [5,6]) V0)
 (.seq (.set 4 (.bin .RShift V2 V6))
 (.seq (.ifs (.cmp .Eq V4 J0) (.seq (.ret (.bl true))
 .skip) .skip)
 (.seq (.ifs (.cmp .Eq V5 (.str "nought")) (.seq (.ret (.cmp .Eq (.bin .BitAnd V4 (.un .Invert (.bin .RShift (.ix V1 J0) V6))) J0))
 .skip) .skip)
 (.seq (.ret (.and (.cmp .Eq V5 (.str "sign")) (.and (.cmp .Eq (.bin .BitAnd (.bin .RShift V2 (.bin .Sub V6 J1)) J1) J1) (.cmp .LtE (.bin .Add (.bin .Sub V3 V6) J1) (.ix V1 J2)))))
 .skip)))))
noncomputable def aDN:E:=(.comp V4 (.one 4) (.rng2 J1 (.bin .Add V3 J1)) (.call 0 (.cons (.tup (.cons V0 (.cons V4 .nil))) (.cons V1 (.cons V2 (.cons V3 .nil))))))
noncomputable def aD5:Sx:=(.seq (.ret (.blt .mn (.cons (.fz aDN) .nil)))
 .skip)
noncomputable def rX:E:=(.comp (.call 1 (.cons V5 (.cons V0 (.cons V1 (.cons V2 .nil))))) (.one 5) (.it (.con "WORDS" tJ)) .no)
noncomputable def pQ:Sx:=(.seq (.setC false 3 rX)
 (.seq (.set 4 (.blt .mn (.cons V3 .nil)))
 (.seq (.ret (.tup (.cons (.ix (.con "WORDS" tJ) (.idx V3 V4)) (.cons V4 .nil))))
 .skip)))
noncomputable def xH:Sx:=(.seq (.ifs (.cmp .Eq (.ix V0 J0) (.str "in")) (.seq (.ret (.tup (.cons (.str "cut") (.cons (.ix V0 J1) .nil))))
 .skip) .skip)
 (.seq (.ifs (.cmp .Eq V2 J0) (.seq (.ret .non)
 .skip) .skip)
 (.seq (.ret (.call 2 (.cons V1 (.cons V2 (.cons (.ix V0 J1) .nil)))))
 .skip)))
noncomputable def aDL:E:=(.comp (.call 3 (.cons V3 (.cons V4 (.cons V5 .nil)))) (.many [3,4,5]) (.zip3 (.ix V0 J0) V1 V2) .no)
noncomputable def aD2:Sx:=(.seq (.ret (.blt .tup (.cons (.fz aDL) .nil)))
 .skip)
noncomputable def aG9:Sx:=(.seq (.ret (.call 4 (.cons V0 (.cons V1 (.cons V2 .nil)))))
 .skip)
noncomputable def sK:Sx:=(.seq (.ifs (.cmp .Eq (.ix V0 J0) (.str "in")) (.seq (.ret (.cmp .Eq V3 (.tup (.cons (.str "cut") (.cons (.ix V0 J1) .nil)))))
 .skip) .skip)
 (.seq (.ifs (.or (.cmp .Eq V2 J0) (.cmp .Is V3 .non)) (.seq (.ret (.and (.cmp .Eq V2 J0) (.cmp .Is V3 .non)))
 .skip) .skip)
 (.seq (.ret (.call 0 (.cons V3 (.cons V1 (.cons V2 (.cons (.ix V0 J1) .nil))))))
 .skip)))
noncomputable def rV:E:=(.enm (.ix V0 J0))
noncomputable def mJ:Sx:=(.seq (.ifs (.not (.call 6 (.cons V5 (.cons (.ix V1 V4) (.cons (.ix V2 V4) (.cons (.ix V3 V4) .nil)))))) (.seq (.ret V4)
 .skip) .skip)
 .skip)
noncomputable def aAU:Sx:=(.seq (.loop (.many [4,5]) rV mJ)
 (.seq (.ret .non)
 .skip))
noncomputable def aIn:Sx:=(.seq (.ret (.bin .Sub (.bin .LShift J1 V0) J1))
 .skip)
noncomputable def aHG:Sx:=(.seq (.ret (.bits V0))
 .skip)
noncomputable def aHA:Sx:=(.seq (.ret (.call 8 (.cons (.call 9 (.cons V0 .nil)) .nil)))
 .skip)
noncomputable def aFp:Sx:=(.seq (.ret (.bin .Sub (.call 9 (.cons (.bin .BitXor V0 (.bin .Add V0 J1)) .nil)) J1))
 .skip)
noncomputable def aFy:Sx:=(.seq (.ret (.bin .Sub V1 (.call 9 (.cons (.bin .BitXor V0 (.call 8 (.cons V1 .nil))) .nil))))
 .skip)
noncomputable def aA8:Sx:=(.seq (.set 3 (.bin .LShift J1 (.bin .Sub V1 J1)))
 (.seq (.ifs (.cmp .Eq (.bin .BitAnd V0 V3) J0) (.seq (.ret V0)
 .skip) .skip)
 (.seq (.ret (.bin .BitOr V0 (.bin .BitXor (.call 8 (.cons V2 .nil)) (.call 8 (.cons V1 .nil)))))
 .skip)))
noncomputable def aEi:Sx:=(.seq (.set 3 (.bin .BitXor (.call 8 (.cons V2 .nil)) (.call 10 (.cons (.bin .BitXor V0 V1) .nil))))
 (.seq (.set 4 (.bin .BitAnd V3 V0))
 (.seq (.ret (.tup (.cons (.bin .BitXor V3 V4) (.cons V4 .nil))))
 .skip)))
noncomputable def aL2:Sx:=(.seq (.ret (.sl V0 (.cons J2 .nil) (.cons (.bin .Add J2 (.tab "OPERAND_COUNTS" rT (.ix V0 J0))) .nil)))
 .skip)
noncomputable def aDM:E:=(.comp (.ix V1 V2) (.one 2) (.it (.call 15 (.cons V0 .nil))) .no)
noncomputable def aD7:Sx:=(.seq (.ret (.blt .tup (.cons (.fz aDM) .nil)))
 .skip)
noncomputable def aEF:Sx:=(.seq (.set 2 (.ix V0 J0))
 (.seq (.ret (.ix (.ix V2 V1) J1))
 .skip))
noncomputable def aDU:E:=(.comp (.ix V1 J1) (.one 1) (.it (.ix V0 J0)) .no)
noncomputable def aEr:Sx:=(.seq (.ret (.blt .tup (.cons (.fz aDU) .nil)))
 .skip)
noncomputable def aDV:Sx:=(.seq (.ret (.tup (.cons (.bin .BitAnd V2 (.un .Invert (.bin .BitAnd V1 (.un .Invert V0)))) (.cons (.bin .BitAnd V2 (.un .Invert V0)) .nil))))
 .skip)
noncomputable def aE7:Sx:=(.seq (.set 3 (.call 9 (.cons V2 .nil)))
 (.seq (.set 4 (.blt .mn (.cons V3 (.cons (.call 11 (.cons V1 .nil)) .nil))))
 (.seq (.set 5 (.blt .mn (.cons (.bin .Sub V3 V4) (.cons (.call 11 (.cons V0 .nil)) .nil))))
 (.seq (.ret (.tup (.cons (.call 8 (.cons (.bin .Sub V3 V4) .nil)) (.cons (.call 8 (.cons (.bin .Sub V3 V5) .nil)) .nil))))
 .skip))))
noncomputable def aBT:Sx:=(.seq (.ifs (.cmp .Eq (.bin .RShift V0 V1) J0) (.seq (.ret V0)
 .skip) .skip)
 (.seq (.ret (.bin .BitOr (.bin .BitAnd V0 (.call 8 (.cons V1 .nil))) (.bin .LShift J1 (.bin .Sub V1 J1))))
 .skip))
noncomputable def wO:Sx:=(.seq (.ifs (.cmp .Eq V0 (.str "left")) (.seq (.ret (.bin .RShift V3 V2))
 .skip) .skip)
 (.seq (.ifs (.cmp .Eq V0 (.str "right")) (.seq (.ret (.bin .BitAnd (.bin .LShift V3 V2) (.call 8 (.cons V1 .nil))))
 .skip) .skip)
 (.seq (.ret (.call 21 (.cons (.bin .LShift V3 V2) (.cons V1 .nil))))
 .skip)))
noncomputable def wT:Sx:=(.seq (.ifs (.cmp .Eq (.ix V0 J1) J1) (.seq (.ret (.tup (.cons J1 (.cons V1 (.cons J0 .nil)))))
 .skip) .skip)
 (.seq (.ifs (.cmp .Eq (.ix V0 J0) J1) (.seq (.ret (.tup (.cons J1 (.cons J0 (.cons V1 .nil)))))
 .skip) .skip)
 (.seq (.ret (.tup (.cons J1 (.cons V1 (.cons V1 .nil)))))
 .skip)))
noncomputable def aDY:Sx:=(.seq (.set 4 (.ix V0 J0))
 (.seq (.ifs (.cmp .Eq V4 (.str "and")) (.seq (.ret (.call 19 (.cons (.ix (.ix V2 J0) J0) (.cons (.ix (.ix V2 J1) J0) (.cons V3 .nil)))))
 .skip) .skip)
 (.seq (.ifs (.cmp .Eq V4 (.str "or")) (.seq (.ret (.call 19 (.cons (.ix (.ix V2 J0) J1) (.cons (.ix (.ix V2 J1) J1) (.cons V3 .nil)))))
 .skip) .skip)
 (.seq (.ifs (.cmp .In V4 (.tup (.cons (.str "add") (.cons (.str "sub") .nil)))) (.seq (.ret (.tup (.cons (.call 10 (.cons V3 .nil)) (.cons (.call 10 (.cons V3 .nil)) .nil))))
 .skip) .skip)
 (.seq (.ifs (.cmp .Eq V4 (.str "mul")) (.seq (.ret (.call 20 (.cons (.ix (.ix V2 J0) J0) (.cons (.ix (.ix V2 J1) J0) (.cons V3 .nil)))))
 .skip) .skip)
 (.seq (.ifs (.cmp .In V4 (.con "SHIFTS" sU)) (.seq (.ret (.tup (.cons (.call 22 (.cons V4 (.cons (.ix V0 J1) (.cons (.ix V0 J3) (.cons V3 .nil))))) .nil)))
 .skip) .skip)
 (.seq (.ifs (.cmp .Eq V4 (.str "wide")) (.seq (.ret (.tup (.cons (.bin .BitAnd V3 (.call 8 (.cons (.ix V1 J0) .nil))) .nil)))
 .skip) .skip)
 (.seq (.ifs (.cmp .Eq V4 (.str "sign")) (.seq (.ret (.tup (.cons (.call 21 (.cons V3 (.cons (.ix V1 J0) .nil))) .nil)))
 .skip) .skip)
 (.seq (.ifs (.cmp .In V4 (.con "COMPARES" sF)) (.seq (.ret (.tup (.cons (.call 8 (.cons (.ix V1 J0) .nil)) (.cons (.call 8 (.cons (.ix V1 J1) .nil)) .nil))))
 .skip) .skip)
 (.seq (.ifs (.cmp .Eq V4 (.str "pick")) (.seq (.ret (.call 23 (.cons (.ix V2 J0) (.cons V3 .nil))))
 .skip) .skip)
 (.seq (.ret (.bin .Mult (.tup (.cons V3 .nil)) (.blt .len (.cons (.call 15 (.cons V0 .nil)) .nil))))
 .skip)))))))))))
noncomputable def aCF:Sx:=(.seq (.ifs (.cmp .Eq V3 J0) (.seq (.ret (.bin .Mult (.tup (.cons J0 .nil)) (.blt .len (.cons (.call 15 (.cons V0 .nil)) .nil))))
 .skip) .skip)
 (.seq (.ret (.call 24 (.cons V0 (.cons V1 (.cons V2 (.cons V3 .nil))))))
 .skip))
noncomputable def aDW:E:=(.comp (.call 17 (.cons V0 (.cons V7 .nil))) (.one 7) (.it (.call 15 (.cons V4 .nil))) .no)
noncomputable def aEB:Sx:=(.seq (.set 4 (.ix (.ix V0 J0) V2))
 (.seq (.set 5 (.blt .tup (.cons (.fz aDW) .nil)))
 (.seq (.set 6 (.call 25 (.cons V4 (.cons V5 (.cons (.call 16 (.cons V4 (.cons V1 .nil))) (.cons V3 .nil))))))
 (.seq (.ret (.fz (.lzip (.call 15 (.cons V4 .nil)) V6)))
 .skip))))
noncomputable def xG:E:=(.it (.call 26 (.cons V0 (.cons V1 (.cons V4 (.cons (.ix V2 V4) .nil))))))
noncomputable def xJ:Sx:=(.seq (.put V2 V7 (.bin .BitOr (.ix V2 V7) V8))
 .skip)
noncomputable def xL:E:=(.rng3 (.bin .Sub (.blt .len (.cons V5 .nil)) J1) (.un .USub J1) (.un .USub J1))
noncomputable def aBd:Sx:=(.seq (.loop (.many [7,8]) xG xJ)
 .skip)
noncomputable def aBc:E:=(.it V6)
noncomputable def aBh:Sx:=(.seq (.put V2 V3 (.call 8 (.cons (.call 17 (.cons V0 (.cons V3 .nil))) .nil)))
 .skip)
noncomputable def gB:Sx:=(.seq (.setT (.many [5,6]) V0)
 (.seq (.set 2 (.new (.lrep (.fz (.lst (.cons J0 .nil))) (.blt .len (.cons V5 .nil)))))
 (.seq (.loop (.one 3) aBc aBh)
 (.seq (.loop (.one 4) xL aBd)
 (.seq (.ret (.blt .tup (.cons V2 .nil)))
 .skip)))))
noncomputable def aE3:Sx:=(.seq (.ret (.bin .BitXor (.call 8 (.cons V1 .nil)) (.call 8 (.cons (.bin .Sub V1 V0) .nil))))
 .skip)
noncomputable def aD8:Sx:=(.seq (.ret (.bin .BitOr (.ix V0 J0) (.ix V0 J1)))
 .skip)
noncomputable def tG:Sx:=(.seq (.setT (.many [3,4,5]) V0)
 (.seq (.set 2 (.call 28 (.cons V5 (.cons V1 .nil))))
 (.seq (.ifs (.cmp .NotEq (.bin .BitAnd V3 V2) J0) (.seq (.set 3 (.bin .BitOr V3 V2))
 .skip) .skip)
 (.seq (.ifs (.cmp .NotEq (.bin .BitAnd V4 V2) J0) (.seq (.set 4 (.bin .BitOr V4 V2))
 .skip) .skip)
 (.seq (.ret (.tup (.cons V3 (.cons V4 (.cons (.blt .mx (.cons V5 (.cons (.call 12 (.cons V3 (.cons V1 .nil))) (.cons (.call 12 (.cons V4 (.cons V1 .nil))) .nil)))) .nil)))))
 .skip)))))
noncomputable def aHC:Sx:=(.seq (.ret (.ix V0 J1))
 .skip)
noncomputable def aFb:Sx:=(.seq (.ret (.bin .BitXor (.call 8 (.cons V1 .nil)) (.ix V0 J0)))
 .skip)
noncomputable def aMi:Sx:=(.seq (.ifs (.cmp .Eq V0 (.str "add")) (.seq (.ret (.bin .Add V1 V2))
 .skip) .skip)
 (.seq (.ifs (.cmp .Eq V0 (.str "sub")) (.seq (.ret (.bin .Sub V1 V2))
 .skip) .skip)
 (.seq (.ret (.bin .Mult V1 V2))
 .skip)))
noncomputable def aEv:Sx:=(.seq (.set 3 (.call 8 (.cons (.call 11 (.cons (.bin .BitAnd (.call 29 (.cons V1 .nil)) (.call 29 (.cons V2 .nil))) .nil)) .nil)))
 (.seq (.set 4 (.bin .BitAnd (.call 33 (.cons V0 (.cons (.call 31 (.cons V1 .nil)) (.cons (.call 31 (.cons V2 .nil)) .nil)))) V3))
 (.seq (.ret (.tup (.cons (.bin .BitXor V3 V4) (.cons V4 .nil))))
 .skip)))
noncomputable def wN:Sx:=(.seq (.ifs (.cmp .NotEq V0 (.str "mul")) (.seq (.ret J0)
 .skip) .skip)
 (.seq (.ret (.call 8 (.cons (.blt .mn (.cons V1 (.cons (.bin .Add (.call 11 (.cons (.ix V2 J0) .nil)) (.call 11 (.cons (.ix V3 J0) .nil))) .nil))) .nil)))
 .skip))
noncomputable def xR:Sx:=(.seq (.ifs (.cmp .Eq V0 (.str "sub")) (.seq (.ret (.tup (.cons (.bin .Sub (.call 31 (.cons V2 .nil)) (.call 32 (.cons V3 (.cons V1 .nil)))) (.cons (.bin .Sub (.call 32 (.cons V2 (.cons V1 .nil))) (.call 31 (.cons V3 .nil))) .nil))))
 .skip) .skip)
 (.seq (.set 4 (.call 33 (.cons V0 (.cons (.call 31 (.cons V2 .nil)) (.cons (.call 31 (.cons V3 .nil)) .nil)))))
 (.seq (.set 5 (.call 33 (.cons V0 (.cons (.call 32 (.cons V2 (.cons V1 .nil))) (.cons (.call 32 (.cons V3 (.cons V1 .nil))) .nil)))))
 (.seq (.ret (.tup (.cons V4 (.cons V5 .nil))))
 .skip))))
noncomputable def wV:Sx:=(.seq (.setT (.many [4,5]) (.call 36 (.cons V0 (.cons V1 (.cons V2 (.cons V3 .nil))))))
 (.seq (.ifs (.or (.cmp .Lt V4 J0) (.cmp .Gt V5 (.call 8 (.cons V1 .nil)))) (.seq (.ret (.tup (.cons J0 (.cons J0 .nil))))
 .skip) .skip)
 (.seq (.ret (.call 14 (.cons V4 (.cons V5 (.cons V1 .nil)))))
 .skip)))
noncomputable def wW:Sx:=(.seq (.ifs (.cmp .Eq V0 (.str "mul")) (.seq (.ret J1)
 .skip) .skip)
 (.seq (.ret (.blt .mx (.cons J1 (.cons (.bin .Sub (.blt .mn (.cons (.ix V1 J2) (.cons (.ix V2 J2) .nil))) J1) .nil))))
 .skip))
noncomputable def aEP:Sx:=(.seq (.set 4 (.call 34 (.cons V0 (.cons V2 (.cons V3 .nil)))))
 (.seq (.set 5 (.call 37 (.cons V0 (.cons V1 (.cons V2 (.cons V3 .nil))))))
 (.seq (.set 6 (.bin .BitOr (.bin .BitOr (.ix V4 J0) (.ix V5 J0)) (.call 35 (.cons V0 (.cons V1 (.cons V2 (.cons V3 .nil)))))))
 (.seq (.ret (.tup (.cons V6 (.cons (.bin .BitOr (.ix V4 J1) (.ix V5 J1)) (.cons (.call 38 (.cons V0 (.cons V2 (.cons V3 .nil)))) .nil)))))
 .skip))))
noncomputable def aES:Sx:=(.seq (.ret (.tup (.cons (.bin .BitXor (.call 8 (.cons V0 .nil)) V1) (.cons V1 (.cons J1 .nil)))))
 .skip)
noncomputable def aD1:Sx:=(.seq (.ret (.bin .BitOr (.bin .BitAnd (.ix V0 J0) (.ix V1 J1)) (.bin .BitAnd (.ix V0 J1) (.ix V1 J0))))
 .skip)
noncomputable def wI:Sx:=(.seq (.set 3 (.blt .mn (.cons (.ix V1 J2) (.cons (.ix V2 J2) .nil))))
 (.seq (.ifs (.cmp .Eq V0 (.str "and")) (.seq (.ret (.tup (.cons (.bin .BitOr (.ix V1 J0) (.ix V2 J0)) (.cons (.bin .BitAnd (.ix V1 J1) (.ix V2 J1)) (.cons V3 .nil)))))
 .skip) .skip)
 (.seq (.ifs (.cmp .Eq V0 (.str "or")) (.seq (.ret (.tup (.cons (.bin .BitAnd (.ix V1 J0) (.ix V2 J0)) (.cons (.bin .BitOr (.ix V1 J1) (.ix V2 J1)) (.cons V3 .nil)))))
 .skip) .skip)
 (.seq (.set 4 (.bin .BitOr (.bin .BitAnd (.ix V1 J0) (.ix V2 J0)) (.bin .BitAnd (.ix V1 J1) (.ix V2 J1))))
 (.seq (.ret (.tup (.cons V4 (.cons (.call 41 (.cons V1 (.cons V2 .nil))) (.cons V3 .nil)))))
 .skip)))))
noncomputable def aEx:Sx:=(.seq (.set 3 (.bin .BitOr (.bin .LShift (.ix V1 J0) V2) (.call 8 (.cons V2 .nil))))
 (.seq (.ret (.tup (.cons (.bin .BitAnd V3 (.call 8 (.cons V0 .nil))) (.cons (.bin .BitAnd (.bin .LShift (.ix V1 J1) V2) (.call 8 (.cons V0 .nil))) (.cons (.blt .mx (.cons J1 (.cons (.bin .Sub (.ix V1 J2) V2) .nil))) .nil)))))
 .skip))
noncomputable def aAS:Sx:=(.seq (.set 3 (.bin .BitOr (.bin .RShift (.ix V1 J0) V2) (.call 28 (.cons (.blt .mn (.cons V2 (.cons V0 .nil))) (.cons V0 .nil)))))
 (.seq (.ret (.tup (.cons V3 (.cons (.bin .RShift (.ix V1 J1) V2) (.cons (.ite (.cmp .Eq V2 J0) (.ix V1 J2) J1) .nil)))))
 .skip))
noncomputable def aEb:Sx:=(.seq (.set 3 (.bin .Add V0 V2))
 (.seq (.ret (.tup (.cons (.bin .RShift (.call 13 (.cons (.ix V1 J0) (.cons V0 (.cons V3 .nil)))) V2) (.cons (.bin .RShift (.call 13 (.cons (.ix V1 J1) (.cons V0 (.cons V3 .nil)))) V2) (.cons (.blt .mn (.cons V0 (.cons (.bin .Add (.ix V1 J2) V2) .nil))) .nil)))))
 .skip))
noncomputable def aKP:Sx:=(.seq (.ifs (.cmp .Eq V0 (.str "left")) (.seq (.ret (.call 43 (.cons V1 (.cons V2 (.cons V3 .nil)))))
 .skip) .skip)
 (.seq (.ifs (.cmp .Eq V0 (.str "right")) (.seq (.ret (.call 44 (.cons V1 (.cons V2 (.cons V3 .nil)))))
 .skip) .skip)
 (.seq (.ret (.call 45 (.cons V1 (.cons V2 (.cons V3 .nil)))))
 .skip)))
noncomputable def sJ:Sx:=(.seq (.setT (.many [4,5,6]) V3)
 (.seq (.ifs (.cmp .Eq V0 (.str "cut")) (.seq (.ret (.tup (.cons (.bin .BitAnd V4 (.call 8 (.cons V2 .nil))) (.cons (.bin .BitAnd V5 (.call 8 (.cons V2 .nil))) (.cons (.blt .mx (.cons J1 (.cons (.bin .Sub V6 (.bin .Sub V1 V2)) .nil))) .nil)))))
 .skip) .skip)
 (.seq (.ifs (.cmp .Eq V0 (.str "wide")) (.seq (.ret (.tup (.cons (.bin .BitOr V4 (.call 28 (.cons (.bin .Sub V2 V1) (.cons V2 .nil)))) (.cons V5 (.cons (.ite (.cmp .Eq V2 V1) V6 J1) .nil)))))
 .skip) .skip)
 (.seq (.ret (.tup (.cons (.call 13 (.cons V4 (.cons V1 (.cons V2 .nil)))) (.cons (.call 13 (.cons V5 (.cons V1 (.cons V2 .nil)))) (.cons (.bin .Add V6 (.bin .Sub V2 V1)) .nil)))))
 .skip))))
noncomputable def xA:Sx:=(.seq (.ifs (.cmp .NotEq (.call 41 (.cons V1 (.cons V2 .nil))) J0) (.seq (.ret (.con "NOUGHT" sR))
 .skip) .skip)
 (.seq (.ifs (.cmp .Eq (.bin .BitAnd (.call 29 (.cons V1 .nil)) (.call 29 (.cons V2 .nil))) (.call 8 (.cons V0 .nil))) (.seq (.ret (.con "ONE" uM))
 .skip) .skip)
 (.seq (.ret (.con "NOTHING" pS))
 .skip)))
noncomputable def wZ:Sx:=(.seq (.ifs (.cmp .Lt (.call 32 (.cons V1 (.cons V0 .nil))) (.call 31 (.cons V2 .nil))) (.seq (.ret (.con "ONE" uM))
 .skip) .skip)
 (.seq (.ifs (.cmp .GtE (.call 31 (.cons V1 .nil)) (.call 32 (.cons V2 (.cons V0 .nil)))) (.seq (.ret (.con "NOUGHT" sR))
 .skip) .skip)
 (.seq (.ret (.con "NOTHING" pS))
 .skip)))
noncomputable def aEo:Sx:=(.seq (.setT (.many [3,4,5]) V0)
 (.seq (.set 2 (.bin .BitAnd (.bin .BitXor V3 V4) (.call 28 (.cons J1 (.cons V1 .nil)))))
 (.seq (.ret (.tup (.cons (.bin .BitXor V3 V2) (.cons (.bin .BitXor V4 V2) (.cons V5 .nil)))))
 .skip)))
noncomputable def aKm:Sx:=(.seq (.ifs (.cmp .Eq V0 (.str "same")) (.seq (.ret (.call 48 (.cons V1 (.cons V2 (.cons V3 .nil)))))
 .skip) .skip)
 (.seq (.ifs (.cmp .Eq V0 (.str "less")) (.seq (.ret (.call 49 (.cons V1 (.cons V2 (.cons V3 .nil)))))
 .skip) .skip)
 (.seq (.ret (.call 49 (.cons V1 (.cons (.call 50 (.cons V2 (.cons V1 .nil))) (.cons (.call 50 (.cons V3 (.cons V1 .nil))) .nil)))))
 .skip)))
noncomputable def wU:Sx:=(.seq (.ifs (.cmp .Eq (.ix V0 J1) J1) (.seq (.ret V1)
 .skip) .skip)
 (.seq (.ifs (.cmp .Eq (.ix V0 J0) J1) (.seq (.ret V2)
 .skip) .skip)
 (.seq (.ret (.tup (.cons (.bin .BitAnd (.ix V1 J0) (.ix V2 J0)) (.cons (.bin .BitAnd (.ix V1 J1) (.ix V2 J1)) (.cons (.blt .mn (.cons (.ix V1 J2) (.cons (.ix V2 J2) .nil))) .nil)))))
 .skip)))
noncomputable def aK2:Sx:=(.seq (.set 3 (.ix V0 J0))
 (.seq (.set 4 (.ix V0 J1))
 (.seq (.ifs (.cmp .Eq V3 (.str "in")) (.seq (.ret (.con "NOTHING" pS))
 .skip) .skip)
 (.seq (.ifs (.cmp .Eq V3 (.str "num")) (.seq (.ret (.call 40 (.cons V4 (.cons (.ix V0 J2) .nil))))
 .skip) .skip)
 (.seq (.ifs (.cmp .Eq V3 (.str "not")) (.seq (.ret (.tup (.cons (.ix (.ix V2 J0) J1) (.cons (.ix (.ix V2 J0) J0) (.cons (.ix (.ix V2 J0) J2) .nil)))))
 .skip) .skip)
 (.seq (.ifs (.cmp .In V3 (.con "SUMS" aB2)) (.seq (.ret (.call 39 (.cons V3 (.cons V4 (.cons (.ix V2 J0) (.cons (.ix V2 J1) .nil))))))
 .skip) .skip)
 (.seq (.ifs (.cmp .In V3 (.con "SHIFTS" sU)) (.seq (.ret (.call 46 (.cons V3 (.cons V4 (.cons (.ix V2 J0) (.cons (.ix V0 J3) .nil))))))
 .skip) .skip)
 (.seq (.ifs (.cmp .In V3 (.con "COMPARES" sF)) (.seq (.ret (.call 51 (.cons V3 (.cons (.ix V1 J0) (.cons (.ix V2 J0) (.cons (.ix V2 J1) .nil))))))
 .skip) .skip)
 (.seq (.ifs (.cmp .Eq V3 (.str "pick")) (.seq (.ret (.call 52 (.cons (.ix V2 J0) (.cons (.ix V2 J1) (.cons (.ix V2 J2) .nil)))))
 .skip) .skip)
 (.seq (.ifs (.cmp .In V3 (.tup (.cons (.str "and") (.cons (.str "or") (.cons (.str "xor") .nil))))) (.seq (.ret (.call 42 (.cons V3 (.cons (.ix V2 J0) (.cons (.ix V2 J1) .nil)))))
 .skip) .skip)
 (.seq (.ret (.call 47 (.cons V3 (.cons (.ix V1 J0) (.cons V4 (.cons (.ix V2 J0) .nil))))))
 .skip)))))))))))
noncomputable def aIr:Sx:=(.seq (.ret (.call 30 (.cons (.call 53 (.cons V0 (.cons V1 (.cons V2 .nil)))) (.cons (.ix V0 J1) .nil))))
 .skip)
noncomputable def wK:E:=(.it (.ix V0 J0))
noncomputable def wJ:Sx:=(.seq (.expr (.app V2 (.call 54 (.cons V3 (.cons (.call 16 (.cons V3 (.cons V1 .nil))) (.cons (.call 16 (.cons V3 (.cons V2 .nil))) .nil))))))
 .skip)
noncomputable def aFj:Sx:=(.seq (.set 1 (.call 18 (.cons V0 .nil)))
 (.seq (.set 2 (.new (.lst .nil)))
 (.seq (.loop (.one 3) wK wJ)
 (.seq (.ret (.blt .tup (.cons V2 .nil)))
 .skip))))
noncomputable def iB:Sx:=(.seq (.setT (.many [3,4]) (.sl V0 .no (.cons J2 .nil)))
 (.seq (.put V0 J1 (.bin .Add V4 J1))
 (.seq (.ifs (.and (.cmp .Lt (.bin .Add (.bin .FloorDiv V4 (.int 12)) J1) (.blt .len (.cons V3 .nil))) (.cmp .Eq (.bin .Mod (.ix V3 J0) J2) J1)) (.seq (.ifs (.cmp .Eq (.bin .Mod V4 (.int 12)) J0) (.seq (.put V0 J2 (.ix V3 (.bin .Add (.bin .FloorDiv V4 (.int 12)) J1)))
 .skip) .skip)
 (.seq (.set 5 (.bin .Mod (.ix V0 J2) V1))
 (.seq (.put V0 J2 (.bin .FloorDiv (.ix V0 J2) V1))
 (.seq (.ret V5)
 .skip)))) .skip)
 (.seq (.ifs (.cmp .Lt V4 (.blt .len (.cons V3 .nil))) (.seq (.ret (.bin .Mod (.ix V3 V4) V1))
 .skip) .skip)
 (.seq (.set 2 (.bin .Add (.bin .Mult V4 (.int 7919)) J5))
 (.seq (.ifs (.cmp .Gt (.blt .len (.cons (.ix V0 J0) .nil)) J0) (.seq (.set 2 (.bin .Add V2 (.bin .Mult (.ix (.ix V0 J0) (.bin .Mod (.bin .Mult V4 J7) (.blt .len (.cons (.ix V0 J0) .nil)))) (.bin .Add (.int 48271) V4))))
 .skip) .skip)
 (.seq (.set 2 (.bin .Mod (.bin .Mult (.bin .Mod V2 (.int 2147483629)) (.bin .Add V4 J3)) (.int 2147483629)))
 (.seq (.set 2 (.bin .Mod (.bin .Mult V2 V2) (.int 2147483587)))
 (.seq (.ret (.bin .Mod (.bin .Mod (.bin .Mult V2 V2) (.int 1999999973)) V1))
 .skip)))))))))
noncomputable def aAN:Sx:=(.seq (.ifs (.cmp .Lt V1 (.int 31)) (.seq (.ret (.call 56 (.cons V0 (.cons (.bin .LShift J1 V1) .nil))))
 .skip) .skip)
 (.seq (.ret (.bin .Add (.call 56 (.cons V0 (.cons (.bin .LShift J1 (.int 30)) .nil))) (.bin .LShift (.call 56 (.cons V0 (.cons (.bin .LShift J1 (.bin .Sub V1 (.int 30))) .nil))) (.int 30))))
 .skip))
noncomputable def aEn:Sx:=(.seq (.ret (.ix (.fz (.lst (.cons J1 (.cons (.int 64) (.cons (.bin .Add J1 (.call 56 (.cons V0 (.cons J8 .nil)))) (.cons (.bin .Add J1 (.call 56 (.cons V0 (.cons (.int 64) .nil)))) .nil)))))) (.call 56 (.cons V0 (.cons J4 .nil)))))
 .skip)
noncomputable def aBj:Sx:=(.seq (.set 2 (.call 56 (.cons V0 (.cons J5 .nil))))
 (.seq (.set 3 (.fz (.lst (.cons J0 (.cons (.bin .Sub (.bin .LShift J1 V1) J1) (.cons (.bin .LShift J1 (.call 56 (.cons V0 (.cons V1 .nil)))) (.cons (.bin .Sub (.bin .LShift J1 (.call 56 (.cons V0 (.cons V1 .nil)))) J1) .nil)))))))
 (.seq (.ifs (.cmp .Lt V2 J4) (.seq (.ret (.ix V3 V2))
 .skip) .skip)
 (.seq (.ret (.call 57 (.cons V0 (.cons V1 .nil))))
 .skip))))
noncomputable def sM:Sx:=(.seq (.ifs (.cmp .Eq (.ix (.ix V1 V2) J1) V3) (.seq (.ret V2)
 .skip) .skip)
 (.seq (.set 4 (.ix (.fz (.lst (.cons (.str "wide") (.cons (.str "sign") .nil)))) (.call 56 (.cons V0 (.cons J2 .nil)))))
 (.seq (.ifs (.cmp .Gt (.ix (.ix V1 V2) J1) V3) (.seq (.set 4 (.str "cut"))
 .skip) .skip)
 (.seq (.expr (.app V1 (.tup (.cons V4 (.cons V3 (.cons V2 .nil))))))
 (.seq (.ret (.bin .Sub (.blt .len (.cons V1 .nil)) J1))
 .skip)))))
noncomputable def aJ8:E:=(.comp V4 (.one 4) (.rng1 (.blt .len (.cons V1 .nil))) (.cmp .Eq (.ix (.ix V1 V4) J1) V2))
noncomputable def sA:Sx:=(.seq (.setC false 3 aJ8)
 (.seq (.ifs (.and (.cmp .NotEq V3 (.fz (.lst .nil))) (.cmp .Gt (.call 56 (.cons V0 (.cons J4 .nil))) J0)) (.seq (.ret (.ix V3 (.bin .Sub (.bin .Sub (.blt .len (.cons V3 .nil)) J1) (.call 56 (.cons V0 (.cons (.blt .len (.cons V3 .nil)) .nil))))))
 .skip) .skip)
 (.seq (.ret (.call 60 (.cons V0 (.cons V1 (.cons (.call 56 (.cons V0 (.cons (.blt .len (.cons V1 .nil)) .nil))) (.cons V2 .nil))))))
 .skip)))
noncomputable def aAF:Sx:=(.seq (.set 3 (.call 56 (.cons V0 (.cons (.blt .len (.cons V1 .nil)) .nil))))
 (.seq (.set 4 (.ix (.ix V1 V3) J1))
 (.seq (.ifs (.cmp .Eq V2 (.str "cut")) (.seq (.ret (.tup (.cons (.str "cut") (.cons (.bin .Add J1 (.call 56 (.cons V0 (.cons V4 .nil)))) (.cons V3 .nil)))))
 .skip) .skip)
 (.seq (.ret (.tup (.cons V2 (.cons (.bin .Add V4 (.call 56 (.cons V0 (.cons (.bin .Sub (.int 65) V4) .nil)))) (.cons V3 .nil)))))
 .skip))))
noncomputable def aAT:Sx:=(.seq (.set 4 (.ix (.fz (.lst (.cons (.call 56 (.cons V0 (.cons V3 .nil))) (.cons (.call 56 (.cons V0 (.cons (.int 64) .nil))) .nil)))) (.bin .FloorDiv (.call 56 (.cons V0 (.cons J4 .nil))) J3)))
 (.seq (.ret (.tup (.cons V2 (.cons V3 (.cons (.call 61 (.cons V0 (.cons V1 (.cons V3 .nil)))) (.cons V4 .nil))))))
 .skip))
noncomputable def aA1:Sx:=(.seq (.set 4 (.call 61 (.cons V0 (.cons V1 (.cons V3 .nil)))))
 (.seq (.set 5 (.call 61 (.cons V0 (.cons V1 (.cons V3 .nil)))))
 (.seq (.ifs (.cmp .In V2 (.tup (.cons (.str "same") (.cons (.str "less") (.cons (.str "under") .nil))))) (.seq (.set 3 J1)
 .skip) .skip)
 (.seq (.ret (.tup (.cons V2 (.cons V3 (.cons V4 (.cons V5 .nil))))))
 .skip))))
noncomputable def jF:Sx:=(.seq (.set 2 (.fz (.lst (.cons (.str "in") (.cons (.str "num") (.cons (.str "num") (.cons (.str "not") (.cons (.str "and") (.cons (.str "or") (.cons (.str "xor") (.cons (.str "add") (.cons (.str "sub") (.cons (.str "mul") (.cons (.str "left") (.cons (.str "right") (.cons (.str "slide") (.cons (.str "cut") .nil)))))))))))))))))
 (.seq (.set 2 (.bin .Add V2 (.fz (.lst (.cons (.str "wide") (.cons (.str "sign") (.cons (.str "same") (.cons (.str "less") (.cons (.str "under") (.cons (.str "pick") .nil))))))))))
 (.seq (.set 3 (.ix V2 (.call 56 (.cons V0 (.cons (.int 20) .nil)))))
 (.seq (.set 4 (.ix (.ix V1 (.call 56 (.cons V0 (.cons (.blt .len (.cons V1 .nil)) .nil)))) J1))
 (.seq (.ifs (.cmp .Eq (.call 56 (.cons V0 (.cons J4 .nil))) J1) (.seq (.set 4 (.call 58 (.cons V0 .nil)))
 .skip) .skip)
 (.seq (.ifs (.cmp .Eq V3 (.str "in")) (.seq (.set 5 (.tup (.cons (.str "in") (.cons V4 .nil))))
 .skip) (.seq (.ifs (.cmp .Eq V3 (.str "num")) (.seq (.set 5 (.tup (.cons (.str "num") (.cons V4 (.cons (.call 59 (.cons V0 (.cons V4 .nil))) .nil)))))
 .skip) (.seq (.ifs (.cmp .Eq V3 (.str "not")) (.seq (.set 5 (.tup (.cons (.str "not") (.cons V4 (.cons (.call 61 (.cons V0 (.cons V1 (.cons V4 .nil)))) .nil)))))
 .skip) (.seq (.ifs (.cmp .In V3 (.tup (.cons (.str "left") (.cons (.str "right") (.cons (.str "slide") .nil))))) (.seq (.set 5 (.call 63 (.cons V0 (.cons V1 (.cons V3 (.cons V4 .nil))))))
 .skip) (.seq (.ifs (.cmp .In V3 (.tup (.cons (.str "cut") (.cons (.str "wide") (.cons (.str "sign") .nil))))) (.seq (.set 5 (.call 62 (.cons V0 (.cons V1 (.cons V3 .nil)))))
 .skip) (.seq (.ifs (.cmp .Eq V3 (.str "pick")) (.seq (.set 6 (.call 61 (.cons V0 (.cons V1 (.cons J1 .nil)))))
 (.seq (.set 5 (.bin .Add (.tup (.cons (.str "pick") (.cons V4 (.cons V6 .nil)))) (.sl (.call 64 (.cons V0 (.cons V1 (.cons V3 (.cons V4 .nil))))) (.cons J2 .nil) .no)))
 .skip)) (.seq (.set 5 (.call 64 (.cons V0 (.cons V1 (.cons V3 (.cons V4 .nil))))))
 .skip))
 .skip))
 .skip))
 .skip))
 .skip))
 .skip))
 (.seq (.expr (.app V1 V5))
 .skip)))))))
noncomputable def aAH:E:=(.rng1 (.ix (.fz (.lst (.cons (.call 56 (.cons V0 (.cons J3 .nil))) (.cons J7 .nil)))) (.blt .int (.cons (.cmp .Eq (.call 56 (.cons V0 (.cons J8 .nil))) J1) .nil))))
noncomputable def aAG:Sx:=(.seq (.expr (.app V6 (.call 56 (.cons V0 (.cons (.blt .len (.cons V3 .nil)) .nil)))))
 .skip)
noncomputable def wA:E:=(.rng1 V1)
noncomputable def wC:Sx:=(.seq (.ifs (.cmp .Lt (.blt .len (.cons V3 .nil)) (.int 37)) (.seq (.expr (.call 65 (.cons V0 (.cons V3 .nil))))
 .skip) .skip)
 .skip)
noncomputable def gK:Sx:=(.seq (.set 2 (.call 58 (.cons V0 .nil)))
 (.seq (.set 3 (.new (.lst (.cons (.tup (.cons (.str "in") (.cons V2 .nil))) .nil))))
 (.seq (.ifs (.cmp .Eq (.call 56 (.cons V0 (.cons J8 .nil))) J1) (.seq (.set 3 (.new (.lst (.cons (.tup (.cons (.str "num") (.cons V2 (.cons (.call 59 (.cons V0 (.cons V2 .nil))) .nil)))) .nil))))
 .skip) .skip)
 (.seq (.loop (.one 4) wA wC)
 (.seq (.set 5 (.fz (.lst (.cons (.bin .Sub (.blt .len (.cons V3 .nil)) J1) (.cons (.call 56 (.cons V0 (.cons (.blt .len (.cons V3 .nil)) .nil))) .nil)))))
 (.seq (.set 6 (.new (.lst (.cons (.ix V5 (.blt .int (.cons (.cmp .Eq (.call 56 (.cons V0 (.cons J4 .nil))) J1) .nil))) .nil))))
 (.seq (.loop (.one 4) aAH aAG)
 (.seq (.ret (.tup (.cons (.blt .tup (.cons V3 .nil)) (.cons (.blt .tup (.cons V6 .nil)) .nil))))
 .skip))))))))
noncomputable def aAM:Sx:=(.seq (.ifs (.cmp .Gt (.call 56 (.cons V0 (.cons J3 .nil))) J0) (.seq (.ret V1)
 .skip) .skip)
 (.seq (.set 3 (.bin .BitOr (.call 57 (.cons V0 (.cons V2 .nil))) (.call 57 (.cons V0 (.cons V2 .nil)))))
 (.seq (.ret (.tup (.cons (.bin .BitAnd (.ix V1 J0) V3) (.cons (.bin .BitAnd (.ix V1 J1) V3) (.cons (.bin .Add J1 (.call 56 (.cons V0 (.cons (.ix V1 J2) .nil)))) .nil)))))
 .skip)))
noncomputable def aDP:E:=(.comp (.ix (.ix (.ix V1 J0) V6) J1) (.one 6) (.it (.call 15 (.cons V3 .nil))) .no)
noncomputable def aDQ:E:=(.comp (.ix V2 V6) (.one 6) (.it (.call 15 (.cons V3 .nil))) .no)
noncomputable def wE:E:=(.it (.ix V1 J0))
noncomputable def wG:Sx:=(.seq (.setC false 4 aDQ)
 (.seq (.setC false 5 aDP)
 (.seq (.expr (.app V2 (.call 67 (.cons V0 (.cons (.call 54 (.cons V3 (.cons (.blt .tup (.cons V5 .nil)) (.cons (.blt .tup (.cons V4 .nil)) .nil)))) (.cons (.ix V3 J1) .nil))))))
 .skip)))
noncomputable def aAP:Sx:=(.seq (.ifs (.cmp .Eq (.call 56 (.cons V0 (.cons J2 .nil))) J1) (.seq (.ret (.call 55 (.cons V1 .nil)))
 .skip) .skip)
 (.seq (.set 2 (.new (.lst .nil)))
 (.seq (.loop (.one 3) wE wG)
 (.seq (.ret (.blt .tup (.cons V2 .nil)))
 .skip))))
noncomputable def aAJ:E:=(.comp (.ix V2 (.var 11)) (.one 11) (.it V7) .no)
noncomputable def rY:E:=(.zip V7 (.call 25 (.cons V6 (.cons V8 (.cons (.blt .tup (.cons (.fz aAJ) .nil)) (.cons (.ix V3 V4) .nil))))))
noncomputable def rZ:Sx:=(.seq (.put V3 V9 (.bin .BitOr (.ix V3 V9) (.var 10)))
 .skip)
noncomputable def aAI:E:=(.comp (.ix (.ix (.ix V1 J0) V9) J1) (.one 9) (.it V7) .no)
noncomputable def wD:E:=(.rng1 (.blt .len (.cons V3 .nil)))
noncomputable def fQ:Sx:=(.seq (.set 4 (.bin .Sub (.bin .Sub (.blt .len (.cons V3 .nil)) J1) V5))
 (.seq (.set 6 (.ix (.ix V1 J0) V4))
 (.seq (.ifs (.cmp .Eq (.call 56 (.cons V0 (.cons J8 .nil))) J1) (.seq (.put V3 V4 (.bin .BitOr (.ix V3 V4) (.bin .LShift J1 (.call 56 (.cons V0 (.cons (.ix V6 J1) .nil))))))
 .skip) .skip)
 (.seq (.set 7 (.call 15 (.cons V6 .nil)))
 (.seq (.set 8 (.blt .tup (.cons (.fz aAI) .nil)))
 (.seq (.loop (.many [9,10]) rY rZ)
 .skip))))))
noncomputable def wF:E:=(.it (.ix V1 J1))
noncomputable def wH:Sx:=(.seq (.put V3 V4 (.bin .Sub (.bin .LShift J1 (.ix (.ix (.ix V1 J0) V4) J1)) J1))
 .skip)
noncomputable def aDR:E:=(.comp J0 (.one 6) (.it (.ix V1 J0)) .no)
noncomputable def aAV:Sx:=(.seq (.ifs (.cmp .Eq (.call 56 (.cons V0 (.cons J2 .nil))) J1) (.seq (.ret (.call 27 (.cons V1 (.cons V2 .nil))))
 .skip) .skip)
 (.seq (.setC true 3 aDR)
 (.seq (.loop (.one 4) wF wH)
 (.seq (.loop (.one 5) wD fQ)
 (.seq (.ret (.blt .tup (.cons V3 .nil)))
 .skip)))))
noncomputable def oC:E:=(.it (.tup (.cons (.str "cut") (.cons (.str "nought") (.cons (.str "sign") .nil)))))
noncomputable def mK:Sx:=(.seq (.ifs (.call 0 (.cons (.tup (.cons V4 (.cons V3 .nil))) (.cons V1 (.cons V2 (.cons (.ix V0 J1) .nil))))) (.seq (.ret (.tup (.cons V4 (.cons V3 .nil))))
 .skip) .skip)
 .skip)
noncomputable def wM:E:=(.rng2 J1 (.bin .Add (.ix V0 J1) J1))
noncomputable def mL:Sx:=(.seq (.loop (.one 4) oC mK)
 .skip)
noncomputable def xF:Sx:=(.seq (.ifs (.cmp .Eq (.ix V0 J0) (.str "in")) (.seq (.ret (.tup (.cons (.str "cut") (.cons (.ix V0 J1) .nil))))
 .skip) .skip)
 (.seq (.ifs (.cmp .Eq V2 J0) (.seq (.ret .non)
 .skip) .skip)
 (.seq (.loop (.one 3) wM mL)
 (.seq (.ret .non)
 .skip))))
noncomputable def aLF:Sx:=(.seq (.ifs (.cmp .Eq (.ix V0 J0) (.str "in")) (.seq (.ret (.cmp .Eq V3 (.tup (.cons (.str "cut") (.cons (.ix V0 J1) .nil)))))
 .skip) .skip)
 (.seq (.ifs (.or (.cmp .Eq V2 J0) (.cmp .Is V3 .non)) (.seq (.ret (.and (.cmp .Eq V2 J0) (.cmp .Is V3 .non)))
 .skip) .skip)
 (.seq (.ret (.call 0 (.cons V3 (.cons V1 (.cons V2 (.cons (.ix V0 J1) .nil))))))
 .skip)))
noncomputable def oF:Sx:=(.seq (.set 3 (.call 56 (.cons V0 (.cons J6 .nil))))
 (.seq (.set 4 (.bin .Add J1 (.call 56 (.cons V0 (.cons (.ix V1 J1) .nil)))))
 (.seq (.ifs (.and (.cmp .IsNot V2 .non) (.cmp .Lt V3 J4)) (.seq (.set 4 (.blt .mn (.cons (.ix V1 J1) (.cons (.blt .mx (.cons J1 (.cons (.bin .Add (.ix V2 J1) (.ix (.fz (.lst (.cons (.un .USub J1) (.cons J0 (.cons J1 (.cons J0 .nil)))))) V3)) .nil))) .nil))))
 .skip) .skip)
 (.seq (.ifs (.cmp .Eq V3 J5) (.seq (.ret .non)
 .skip) .skip)
 (.seq (.set 5 (.ix (.fz (.lst (.cons (.str "cut") (.cons (.str "nought") (.cons (.str "sign") .nil))))) (.call 56 (.cons V0 (.cons J3 .nil)))))
 (.seq (.ifs (.and (.cmp .IsNot V2 .non) (.cmp .Lt V3 J1)) (.seq (.set 5 (.ix V2 J0))
 .skip) .skip)
 (.seq (.ret (.tup (.cons V5 (.cons V4 .nil))))
 .skip)))))))
noncomputable def xW:E:=(.rng1 J4)
noncomputable def oN:Sx:=(.seq (.set 7 (.call 56 (.cons V1 (.cons (.blt .len (.cons V3 .nil)) .nil))))
 (.seq (.set 9 (.call 72 (.cons V1 (.cons (.ix V3 V7) (.cons (.ix V6 V7) .nil)))))
 (.seq (.set 10 (.ix (.fz (.lst (.cons V7 (.cons .non .nil)))) (.blt .int (.cons (.call 71 (.cons (.ix V3 V7) (.cons (.ix V4 V7) (.cons (.ix V5 V7) (.cons V9 .nil))))) .nil))))
 (.seq (.set 11 (.bin .Add (.bin .Add (.sl V6 .no (.cons V7 .nil)) (.tup (.cons V9 .nil))) (.sl V6 (.cons (.bin .Add V7 J1) .nil) .no)))
 (.seq (.ifs (.cmp .NotEq (.call 7 (.cons V2 (.cons V4 (.cons V5 (.cons (.var 11) .nil))))) (.var 10)) (.seq (.ret (.bl false))
 .skip) .skip)
 (.seq (.set 12 (.bin .Add V7 (.call 56 (.cons V1 (.cons (.bin .Sub (.blt .len (.cons V3 .nil)) V7) .nil)))))
 (.seq (.ifs (.and (.cmp .IsNot (.var 10) .non) (.cmp .Gt (.var 12) V7)) (.seq (.set 11 (.bin .Add (.bin .Add (.sl (.var 11) .no (.cons (.var 12) .nil)) (.tup (.cons .non .nil))) (.sl (.var 11) (.cons (.bin .Add (.var 12) J1) .nil) .no)))
 (.seq (.ifs (.cmp .NotEq (.call 7 (.cons V2 (.cons V4 (.cons V5 (.cons (.var 11) .nil))))) V7) (.seq (.ret (.bl false))
 .skip) .skip)
 .skip)) .skip)
 .skip)))))))
noncomputable def yJ:E:=(.rng1 (.blt .len (.cons V3 .nil)))
noncomputable def tH:Sx:=(.seq (.ifs (.cmp .NotEq (.ix V6 V7) (.call 70 (.cons (.ix V3 V7) (.cons (.ix V4 V7) (.cons (.ix V5 V7) .nil))))) (.seq (.ret (.bl false))
 .skip) .skip)
 .skip)
noncomputable def iK:Sx:=(.seq (.set 1 (.new (.lst (.cons V0 (.cons J0 (.cons J0 .nil))))))
 (.seq (.set 2 (.call 66 (.cons V1 (.cons (.bin .Add J1 (.blt .mn (.cons (.blt .len (.cons V0 .nil)) (.cons (.int 24) .nil)))) .nil))))
 (.seq (.set 3 (.ix V2 J0))
 (.seq (.set 4 (.call 68 (.cons V1 (.cons V2 .nil))))
 (.seq (.set 5 (.call 69 (.cons V1 (.cons V2 (.cons V4 .nil)))))
 (.seq (.set 6 (.call 5 (.cons V2 (.cons V4 (.cons V5 .nil)))))
 (.seq (.ifs (.or (.not (.isi V6 .tup)) (.cmp .NotEq (.blt .len (.cons V6 .nil)) (.blt .len (.cons V3 .nil)))) (.seq (.ret (.bl false))
 .skip) .skip)
 (.seq (.loop (.one 7) yJ tH)
 (.seq (.ifs (.cmp .IsNot (.call 7 (.cons V2 (.cons V4 (.cons V5 (.cons V6 .nil))))) .non) (.seq (.ret (.bl false))
 .skip) .skip)
 (.seq (.loop (.one 8) xW oN)
 (.seq (.ret (.cmp .Eq (.call 5 (.cons V2 (.cons V4 (.cons V5 .nil)))) V6))
 .skip)))))))))))
noncomputable def fns:List Fn:=[
 {name:="lets_by",np:=4,N:=["stay", "fact", "mask", "width", "above", "word", "kept"],body:=pY,st:=top 2 },
 {name:="least_width",np:=4,N:=["word", "fact", "mask", "width", "kept"],body:=aD5,st:=top 3 },
 {name:="least_stay",np:=3,N:=["fact", "mask", "width", "widths", "kept", "word"],body:=pQ,st:=top 4 },
 {name:="row_stay",np:=3,N:=["row", "fact", "mask"],body:=xH,st:=top 5 },
 {name:="least_stays",np:=3,N:=["program", "facts", "masks", "row", "fact", "mask"],body:=aD2,st:=top 6 },
 {name:="stays",np:=3,N:=["program", "facts", "masks"],body:=aG9,st:=top 7 },
 {name:="is_right",np:=4,N:=["row", "fact", "mask", "stay"],body:=sK,st:=top 8 },
 {name:="wrong_stay",np:=4,N:=["program", "facts", "masks", "stays", "k", "row"],body:=aAU,st:=top 9 },
 {name:="full",np:=1,N:=["width"],body:=aIn,st:=top 11 },
 {name:="reach",np:=1,N:=["number"],body:=aHG,st:=top 12 },
 {name:="below",np:=1,N:=["number"],body:=aHA,st:=top 13 },
 {name:="low_run",np:=1,N:=["number"],body:=aFp,st:=top 14 },
 {name:="top_run",np:=2,N:=["number", "width"],body:=aFy,st:=top 15 },
 {name:="stretched",np:=3,N:=["number", "width", "wider", "top"],body:=aA8,st:=top 16 },
 {name:="shared_top",np:=3,N:=["least", "greatest", "width", "known", "ones"],body:=aEi,st:=top 17 },
 {name:="operands",np:=1,N:=["row"],body:=aL2,st:=top 23 },
 {name:="of_operands",np:=2,N:=["row", "values", "k"],body:=aD7,st:=top 24 },
 {name:="width_of",np:=2,N:=["program", "k", "rows"],body:=aEF,st:=top 25 },
 {name:="widths_of",np:=1,N:=["program", "row"],body:=aEr,st:=top 26 },
 {name:="settled_need",np:=3,N:=["first", "second", "mask"],body:=aDV,st:=top 28 },
 {name:="mul_need",np:=3,N:=["first", "second", "mask", "h", "u", "g"],body:=aE7,st:=top 29 },
 {name:="folded",np:=2,N:=["mask", "width"],body:=aBT,st:=top 30 },
 {name:="shift_need",np:=4,N:=["word", "width", "k", "mask"],body:=wO,st:=top 31 },
 {name:="pick_need",np:=2,N:=["choice", "mask"],body:=wT,st:=top 32 },
 {name:="asking_need",np:=4,N:=["row", "widths", "facts", "mask", "word"],body:=aDY,st:=top 33 },
 {name:="need",np:=4,N:=["row", "widths", "facts", "mask"],body:=aCF,st:=top 34 },
 {name:="row_needs",np:=4,N:=["program", "facts", "k", "mask", "row", "widths", "needs", "operand"],body:=aEB,st:=top 36 },
 {name:="asked",np:=2,N:=["program", "facts", "masks", "out", "k", "rows", "outs", "operand", "mask"],body:=gB,st:=top 37 },
 {name:="top_mask",np:=2,N:=["count", "width"],body:=aE3,st:=top 39 },
 {name:="known_bits",np:=1,N:=["fact"],body:=aD8,st:=top 40 },
 {name:="closed",np:=2,N:=["fact", "width", "top", "noughts", "ones", "alike"],body:=tG,st:=top 41 },
 {name:="least",np:=1,N:=["fact"],body:=aHC,st:=top 42 },
 {name:="greatest",np:=2,N:=["fact", "width"],body:=aFb,st:=top 43 },
 {name:="outcome",np:=3,N:=["word", "one", "other"],body:=aMi,st:=top 45 },
 {name:="low_masks",np:=3,N:=["word", "one", "other", "low", "ones"],body:=aEv,st:=top 46 },
 {name:="low_noughts",np:=4,N:=["word", "width", "one", "other"],body:=wN,st:=top 47 },
 {name:="bounds",np:=4,N:=["word", "width", "one", "other", "lowest", "highest"],body:=xR,st:=top 48 },
 {name:="top_masks",np:=4,N:=["word", "width", "one", "other", "lowest", "highest"],body:=wV,st:=top 49 },
 {name:="sum_alike",np:=3,N:=["word", "one", "other"],body:=wW,st:=top 50 },
 {name:="sum_fact",np:=4,N:=["word", "width", "one", "other", "low", "top", "noughts"],body:=aEP,st:=top 51 },
 {name:="num_fact",np:=2,N:=["width", "number"],body:=aES,st:=top 56 },
 {name:="unlike_bits",np:=2,N:=["one", "other"],body:=aD1,st:=top 57 },
 {name:="bitwise_fact",np:=3,N:=["word", "one", "other", "alike", "noughts"],body:=wI,st:=top 58 },
 {name:="left_fact",np:=3,N:=["width", "fact", "k", "noughts"],body:=aEx,st:=top 59 },
 {name:="right_fact",np:=3,N:=["width", "fact", "k", "noughts"],body:=aAS,st:=top 60 },
 {name:="slide_fact",np:=3,N:=["width", "fact", "k", "wider"],body:=aEb,st:=top 61 },
 {name:="shift_fact",np:=4,N:=["word", "width", "fact", "k"],body:=aKP,st:=top 62 },
 {name:="fit_fact",np:=4,N:=["word", "v", "w", "fact", "noughts", "ones", "alike"],body:=sJ,st:=top 63 },
 {name:="same_fact",np:=3,N:=["width", "one", "other"],body:=xA,st:=top 64 },
 {name:="less_fact",np:=3,N:=["width", "one", "other"],body:=wZ,st:=top 65 },
 {name:="top_turned",np:=2,N:=["fact", "width", "turning", "noughts", "ones", "alike"],body:=aEo,st:=top 66 },
 {name:="compare_fact",np:=4,N:=["word", "width", "one", "other"],body:=aKm,st:=top 67 },
 {name:="pick_fact",np:=3,N:=["choice", "one", "other"],body:=wU,st:=top 68 },
 {name:="open_fact",np:=3,N:=["row", "widths", "facts", "word", "width"],body:=aK2,st:=top 69 },
 {name:="rule",np:=3,N:=["row", "widths", "facts"],body:=aIr,st:=top 70 },
 {name:="facts_of",np:=1,N:=["program", "widths", "facts", "row"],body:=aFj,st:=top 71 },
 {name:="_law_draw",np:=2,N:=["_law_state", "_law_many", "_law_cell", "_law_script", "_law_k", "_law_digit"],body:=iB,st:=top 73 },
 {name:="_law_number",np:=2,N:=["_law_state", "_law_width_here"],body:=aAN,st:=top 74 },
 {name:="_law_width",np:=1,N:=["_law_state"],body:=aEn,st:=top 75 },
 {name:="_law_num",np:=2,N:=["_law_state", "_law_width_here", "_law_sort", "_law_some"],body:=aBj,st:=top 76 },
 {name:="_law_fit",np:=4,N:=["_law_state", "_law_rows", "_law_a", "_law_width_here", "_law_word"],body:=sM,st:=top 77 },
 {name:="_law_operand",np:=3,N:=["_law_state", "_law_rows", "_law_width_here", "_law_some", "_law_k"],body:=sA,st:=top 78 },
 {name:="_law_turned_width",np:=3,N:=["_law_state", "_law_rows", "_law_word", "_law_a", "_law_width_here"],body:=aAF,st:=top 79 },
 {name:="_law_shift",np:=4,N:=["_law_state", "_law_rows", "_law_word", "_law_width_here", "_law_k"],body:=aAT,st:=top 80 },
 {name:="_law_pair",np:=4,N:=["_law_state", "_law_rows", "_law_word", "_law_width_here", "_law_a", "_law_b"],body:=aA1,st:=top 81 },
 {name:="_law_row",np:=2,N:=["_law_state", "_law_rows", "_law_some", "_law_word", "_law_width_here", "_law_row_here", "_law_c"],body:=jF,st:=top 82 },
 {name:="_law_program",np:=2,N:=["_law_state", "_law_most", "_law_width_here", "_law_rows", "_law_k", "_law_last", "_law_outs"],body:=gK,st:=top 83 },
 {name:="_law_weaker",np:=3,N:=["_law_state", "_law_fact", "_law_width_here", "_law_left"],body:=aAM,st:=top 84 },
 {name:="_law_facts",np:=2,N:=["_law_state", "_law_program_here", "_law_facts_here", "_law_row_here", "_law_ahead", "_law_widths", "_law_k"],body:=aAP,st:=top 85 },
 {name:="_law_masks",np:=3,N:=["_law_state", "_law_program_here", "_law_facts_here", "_law_masks_here", "_law_k", "_law_back", "_law_row_here", "_law_ahead", "_law_widths", "_law_one", "_law_more", "_law_j"],body:=aAV,st:=top 86 },
 {name:="_law_due",np:=3,N:=["_law_row_here", "_law_fact", "_law_mask", "_law_kept", "_law_word"],body:=xF,st:=top 87 },
 {name:="_law_may",np:=4,N:=["_law_row_here", "_law_fact", "_law_mask", "_law_stay"],body:=aLF,st:=top 88 },
 {name:="_law_other",np:=3,N:=["_law_state", "_law_row_here", "_law_stay", "_law_sort", "_law_kept", "_law_word"],body:=oF,st:=top 89 },
 {name:="law",np:=1,N:=["_law_script", "_law_state", "_law_program_here", "_law_rows", "_law_facts_here", "_law_masks_here", "_law_found", "_law_k", "_law_turn", "_law_stay", "_law_due_here", "_law_some", "_law_last"],body:=iK,st:=top 90 }]
noncomputable def aG(ns:List Int)(k:Nat)(x:Int):List D:=[.list (ns.map PyData.int),.int (k:Nat),.int x]
theorem aOT{α:Type}{S:List α}{n:Nat}{a v:α}(h:S[n]? = some a):(S.set n v)[n]? = some v:=List.getElem?_set_self (gIm h).1
theorem aBg{α:Type}(S:List α)(n:Nat)(v:α):(S.set n v).take S.length=S.set n v:=by
 rw[List.take_of_length_le];rw[List.length_set];exact Nat.le_refl _
theorem aHV(a b c:D):aO (.list [a,b,c]) (.int 0)=some a:=rfl
theorem aHH(a b c:D):aO (.list [a,b,c]) (.int 2)=some c:=rfl
theorem aUg(a b c:D):fJ [a,b,c] none (some 2)=[a,b]:=rfl
theorem pZ{ns:List Int}{k:Nat}(h:k < ns.length):aO (.list (ns.map PyData.int)) (.int (k:Nat))=some (.int ns[k]):=mW (by rw[xAb,List.getElem?_eq_getElem h];rfl)
theorem tD(i:Int){w:Nat}(hw:0 < w):∃ r:Nat,i%(w:Int)=(r:Int)/\r < w:=by
 have h0:=Int.emod_nonneg i (show(w:Int)≠0 by omega)
 have h1:=Int.emod_lt_of_pos i (show(0:Int) < (w:Int) by omega)
 exact⟨(i%(w:Int)).toNat,by omega,by omega⟩
theorem aTg:jB 3 1=some 1:=rfl
theorem aIQ:jB 3 2=some 2:=rfl
theorem oI(ns:List Int):(ns.map PyData.int).length=ns.length:=List.length_map ..
noncomputable def pW:Sx:=match iB with
 | .seq _ (.seq _ (.seq _ r))=>r
 | _=>.skip
theorem pU(i p:Int)(hp:0 < p)(hp2:p<=2147483647) : -(2^64) < i%p/\i%p < 2^64:=by
 have h0:=Int.emod_nonneg i (show p≠0 by omega)
 have h1:=Int.emod_lt_of_pos i hp;exact⟨by omega,by omega⟩
theorem aLO(C:Calls)(n k m:Nat)(ns:List Int)(x:Int)(S:aC)(e2 e5:Option W)(hS:S[n]? = some (some (aG ns (k+1) x)))(hm:0 < m)(hk:k<=100000) :
 ∃ r:Nat,r < m/\xs C pW [some (.loc n),some (.d (.int (m:Nat))),e2,some (.d (.list (ns.map PyData.int))),some (.d (.int (k:Nat))),e5] S=some (.rt (.d (.int (r:Nat))),S):=by
 unfold aG at hS;have hm':(0:Int) < (m:Int):=by omega
 by_cases c1:k < ns.length
 ·have d1:decide ((k:Int) < ((ns.length:Nat):Int))=true:=dqT (by omega)
  obtain⟨r,er,hr⟩:=tD ns[k] hm;refine⟨r,hr,?_⟩;simp only[gS2,pW,iB,dR,dQ,oI,eV,d1,pZ c1,fR hm',er]
 ·have d1:decide ((k:Int) < ((ns.length:Nat):Int))=false:=dqF (by omega)
  have bK:∀ c:Int,∃ r:Nat,r < m/\c%2147483629*((k:Int)+3)%2147483629*(c%2147483629*((k:Int)+3)%2147483629)%2147483587*(c%2147483629*((k:Int)+3)%2147483629*(c%2147483629*((k:Int)+3)%2147483629)%2147483587)%1999999973%(m:Int)=(r:Int):=λ c=>by
   obtain⟨r,er,hr⟩:=tD (c%2147483629*((k:Int)+3)%2147483629*(c%2147483629*((k:Int)+3)%2147483629)%2147483587*(c%2147483629*((k:Int)+3)%2147483629*(c%2147483629*((k:Int)+3)%2147483629)%2147483587)%1999999973) hm;exact⟨r,hr,er⟩
  by_cases c2:0 < ns.length
  ·have d2:decide ((0:Int) < ((ns.length:Nat):Int))=true:=dqT (by omega)
   obtain⟨q,eq,hq⟩:=tD ((k:Int)*7) c2;obtain⟨r,hr,er⟩:=bK ((k:Int)*7919+5+ns[q]*(48271+(k:Int)));refine⟨r,hr,?_⟩;have s1:=pU ((k:Int)*7919+5+ns[q]*(48271+(k:Int))) 2147483629 (by decide) (by decide)
   have s2:=pU (((k:Int)*7919+5+ns[q]*(48271+(k:Int)))%2147483629*((k:Int)+3)) 2147483629 (by decide) (by decide)
   have s3:=pU (((k:Int)*7919+5+ns[q]*(48271+(k:Int)))%2147483629*((k:Int)+3)%2147483629*(((k:Int)*7919+5+ns[q]*(48271+(k:Int)))%2147483629*((k:Int)+3)%2147483629)) 2147483587 (by decide) (by decide)
   simp only[evs,pW,iB,dR,dQ,oI,eV,d1,yB (i:=(k:Int)) (j:=7919) (by decide) (by decide),cK,hS,aHV,jM,d2,yB (i:=(k:Int)) (j:=7) (by decide) (by decide),fR (i:=(k:Int)*7) (j:=((ns.length:Nat):Int)) (by omega),eq,pZ hq,
    yB (i:=ns[q]) (j:=48271+(k:Int)) (by omega) (by omega),fR (j:=2147483629) (by decide),oJ s1.1 s1.2,oJ s2.1 s2.2,fR (j:=2147483587) (by decide),oJ s3.1 s3.2,fR (j:=1999999973) (by decide),fR hm',er]
  ·have d2:decide ((0:Int) < ((ns.length:Nat):Int))=false:=dqF (by omega)
   obtain⟨r,hr,er⟩:=bK ((k:Int)*7919+5);refine⟨r,hr,?_⟩;have s1:=pU ((k:Int)*7919+5) 2147483629 (by decide) (by decide)
   have s2:=pU (((k:Int)*7919+5)%2147483629*((k:Int)+3)) 2147483629 (by decide) (by decide)
   have s3:=pU (((k:Int)*7919+5)%2147483629*((k:Int)+3)%2147483629*(((k:Int)*7919+5)%2147483629*((k:Int)+3)%2147483629)) 2147483587 (by decide) (by decide)
   have hq1:=yB (i:=(k:Int)) (j:=7919) (by decide) (by decide)
   have hq2:=λ i=>fR (i:=i) (j:=2147483629) (by decide)
   have hq3:=λ i=>fR (i:=i) (j:=2147483587) (by decide)
   have hq4:=λ i=>fR (i:=i) (j:=1999999973) (by decide)
   simp only[gS2,pW,iB,dR,dQ,oI,eV,d1,hq1,cK,hS,aHV,jM,d2,hq2,oJ s1.1 s1.2,oJ s2.1 s2.2,hq3,oJ s3.1 s3.2,hq4,fR hm',er]
noncomputable def oR:Sx:=match iB with
 | .seq _ (.seq _ (.seq i _))=>i
 | _=>.skip
noncomputable def aBW:Sx:=match iB with
 | .seq _ (.seq p _)=>p
 | _=>.skip
noncomputable def xU:Sx:=match iB with
 | .seq p _=>p
 | _=>.skip
theorem aN0(d n k m:Nat)(ns:List Int)(x:Int)(S:aC)(hS:S[n]? = some (some (aG ns k x)))(hm:0 < m)(hm2:m < 2^64)(hk:k<=100000) :
 ∃ (r:Nat) (x':Int),r < m/\cl fns (d+1) 56 [.loc n,.d (.int (m:Nat))] S=some (.d (.int (r:Nat)),S.set n (some (aG ns (k+1) x'))):=by
 have hm':(0:Int) < (m:Int):=by omega
 have hm2':(m:Int) < 2^64:=by exact_mod_cast hm2
 have e1:(k:Int) / 12+1=((k / 12+1:Nat):Int):=by omega
 have e2:(k:Int)+1=((k+1:Nat):Int):=by omega
 have gs:=λ v=>aOT (v:=v) hS
 have start:(cX (xs (aD fns d) xU) (xs (aD fns d) aBW)) [some (.loc n),some (.d (.int (m:Nat))),none,none,none,none] S=some (.nx [some (.loc n),some (.d (.int (m:Nat))),none,some (.d (.list (ns.map PyData.int))),some (.d (.int (k:Nat))),none],S.set n (some (aG ns (k+1) x))):=by
  unfold aG at hS ⊢;simp only[gS3,xU,aBW,iB,jV,jP,nW,hS,aUg,iG,hB,aTg,cK,e2]
 have fF:∀ (R:Option (Fl × aC)),cX (xs (aD fns d) oR) (xs (aD fns d) pW) [some (.loc n),some (.d (.int (m:Nat))),none,some (.d (.list (ns.map PyData.int))),some (.d (.int (k:Nat))),none] (S.set n (some (aG ns (k+1) x)))=R ->
  cl fns (d+1) 56 [.loc n,.d (.int (m:Nat))] S=R.bind λ p=>match p.1 with
   | .rt w=>lA S.length p.2 w
   | .nx _=>some (.d .none,p.2.take S.length)
   | _=>none:=λ R hR=>by
  rw[aQ rfl d _ S rfl,<- hR];simp only[cX] at start ⊢;cases q:xs (aD fns d) xU [some (.loc n),some (.d (.int (m:Nat))),none,none,none,none] S with
  | none=>rw[q] at start;cases start
  | some z =>
    obtain⟨fl,S1⟩:=z;rw[q] at start;simp only[oB] at start;cases fl with
    | nx e =>
      simp only at start;show((cX (xs (aD fns d) xU) (cX (xs (aD fns d) aBW) (cX (xs (aD fns d) oR) (xs (aD fns d) pW)))) [some (.loc n),some (.d (.int (m:Nat))),none,none,none,none] S).bind _=_;simp only[cX,q,oB,start]
      all_goals rfl
    | rt w=>cases start
    | bk e=>cases start
    | ct e=>cases start
 have hS2:(S.set n (some (aG ns (k+1) x)))[n]? = some (some (aG ns (k+1) x)):=gs _;have skip:xs (aD fns d) oR [some (.loc n),some (.d (.int (m:Nat))),none,some (.d (.list (ns.map PyData.int))),some (.d (.int (k:Nat))),none] (S.set n (some (aG ns (k+1) x)))=some (.nx [some (.loc n),some (.d (.int (m:Nat))),none,some (.d (.list (ns.map PyData.int))),some (.d (.int (k:Nat))),none],S.set n (some (aG ns (k+1) x))) ->
  ∃ (r:Nat) (x':Int),r < m/\cl fns (d+1) 56 [.loc n,.d (.int (m:Nat))] S=some (.d (.int (r:Nat)),S.set n (some (aG ns (k+1) x'))):=λ h=>by
  obtain⟨r,hr,ht⟩:=aLO (aD fns d) n k m ns x _ none none hS2 hm hk;refine⟨r,x,hr,?_⟩;rw[fF _ rfl];simp only[cX,h,oB,ht,lA,aBg]
 by_cases c1:k / 12+1 < ns.length
 ·have d1:decide (((k / 12+1:Nat):Int) < ((ns.length:Nat):Int))=true:=dqT (by omega)
  have i0:aO (.list (ns.map PyData.int)) (.int 0)=some (.int ns[0]):=pZ (k:=0) (by omega)
  rcases Bool.eq_false_or_eq_true (ns[0]%2==1) with c2 | c2
  ·rcases Bool.eq_false_or_eq_true ((k:Int)%12==0) with c3 | c3
   ·obtain⟨r,er,hr⟩:=tD ns[k / 12+1] hm;refine⟨r,ns[k / 12+1] / (m:Int),hr,?_⟩;rw[fF _ rfl];unfold aG at hS2 ⊢;have hq5:=mP (i:=(k:Int)) (j:=12) (by decide) (by decide)
    have hq6:=fR (i:=ns[0]) (j:=2) (by decide)
    have hq7:=fR (i:=(k:Int)) (j:=12) (by decide)
    simp only[gS2,oR,iB,iG,hB,aIQ,cK,hq5,e1,dR,dQ,oI,eV,d1,i0,hq6,bM,c2,hq7,c3,hS2,gs,List.set_set,pZ c1,aHH,fR hm',er,mP hm' hm2',aBg]
   ·obtain⟨r,er,hr⟩:=tD x hm;refine⟨r,x / (m:Int),hr,?_⟩;rw[fF _ rfl];unfold aG at hS2 ⊢;have hq8:=mP (i:=(k:Int)) (j:=12) (by decide) (by decide)
    have hq9:=fR (i:=ns[0]) (j:=2) (by decide)
    have hq10:=fR (i:=(k:Int)) (j:=12) (by decide)
    simp only[gS2,oR,iB,iG,hB,aIQ,cK,hq8,e1,dR,dQ,oI,eV,d1,i0,hq9,bM,c2,hq10,c3,hS2,gs,List.set_set,aHH,fR hm',er,mP hm' hm2',aBg]
  ·apply skip;have hq11:=mP (i:=(k:Int)) (j:=12) (by decide) (by decide)
   have hq12:=fR (i:=ns[0]) (j:=2) (by decide)
   simp only[gS2,oR,iB,cK,hq11,e1,dR,dQ,oI,eV,d1,i0,hq12,bM,c2]
 ·have d1:decide (((k / 12+1:Nat):Int) < ((ns.length:Nat):Int))=false:=dqF (by omega)
  apply skip;have hq13:=mP (i:=(k:Int)) (j:=12) (by decide) (by decide)
  simp only[gS2,oR,iB,cK,hq13,e1,dR,dQ,oI,eV,d1]
inductive Wd where
 | «in» | num | not | and | or | xor | add | sub | mul | left | right | slide | cut | wide | sign | same | less | under | pick
 deriving DecidableEq
noncomputable def Wd.s:Wd->Str
 | .in => "in" | .num => "num" | .not => "not" | .and => "and" | .or => "or" | .xor => "xor" | .add => "add" | .sub => "sub" | .mul => "mul" | .left => "left" | .right => "right" | .slide => "slide"
 | .cut => "cut" | .wide => "wide" | .sign => "sign" | .same => "same" | .less => "less" | .under => "under" | .pick => "pick"
structure Rw where
 wd:Wd
 w:Nat
 args:List Nat
noncomputable def nD(n:Nat):D:=.int (n:Nat)
noncomputable def Rw.d(r:Rw):D:=.tuple (.str r.wd.s::nD r.w::r.args.map nD)
def gE(ws:List Nat)(r:Rw):Prop:=1<=r.w/\r.w<=64/\match r.wd,r.args with
 | .in,[]=>True
 | .num,[n]=>n < 2^r.w
 | .not,[a]=>ws[a]? = some r.w
 | .and,[a,b] | .or,[a,b] | .xor,[a,b] | .add,[a,b] | .sub,[a,b] | .mul,[a,b]=>ws[a]? = some r.w/\ws[b]? = some r.w
 | .left,[a,k] | .right,[a,k] | .slide,[a,k]=>ws[a]? = some r.w/\k < 64
 | .cut,[a]=>∃ v,ws[a]? = some v/\r.w<=v
 | .wide,[a] | .sign,[a]=>∃ v,ws[a]? = some v/\v<=r.w
 | .same,[a,b] | .less,[a,b] | .under,[a,b]=>r.w=1/\∃ v,ws[a]? = some v/\ws[b]? = some v
 | .pick,[c,a,b]=>ws[c]? = some 1/\ws[a]? = some r.w/\ws[b]? = some r.w
 | _,_=>False
noncomputable def dL:List Nat->List Rw->Prop
 | _,[]=>True
 | ws,r::rs=>gE ws r/\dL (ws++[r.w]) rs
theorem aAY:∀ {rs:List Rw}{ws:List Nat}{r:Rw},dL ws rs->gE (ws++rs.map (·.w)) r->dL ws (rs++[r])
 | [],ws,r,_,h=>⟨by simpa using h,True.intro⟩
 | q::rs,ws,r,⟨h1,h2⟩,h=>⟨h1,aAY h2 (by simpa using h)⟩
noncomputable def aN(S:aC)(n p:Nat)(ns:List Int)(k:Nat)(x:Int)(rs:List Rw):aC:=(S.set n (some (aG ns k x))).set p (some (rs.map Rw.d))
section
variable {S : aC}{n p : Nat}{ns : List Int}{k : Nat}{x : Int}{rs : List Rw}
structure At0(S:aC)(n p:Nat):Prop where
 hn:n < S.length
 ne:n≠p
structure At(S:aC)(n p:Nat):Prop extends At0 S n p where
 hp:p < S.length
theorem At0.state(h:At0 S n p):(aN S n p ns k x rs)[n]? = some (some (aG ns k x)):=by
 unfold aN;rw[List.getElem?_set_ne h.ne.symm,List.getElem?_set_self h.hn]
theorem At.rows(h:At S n p):(aN S n p ns k x rs)[p]? = some (some (rs.map Rw.d)):=by
 unfold aN;rw[List.getElem?_set_self (by rw[List.length_set];exact h.hp)]
theorem At.rowsT(h:At S n p)(T:aC):(aN S n p ns k x rs++T)[p]? = some (some (rs.map Rw.d)):=by
 rw[xAn (by simp[aN];exact h.hp)]
 exact h.rows
theorem At0.len(h:At0 S n p):(aN S n p ns k x rs).length=S.length:=by simp[aN]
theorem At0.take(h:At0 S n p)(k':Nat)(x':Int)(aJ:List Rw):(aN S n p ns k' x' aJ).take (aN S n p ns k x rs).length=aN S n p ns k' x' aJ:=by
 rw[h.len,List.take_of_length_le];rw[h.len];exact Nat.le_refl _
theorem At0.put(h:At0 S n p)(k':Nat)(x':Int):(aN S n p ns k x rs).set n (some (aG ns k' x'))=aN S n p ns k' x' rs:=by
 unfold aN;rw[List.set_comm _ _ h.ne.symm,List.set_set]
theorem At.putR(h:At S n p)(r:Rw):(aN S n p ns k x rs).set p (some (rs.map Rw.d++[r.d]))=aN S n p ns k x (rs++[r]):=by
 unfold aN;rw[List.set_set,List.map_append];rfl
end
section
variable {S : aC}{n p : Nat}{ns : List Int}{k : Nat}{x : Int}{rs : List Rw}
theorem fG(h:At0 S n p)(d m:Nat)(hm:0 < m)(hm2:m < 2^64)(hk:k<=100000):∃ (r:Nat) (x':Int),r < m/\cl fns (d+1) 56 [.loc n,.d (.int (m:Nat))] (aN S n p ns k x rs)=some (.d (.int (r:Nat)),aN S n p ns (k+1) x' rs):=by
 obtain⟨r,x',hr,e⟩:=aN0 d n k m ns x _ h.state hm hm2 hk;exact⟨r,x',hr,by rw[e,h.put]⟩
theorem gU(h:At0 S n p)(d m:Nat){i:Int}(hi:i=(m:Nat))(hm:0 < m)(hm2:m < 2^64)(hk:k<=100000):∃ (r:Nat) (x':Int),r < m/\cl fns (d+1) 56 [.loc n,.d (.int i)] (aN S n p ns k x rs)=some (.d (.int (r:Nat)),aN S n p ns (k+1) x' rs):=by
 subst hi;exact fG h d m hm hm2 hk
theorem aF5{w:Nat}(h:w < 64):2^w < 2^64:=Nat.pow_lt_pow_right (by decide) h
theorem aEV(h:At0 S n p)(d w:Nat)(hw:w<=64)(hk:k<=99000):∃ (r k':Nat) (x':Int),r < 2^w/\k'<=k+2/\cl fns (d+2) 57 [.loc n,.d (.int (w:Nat))] (aN S n p ns k x rs)=some (.d (.int (r:Nat)),aN S n p ns k' x' rs):=by
 by_cases c:w < 31
 ·have d1:decide ((w:Int) < 31)=true:=dqT (by omega)
  obtain⟨r,x',hr,e⟩:=fG (ns:=ns) (k:=k) (x:=x) (rs:=rs) h d (2^w) (sV w) (aF5 (by omega)) (by omega)
  refine⟨r,k+1,x',hr,by omega,?_⟩
  rw[aQ rfl (d+1) _ _ rfl];have hq14:=gL (show w<=100000 by omega)
  simp only[gR1,aAN,eV,d1,hq14,e,h.take]
 ·have d1:decide ((w:Int) < 31)=false:=dqF (by omega)
  have e1:(w:Int) - 30=((w - 30:Nat):Int):=by omega
  have s30:=gL (w:=30) (by decide)
  rw[show((30:Nat):Int)=30 from rfl] at s30
  obtain⟨r,x',hr,e⟩:=fG (ns:=ns) (k:=k) (x:=x) (rs:=rs) h d (2^30) (by decide) (by decide) (by omega)
  obtain⟨q,x2,hq,e'⟩:=fG (ns:=ns) (k:=k+1) (x:=x') (rs:=rs) h d (2^(w - 30)) (sV _) (aF5 (by omega)) (by omega)
  have hb:r+q*2^30 < 2^w:=by
   have e3:(2:Nat)^w=2^(w - 30)*2^30:=by rw[<- Nat.pow_add,show w - 30+30=w by omega]
   have h3:(q+1)*2^30<=2^(w - 30)*2^30:=Nat.mul_le_mul_right _ hq;rw[Nat.add_mul] at h3;omega
  have sh:cB .LShift (.int (q:Nat)) (.int 30)=some (.int ((q*2^30:Nat):Int)):=tI (n:=q) (a:=w - 30) (k:=30) hq (by omega)
  have ad:(r:Int)+((q*2^30:Nat):Int)=((r+q*2^30:Nat):Int):=(Int.natCast_add _ _).symm;refine⟨r+q*2^30,k+2,x2,hb,by omega,?_⟩
  rw[aQ rfl (d+1) _ _ rfl];have hq15:=gL (show w - 30<=100000 by omega)
  simp only[gR1,aAN,eV,d1,s30,e,cG,e1,hq15,e',sh,cK,ad,h.take]
end
theorem at4(a b c e:D){r:Nat}(h1:r < 4):∃ x,(x=a\/x=b\/x=c\/x=e)/\aO (.list [a,b,c,e]) (.int (r:Nat))=some x:=by
 have:r=0\/r=1\/r=2\/r=3:=by omega
 rcases this with rfl | rfl | rfl | rfl
 ·exact⟨a,.inl rfl,rfl⟩
 ·exact⟨b,.inr (.inl rfl),rfl⟩
 ·exact⟨c,.inr (.inr (.inl rfl)),rfl⟩
 ·exact⟨e,.inr (.inr (.inr rfl)),rfl⟩
section
variable {S : aC}{n p : Nat}{ns : List Int}{k : Nat}{x : Int}{rs : List Rw}
theorem aFZ(h:At0 S n p)(d:Nat)(hk:k<=99000):∃ (w:Nat) (x':Int),1<=w/\w<=64/\cl fns (d+2) 58 [.loc n] (aN S n p ns k x rs)=some (.d (.int (w:Nat)),aN S n p ns (k+3) x' rs):=by
 obtain⟨r1,x1,h1,e1⟩:=gU (ns:=ns) (k:=k) (x:=x) (rs:=rs) h d 8 (i:=8) rfl (by decide) (by decide) (by omega)
 obtain⟨r2,x2,h2,e2⟩:=gU (ns:=ns) (k:=k+1) (x:=x1) (rs:=rs) h d 64 (i:=64) rfl (by decide) (by decide) (by omega)
 obtain⟨r3,x3,h3,e3⟩:=gU (ns:=ns) (k:=k+2) (x:=x2) (rs:=rs) h d 4 (i:=4) rfl (by decide) (by decide) (by omega)
 have a1:(1:Int)+(r1:Int)=((1+r1:Nat):Int):=by omega
 have a2:(1:Int)+(r2:Int)=((1+r2:Nat):Int):=by omega
 obtain⟨y,hy,e⟩:=at4 (.int 1) (.int 64) (.int ((1+r1:Nat):Int)) (.int ((1+r2:Nat):Int)) h3;obtain⟨w,bL,bW,rfl⟩:∃ w:Nat,1<=w/\w<=64/\y=.int (w:Nat):=by
  rcases hy with rfl | rfl | rfl | rfl
  ·exact⟨1,by decide,by decide,rfl⟩
  ·exact⟨64,by decide,by decide,rfl⟩
  ·exact⟨_,by omega,by omega,rfl⟩
  ·exact⟨_,by omega,by omega,rfl⟩
 refine⟨w,x3,bL,bW,?_⟩;rw[aQ rfl (d+1) _ _ rfl];simp only[gR1,aEn,e1,e2,e3,cK,a1,a2,e,h.take]
end
theorem aCE(a b:D):aO (.list [a,b]) (.int ((0:Nat):Int))=some a:=rfl
theorem aCw(a b:D):aO (.list [a,b]) (.int ((1:Nat):Int))=some b:=rfl
theorem aGc{t:Tg}{fb:FS}(P:Nat->aT->aC->Prop):∀ (ds:List D) (i:Nat) (env:aT) (S:aC),P i env S->(∀ j d env S,i<=j->j < i+ds.length->P j env S->∃ e1 aI S',t.put d env=some e1/\fb e1 S=some (.nx aI,S')/\P (j+1) aI S') ->
 ∃ aI S',fH t fb ds env S=some (.nx aI,S')/\P (i+ds.length) aI S'
 | [],i,env,S,h0,_=>⟨env,S,rfl,h0⟩
 | d::ds,i,env,S,h0,h=>by
   obtain⟨e1,aI,S',h1,h2,h3⟩:=h i d env S (Nat.le_refl _) (by simp) h0
   obtain⟨env2,S2,h4,h5⟩:=aGc P ds (i+1) aI S' h3 λ j d' env S a b=>h j d' env S (by omega) (by simp at b ⊢;omega)
   refine⟨env2,S2,by simp only[fH,h1,oB,h2];exact h4,?_⟩
   have:i+(d::ds).length=i+1+ds.length:=by simp;omega
   rw[this];exact h5
theorem aHU{t:Tg}{fi:FL}{fb:FS}{env:aT}{S S1:aC}{ds:List D}(P:Nat->aT->aC->Prop)(hi:fi env S=some (ds,S1))(h0:P 0 env S1)(h:∀ j d env S,j < ds.length->P j env S->∃ e1 aI S',t.put d env=some e1/\fb e1 S=some (.nx aI,S')/\P (j+1) aI S') :
 ∃ aI S',cJ t fi fb env S=some (.nx aI,S')/\P ds.length aI S':=by
 obtain⟨aI,S',h1,h2⟩:=aGc (t:=t) (fb:=fb) P ds 0 env S1 h0 λ j d env S _ b=>h j d env S (by omega)
 exact⟨aI,S',by unfold cJ;rw[hi,oB];exact h1,by simpa using h2⟩
theorem b2i(b:Bool):∃ q:Nat,q < 2/\(if b then (1:Int) else 0)=(q:Int):=by
 cases b
 ·exact⟨0,by decide,rfl⟩
 ·exact⟨1,by decide,rfl⟩
theorem at2(a b:D){r:Nat}(h1:r < 2):∃ x,(x=a\/x=b)/\aO (.list [a,b]) (.int (r:Nat))=some x:=by
 have:r=0\/r=1:=by omega
 rcases this with rfl | rfl
 ·exact⟨a,.inl rfl,rfl⟩
 ·exact⟨b,.inr rfl,rfl⟩
theorem dP{C:Calls}{a r:Sx}{env e1:aT}{S S1:aC}(h:xs C a env S=some (.nx e1,S1)):xs C (.seq a r) env S=xs C r e1 S1:=by simp only[iT,cX,h,oB]
theorem aJL(ns:List Int)(k:Nat)(x:Int):aN [none] 0 1 ns k x []=[some (aG ns k x)]:=rfl
theorem at1:At0 [none] 0 1:=⟨by decide,by decide⟩
noncomputable abbrev s0(ns:List Int)(k:Nat)(x:Int):aC:=[some (aG ns k x)]
section
variable {ns : List Int}{k : Nat}{x : Int}
theorem uH(d m:Nat)(hm:0 < m)(hm2:m < 2^64)(hk:k<=100000):∃ (r:Nat) (x':Int),r < m/\cl fns (d+1) 56 [.loc 0,.d (.int (m:Nat))] (s0 ns k x)=some (.d (.int (r:Nat)),s0 ns (k+1) x'):=by
 obtain⟨r,x',hr,e⟩:=fG (rs:=[]) (ns:=ns) (k:=k) (x:=x) at1 d m hm hm2 hk;exact⟨r,x',hr,e⟩
end
theorem aFN(a:Nat):cB .BitAnd (.int (a:Nat)) (.int 1)=some (.int ((a &&& 1:Nat):Int)):=dJ a 1
theorem cU(n:Nat):(((n:Nat):Int)==0)=(n==0):=by
 rw[Bool.eq_iff_iff,beq_iff_eq,beq_iff_eq];omega
section
variable {S : aC}{n p : Nat}{ns : List Int}{k : Nat}{x : Int}{rs : List Rw}
theorem aHm(h:At0 S n p)(d w:Nat)(hw:1<=w)(bW:w<=64)(hk:k<=98000):∃ (r k':Nat) (x':Int),r < 2^w/\k'<=k+5/\cl fns (d+3) 59 [.loc n,.d (.int (w:Nat))] (aN S n p ns k x rs)=some (.d (.int (r:Nat)),aN S n p ns k' x' rs):=by
 have hw3:w < 2^64:=by omega
 have hp:=sV w;obtain⟨r1,x1,h1,e1⟩:=gU (ns:=ns) (k:=k) (x:=x) (rs:=rs) h (d+1) 5 (i:=5) rfl (by decide) (by decide) (by omega)
 obtain⟨r2,x2,h2,e2⟩:=fG (ns:=ns) (k:=k+1) (x:=x1) (rs:=rs) h (d+1) w (by omega) hw3 (by omega)
 obtain⟨r3,x3,h3,e3⟩:=fG (ns:=ns) (k:=k+2) (x:=x2) (rs:=rs) h (d+1) w (by omega) hw3 (by omega)
 by_cases c:r1 < 4
 ·have d1:decide ((r1:Int) < 4)=true:=dqT (by omega)
  obtain⟨y,hy,e⟩:=at4 (.int 0) (.int ((2^w - 1:Nat):Int)) (.int ((2^r2:Nat):Int)) (.int ((2^r3 - 1:Nat):Int)) c;obtain⟨q,hq,rfl⟩:∃ q:Nat,q < 2^w/\y=.int (q:Nat):=by
   have l2:2^r2 < 2^w:=Nat.pow_lt_pow_right (by decide) h2
   have l3:2^r3 < 2^w:=Nat.pow_lt_pow_right (by decide) h3
   rcases hy with rfl | rfl | rfl | rfl
   ·exact⟨0,hp,rfl⟩
   ·exact⟨_,by omega,rfl⟩
   ·exact⟨_,l2,rfl⟩
   ·exact⟨_,by omega,rfl⟩
  refine⟨q,k+3,x3,hq,by omega,?_⟩
  rw[aQ rfl (d+2) _ _ rfl];have hq16:=gL (show w<=100000 by omega)
  have hq17:=gL (show r2<=100000 by omega)
  have hq18:=gL (show r3<=100000 by omega)
  simp only[gR1,aBj,e1,hq16,cG,xC,e2,hq17,e3,hq18,eV,d1,e,h.take]
 ·have d1:decide ((r1:Int) < 4)=false:=dqF (by omega)
  obtain⟨r,k',x',hr,hk',e⟩:=aEV (ns:=ns) (k:=k+3) (x:=x3) (rs:=rs) h d w bW (by omega)
  refine⟨r,k',x',hr,by omega,?_⟩
  rw[aQ rfl (d+2) _ _ rfl];have hq19:=gL (show w<=100000 by omega)
  have hq20:=gL (show r2<=100000 by omega)
  have hq21:=gL (show r3<=100000 by omega)
  simp only[gR1,aBj,e1,hq19,cG,xC,e2,hq20,e3,hq21,eV,d1,e,h.take]
end
theorem aHB:∀ L:List Nat,PyData.canLayAll0 (L.map nD)=true
 | []=>rfl
 | a::r=>by
   have ih:=aHB r;simp only[List.map_cons,PyData.canLayAll0,ih,Bool.and_true];rfl
theorem aFS:∀ L:List Nat,PyData.depthAll (L.map nD)=0
 | []=>rfl
 | a::r=>by
   have ih:=aFS r;simp only[List.map_cons,PyData.depthAll,ih];rfl
theorem aPW(L:List Nat):aX .NotEq (.list (L.map nD)) (.list [])=some (.bool (!L.isEmpty)):=by
 have h1:(PyData.list (L.map nD)).canLay0=true:=aHB L;have h2:(PyData.list (L.map nD)).depth<=60:=by
  show PyData.depthAll (L.map nD)+1<=60;rw[aFS];decide
 unfold aX nL;simp only[];rw[if_pos ⟨h1,rfl,h2⟩];cases L<;>rfl
theorem dZ(r:Rw):aO r.d (.int 1)=some (.int (r.w:Nat)):=eG (xs:=.str r.wd.s::nD r.w::r.args.map nD) (k:=1) rfl
noncomputable def wdE(a b:Wd):Bool:=match aX .Eq (.str a.s) (.str b.s) with
 | some (.bool c)=>c==decide (a=b)
 | _=>false
theorem aQH(a b:Wd):wdE a b=true:=by
 have h:∀ i:Fin 19,∀ j:Fin 19,wdE (Wd.ofNat i) (Wd.ofNat j)=true:=by decide +kernel
 have e:∀ a:Wd,∃ i:Fin 19,Wd.ofNat i=a:=λ a=>⟨⟨a.ctorIdx,by cases a<;>decide⟩,Wd.ofNat_ctorIdx a⟩
 obtain⟨i,rfl⟩:=e a;obtain⟨j,rfl⟩:=e b;exact h i j
theorem bZ(a b:Wd):aX .Eq (.str a.s) (.str b.s)=some (.bool (decide (a=b))):=by
 have h:=aQH a b;unfold wdE at h
 split at h
 ·rename_i c e;rw[e,eq_of_beq h]
 ·cases h
theorem aBz(a:Wd):aX .In (.str a.s) (.tuple [.str "left",.str "right",.str "slide"])=some (.bool (decide (a=.left\/a=.right\/a=.slide))):=by cases a<;>rfl
theorem aQP(a:Wd):aX .In (.str a.s) (.tuple [.str "cut",.str "wide",.str "sign"])=some (.bool (decide (a=.cut\/a=.wide\/a=.sign))):=by cases a<;>rfl
theorem yF(a:Wd):aX .In (.str a.s) (.tuple [.str "same",.str "less",.str "under"])=some (.bool (decide (a=.same\/a=.less\/a=.under))):=by cases a<;>rfl
theorem bP{C:Calls}{c:E}{t cS:Sx}{env:aT}{S S1:aC}{r:Option (Fl × aC)}(h:tv C c env S=some (false,S1))(k:xs C cS env S1=r):xs C (.seq (.ifs c t .skip) cS) env S=r:=by
 rw[<- k];simp only[iT,qI,aBY,cX,mE,oW,h,oB,Bool.false_eq_true,if_false]
theorem dO{C:Calls}{c:E}{t e cS:Sx}{env:aT}{S S1 S2:aC}{w:W}(h:tv C c env S=some (true,S1))(k:xs C t env S1=some (.rt w,S2)):xs C (.seq (.ifs c t e) cS) env S=some (.rt w,S2):=by
 simp only[iT,qI,cX,mE,h,oB,if_true,k]
theorem cR{C:Calls}{e:E}{cS:Sx}{env:aT}{S S1:aC}{w:W}(h:ev C e env S=some (w,S1)):xs C (.seq (.ret e) cS) env S=some (.rt w,S1):=by
 simp only[iT,aCb,cX,nN,h,oB]
theorem eH{C:Calls}{i:Nat}{e:E}{cS:Sx}{env aI:aT}{S S1:aC}{w:W}{r:Option (Fl × aC)}(h:ev C e env S=some (w,S1))(he:env.set i (some w)=aI)(k:xs C cS aI S1=r):xs C (.seq (.set i e) cS) env S=r:=by
 subst he;rw[<- k];simp only[iT,yM,cX,jA,h,oB]
theorem eN{fs:List Fn}{f:Nat}{F:Fn}(h:fs[f]? = some F)(d:Nat){ws:List W}{env:aT}{S S1:aC}{x:D}(hw:ws.length=F.np)(he:ws.map some++List.replicate (F.N.length - ws.length) none=env)(hS:S1.take S.length=S1)(k:xs (aD fs d) F.body env S=some (.rt (.d x),S1)):cl fs (d+1) f ws S=some (.d x,S1):=by
 subst he;rw[aQ h d ws S hw];simp only[eX,k,oB,lA,hS]
theorem dM{C:Calls}{i:Nat}{x:Str}{env:aT}{S:aC}{a:D}{b:Bool}(h:env[i]? = some (some (.d a)))(hc:aX .Eq a (.str x)=some (.bool b)):tv C (.cmp .Eq (.var i) (.str x)) env S=some (b,S):=by
 simp only[gS0,h,hc]
theorem jO{C:Calls}{i:Nat}{e:E}{env:aT}{S:aC}{a t:D}{b:Bool}(h:env[i]? = some (some (.d a)))(he:ev C e env S=some (.d t,S))(hc:aX .In a t=some (.bool b)):tv C (.cmp .In (.var i) e) env S=some (b,S):=by
 simp only[gS0,h,he,hc]
noncomputable def bC:Sx->Sx
 | .seq _ b=>b
 | x=>x
noncomputable def bX:Sx->Sx
 | .seq a _=>a
 | x=>x
theorem qL{C:Calls}{c:E}{a b:Sx}{env:aT}{S S1:aC}{r:Option (Fl × aC)}(h:tv C c env S=some (true,S1))(k:xs C a env S1=r):xs C (.ifs c a b) env S=r:=by
 rw[<- k];simp only[qI,mE,h,oB,if_true]
theorem aIv{C:Calls}{c:E}{a b:Sx}{env:aT}{S S1:aC}{r:Option (Fl × aC)}(h:tv C c env S=some (false,S1))(k:xs C b env S1=r):xs C (.ifs c a b) env S=r:=by
 rw[<- k];simp only[qI,mE,h,oB,Bool.false_eq_true,if_false]
theorem aR1{C:Calls}{a b:Sx}{env e1:aT}{S S1:aC}{r:Option (Fl × aC)}(h:xs C a env S=some (.nx e1,S1))(k:xs C b e1 S1=r):xs C (.seq a b) env S=r:=by
 rw[dP h];exact k
theorem aRr{C:Calls}{a:Sx}{env e1:aT}{S S1:aC}(h:xs C a env S=some (.nx e1,S1)):xs C (.seq a .skip) env S=some (.nx e1,S1):=aR1 h rfl
theorem oQ{C:Calls}{i:Nat}{e:E}{env:aT}{S S1:aC}{w:W}(h:ev C e env S=some (w,S1)):xs C (.seq (.set i e) .skip) env S=some (.nx (env.set i (some w)),S1):=eH h rfl rfl
theorem vC{C:Calls}{s:Sx}{c:E}{a b:Sx}{env r:aT}{S S1:aC}(hs:s=.ifs c a (.seq b .skip))(h:tv C c env S=some (false,S))(k:xs C b env S=some (.nx r,S1)):xs C s env S=some (.nx r,S1):=by
 rw[hs];exact aIv h (aRr k)
namespace GP
section
variable {S : aC}{n p : Nat}{ns : List Int}{k : Nat}{x : Int}{rs : List Rw}
theorem yZ{a:Nat}{r:Rw}(h:rs[a]? = some r):aO (.list (rs.map Rw.d)) (.int (a:Nat))=some r.d:=mW (by rw[xAb,h];rfl)
theorem rows_len(rs:List Rw):(rs.map Rw.d).length=rs.length:=List.length_map ..
theorem aG5(h:At S n p)(hl:rs.length<=1000)(r:Rw):eZ (aN S n p ns k x rs) (.loc p) (.d r.d)=some (.d .none,aN S n p ns k x (rs++[r])):=by
 unfold eZ;simp only[h.rows];rw[if_pos (by rw[rows_len,sizeLine_eq];omega),h.putR]
structure Opd(rs aJ:List Rw)(a w:Nat):Prop where
 ext:∃ t,aJ=rs++t/\t.length<=1
 ok:dL [] aJ
 wd:(aJ.map (·.w))[a]? = some w
theorem nJ{a:Nat}{r:Rw}(h:rs[a]? = some r):(rs.map (·.w))[a]? = some r.w:=by rw[xAb,h];rfl
theorem aHK(h:At S n p)(d a w:Nat)(hr:dL [] rs)(ha:a < rs.length)(hl:rs.length<=100)(hw:1<=w)(bW:w<=64)(hk:k<=99000) :
 ∃ (a' k':Nat) (x':Int) (aJ:List Rw),Opd rs aJ a' w/\k'<=k+1/\cl fns (d+2) 60 [.loc n,.loc p,.d (.int (a:Nat)),.d (.int (w:Nat))] (aN S n p ns k x rs)=some (.d (.int (a':Nat)),aN S n p ns k' x' aJ):=by
 obtain⟨r,hra⟩:∃ r,rs[a]? = some r:=⟨rs[a],List.getElem?_eq_getElem ha⟩;have ga:=yZ hra
 by_cases c:r.w=w
 ·refine⟨a,k,x,rs,⟨⟨[],by simp,by simp⟩,hr,by rw[nJ hra,c]⟩,by omega,?_⟩
  rw[aQ rfl (d+1) _ _ rfl];simp only[gR1,sM,h.rows,ga,dZ,bM,c,beq_self_eq_true,h.take]
 ·have c':(((r.w:Nat):Int)==((w:Nat):Int))=false:=by
   rw[beq_eq_false_iff_ne];intro z;exact c (by exact_mod_cast z)
  obtain⟨q,x',hq,e⟩:=gU (ns:=ns) (k:=k) (x:=x) (rs:=rs) h.toAt0 d 2 (i:=2) rfl (by decide) (by decide) (by omega)
  have bK:∀ wd:Wd,gE ([]++rs.map (·.w)) ⟨wd,w,[a]⟩->Opd rs (rs++[⟨wd,w,[a]⟩]) rs.length w:=λ wd ok=>⟨⟨_,rfl,Nat.le_refl _⟩,aAY hr ok,by simp⟩
  have aAi:∀ r:Rw,((rs++[r]).length:Int) - 1=((rs.length:Nat):Int):=λ r=>by simp
  have ap:∀ wd:Wd,eZ (aN S n p ns (k+1) x' rs) (.loc p) (.d (.tuple [.str wd.s,.int (w:Nat),.int (a:Nat)]))=some (.d .none,aN S n p ns (k+1) x' (rs++[⟨wd,w,[a]⟩])):=λ wd=>aG5 h (by omega) ⟨wd,w,[a]⟩
  by_cases c2:w < r.w
  ·have d2:decide (((w:Nat):Int) < ((r.w:Nat):Int))=true:=dqT (by omega)
   refine⟨rs.length,k+1,x',_,bK .cut ⟨hw,bW,r.w,by simpa using nJ hra,Nat.le_of_lt c2⟩,by omega,?_⟩
   have ap':=ap .cut;simp only[Wd.s] at ap';have:q=0\/q=1:=by omega
   rw[aQ rfl (d+1) _ _ rfl];rcases this with rfl | rfl
   all_goals simp only[evs,eX,sM,h.rows,ga,dZ,bM,c',e,aCE,aCw,jM,d2,jS,ap',dR,dQ,rows_len,cG,aAi,h.take]
  ·have d2:decide (((w:Nat):Int) < ((r.w:Nat):Int))=false:=dqF (by omega)
   have:q=0\/q=1:=by omega
   rcases this with rfl | rfl
   ·refine⟨rs.length,k+1,x',_,bK .wide ⟨hw,bW,r.w,by simpa using nJ hra,Nat.le_of_not_lt c2⟩,by omega,?_⟩
    have ap':=ap .wide;simp only[Wd.s] at ap';rw[aQ rfl (d+1) _ _ rfl];simp only[gR1,sM,h.rows,ga,dZ,bM,c',e,aCE,jM,d2,jS,ap',dR,dQ,rows_len,cG,aAi,h.take]
   ·refine⟨rs.length,k+1,x',_,bK .sign ⟨hw,bW,r.w,by simpa using nJ hra,Nat.le_of_not_lt c2⟩,by omega,?_⟩
    have ap':=ap .sign;simp only[Wd.s] at ap';rw[aQ rfl (d+1) _ _ rfl];simp only[gR1,sM,h.rows,ga,dZ,bM,c',e,aCw,jM,d2,jS,ap',dR,dQ,rows_len,cG,aAi,h.take]
end
section
variable {S : aC}{n p : Nat}{ns : List Int}{k : Nat}{x : Int}{rs : List Rw}
theorem aA2:∀ {rs:List Rw}{ws:List Nat}{a:Nat}{r:Rw},dL ws rs->rs[a]? = some r->1<=r.w/\r.w<=64
 | q::rs,ws,0,r,⟨h1,_⟩,e=>by
   have e':q=r:=by simpa using e
   subst e';exact⟨h1.1,h1.2.1⟩
 | q::rs,ws,a+1,r,⟨_,h2⟩,e=>aA2 h2 (by simpa using e)
 | [],_,_,_,_,e=>by simp at e
noncomputable def sW:Sx:=match sA with
 | .seq _ r=>r
 | _=>.skip
theorem sG(h:At S n p)(d w:Nat)(hr:dL [] rs)(h0:0 < rs.length)(hl:rs.length<=100)(hw:1<=w)(bW:w<=64)(hk:k<=98000) :
 ∃ (a k':Nat) (x':Int) (aJ:List Rw),Opd rs aJ a w/\k'<=k+3/\cl fns (d+3) 61 [.loc n,.loc p,.d (.int (w:Nat))] (aN S n p ns k x rs)=some (.d (.int (a:Nat)),aN S n p ns k' x' aJ):=by
 have hc:gX (.one 4) (lv (aD fns (d+2)) (.rng1 (.blt .len (.cons (.var 1) .nil)))) (tv (aD fns (d+2)) (.cmp .Eq (.ix (.ix (.var 1) (.var 4)) (.int 1)) (.var 2))) (ev (aD fns (d+2)) (.var 4)) [some (.loc n),some (.loc p),some (.d (.int (w:Nat))),none,none] (aN S n p ns k x rs)
  = some (((List.range rs.length).filter λ j=>(rs.map (·.w))[j]? == some w).map nD,aN S n p ns k x rs):=by
  refine aMt nD nD (λ j=>(rs.map (·.w))[j]? == some w) (List.range rs.length) ?_ (by rw[List.length_range,sizeLine_eq];omega) (λ j hj=>?_)
  ·simp only[kW,kE,kH,kF,kN,kQ,kG];refine pP ?_ (by omega)
   simp only[gS0,h.rows,dR,dQ,rows_len]
  ·have hj':j < rs.length:=by simpa using hj
   obtain⟨r,hrj⟩:∃ r,rs[j]? = some r:=⟨rs[j],List.getElem?_eq_getElem hj'⟩;have hb:((rs.map (·.w))[j]? == some w)=(((r.w:Nat):Int)==((w:Nat):Int)):=by
    rw[nJ hrj,Bool.eq_iff_iff];simp;omega
   refine⟨_,rfl,λ aF=>?_,λ _ aF=>?_⟩
   ·rw[hb];simp only[gS0,clr,List.foldl_cons,List.foldl_nil,nD,h.rowsT,yZ hrj,dZ,bM]
   ·simp only[gS0,clr,List.foldl_cons,List.foldl_nil,nD]
 generalize hL:(List.range rs.length).filter (λ j=>(rs.map (·.w))[j]? == some w)=L at hc
 have hmem:∀ a∈L,(rs.map (·.w))[a]? = some w:=λ a ha=>by
  rw[<- hL] at ha;simpa using (List.mem_filter.mp ha).2
 have cH:L.length<=rs.length:=by
  rw[<- hL];have:=List.length_filter_le (λ j=>(rs.map (·.w))[j]? == some w) (List.range rs.length)
  simpa using this
 have set:xs (aD fns (d+2)) (.setC false 3 (.comp (.var 4) (.one 4) (.rng1 (.blt .len (.cons (.var 1) .nil))) (.cmp .Eq (.ix (.ix (.var 1) (.var 4)) (.int 1)) (.var 2)))) [some (.loc n),some (.loc p),some (.d (.int (w:Nat))),none,none] (aN S n p ns k x rs)=some (.nx [some (.loc n),some (.loc p),some (.d (.int (w:Nat))),some (.d (.list (L.map nD))),none],aN S n p ns k x rs):=by
  simp only[aGn,jA,jY];show((gX _ _ _ _ _ _).bind _).bind _=_;rw[hc];simp only[gS0,True]
 have fF:∀ R,xs (aD fns (d+2)) sW [some (.loc n),some (.loc p),some (.d (.int (w:Nat))),some (.d (.list (L.map nD))),none] (aN S n p ns k x rs)=R->cl fns (d+3) 61 [.loc n,.loc p,.d (.int (w:Nat))] (aN S n p ns k x rs)=R.bind λ q=>match q.1 with
  | .rt w=>lA (aN S n p ns k x rs).length q.2 w
  | .nx _=>some (.d .none,q.2.take (aN S n p ns k x rs).length)
  | _=>none:=λ R hR=>by
  rw[aQ rfl (d+2) _ _ rfl,<- hR];show((cX (xs (aD fns (d+2)) (.setC false 3 (.comp (.var 4) (.one 4) (.rng1 (.blt .len (.cons (.var 1) .nil))) (.cmp .Eq (.ix (.ix (.var 1) (.var 4)) (.int 1)) (.var 2))))) (xs (aD fns (d+2)) sW)) [some (.loc n),some (.loc p),some (.d (.int (w:Nat))),none,none] (aN S n p ns k x rs)).bind _=_;simp only[cX,set,oB]
  all_goals rfl
 rw[fF _ rfl];clear fF set hc;have hr64:rs.length < 2^64:=by omega
 have nn:=aPW L;have ll:(L.map nD).length=L.length:=List.length_map ..;rcases Bool.eq_false_or_eq_true L.isEmpty with hE | hE
 ·rw[hE] at nn;obtain⟨q,x1,hq,e1⟩:=fG (ns:=ns) (k:=k) (x:=x) (rs:=rs) h.toAt0 (d+1) rs.length h0 hr64 (by omega)
  obtain⟨a,k',x',aJ,ho,hk',e2⟩:=aHK (ns:=ns) (k:=k+1) (x:=x1) h d q w hr hq hl hw bW (by omega)
  refine⟨a,k',x',aJ,ho,by omega,?_⟩
  simp only[gS2,sW,sA,nn,h.rows,dR,dQ,rows_len,e1,e2,h.take]
 ·rw[hE] at nn;have hL0:0 < L.length:=by
   cases L with
   | nil=>cases hE
   | cons b r=>simp
  obtain⟨q4,x1,hq4,e1⟩:=gU (ns:=ns) (k:=k) (x:=x) (rs:=rs) h.toAt0 (d+1) 4 (i:=4) rfl (by decide) (by decide) (by omega)
  by_cases c:0 < q4
  ·have d1:decide ((0:Int) < (q4:Int))=true:=dqT (by omega)
   obtain⟨q,x2,hq,e2⟩:=fG (ns:=ns) (k:=k+1) (x:=x1) (rs:=rs) h.toAt0 (d+1) L.length hL0 (by omega) (by omega)
   have e3:((L.length:Nat):Int) - 1 - (q:Int)=((L.length - 1 - q:Nat):Int):=by omega
   obtain⟨a,ha⟩:∃ a,L[L.length - 1 - q]? = some a:=⟨L[L.length - 1 - q],List.getElem?_eq_getElem (by omega)⟩
   have ga:aO (.list (L.map nD)) (.int ((L.length - 1 - q:Nat):Int))=some (.int (a:Nat)):=mW (by rw[xAb,ha];rfl)
   refine⟨a,k+2,x2,rs,⟨⟨[],by simp,by simp⟩,hr,hmem a (xAl ha)⟩,by omega,?_⟩
   simp only[gS2,sW,sA,nn,e1,jM,d1,dR,dQ,ll,cG,e2,e3,ga,h.take]
  ·have d1:decide ((0:Int) < (q4:Int))=false:=dqF (by omega)
   obtain⟨q,x2,hq,e2⟩:=fG (ns:=ns) (k:=k+1) (x:=x1) (rs:=rs) h.toAt0 (d+1) rs.length h0 hr64 (by omega)
   obtain⟨a,k',x',aJ,ho,hk',e3⟩:=aHK (ns:=ns) (k:=k+2) (x:=x2) h d q w hr hq hl hw bW (by omega)
   refine⟨a,k',x',aJ,ho,by omega,?_⟩
   simp only[gS2,sW,sA,nn,e1,jM,d1,h.rows,dR,dQ,rows_len,e2,e3,h.take]
end
section
variable {S : aC}{n p : Nat}{ns : List Int}{k : Nat}{x : Int}{rs : List Rw}
theorem xI(h:At S n p)(d:Nat)(wd:Wd)(bD:wd=.cut\/wd=.wide\/wd=.sign)(hr:dL [] rs)(h0:0 < rs.length)(hl:rs.length<=100)(hk:k<=98000) :
 ∃ (r:Rw) (x':Int),gE (rs.map (·.w)) r/\cl fns (d+2) 62 [.loc n,.loc p,.d (.str wd.s)] (aN S n p ns k x rs)=some (.d r.d,aN S n p ns (k+2) x' rs):=by
 obtain⟨a,x1,ha,e1⟩:=fG (ns:=ns) (k:=k) (x:=x) (rs:=rs) h.toAt0 d rs.length h0 (by omega) (by omega)
 obtain⟨r,hra⟩:∃ r,rs[a]? = some r:=⟨rs[a],List.getElem?_eq_getElem ha⟩;obtain⟨bL,bW⟩:=aA2 hr hra;have ga:=yZ hra;have cw:=bZ wd .cut;rw[show Wd.cut.s=("cut" : Str) from rfl] at cw
 have e65:(65:Int) - (r.w:Int)=((65 - r.w:Nat):Int):=by omega
 by_cases c:wd=.cut
 ·subst c;obtain⟨q,x2,hq,e2⟩:=fG (ns:=ns) (k:=k+1) (x:=x1) (rs:=rs) h.toAt0 d r.w (by omega) (by omega) (by omega)
  have a1:(1:Int)+(q:Int)=((1+q:Nat):Int):=by omega
  refine⟨⟨.cut,1+q,[a]⟩,x2,⟨by show 1<=1+q;omega,by show 1+q<=64;omega,r.w,nJ hra,by show 1+q<=r.w;omega⟩,?_⟩
  rw[aQ rfl (d+1) _ _ rfl];simp only[gR1,aAF,h.rows,dR,dQ,rows_len,e1,ga,dZ,cw,decide_true,e2,cK,a1,h.take]
 ·obtain⟨q,x2,hq,e2⟩:=fG (ns:=ns) (k:=k+1) (x:=x1) (rs:=rs) h.toAt0 d (65 - r.w) (by omega) (by omega) (by omega)
  have a1:(r.w:Int)+(q:Int)=((r.w+q:Nat):Int):=by omega
  rw[dqF c] at cw;have ok:gE (rs.map (·.w)) ⟨wd,r.w+q,[a]⟩:=by
   refine⟨by show 1<=r.w+q;omega,by show r.w+q<=64;omega,?_⟩
   rcases bD with rfl | rfl | rfl
   ·exact absurd rfl c
   ·exact⟨r.w,nJ hra,by show r.w<=r.w+q;omega⟩
   ·exact⟨r.w,nJ hra,by show r.w<=r.w+q;omega⟩
  refine⟨⟨wd,r.w+q,[a]⟩,x2,ok,?_⟩;rw[aQ rfl (d+1) _ _ rfl];simp only[gR1,aAF,h.rows,dR,dQ,rows_len,e1,ga,dZ,cw,cG,e65,e2,cK,a1,h.take]
theorem Opd.len{rs aJ:List Rw}{a w:Nat}(o:Opd rs aJ a w):rs.length<=aJ.length/\aJ.length<=rs.length+1:=by
 obtain⟨t,rfl,h⟩:=o.ext;simp;omega
theorem Opd.keep{rs aJ:List Rw}{a w b v:Nat}(o:Opd rs aJ a w)(h:(rs.map (·.w))[b]? = some v):(aJ.map (·.w))[b]? = some v:=by
 obtain⟨t,rfl,_⟩:=o.ext;rw[List.map_append,xAn (gIm h).1];exact h
theorem aBE(h:At S n p)(d w:Nat)(wd:Wd)(bD:wd=.left\/wd=.right\/wd=.slide)(hr:dL [] rs)(h0:0 < rs.length)(hl:rs.length<=90)(hw:1<=w)(bW:w<=64)(hk:k<=97000) :
 ∃ (r:Rw) (k':Nat) (x':Int) (aJ:List Rw),dL [] aJ/\rs.length<=aJ.length/\aJ.length<=rs.length+1/\gE (aJ.map (·.w)) r/\k'<=k+6/\cl fns (d+4) 63 [.loc n,.loc p,.d (.str wd.s),.d (.int (w:Nat))] (aN S n p ns k x rs)=some (.d r.d,aN S n p ns k' x' aJ):=by
 obtain⟨q1,x1,h1,e1⟩:=fG (ns:=ns) (k:=k) (x:=x) (rs:=rs) h.toAt0 (d+2) w (by omega) (by omega) (by omega)
 obtain⟨q2,x2,h2,e2⟩:=gU (ns:=ns) (k:=k+1) (x:=x1) (rs:=rs) h.toAt0 (d+2) 64 (i:=64) rfl (by decide) (by decide) (by omega)
 obtain⟨q3,x3,h3,e3⟩:=gU (ns:=ns) (k:=k+2) (x:=x2) (rs:=rs) h.toAt0 (d+2) 4 (i:=4) rfl (by decide) (by decide) (by omega)
 obtain⟨a,k',x',aJ,ho,hk',e4⟩:=sG (ns:=ns) (k:=k+3) (x:=x3) h d w hr h0 (by omega) hw bW (by omega)
 have bK:∀ kk:Nat,kk < 64->gE (aJ.map (·.w)) ⟨wd,w,[a,kk]⟩:=λ kk hkk=>by
  refine⟨hw,bW,?_⟩;rcases bD with rfl | rfl | rfl<;>exact⟨ho.wd,hkk⟩
 have hq:(q3:Int) / 3=((0:Nat):Int)\/(q3:Int) / 3=((1:Nat):Int):=by omega
 rcases hq with hq | hq
 ·refine⟨⟨wd,w,[a,q1]⟩,k',x',aJ,ho.ok,ho.len.1,ho.len.2,bK q1 (by omega),by omega,?_⟩
  rw[aQ rfl (d+3) _ _ rfl];have hq22:=mP (i:=(q3:Int)) (j:=3) (by decide) (by decide)
  simp only[gR1,aAT,e1,e2,e3,hq22,hq,aCE,e4,h.take]
 ·refine⟨⟨wd,w,[a,q2]⟩,k',x',aJ,ho.ok,ho.len.1,ho.len.2,bK q2 (by omega),by omega,?_⟩
  rw[aQ rfl (d+3) _ _ rfl];have hq23:=mP (i:=(q3:Int)) (j:=3) (by decide) (by decide)
  simp only[gR1,aAT,e1,e2,e3,hq23,hq,aCw,e4,h.take]
noncomputable def uK(wd:Wd)(w:Nat):Nat:=if (wd=.same\/wd=.less\/wd=.under) then 1 else w
theorem aGe(h:At S n p)(d w:Nat)(wd:Wd)(hr:dL [] rs)(h0:0 < rs.length)(hl:rs.length<=90)(hw:1<=w)(bW:w<=64)(hk:k<=97000) :
 ∃ (a b k':Nat) (x':Int) (aJ:List Rw),dL [] aJ/\(∃ t,aJ=rs++t/\t.length<=2)/\(aJ.map (·.w))[a]? = some w/\(aJ.map (·.w))[b]? = some w/\k'<=k+6 /\
  cl fns (d+4) 64 [.loc n,.loc p,.d (.str wd.s),.d (.int (w:Nat))] (aN S n p ns k x rs)=some (.d (.tuple [.str wd.s,.int (uK wd w:Nat),.int (a:Nat),.int (b:Nat)]),aN S n p ns k' x' aJ):=by
 obtain⟨a,k1,x1,rs1,o1,hk1,e1⟩:=sG (ns:=ns) (k:=k) (x:=x) h d w hr h0 (by omega) hw bW (by omega)
 have l1:=o1.len;obtain⟨b,k2,x2,rs2,o2,hk2,e2⟩:=sG (ns:=ns) (k:=k1) (x:=x1) h d w o1.ok (by omega) (by omega) hw bW (by omega)
 refine⟨a,b,k2,x2,rs2,o2.ok,?_,o2.keep o1.wd,o2.wd,by omega,?_⟩
 ·obtain⟨t1,rfl,ht1⟩:=o1.ext;obtain⟨t2,rfl,ht2⟩:=o2.ext;exact⟨t1++t2,by simp,by simp;omega⟩
 ·rw[aQ rfl (d+3) _ _ rfl]
  by_cases c:wd=.same\/wd=.less\/wd=.under
  ·have is:=yF wd;rw[dqT c] at is;have pw:uK wd w=1:=if_pos c;simp only[gR1,aA1,e1,e2,is,pw,h.take]
  ·have is:=yF wd;rw[dqF c] at is;have pw:uK wd w=w:=if_neg c;simp only[gR1,aA1,e1,e2,is,pw,h.take]
end
noncomputable def dU(k:Nat):Sx:=match jF with
 | .seq a1 (.seq a2 (.seq a3 (.seq a4 (.seq a5 (.seq a6 (.seq a7 _))))))=>[a1,a2,a3,a4,a5,a6,a7].getD k .skip
 | _=>.skip
theorem aLo:jF=.seq (dU 0) (.seq (dU 1) (.seq (dU 2) (.seq (dU 3) (.seq (dU 4) (.seq (dU 5) (.seq (dU 6) .skip)))))):=rfl
theorem aSZ(a b c e f:D):cB .Add (.tuple [a,b,c]) (.tuple [e,f])=some (.tuple [a,b,c,e,f]):=by
 show(if [a,b,c].isEmpty=false/\[a,b,c].length+[e,f].length<=sizeLine then some (PyData.tuple ([a,b,c]++[e,f])) else none)=_
 rw[if_pos ⟨rfl,by rw[sizeLine_eq];show 3+2<=16777216;decide⟩]
 rfl
theorem aRX(a b c e:D):fJ [a,b,c,e] (some 2) none=[c,e]:=rfl
theorem aR5:(HT.sIx 4 0 (some 2)=0/\HT.sIx 4 4 none=4)=False:=by simp[HT.sIx]
section
variable {S : aC}{n p : Nat}{ns : List Int}{k : Nat}{x : Int}{rs : List Rw}
theorem aOF(h:At S n p)(d w:Nat)(wd:Wd)(l2 e5 e6:Option W)(hr:dL [] rs)(h0:0 < rs.length)(hl:rs.length<=80)(hw:1<=w)(bW:w<=64)(hk:k<=96000) :
 ∃ (r:Rw) (k':Nat) (x':Int) (aJ:List Rw) (e6':Option W),dL [] aJ/\rs.length<=aJ.length/\aJ.length<=rs.length+3/\gE (aJ.map (·.w)) r/\k'<=k+12 /\
  xs (aD fns (d+4)) (dU 5) [some (.loc n),some (.loc p),l2,some (.d (.str wd.s)),some (.d (.int (w:Nat))),e5,e6] (aN S n p ns k x rs)=some (.nx [some (.loc n),some (.loc p),l2,some (.d (.str wd.s)),some (.d (.int (w:Nat))),some (.d r.d),e6'],aN S n p ns k' x' aJ):=by
 have c1:aX .Eq (.str wd.s) (.str "in")=some (.bool (decide (wd=.in))):=bZ wd .in
 by_cases k1:wd=.in
 ·subst k1;refine⟨⟨.in,w,[]⟩,k,x,rs,e6,hr,by omega,by omega,⟨hw,bW,True.intro⟩,by omega,?_⟩
  exact qL (dM rfl c1) (oQ rfl)
 rw[dqF k1] at c1;have q1:=λ {r S1}=>vC (C:=aD fns (d+4)) (s:=dU 5) (env:=[some (.loc n),some (.loc p),l2,some (.d (.str wd.s)),some (.d (.int (w:Nat))),e5,e6]) (S:=aN S n p ns k x rs) (r:=r) (S1:=S1) rfl (dM rfl c1)
 clear c1;have c2:aX .Eq (.str wd.s) (.str "num")=some (.bool (decide (wd=.num))):=bZ wd .num
 by_cases k2:wd=.num
 ·subst k2;obtain⟨q,k',x',hq,hk',e⟩:=aHm (ns:=ns) (k:=k) (x:=x) (rs:=rs) h.toAt0 (d+1) w hw bW (by omega)
  refine⟨⟨.num,w,[q]⟩,k',x',rs,e6,hr,by omega,by omega,⟨hw,bW,hq⟩,by omega,q1 (qL (dM rfl c2) (oQ ?_))⟩
  simp only[gS0,e]
 rw[dqF k2] at c2;have q2:=λ {r S1} h=>q1 (vC (r:=r) (S1:=S1) rfl (dM rfl c2) h)
 clear c2;have c3:aX .Eq (.str wd.s) (.str "not")=some (.bool (decide (wd=.not))):=bZ wd .not
 by_cases k3:wd=.not
 ·subst k3;obtain⟨a,k',x',aJ,o,hk',e⟩:=sG (ns:=ns) (k:=k) (x:=x) h (d+1) w hr h0 (by omega) hw bW (by omega)
  have l:=o.len;refine⟨⟨.not,w,[a]⟩,k',x',aJ,e6,o.ok,by omega,by omega,⟨hw,bW,o.wd⟩,by omega,q2 (qL (dM rfl c3) (oQ ?_))⟩
  simp only[gS0,e]
 rw[dqF k3] at c3;have q3:=λ {r S1} h=>q2 (vC (r:=r) (S1:=S1) rfl (dM rfl c3) h)
 clear c3;have c4:=aBz wd
 by_cases k4:wd=.left\/wd=.right\/wd=.slide
 ·rw[dqT k4] at c4;obtain⟨r,k',x',aJ,ok,l1,l2,okr,hk',e⟩:=aBE (ns:=ns) (k:=k) (x:=x) h d w wd k4 hr h0 (by omega) hw bW (by omega)
  refine⟨r,k',x',aJ,e6,ok,by omega,by omega,okr,by omega,q3 (qL (jO rfl rfl c4) (oQ ?_))⟩
  simp only[gS0,e]
 rw[dqF k4] at c4;have q4:=λ {r S1} h=>q3 (vC (r:=r) (S1:=S1) rfl (jO rfl rfl c4) h)
 clear c4;have c5:=aQP wd
 by_cases k5:wd=.cut\/wd=.wide\/wd=.sign
 ·rw[dqT k5] at c5;obtain⟨r,x',okr,e⟩:=xI (ns:=ns) (k:=k) (x:=x) h (d+2) wd k5 hr h0 (by omega) (by omega)
  refine⟨r,k+2,x',rs,e6,hr,by omega,by omega,okr,by omega,q4 (qL (jO rfl rfl c5) (oQ ?_))⟩
  simp only[gS0,e]
 rw[dqF k5] at c5;have q5:=λ {r S1} h=>q4 (vC (r:=r) (S1:=S1) rfl (jO rfl rfl c5) h)
 clear c5;have c6:aX .Eq (.str wd.s) (.str "pick")=some (.bool (decide (wd=.pick))):=bZ wd .pick
 by_cases k6:wd=.pick
 ·subst k6;obtain⟨c,k1',x1,rs1,o1,hk1,e1⟩:=sG (ns:=ns) (k:=k) (x:=x) h (d+1) 1 hr h0 (by omega) (by decide) (by decide) (by omega)
  have l1:=o1.len;obtain⟨a,b,k',x',aJ,ok,⟨t,rfl,ht⟩,wa,wb,hk',e2⟩:=aGe (ns:=ns) (k:=k1') (x:=x1) h d w .pick o1.ok (by omega) (by omega) hw bW (by omega)
  have wc:((rs1++t).map (·.w))[c]? = some 1:=by
   rw[List.map_append,xAn (gIm o1.wd).1];exact o1.wd
  rw[show((1:Nat):Int)=1 from rfl] at e1
  refine⟨⟨.pick,w,[c,a,b]⟩,k',x',rs1++t,some (.d (.int (c:Nat))),ok,by simp;omega,by simp;omega,⟨hw,bW,wc,wa,wb⟩,by omega,q5 (qL (dM rfl c6) (eH (S1:=aN S n p ns k1' x1 rs1) (w:=.d (.int (c:Nat))) ?_ rfl (oQ ?_)))⟩
  ·simp only[gS0,e1]
  ·simp only[gS0,e2,jV,jP,nW,aR5,aRX,aSZ]
 rw[dqF k6] at c6;obtain⟨a,b,k',x',aJ,ok,⟨t,rfl,ht⟩,wa,wb,hk',e2⟩:=aGe (ns:=ns) (k:=k) (x:=x) h d w wd hr h0 (by omega) hw bW (by omega)
 have okr:gE ((rs++t).map (·.w)) ⟨wd,uK wd w,[a,b]⟩:=by
  clear q1 q2 q3 q4 q5 c6 e2;cases wd
  all_goals first | exact⟨hw,bW,wa,wb⟩ | exact⟨Nat.le_refl 1,oqT rfl,rfl,w,wa,wb⟩ | exact absurd rfl k1 | exact absurd rfl k2 | exact absurd rfl k3 | exact absurd rfl k6 | exact absurd (.inl rfl) k4 | exact absurd (.inr (.inl rfl)) k4 | exact absurd (.inr (.inr rfl)) k4 | exact absurd (.inl rfl) k5 | exact absurd (.inr (.inl rfl)) k5 | exact absurd (.inr (.inr rfl)) k5
 refine⟨⟨wd,uK wd w,[a,b]⟩,k',x',rs++t,e6,ok,by simp,by simp;omega,okr,by omega,q5 (aIv (dM rfl c6) (oQ ?_))⟩
 simp only[gS0,e2]
end
noncomputable def wds:List Wd:=[.in,.num,.num,.not,.and,.or,.xor,.add,.sub,.mul,.left,.right,.slide,.cut,.wide,.sign,.same,.less,.under,.pick]
noncomputable def kB:D:=.list (wds.map λ w=>PyData.str w.s)
section
variable {S : aC}{n p : Nat}{ns : List Int}{k : Nat}{x : Int}{rs : List Rw}
theorem row_ok(h:At S n p)(d:Nat)(hr:dL [] rs)(h0:0 < rs.length)(hl:rs.length<=80)(hk:k<=95000) :
 ∃ (k':Nat) (x':Int) (aJ:List Rw),dL [] aJ/\rs.length<=aJ.length/\aJ.length<=rs.length+4/\k'<=k+20/\cl fns (d+5) 65 [.loc n,.loc p] (aN S n p ns k x rs)=some (.d .none,aN S n p ns k' x' aJ):=by
 have s01:xs (aD fns (d+4)) (.seq (dU 0) (dU 1)) [some (.loc n),some (.loc p),none,none,none,none,none] (aN S n p ns k x rs)=some (.nx [some (.loc n),some (.loc p),some (.d kB),none,none,none,none],aN S n p ns k x rs):=by
  simp only[evs,dU,jF,List.getD_cons_succ,List.getD_cons_zero];rw[aOH (by simp)]
  simp only[gS0,True]
 obtain⟨q1,x1,h1,e1⟩:=gU (ns:=ns) (k:=k) (x:=x) (rs:=rs) h.toAt0 (d+3) 20 (i:=20) rfl (by decide) (by decide) (by omega)
 obtain⟨wd,bD⟩:∃ wd,wds[q1]? = some wd:=⟨wds[q1],List.getElem?_eq_getElem (by simpa [wds] using h1)⟩
 have gw:aO kB (.int (q1:Nat))=some (.str wd.s):=mW (by rw[xAb,bD];rfl)
 have s2:xs (aD fns (d+4)) (dU 2) [some (.loc n),some (.loc p),some (.d kB),none,none,none,none] (aN S n p ns k x rs)=some (.nx [some (.loc n),some (.loc p),some (.d kB),some (.d (.str wd.s)),none,none,none],aN S n p ns (k+1) x1 rs):=by
  simp only[gS2,dU,jF,List.getD_cons_succ,List.getD_cons_zero,e1,gw]
 obtain⟨a,x2,ha,e2⟩:=fG (ns:=ns) (k:=k+1) (x:=x1) (rs:=rs) h.toAt0 (d+3) rs.length h0 (by omega) (by omega)
 obtain⟨r,hra⟩:∃ r,rs[a]? = some r:=⟨rs[a],List.getElem?_eq_getElem ha⟩;obtain⟨bL,bW⟩:=aA2 hr hra;have s3:xs (aD fns (d+4)) (dU 3) [some (.loc n),some (.loc p),some (.d kB),some (.d (.str wd.s)),none,none,none] (aN S n p ns (k+1) x1 rs)=some (.nx [some (.loc n),some (.loc p),some (.d kB),some (.d (.str wd.s)),some (.d (.int (r.w:Nat))),none,none],aN S n p ns (k+2) x2 rs):=by
  simp only[gS2,dU,jF,List.getD_cons_succ,List.getD_cons_zero,h.rows,dR,dQ,rows_len,e2,yZ hra,dZ]
 obtain⟨q3,x3,h3,e3⟩:=gU (ns:=ns) (k:=k+2) (x:=x2) (rs:=rs) h.toAt0 (d+3) 4 (i:=4) rfl (by decide) (by decide) (by omega)
 obtain⟨w,k4,x4,hw3,hw4,hk4,s4⟩:∃ (w k4:Nat) (x4:Int),1<=w/\w<=64/\k4<=k+6/\xs (aD fns (d+4)) (dU 4) [some (.loc n),some (.loc p),some (.d kB),some (.d (.str wd.s)),some (.d (.int (r.w:Nat))),none,none] (aN S n p ns (k+2) x2 rs)=some (.nx [some (.loc n),some (.loc p),some (.d kB),some (.d (.str wd.s)),some (.d (.int (w:Nat))),none,none],aN S n p ns k4 x4 rs):=by
  rcases Bool.eq_false_or_eq_true ((q3:Int)==1) with c | c
  ·obtain⟨w,x4,g1,g2,e4⟩:=aFZ (ns:=ns) (k:=k+3) (x:=x3) (rs:=rs) h.toAt0 (d+2) (by omega)
   refine⟨w,k+6,x4,g1,g2,by omega,?_⟩
   simp only[gS2,dU,jF,List.getD_cons_succ,List.getD_cons_zero,e3,bM,c,e4]
  ·refine⟨r.w,k+3,x3,bL,bW,by omega,?_⟩
   simp only[gS2,dU,jF,List.getD_cons_succ,List.getD_cons_zero,e3,bM,c]
 obtain⟨rr,k',x',aJ,e6',ok,l1,l2,okr,hk',s5⟩:=aOF (ns:=ns) (k:=k4) (x:=x4) h d w wd (some (.d kB)) none none hr h0 hl hw3 hw4 (by omega)
 refine⟨k',x',aJ++[rr],aAY ok (by simpa using okr),by simp;omega,by simp;omega,by omega,?_⟩
 rw[aQ rfl (d+4) _ _ rfl];have full:xs (aD fns (d+4)) jF [some (.loc n),some (.loc p),none,none,none,none,none] (aN S n p ns k x rs)=some (.nx [some (.loc n),some (.loc p),some (.d kB),some (.d (.str wd.s)),some (.d (.int (w:Nat))),some (.d rr.d),e6'],aN S n p ns k' x' (aJ++[rr])):=by
  have s01':∀ r:Sx,xs (aD fns (d+4)) (.seq (dU 0) (.seq (dU 1) r)) [some (.loc n),some (.loc p),none,none,none,none,none] (aN S n p ns k x rs)=xs (aD fns (d+4)) r [some (.loc n),some (.loc p),some (.d kB),none,none,none,none] (aN S n p ns k x rs):=λ r=>by
   simp only[iT,cX] at s01 ⊢;cases q:xs (aD fns (d+4)) (dU 0) [some (.loc n),some (.loc p),none,none,none,none,none] (aN S n p ns k x rs) with
   | none=>rw[q] at s01;cases s01
   | some z =>
     obtain⟨fl,S1⟩:=z;rw[q] at s01;cases fl with
     | nx e =>
       simp only[oB] at s01 ⊢;rw[s01];simp only[oB]
     | rt w=>cases s01
     | bk e=>cases s01
     | ct e=>cases s01
  rw[aLo,s01',dP s2,dP s3,dP s4,dP s5];have hq24:=λ ns k x=>aG5 (ns:=ns) (k:=k) (x:=x) h (show aJ.length<=1000 by omega)
  simp only[gS2,dU,jF,List.getD_cons_succ,List.getD_cons_zero,jS,hq24]
 show((xs (aD fns (d+4)) jF [some (.loc n),some (.loc p),none,none,none,none,none] (aN S n p ns k x rs)).bind _)=_;rw[full];simp only[oB,h.take]
end
end GP
noncomputable def tr(n w:Nat):Nat:=w - bl (n ^^^ (2^w - 1))
theorem aRn(n w i:Nat):(n ^^^ (2^w - 1)).testBit i=(n.testBit i ^^ decide (i < w)):=by rw[Nat.testBit_xor,eE]
theorem aIi(n w:Nat):tr n w<=w:=Nat.sub_le _ _
theorem aGW{n w i:Nat}(hi:w - tr n w<=i)(hw:i < w):n.testBit i=true:=by
 have h1:bl (n ^^^ (2^w - 1))<=i:=by unfold tr at hi;omega
 have h2:=dD (qR (n ^^^ (2^w - 1))) h1;rw[aRn,dqT hw] at h2;cases q:n.testBit i with
 | true=>rfl
 | false=>rw[q] at h2;cases h2
noncomputable def dA(a w:Nat):Nat:=(2^w - 1) ^^^ (2^(w - a) - 1)
theorem mM{a w i:Nat}:(dA a w).testBit i=(decide (w - a<=i)&&decide (i < w)):=by
 unfold dA;rw[Nat.testBit_xor,eE,eE]
 by_cases h1:i < w<;>by_cases h2:i < w - a
 ·rw[dqT h1,dqT h2,dqF (by omega)];rfl
 ·rw[dqT h1,dqF h2,dqT (by omega)];rfl
 ·omega
 ·rw[dqF h1,dqF h2,Bool.and_false];rfl
theorem aB6{x y:Nat}:x &&& y≠0 ↔ ∃ i,x.testBit i=true/\y.testBit i=true:=by
 constructor
 ·intro h
  by_cases c:∃ i,x.testBit i=true/\y.testBit i=true
  ·exact c
  ·refine absurd ((kD _).mpr λ i=>?_) h
   rw[Nat.testBit_and];cases h1:x.testBit i<;>cases h2:y.testBit i<;>first | rfl | exact absurd ⟨i,h1,h2⟩ c
 ·rintro ⟨i,h1,h2⟩ z;rw[kD] at z;have:=z i;rw[Nat.testBit_and,h1,h2] at this;cases this
noncomputable def cT(x a w:Nat):Nat:=if x &&& dA a w=0 then x else x ||| dA a w
theorem zO{x a w:Nat}(h:x < 2^w):cT x a w < 2^w:=by
 unfold cT
 split
 ·exact h
 ·exact Nat.or_lt_two_pow h (by
   apply Nat.lt_pow_two_of_testBit;intro i hi;rw[mM,dqF (show ¬ i < w by omega),Bool.and_false])
theorem yN{x a w i:Nat}:(cT x a w).testBit i=true ↔ x.testBit i=true\/((w - a<=i/\i < w)/\∃ j,(w - a<=j/\j < w)/\x.testBit j=true):=by
 unfold cT
 split
 ·rename_i h;constructor
  ·intro z;exact .inl z
  ·rintro (z | ⟨_,j,h1,h2⟩)
   ·exact z
   ·refine absurd h (aB6.mpr ⟨j,h2,?_⟩);rw[mM,dqT h1.1,dqT h1.2];rfl
 ·rename_i h;obtain⟨j,h1,h2⟩:=aB6.mp h;rw[mM,Bool.and_eq_true,decide_eq_true_eq,decide_eq_true_eq] at h2;rw[xAp,Bool.or_eq_true,mM,Bool.and_eq_true,decide_eq_true_eq,decide_eq_true_eq];constructor
  ·rintro (z | z)
   ·exact .inl z
   ·exact .inr ⟨z,j,h2,h1⟩
  ·rintro (z | ⟨z,_⟩)
   ·exact .inl z
   ·exact .inr z
noncomputable def uV(i j k:Nat):Nat:=max (max i j) k
structure Ft where
 N:Nat
 O:Nat
 A:Nat
noncomputable def gJ(f:Ft)(w:Nat):Ft:=⟨cT f.N f.A w,cT f.O f.A w,uV f.A (tr (cT f.N f.A w) w) (tr (cT f.O f.A w) w)⟩
def Hd(f:Ft)(n w:Nat):Prop:=(∀ i,f.N.testBit i=true->n.testBit i=false)/\(∀ i,f.O.testBit i=true->n.testBit i=true)/\((∀ i,w - f.A<=i->i < w->n.testBit i=true)\/(∀ i,w - f.A<=i->i < w->n.testBit i=false))
structure FtOk(f:Ft)(w:Nat):Prop where
 lN:f.N < 2^w
 lO:f.O < 2^w
 a1:1<=f.A
 aw:f.A<=w
theorem aT0{f:Ft}{w:Nat}(h:FtOk f w):FtOk (gJ f w) w:=by
 have h1:=aIi (cT f.N f.A w) w;have h2:=aIi (cT f.O f.A w) w;have h3:=h.a1;have h4:=h.aw;exact⟨zO h.lN,zO h.lO,by show 1<=max (max _ _) _;omega,by show max (max _ _) _<=w;omega⟩
theorem aM2{f:Ft}{n w:Nat}(h:FtOk f w):Hd (gJ f w) n w ↔ Hd f n w:=by
 have aA:f.A<=(gJ f w).A:=by show f.A<=max (max _ _) _;omega
 constructor
 ·rintro ⟨h1,h2,h3⟩;refine⟨λ i hi=>h1 i (yN.mpr (.inl hi)),λ i hi=>h2 i (yN.mpr (.inl hi)),?_⟩
  rcases h3 with h3 | h3
  ·exact .inl λ i a b=>h3 i (by omega) b
  ·exact .inr λ i a b=>h3 i (by omega) b
 ·rintro ⟨h1,h2,h3⟩;have hN:∀ i,(gJ f w).N.testBit i=true->n.testBit i=false:=λ i hi=>by
   rcases yN.mp hi with z | ⟨⟨a,b⟩,j,⟨c,d⟩,e⟩
   ·exact h1 i z
   ·rcases h3 with h3 | h3
    ·have x1:=h3 j c d;rw[h1 j e] at x1;cases x1
    ·exact h3 i a b
  have hO:∀ i,(gJ f w).O.testBit i=true->n.testBit i=true:=λ i hi=>by
   rcases yN.mp hi with z | ⟨⟨a,b⟩,j,⟨c,d⟩,e⟩
   ·exact h2 i z
   ·rcases h3 with h3 | h3
    ·exact h3 i a b
    ·have x1:=h3 j c d;rw[h2 j e] at x1;cases x1
  refine⟨hN,hO,?_⟩;have cA:(gJ f w).A=f.A\/(gJ f w).A=tr (gJ f w).N w\/(gJ f w).A=tr (gJ f w).O w:=by
   show max (max _ _) _=_\/max (max _ _) _=tr (cT f.N f.A w) w\/max (max _ _) _=tr (cT f.O f.A w) w;omega
  rcases cA with c | c | c
  ·rw[c];exact h3
  ·rw[c];exact .inr λ i a b=>hN i (aGW a b)
  ·rw[c];exact .inl λ i a b=>hO i (aGW a b)
theorem aT8{f:Ft}{n w:Nat}(h:Hd f n w):f.N &&& f.O=0:=by
 by_cases c:f.N &&& f.O=0
 ·exact c
 ·obtain⟨i,h1,h2⟩:=aB6.mp c;have x:=h.1 i h1;rw[h.2.1 i h2] at x;cases x
theorem yQ{n w i:Nat}(hn:n < 2^w)(hi:i < w):(2^w - 1 - n).testBit i = !n.testBit i:=by
 have:=qD hn i;unfold pL at this;rw[this,dqT hi,Bool.true_and]
theorem aNd{n w a:Nat}(hn:n < 2^w)(ha:a<=w):n / 2^(w - a)=2^a - 1 ↔ ∀ i,w - a<=i->i < w->n.testBit i=true:=by
 constructor
 ·intro h i h1 h2;have:(n / 2^(w - a)).testBit (i - (w - a))=(2^a - 1).testBit (i - (w - a)):=by rw[h]
  rw[kI,eE,show w - a+(i - (w - a))=i by omega,dqT (by omega)] at this
  exact this
 ·intro h;apply xAm;intro i;rw[kI,eE]
  by_cases c:i < a
  ·rw[h _ (by omega) (by omega),dqT c]
  ·rw[dD hn (by omega),dqF c]
theorem aMR{n w a:Nat}(hn:n < 2^w)(ha:a<=w):n / 2^(w - a)=0 ↔ ∀ i,w - a<=i->i < w->n.testBit i=false:=by
 rw[aAL];constructor
 ·intro h i h1 _;exact h i h1
 ·intro h i h1
  by_cases c:i < w
  ·exact h i h1 c
  ·exact dD hn (by omega)
theorem aMe{x y:Nat}:(x &&& y=0) ↔ ∀ i,y.testBit i=true->x.testBit i=false:=by
 rw[kD];constructor
 ·intro h i hy;have:=h i;rw[Nat.testBit_and,hy,Bool.and_true] at this;exact this
 ·intro h i;rw[Nat.testBit_and];cases hy:y.testBit i with
  | false=>exact Bool.and_false _
  | true=>rw[h i hy];rfl
theorem aEZ{x y:Nat}:(x &&& y=y) ↔ ∀ i,y.testBit i=true->x.testBit i=true:=by
 constructor
 ·intro h i hy;have:=congrArg (λ z=>z.testBit i) h
  simp only[Nat.testBit_and,hy,Bool.and_true] at this;exact this
 ·intro h;apply xAm;intro i;rw[Nat.testBit_and];cases hy:y.testBit i with
  | false=>exact Bool.and_false _
  | true=>rw[h i hy];rfl
theorem dF(d w:Nat)(h:w<=100000)(S:aC):cl fns (d+1) 8 [.d (.int w)] S=some (.d (.int ((2^w - 1:Nat):Int)),S):=by
 rw[aQ rfl d _ S rfl];simp only[gR1,aIn,gL h,cG,xC]
theorem aNp(n:Nat):Builtin.Int.intBits (n:Int)=bl n:=aEc n
theorem xO(d n:Nat)(S:aC):cl fns (d+1) 9 [.d (.int n)] S=some (.d (.int ((bl n:Nat):Int)),S):=by
 rw[aQ rfl d _ S rfl];simp only[gR1,aHG,aCC,aIc,aNp]
noncomputable def lr(n:Nat):Nat:=bl (n ^^^ (n+1)) - 1
theorem aNK(n:Nat):lr n=kX (nH n (bl n+1)):=aEu (bl n+1) n (xAc (qR n) (Nat.pow_le_pow_right (by decide) (by omega)))
theorem aFK(d n:Nat)(S:aC)(h:n < 2^10000):cl fns (d+2) 10 [.d (.int n)] S=some (.d (.int ((2^bl n - 1:Nat):Int)),S):=by
 rw[aQ rfl (d+1) _ S rfl];have hq25:=dF d (bl n) (xAi (qN h) (by decide))
 simp only[gR1,aHA,xO d n,hq25]
theorem aH6{n w:Nat}(h:n < 2^w)(hw:w<=10000):n < 2^10000:=xAc h (Nat.pow_le_pow_right (by decide) hw)
theorem aCr(d n:Nat)(S:aC):cl fns (d+2) 11 [.d (.int n)] S=some (.d (.int ((lr n:Nat):Int)),S):=by
 have h1:=aE6 (aEe n);have e1:(n:Int)+1=((n+1:Nat):Int):=by omega
 have e2:((bl (n ^^^ (n+1)):Nat):Int) - 1=((lr n:Nat):Int):=by unfold lr;omega
 rw[aQ rfl (d+1) _ S rfl];simp only[gR1,aFp,cK,e1,lJ,xO d,cG,e2]
noncomputable def Ft.d(f:Ft):D:=.tuple [.int (f.N:Nat),.int (f.O:Nat),.int (f.A:Nat)]
theorem gH(f:Ft):aO f.d (.int 0)=some (.int (f.N:Nat)):=rfl
theorem gM(f:Ft):aO f.d (.int 1)=some (.int (f.O:Nat)):=rfl
theorem iI(f:Ft):aO f.d (.int 2)=some (.int (f.A:Nat)):=rfl
theorem xN(a b:Nat):(((a:Nat):Int)==((b:Nat):Int))=(a==b):=by
 rw[Bool.eq_iff_iff,beq_iff_eq,beq_iff_eq];omega
theorem aE1(d n w:Nat)(S:aC)(hn:n < 2^w)(hw:w<=64):cl fns (d+2) 12 [.d (.int (n:Nat)),.d (.int (w:Nat))] S=some (.d (.int ((tr n w:Nat):Int)),S):=by
 have h1:=qN (aKK hn);have e2:(w:Int) - ((bl (n ^^^ (2^w - 1)):Nat):Int)=((tr n w:Nat):Int):=by unfold tr;omega
 rw[aQ rfl (d+1) _ S rfl];have hq26:=dF d w (by omega)
 simp only[gR1,aFy,hq26,lJ,xO d,cG,e2]
theorem oG(d a w:Nat)(S:aC)(ha:a<=w)(hw:w<=64):cl fns (d+2) 28 [.d (.int (a:Nat)),.d (.int (w:Nat))] S=some (.d (.int ((dA a w:Nat):Int)),S):=by
 have e:(w:Int) - (a:Int)=((w - a:Nat):Int):=by omega
 rw[aQ rfl (d+1) _ S rfl];have hq27:=dF d w (by omega)
 have hq28:=dF d (w - a) (by omega)
 simp only[gR1,aE3,hq27,cG,e,hq28,lJ]
theorem mxI(i j:Nat):(if (j:Int) > (i:Int) then ((j:Nat):Int) else ((i:Nat):Int))=((max i j:Nat):Int):=by
 by_cases h:(j:Int) > (i:Int)
 ·rw[if_pos h];omega
 ·rw[if_neg h];omega
theorem xK(i j k:Nat):nQ [.int (i:Nat),.int (j:Nat),.int (k:Nat)]=some (.int ((uV i j k:Nat):Int)):=by
 show some (PyData.int (if (j:Int) > (i:Int) then (if (k:Int) > (j:Int) then ((k:Nat):Int) else ((j:Nat):Int)) else (if (k:Int) > (i:Int) then ((k:Nat):Int) else ((i:Nat):Int))))=_
 rw[mxI,mxI];unfold uV
 by_cases h:(j:Int) > (i:Int)
 ·rw[if_pos h,show max (max i j) k=max j k by omega]
 ·rw[if_neg h,show max (max i j) k=max i k by omega]
theorem aCa{x a w:Nat}(h:(x &&& dA a w==0)=true):cT x a w=x:=by
 unfold cT;rw[if_pos (eq_of_beq h)]
theorem aCo{x a w:Nat}(h:(x &&& dA a w==0)=false):cT x a w=x ||| dA a w:=by
 unfold cT;rw[if_neg (by simpa using h)]
theorem aLz(d:Nat)(f:Ft)(w:Nat)(k:FtOk f w)(hw:w<=64)(S:aC):cl fns (d+3) 30 [.d f.d,.d (.int (w:Nat))] S=some (.d (gJ f w).d,S):=by
 have t1:=aE1 d (cT f.N f.A w) w S (zO k.lN) hw;have t2:=aE1 d (cT f.O f.A w) w S (zO k.lO) hw;rw[aQ rfl (d+2) _ S rfl];show _=some (W.d (.tuple [.int ((cT f.N f.A w:Nat):Int),.int ((cT f.O f.A w:Nat):Int),.int ((uV f.A (tr (cT f.N f.A w) w) (tr (cT f.O f.A w) w):Nat):Int)]),S);cases c1:(f.N &&& dA f.A w==0) with
 | true =>
   rw[aCa c1] at t1 ⊢;cases c2:(f.O &&& dA f.A w==0) with
   | true =>
     rw[aCa c2] at t2 ⊢;simp only[gR1,tG,Ft.d,oG (d:=d) (a:=f.A) (w:=w) (S:=S) k.aw hw,dJ,lQ,cU,c1,c2,t1,t2,xK]
   | false =>
     rw[aCo c2] at t2 ⊢;simp only[gR1,tG,Ft.d,oG (d:=d) (a:=f.A) (w:=w) (S:=S) k.aw hw,dJ,lQ,cU,c1,c2,eO,t1,t2,xK]
 | false =>
   rw[aCo c1] at t1 ⊢;cases c2:(f.O &&& dA f.A w==0) with
   | true =>
     rw[aCa c2] at t2 ⊢;simp only[gR1,tG,Ft.d,oG (d:=d) (a:=f.A) (w:=w) (S:=S) k.aw hw,dJ,lQ,cU,c1,c2,eO,t1,t2,xK]
   | false =>
     rw[aCo c2] at t2 ⊢;simp only[gR1,tG,Ft.d,oG (d:=d) (a:=f.A) (w:=w) (S:=S) k.aw hw,dJ,lQ,cU,c1,c2,eO,t1,t2,xK]
theorem sY(d:Nat)(f:Ft)(S:aC):cl fns (d+1) 31 [.d f.d] S=some (.d (.int (f.O:Nat)),S):=by
 rw[aQ rfl d _ S rfl];simp only[gR1,aHC,gM]
theorem wR(d:Nat)(f:Ft)(w:Nat)(lN:f.N < 2^w)(hw:w<=64)(S:aC):cl fns (d+2) 32 [.d f.d,.d (.int (w:Nat))] S=some (.d (.int ((2^w - 1 - f.N:Nat):Int)),S):=by
 have e:(2^w - 1) ^^^ f.N=2^w - 1 - f.N:=by
  apply xAm;intro i;have:=qD lN i;unfold pL at this;rw[this,Nat.testBit_xor,eE]
  by_cases c:i < w
  ·rw[dqT c];cases f.N.testBit i<;>rfl
  ·rw[dqF c,dD lN (by omega)];rfl
 rw[aQ rfl (d+1) _ S rfl];have hq29:=dF d w (by omega)
 simp only[gR1,aFb,gH,hq29,lJ,e]
theorem wL(d n w v:Nat)(S:aC)(hw:0 < w)(hv:v<=1000)(bW:w<=64):cl fns (d+2) 13 [.d (.int (n:Nat)),.d (.int (w:Nat)),.d (.int (v:Nat))] S=some (.d (.int ((dX n w v:Nat):Int)),S):=by
 have e1:(w:Int) - 1=((w - 1:Nat):Int):=by omega
 rw[aQ rfl (d+1) _ S rfl];unfold dX
 by_cases c:n &&& 2^(w - 1)=0
 ·have d1:(n &&& 2^(w - 1)==0)=true:=by rw[beq_iff_eq];exact c
  rw[if_pos c];have hq30:=gL (show w - 1<=100000 by omega)
  simp only[gR1,aA8,cG,e1,hq30,dJ,bM,cU,d1]
 ·have d1:(n &&& 2^(w - 1)==0)=false:=by rw[beq_eq_false_iff_ne];exact c
  rw[if_neg c];have hq31:=gL (show w - 1<=100000 by omega)
  have hq32:=dF d v (by omega)
  have hq33:=dF d w (by omega)
  simp only[gR1,aA8,cG,e1,hq31,dJ,bM,cU,d1,hq32,hq33,lJ,eO]
theorem aBA(a k:Nat):nQ [.int 1,.int ((a:Nat) - (k:Nat):Int)]=some (.int ((max 1 (a - k):Nat):Int)):=by
 unfold nQ;simp only[];congr 2
 by_cases h1:(a:Int) - (k:Int) > 1<;>simp only[h1,if_true,if_false]<;>omega
theorem kC(i j:Nat):iH [.int (i:Nat),.int (j:Nat)]=some (.int ((min i j:Nat):Int)):=by
 unfold iH;simp only[];congr 2
 by_cases h1:(j:Int) < (i:Int)<;>simp only[h1,if_true,if_false]<;>omega
noncomputable def tY(w:Nat)(f:Ft)(k:Nat):Ft:=⟨(f.N*2^k ||| (2^k - 1)) &&& (2^w - 1),f.O*2^k &&& (2^w - 1),max 1 (f.A - k)⟩
theorem aNY(d w:Nat)(f:Ft)(k:Nat)(hf:FtOk f w)(hw:w<=64)(hk:k<=1000)(S:aC):cl fns (d+2) 43 [.d (.int (w:Nat)),.d f.d,.d (.int (k:Nat))] S=some (.d (tY w f k).d,S):=by
 rw[aQ rfl (d+1) _ S rfl];have hq34:=tI hf.lN (show w+k<=100000 by omega)
 have hq35:=tI hf.lO (show w+k<=100000 by omega)
 have hq36:=dF d k (by omega)
 have hq37:=dF d w (by omega)
 simp only[gR1,aEx,gH,gM,iI,hq34,hq35,hq36,hq37,eO,dJ,cG,aBA]
noncomputable def lP(w:Nat)(f:Ft)(k:Nat):Ft:=⟨f.N / 2^k ||| dA (min k w) w,f.O / 2^k,if k=0 then f.A else 1⟩
theorem aNe(d w:Nat)(f:Ft)(k:Nat)(hw:w<=64)(S:aC):cl fns (d+3) 44 [.d (.int (w:Nat)),.d f.d,.d (.int (k:Nat))] S=some (.d (lP w f k).d,S):=by
 have tm:=oG d (min k w) w S (by omega) hw
 rw[aQ rfl (d+2) _ S rfl]
 by_cases c:k=0
 ·have d1:(k==0)=true:=by rw[beq_iff_eq];exact c
  have e:(lP w f k).d=.tuple [.int ((f.N / 2^k ||| dA (min k w) w:Nat):Int),.int ((f.O / 2^k:Nat):Int),.int (f.A:Nat)]:=by unfold lP;rw[if_pos c];rfl
  rw[e];simp only[gR1,aAS,gH,gM,iI,jG,kC,tm,eO,bM,cU,d1]
 ·have d1:(k==0)=false:=by rw[beq_eq_false_iff_ne];exact c
  have e:(lP w f k).d=.tuple [.int ((f.N / 2^k ||| dA (min k w) w:Nat):Int),.int ((f.O / 2^k:Nat):Int),.int 1]:=by unfold lP;rw[if_neg c];rfl
  rw[e];simp only[gR1,aAS,gH,gM,iI,jG,kC,tm,eO,bM,cU,d1]
noncomputable def tU(w:Nat)(f:Ft)(k:Nat):Ft:=⟨dX f.N w (w+k) / 2^k,dX f.O w (w+k) / 2^k,min w (f.A+k)⟩
theorem aMI(d w:Nat)(f:Ft)(k:Nat)(bL:1<=w)(hw:w<=64)(hk:k<=900)(S:aC):cl fns (d+3) 45 [.d (.int (w:Nat)),.d f.d,.d (.int (k:Nat))] S=some (.d (tU w f k).d,S):=by
 have e1:(w:Int)+(k:Int)=((w+k:Nat):Int):=by omega
 have e2:(f.A:Int)+(k:Int)=((f.A+k:Nat):Int):=by omega
 rw[aQ rfl (d+2) _ S rfl];have hq38:=wL d f.N w (w+k) S (by omega) (by omega) hw
 have hq39:=wL d f.O w (w+k) S (by omega) (by omega) hw
 simp only[gR1,aEb,gH,gM,iI,cK,e1,e2,hq38,hq39,jG,kC]
noncomputable def vG(v w:Nat)(f:Ft):Ft:=⟨f.N &&& (2^w - 1),f.O &&& (2^w - 1),max 1 (f.A - (v - w))⟩
noncomputable def lS(v w:Nat)(f:Ft):Ft:=⟨f.N ||| dA (w - v) w,f.O,if w=v then f.A else 1⟩
noncomputable def uD(v w:Nat)(f:Ft):Ft:=⟨dX f.N v w,dX f.O v w,f.A+(w - v)⟩
theorem aPE(d v w:Nat)(f:Ft)(hv:w<=v)(hw:w<=64)(S:aC):cl fns (d+2) 47 [.d (.str "cut"),.d (.int (v:Nat)),.d (.int (w:Nat)),.d f.d] S=some (.d (vG v w f).d,S):=by
 have c1:aX .Eq (.str "cut") (.str "cut")=some (.bool true):=bZ .cut .cut;have e1:(v:Int) - (w:Int)=((v - w:Nat):Int):=by omega
 rw[aQ rfl (d+1) _ S rfl];have hq40:=dF d w (by omega)
 simp only[gR1,sJ,Ft.d,c1,hq40,dJ,cG,e1,aBA]
theorem aNV(d v w:Nat)(f:Ft)(hv:v<=w)(hw:w<=64)(S:aC):cl fns (d+3) 47 [.d (.str "wide"),.d (.int (v:Nat)),.d (.int (w:Nat)),.d f.d] S=some (.d (lS v w f).d,S):=by
 have c1:aX .Eq (.str "wide") (.str "cut")=some (.bool false):=bZ .wide .cut;have c2:aX .Eq (.str "wide") (.str "wide")=some (.bool true):=bZ .wide .wide;have e1:(w:Int) - (v:Int)=((w - v:Nat):Int):=by omega
 have tm:=oG d (w - v) w S (by omega) hw
 rw[aQ rfl (d+2) _ S rfl]
 by_cases c:w=v
 ·have d1:(w==v)=true:=by rw[beq_iff_eq];exact c
  have e:(lS v w f).d=.tuple [.int ((f.N ||| dA (w - v) w:Nat):Int),.int (f.O:Nat),.int (f.A:Nat)]:=by unfold lS;rw[if_pos c];rfl
  rw[e];simp only[gR1,sJ,Ft.d,c1,c2,cG,e1,tm,eO,bM,xN,d1]
 ·have d1:(w==v)=false:=by rw[beq_eq_false_iff_ne];exact c
  have e:(lS v w f).d=.tuple [.int ((f.N ||| dA (w - v) w:Nat):Int),.int (f.O:Nat),.int 1]:=by unfold lS;rw[if_neg c];rfl
  rw[e];simp only[gR1,sJ,Ft.d,c1,c2,cG,e1,tm,eO,bM,xN,d1]
theorem aOm(d v w:Nat)(f:Ft)(hv1:1<=v)(hv:v<=w)(hw:w<=64)(S:aC):cl fns (d+3) 47 [.d (.str "sign"),.d (.int (v:Nat)),.d (.int (w:Nat)),.d f.d] S=some (.d (uD v w f).d,S):=by
 have c1:aX .Eq (.str "sign") (.str "cut")=some (.bool false):=bZ .sign .cut;have c2:aX .Eq (.str "sign") (.str "wide")=some (.bool false):=bZ .sign .wide;have e1:(w:Int) - (v:Int)=((w - v:Nat):Int):=by omega
 have e2:(f.A:Int)+((w - v:Nat):Int)=((f.A+(w - v):Nat):Int):=by omega
 rw[aQ rfl (d+2) _ S rfl];have hq41:=wL d f.N v w S (by omega) (by omega) (by omega)
 have hq42:=wL d f.O v w S (by omega) (by omega) (by omega)
 simp only[gR1,sJ,Ft.d,c1,c2,cG,e1,hq41,hq42,cK,e2]
noncomputable def bwN(wd:Wd)(f g:Ft):Ft:=match wd with
 | .and=>⟨f.N ||| g.N,f.O &&& g.O,min f.A g.A⟩
 | .or=>⟨f.N &&& g.N,f.O ||| g.O,min f.A g.A⟩
 | _=>⟨f.N &&& g.N ||| f.O &&& g.O,f.N &&& g.O ||| f.O &&& g.N,min f.A g.A⟩
theorem xD(d:Nat)(f g:Ft)(S:aC):cl fns (d+1) 41 [.d f.d,.d g.d] S=some (.d (.int ((f.N &&& g.O ||| f.O &&& g.N:Nat):Int)),S):=by
 rw[aQ rfl d _ S rfl];simp only[gR1,aD1,gH,gM,eO,dJ]
theorem aLk(d:Nat)(wd:Wd)(bD:wd=.and\/wd=.or\/wd=.xor)(f g:Ft)(S:aC):cl fns (d+2) 42 [.d (.str wd.s),.d f.d,.d g.d] S=some (.d (bwN wd f g).d,S):=by
 have c1:aX .Eq (.str wd.s) (.str "and")=some (.bool (decide (wd=.and))):=bZ wd .and;have c2:aX .Eq (.str wd.s) (.str "or")=some (.bool (decide (wd=.or))):=bZ wd .or;rw[aQ rfl (d+1) _ S rfl];rcases bD with rfl | rfl | rfl
 ·simp only[decide_true] at c1;simp only[gR1,wI,gH,gM,iI,kC,c1,eO,dJ]
 ·simp only[reduceCtorEq,decide_false,decide_true] at c1 c2;simp only[gR1,wI,gH,gM,iI,kC,c1,c2,eO,dJ]
 ·simp only[reduceCtorEq,decide_false] at c1 c2;simp only[gR1,wI,gH,gM,iI,kC,c1,c2,eO,dJ,xD d]
noncomputable def cZ(f:Ft)(k:Nat):Nat:=2 - 2*(f.N.testBit k).toNat - (f.O.testBit k).toNat
theorem gF{f:Ft}(hd:f.N &&& f.O=0)(k:Nat):(cZ f k==0)=f.N.testBit k:=by
 have:=(kD _).mp hd k;rw[Nat.testBit_and] at this;unfold cZ
 revert this
 cases f.N.testBit k<;>cases f.O.testBit k<;>decide
theorem gC{f:Ft}(hd:f.N &&& f.O=0)(k:Nat):(cZ f k==1)=f.O.testBit k:=by
 have:=(kD _).mp hd k;rw[Nat.testBit_and] at this;unfold cZ
 revert this
 cases f.N.testBit k<;>cases f.O.testBit k<;>decide
theorem tK(f:Ft)(k:Nat):cZ f k < 3:=by
 unfold cZ;omega
noncomputable def ntN(x:Nat):Nat:=[1,0,2].getD x 2
noncomputable def zT(f:Ft)(k i:Nat):Nat:=if i < k then 0 else cZ f (i - k)
noncomputable def yV(f:Ft)(w k i:Nat):Nat:=if i+k < w then cZ f (i+k) else 0
noncomputable def aJJ(f:Ft)(w i:Nat):Nat:=cZ f (min i (w - 1))
noncomputable def zD(f:Ft)(w i:Nat):Nat:=if i < w then cZ f i else 0
structure Mk(t:Nat->Nat)(n:Nat)(g:Ft):Prop where
 lN:g.N < 2^n
 lO:g.O < 2^n
 b0:∀ i,i < n->g.N.testBit i=(t i==0)
 b1:∀ i,i < n->g.O.testBit i=(t i==1)
theorem aJD{f:Ft}(hd:f.N &&& f.O=0)(k:Nat):(ntN (cZ f k)==0)=f.O.testBit k:=by
 rw[<- gC hd k];have:=tK f k
 revert this
 generalize cZ f k=x;intro h;have:x=0\/x=1\/x=2:=by omega
 rcases this with rfl | rfl | rfl<;>rfl
theorem aJn{f:Ft}(hd:f.N &&& f.O=0)(k:Nat):(ntN (cZ f k)==1)=f.N.testBit k:=by
 rw[<- gF hd k];have:=tK f k
 revert this
 generalize cZ f k=x;intro h;have:x=0\/x=1\/x=2:=by omega
 rcases this with rfl | rfl | rfl<;>rfl
theorem aRb{f:Ft}{w:Nat}(hf:FtOk f w)(hd:f.N &&& f.O=0):Mk (λ i=>ntN (cZ f i)) w ⟨f.O,f.N,f.A⟩:=
 ⟨hf.lO,hf.lN,λ i _=>(aJD hd i).symm,λ i _=>(aJn hd i).symm⟩
theorem sZ(w:Nat):2^w - 1 < 2^w:=by have:=xAf w;omega
theorem wY(n k i:Nat):(n*2^k).testBit i=(decide (k<=i)&&n.testBit (i - k)):=by
 have:=aEj (x:=0) (k:=k) (q:=n) (xAf k) i;rw[Nat.zero_add] at this;rw[this]
 by_cases c:i < k
 ·rw[if_pos c,dqF (by omega),Nat.zero_testBit,Bool.false_and]
 ·rw[if_neg c,dqT (by omega),Bool.true_and]
theorem aGx{f:Ft}{w:Nat}(k:Nat)(hd:f.N &&& f.O=0):Mk (zT f k) w (tY w f k):=by
 refine⟨xAj Nat.and_le_right (sZ w),xAj Nat.and_le_right (sZ w),λ i hi=>?_,λ i hi=>?_⟩
 ·show((f.N*2^k ||| (2^k - 1)) &&& (2^w - 1)).testBit i=_
  rw[Nat.testBit_and,xAp,eE,eE,wY,dqT hi,Bool.and_true];unfold zT
  by_cases c:i < k
  ·rw[if_pos c,dqT c,Bool.or_true];rfl
  ·rw[if_neg c,dqF c,Bool.or_false,dqT (by omega),Bool.true_and,gF hd]
 ·show(f.O*2^k &&& (2^w - 1)).testBit i=_;rw[Nat.testBit_and,eE,wY,dqT hi,Bool.and_true];unfold zT
  by_cases c:i < k
  ·rw[if_pos c,dqF (by omega),Bool.false_and];rfl
  ·rw[if_neg c,dqT (by omega),Bool.true_and,gC hd]
theorem aB4(a w:Nat):dA a w < 2^w:=by
 apply Nat.lt_pow_two_of_testBit;intro i hi;rw[mM,dqF (show ¬ i < w by omega),Bool.and_false]
theorem aER{n k w:Nat}(h:n < 2^w):n / 2^k < 2^w:=xAj (Nat.div_le_self _ _) h
theorem aF2{f:Ft}{w:Nat}(k:Nat)(hf:FtOk f w)(hd:f.N &&& f.O=0):Mk (yV f w k) w (lP w f k):=by
 refine⟨Nat.or_lt_two_pow (aER hf.lN) (aB4 _ _),aER hf.lO,λ i hi=>?_,λ i hi=>?_⟩
 ·show(f.N / 2^k ||| dA (min k w) w).testBit i=_
  rw[xAp,kI,mM,dqT hi,Bool.and_true];unfold yV
  by_cases c:i+k < w
  ·rw[if_pos c,dqF (by omega),Bool.or_false,gF hd,Nat.add_comm]
  ·rw[if_neg c,dqT (by omega),Bool.or_true];rfl
 ·show(f.O / 2^k).testBit i=_;rw[kI];unfold yV
  by_cases c:i+k < w
  ·rw[if_pos c,gC hd,Nat.add_comm]
  ·rw[if_neg c,dD hf.lO (by omega)];rfl
theorem qE{n w v:Nat}(h:n < 2^w)(hw:0 < w)(hv:w<=v){i:Nat}(hi:i < v):(dX n w v).testBit i=n.testBit (min i (w - 1)):=by
 rw[aD0 h hw hv]
 by_cases c:i < w
 ·rw[if_pos c,Nat.min_eq_left (by omega)]
 ·rw[if_neg c,dqT hi,Bool.true_and,Nat.min_eq_right (by omega)]
theorem aFP{f:Ft}{w:Nat}(k:Nat)(hw:1<=w)(hf:FtOk f w)(hd:f.N &&& f.O=0):Mk (λ i=>aJJ f w (i+k)) w (tU w f k):=by
 have hl:∀ n,n < 2^w->dX n w (w+k) / 2^k < 2^w:=λ n hn=>by
  rw[Nat.div_lt_iff_lt_mul (xAf k),<- Nat.pow_add];exact sC hn hw (by omega)
 refine⟨hl _ hf.lN,hl _ hf.lO,λ i hi=>?_,λ i hi=>?_⟩
 ·show(dX f.N w (w+k) / 2^k).testBit i=(cZ f (min (i+k) (w - 1))==0);rw[kI,qE hf.lN hw (by omega) (by omega),gF hd,Nat.add_comm]
 ·show(dX f.O w (w+k) / 2^k).testBit i=(cZ f (min (i+k) (w - 1))==1);rw[kI,qE hf.lO hw (by omega) (by omega),gC hd,Nat.add_comm]
theorem aHr{f:Ft}(v w:Nat)(hd:f.N &&& f.O=0):Mk (cZ f) w (vG v w f):=by
 refine⟨xAj Nat.and_le_right (sZ w),xAj Nat.and_le_right (sZ w),λ i hi=>?_,λ i hi=>?_⟩
 ·show(f.N &&& (2^w - 1)).testBit i=_;rw[Nat.testBit_and,eE,dqT hi,Bool.and_true,gF hd]
 ·show(f.O &&& (2^w - 1)).testBit i=_;rw[Nat.testBit_and,eE,dqT hi,Bool.and_true,gC hd]
theorem aGm{n v w:Nat}(h:n < 2^v)(hv:v<=w):n < 2^w:=xAc h (Nat.pow_le_pow_right (by decide) hv)
theorem aGt{f:Ft}{v w:Nat}(hv:v<=w)(hf:FtOk f v)(hd:f.N &&& f.O=0):Mk (zD f v) w (lS v w f):=by
 refine⟨Nat.or_lt_two_pow (aGm hf.lN hv) (aB4 _ _),aGm hf.lO hv,λ i hi=>?_,λ i hi=>?_⟩
 ·show(f.N ||| dA (w - v) w).testBit i=_
  rw[xAp,mM,dqT hi,Bool.and_true];unfold zD
  by_cases c:i < v
  ·rw[if_pos c,dqF (by omega),Bool.or_false,gF hd]
  ·rw[if_neg c,dqT (by omega),Bool.or_true];rfl
 ·show f.O.testBit i=_;unfold zD
  by_cases c:i < v
  ·rw[if_pos c,gC hd]
  ·rw[if_neg c,dD hf.lO (by omega)];rfl
theorem aGl{f:Ft}{v w:Nat}(h1:1<=v)(hv:v<=w)(hf:FtOk f v)(hd:f.N &&& f.O=0):Mk (aJJ f v) w (uD v w f):=by
 refine⟨sC hf.lN h1 hv,sC hf.lO h1 hv,λ i hi=>?_,λ i hi=>?_⟩
 ·show(dX f.N v w).testBit i=(cZ f (min i (v - 1))==0);rw[qE hf.lN h1 hv hi,gF hd]
 ·show(dX f.O v w).testBit i=(cZ f (min i (v - 1))==1);rw[qE hf.lO h1 hv hi,gC hd]
noncomputable def btN(b:Nat)(x y:Nat):Nat:=match b with
 | 0=>if x=0\/y=0 then 0 else if x < 2/\y < 2 then x*y else 2
 | 1=>if x=1\/y=1 then 1 else if x < 2/\y < 2 then x+y else 2
 | _=>if x < 2/\y < 2 then (if x=y then 0 else 1) else 2
theorem iX(f:Ft)(k:Nat):cZ f k=0\/cZ f k=1\/cZ f k=2:=by
 have:=tK f k;omega
noncomputable def rR(b:Nat)(f g:Ft):Ft:=match b with
 | 0=>⟨f.N ||| g.N,f.O &&& g.O,min f.A g.A⟩
 | 1=>⟨f.N &&& g.N,f.O ||| g.O,min f.A g.A⟩
 | _=>⟨f.N &&& g.N ||| f.O &&& g.O,f.N &&& g.O ||| f.O &&& g.N,min f.A g.A⟩
theorem aIG(b:Nat)(hb:b=0\/b=1\/b=2){f g:Ft}{w:Nat}(hf:FtOk f w)(hd:f.N &&& f.O=0)(hg:FtOk g w)(he:g.N &&& g.O=0):Mk (λ i=>btN b (cZ f i) (cZ g i)) w (rR b f g):=by
 have an:∀ {x y:Nat},x < 2^w->x &&& y < 2^w:=λ h=>xAj Nat.and_le_left h
 rcases hb with rfl | rfl | rfl
 ·refine⟨Nat.or_lt_two_pow hf.lN hg.lN,an hf.lO,λ i _=>?_,λ i _=>?_⟩
  ·show(f.N ||| g.N).testBit i=_
   rw[xAp,<- gF hd,<- gF he];rcases iX f i with h | h | h<;>rcases iX g i with h' | h' | h'<;>rw[h,h']<;>rfl
  ·show(f.O &&& g.O).testBit i=_;rw[Nat.testBit_and,<- gC hd,<- gC he];rcases iX f i with h | h | h<;>rcases iX g i with h' | h' | h'<;>rw[h,h']<;>rfl
 ·refine⟨an hf.lN,Nat.or_lt_two_pow hf.lO hg.lO,λ i _=>?_,λ i _=>?_⟩
  ·show(f.N &&& g.N).testBit i=_;rw[Nat.testBit_and,<- gF hd,<- gF he];rcases iX f i with h | h | h<;>rcases iX g i with h' | h' | h'<;>rw[h,h']<;>rfl
  ·show(f.O ||| g.O).testBit i=_
   rw[xAp,<- gC hd,<- gC he];rcases iX f i with h | h | h<;>rcases iX g i with h' | h' | h'<;>rw[h,h']<;>rfl
 ·refine⟨Nat.or_lt_two_pow (an hf.lN) (an hf.lO),Nat.or_lt_two_pow (an hf.lN) (an hf.lO),λ i _=>?_,λ i _=>?_⟩
  ·show(f.N &&& g.N ||| f.O &&& g.O).testBit i=_
   rw[xAp,Nat.testBit_and,Nat.testBit_and,<- gF hd,<- gF he,<- gC hd,<- gC he];rcases iX f i with h | h | h<;>rcases iX g i with h' | h' | h'<;>rw[h,h']<;>rfl
  ·show(f.N &&& g.O ||| f.O &&& g.N).testBit i=_
   rw[xAp,Nat.testBit_and,Nat.testBit_and,<- gF hd,<- gF he,<- gC hd,<- gC he];rcases iX f i with h | h | h<;>rcases iX g i with h' | h' | h'<;>rw[h,h']<;>rfl
noncomputable def rs(x:Int)(w:Nat):Nat:=(x%((2^w:Nat):Int)).toNat
theorem mV(x:Int)(w:Nat):((rs x w:Nat):Int)=x%((2^w:Nat):Int):=by
 unfold rs;have:(0:Int) < ((2^w:Nat):Int):=by have:=xAf w;omega
 have:=Int.emod_nonneg x (b:=((2^w:Nat):Int)) (by omega)
 omega
theorem mZ(x:Int)(w:Nat):rs x w < 2^w:=by
 have h:=mV x w;have:(0:Int) < ((2^w:Nat):Int):=by have:=xAf w;omega
 have:=Int.emod_lt_of_pos x this;omega
theorem aR7{x:Int}{w:Nat}(h0:0<=x)(h1:x < ((2^w:Nat):Int)):((rs x w:Nat):Int)=x:=by
 rw[mV,Int.emod_eq_of_lt h0 h1]
theorem aRx(x:Int){w L:Nat}(h:L<=w):rs x w%2^L=rs x L:=by
 have e:((rs x w%2^L:Nat):Int)=((rs x L:Nat):Int):=by
  rw[Int.natCast_emod,mV,mV];exact Int.emod_emod_of_dvd x (by
   have:(2:Nat)^L ∣ 2^w:=Nat.pow_dvd_pow 2 h;exact Int.natCast_dvd_natCast.mpr this)
 omega
theorem aPf(x:Int){w L i:Nat}(h:L<=w)(hi:i < L):(rs x w).testBit i=(rs x L).testBit i:=by
 rw[<- aRx x h,Nat.testBit_mod_two_pow,dqT hi,Bool.true_and]
theorem xT{n i:Nat}(h:i < lr n):n.testBit i=true:=by
 rw[aNK] at h;have h1:=aFJ _ i h;have h2:(nH n (bl n+1)).getD i false=true:=by rw[xAh,h1];rfl
 rw[aLB,Bool.and_eq_true] at h2;exact h2.2
theorem aS5{n w:Nat}(h:n < 2^w):lr n<=w:=by
 by_cases c:lr n<=w
 ·exact c
 ·have:=xT (n:=n) (i:=w) (by omega)
  rw[dD h (Nat.le_refl _)] at this;cases this
theorem aBN{x y:Nat}(h:∀ i,x.testBit i=true->y.testBit i=true):x<=y:=by
 have:y &&& x=x:=by
  rw[aEZ];exact h
 rw[<- this];exact Nat.and_le_left
theorem aH2{x y w:Nat}(hx:x < 2^w)(hy:y < 2^w)(h:∀ i,x.testBit i=true->y.testBit i=false):y<=2^w - 1 - x:=by
 refine aBN (y:=pL x w) λ i hi=>?_
 have hiw:i < w:=by
  by_cases c:i < w
  ·exact c
  ·rw[dD hy (by omega)] at hi
   cases hi
 rw[qD hx,dqT hiw,Bool.true_and];cases q:x.testBit i with
 | false=>rfl
 | true=>rw[h i q] at hi;cases hi
theorem zL{f:Ft}{n w:Nat}(h:Hd f n w):f.O<=n:=aBN h.2.1
theorem zU{f:Ft}{n w:Nat}(k:FtOk f w)(hn:n < 2^w)(h:Hd f n w):n<=2^w - 1 - f.N:=aH2 k.lN hn h.1
theorem aH4{f:Ft}{n w L:Nat}(h:Hd f n w)(hk:∀ i,i < L->(f.N ||| f.O).testBit i=true):n%2^L=f.O%2^L:=by
 apply xAm;intro i;rw[Nat.testBit_mod_two_pow,Nat.testBit_mod_two_pow]
 by_cases c:i < L
 ·rw[dqT c,Bool.true_and,Bool.true_and];have q:=hk i c;rw[xAp] at q;cases o:f.O.testBit i with
  | true=>exact h.2.1 i o
  | false =>
    rw[o,Bool.or_false] at q;exact h.1 i q
 ·rw[dqF c,Bool.false_and,Bool.false_and]
inductive Sw where | add | sub | mul
noncomputable def Sw.oc:Sw->Int->Int->Int
 | .add,a,b=>a+b
 | .sub,a,b=>a - b
 | .mul,a,b=>a*b
theorem aEC{a b:Nat}{L:Nat}(h:a%2^L=b%2^L):((a:Nat):Int)%((2^L:Nat):Int)=((b:Nat):Int)%((2^L:Nat):Int):=by
 rw[<- Int.natCast_emod,<- Int.natCast_emod,h]
theorem aQ4(s:Sw){a b c e:Nat}{L:Nat}(h1:a%2^L=c%2^L)(h2:b%2^L=e%2^L):rs (s.oc a b) L=rs (s.oc c e) L:=by
 have g1:=aEC h1;have g2:=aEC h2;have:s.oc a b%((2^L:Nat):Int)=s.oc c e%((2^L:Nat):Int):=by
  cases s with
  | add=>show((a:Nat)+(b:Nat):Int)%_=((c:Nat)+(e:Nat):Int)%_;rw[Int.add_emod,g1,g2,<- Int.add_emod]
  | sub=>show((a:Nat) - (b:Nat):Int)%_=((c:Nat) - (e:Nat):Int)%_;rw[Int.sub_emod,g1,g2,<- Int.sub_emod]
  | mul=>show((a:Nat)*(b:Nat):Int)%_=((c:Nat)*(e:Nat):Int)%_;rw[Int.mul_emod,g1,g2,<- Int.mul_emod]
 unfold rs;rw[this]
noncomputable def fU(f g:Ft):Nat:=lr ((f.N ||| f.O) &&& (g.N ||| g.O))
theorem aBG{f g:Ft}{w:Nat}(k:FtOk f w):fU f g<=w:=aS5 (xAj Nat.and_le_left (Nat.or_lt_two_pow k.lN k.lO))
noncomputable def jT(s:Sw)(f g:Ft):Nat:=rs (s.oc (f.O:Nat) (g.O:Nat)) (fU f g)
noncomputable def qY(s:Sw)(f g:Ft):Nat:=(2^fU f g - 1) ^^^ jT s f g
theorem aFE(s:Sw){f g:Ft}{a b w:Nat}(k:FtOk f w)(h1:Hd f a w)(h2:Hd g b w){i:Nat}(hi:i < fU f g):(rs (s.oc (a:Nat) (b:Nat)) w).testBit i=(jT s f g).testBit i:=by
 have hk:∀ i,i < fU f g->(f.N ||| f.O).testBit i=true/\(g.N ||| g.O).testBit i=true:=λ i hi=>by
  have:=xT hi;rw[Nat.testBit_and,Bool.and_eq_true] at this;exact this
 rw[aPf _ (aBG k) hi,aQ4 s (aH4 h1 λ i hi=>(hk i hi).1) (aH4 h2 λ i hi=>(hk i hi).2)]
 rfl
theorem aMs{s:Sw}{f g:Ft}{i:Nat}(h:(jT s f g).testBit i=true):i < fU f g:=by
 by_cases c:i < fU f g
 ·exact c
 ·have hl:jT s f g < 2^fU f g:=mZ _ _;rw[dD hl (by omega)] at h
  cases h
theorem aM5{s:Sw}{f g:Ft}{i:Nat}(h:(qY s f g).testBit i=true):i < fU f g/\(jT s f g).testBit i=false:=by
 unfold qY at h;rw[Nat.testBit_xor,eE] at h;have hl:jT s f g < 2^fU f g:=mZ _ _
 by_cases c:i < fU f g
 ·rw[dqT c] at h;refine⟨c,?_⟩;cases q:(jT s f g).testBit i with
  | false=>rfl
  | true=>rw[q] at h;cases h
 ·rw[dqF c,dD hl (by omega)] at h
  cases h
noncomputable def fY(s:Sw)(w:Nat)(f g:Ft):Int:=match s with
 | .sub=>(f.O:Nat) - ((2^w - 1 - g.N:Nat):Int)
 | s=>s.oc (f.O:Nat) (g.O:Nat)
noncomputable def fW(s:Sw)(w:Nat)(f g:Ft):Int:=match s with
 | .sub=>((2^w - 1 - f.N:Nat):Int) - (g.O:Nat)
 | s=>s.oc ((2^w - 1 - f.N:Nat):Int) ((2^w - 1 - g.N:Nat):Int)
theorem aIY(s:Sw){f g:Ft}{a b w:Nat}(kf:FtOk f w)(kg:FtOk g w)(ha:a < 2^w)(hb:b < 2^w)(h1:Hd f a w)(h2:Hd g b w):fY s w f g<=s.oc (a:Nat) (b:Nat)/\s.oc (a:Nat) (b:Nat)<=fW s w f g:=by
 have l1:=zL h1;have l2:=zL h2;have m1:=zU kf ha h1;have m2:=zU kg hb h2;cases s with
 | add =>
   show((f.O:Nat)+(g.O:Nat):Int)<=(a:Nat)+(b:Nat)/\((a:Nat)+(b:Nat):Int)<=((2^w - 1 - f.N:Nat):Int)+((2^w - 1 - g.N:Nat):Int);generalize 2^w - 1 - f.N=F at *;generalize 2^w - 1 - g.N=G at *;omega
 | sub =>
   show((f.O:Nat) - ((2^w - 1 - g.N:Nat):Int))<=(a:Nat) - (b:Nat)/\((a:Nat) - (b:Nat):Int)<=((2^w - 1 - f.N:Nat):Int) - (g.O:Nat);generalize 2^w - 1 - f.N=F at *;generalize 2^w - 1 - g.N=G at *;omega
 | mul =>
   show((f.O:Nat)*(g.O:Nat):Int)<=(a:Nat)*(b:Nat)/\((a:Nat)*(b:Nat):Int)<=((2^w - 1 - f.N:Nat):Int)*((2^w - 1 - g.N:Nat):Int);rw[<- Int.natCast_mul,<- Int.natCast_mul,<- Int.natCast_mul];exact⟨Int.ofNat_le.mpr (Nat.mul_le_mul l1 l2),Int.ofNat_le.mpr (Nat.mul_le_mul m1 m2)⟩
noncomputable def pI(s:Sw)(w:Nat)(f g:Ft):Nat:=if fY s w f g < 0\/fW s w f g > ((2^w - 1:Nat):Int) then 0 else sP (fY s w f g).toNat (fW s w f g).toNat w
noncomputable def pJ(s:Sw)(w:Nat)(f g:Ft):Nat:=if fY s w f g < 0\/fW s w f g > ((2^w - 1:Nat):Int) then 0 else nG (fY s w f g).toNat (fW s w f g).toNat w
theorem aMQ{l g w:Nat}(hl:l < 2^w)(hg:g < 2^w):tQ l g w < 2^w:=by
 apply Nat.lt_pow_two_of_testBit;intro i hi;rw[aA5 hl hg,dqF (by omega),Bool.false_and]
theorem aFq(s:Sw){f g:Ft}{a b w:Nat}(kf:FtOk f w)(kg:FtOk g w)(ha:a < 2^w)(hb:b < 2^w)(h1:Hd f a w)(h2:Hd g b w) :
 (∀ i,(pI s w f g).testBit i=true->(rs (s.oc (a:Nat) (b:Nat)) w).testBit i=false)/\(∀ i,(pJ s w f g).testBit i=true->(rs (s.oc (a:Nat) (b:Nat)) w).testBit i=true)/\pI s w f g < 2^w/\pJ s w f g < 2^w:=by
 have hb':=aIY s kf kg ha hb h1 h2;have hp:=xAf w;unfold pI pJ
 by_cases c:fY s w f g < 0\/fW s w f g > ((2^w - 1:Nat):Int)
 ·rw[if_pos c,if_pos c];refine⟨λ i hi=>?_,λ i hi=>?_,hp,hp⟩
  ·rw[Nat.zero_testBit] at hi;cases hi
  ·rw[Nat.zero_testBit] at hi;cases hi
 ·rw[if_neg c,if_neg c];have e:=aR7 (x:=s.oc (a:Nat) (b:Nat)) (w:=w) (by omega) (by omega)
  have q1:(fY s w f g).toNat<=rs (s.oc (a:Nat) (b:Nat)) w:=by omega
  have q2:rs (s.oc (a:Nat) (b:Nat)) w<=(fW s w f g).toNat:=by omega
  have q3:(fY s w f g).toNat < 2^w:=by omega
  have q4:(fW s w f g).toNat < 2^w:=by omega
  have n1:=aKc q3 q4 q1 q2;have n2:=aKF q3 q4 q1 q2;rw[aMe] at n1;rw[aEZ] at n2;have kl:=aMQ q3 q4;exact⟨n1,n2,Nat.xor_lt_two_pow kl (xAj Nat.and_le_left kl),xAj Nat.and_le_left kl⟩
noncomputable def pN(s:Sw)(w:Nat)(f g:Ft):Nat:=match s with
 | .mul=>2^min w (lr f.N+lr g.N) - 1
 | _=>0
theorem aGZ{n L:Nat}(h:∀ i,i < L->n.testBit i=false):2^L ∣ n:=by
 have:n%2^L=0:=by
  rw[kD];intro i;rw[Nat.testBit_mod_two_pow]
  by_cases c:i < L
  ·rw[h i c,Bool.and_false]
  ·rw[dqF c,Bool.false_and]
 exact Nat.dvd_of_mod_eq_zero this
theorem aNE(s:Sw){f g:Ft}{a b w:Nat}(h1:Hd f a w)(h2:Hd g b w):∀ i,(pN s w f g).testBit i=true->(rs (s.oc (a:Nat) (b:Nat)) w).testBit i=false:=by
 intro i hi;cases s with
 | add=>rw[show pN .add w f g=0 from rfl,Nat.zero_testBit] at hi;cases hi
 | sub=>rw[show pN .sub w f g=0 from rfl,Nat.zero_testBit] at hi;cases hi
 | mul =>
   have hi':(2^min w (lr f.N+lr g.N) - 1).testBit i=true:=hi;rw[eE,decide_eq_true_eq] at hi';obtain⟨c,hc⟩:=aGZ (L:=lr f.N) (n:=a) λ i hi=>h1.1 i (xT hi)
   obtain⟨e,he⟩:=aGZ (L:=lr g.N) (n:=b) λ i hi=>h2.1 i (xT hi)
   have ex:rs (Sw.mul.oc (a:Nat) (b:Nat)) w=a*b%2^w:=by
    have:=mV (Sw.mul.oc (a:Nat) (b:Nat)) w;have e2:Sw.mul.oc (a:Nat) (b:Nat)=((a*b:Nat):Int):=(Int.natCast_mul a b).symm;rw[e2,<- Int.natCast_emod] at this;rw[e2];omega
   rw[ex,Nat.testBit_mod_two_pow,dqT (by omega),Bool.true_and]
   have:a*b=c*e*2^(lr f.N+lr g.N):=by
    rw[hc,he,Nat.pow_add];simp only[Nat.mul_comm,Nat.mul_left_comm,Nat.mul_assoc]
   rw[this,wY,dqF (by omega),Bool.false_and]
theorem aCl{n w a:Nat}(hn:n < 2^w)(ha:a<=w):((∀ i,w - a<=i->i < w->n.testBit i=true)\/(∀ i,w - a<=i->i < w->n.testBit i=false)) ↔ 2^w - 2^(w - a)<=n\/n < 2^(w - a):=by
 have hp:=xAf (w - a);have e1:(2:Nat)^w=2^a*2^(w - a):=by rw[<- Nat.pow_add,show a+(w - a)=w by omega]
 have hpa:=xAf a;rw[<- aNd hn ha,<- aMR hn ha];have q0:n / 2^(w - a)=0 ↔ n < 2^(w - a):=by
  rw[Nat.div_eq_zero_iff];omega
 have q1:n / 2^(w - a)=2^a - 1 ↔ 2^w - 2^(w - a)<=n:=by
  have es:(2^a - 1)*2^(w - a)=2^w - 2^(w - a):=by rw[Nat.sub_mul,Nat.one_mul,<- e1]
  constructor
  ·intro h;have:=Nat.div_mul_le_self n (2^(w - a));rw[h,es] at this;exact this
  ·intro h;have g1:2^a - 1<=n / 2^(w - a):=by
    rw[Nat.le_div_iff_mul_le hp,es];exact h
   have g2:n / 2^(w - a) < 2^a:=by
    rw[Nat.div_lt_iff_lt_mul hp,<- e1];exact hn
   omega
 rw[q0,q1]
noncomputable def jW(s:Sw)(f g:Ft):Nat:=match s with
 | .mul=>1
 | _=>max 1 (min f.A g.A - 1)
theorem qB{n w a m:Nat}(ha:m<=a)(h:(∀ i,w - a<=i->i < w->n.testBit i=true)\/(∀ i,w - a<=i->i < w->n.testBit i=false)):(∀ i,w - m<=i->i < w->n.testBit i=true)\/(∀ i,w - m<=i->i < w->n.testBit i=false):=by
 rcases h with h | h
 ·exact .inl λ i a b=>h i (by omega) b
 ·exact .inr λ i a b=>h i (by omega) b
theorem kM(n w:Nat):(∀ i,w - 1<=i->i < w->n.testBit i=true)\/(∀ i,w - 1<=i->i < w->n.testBit i=false):=by
 cases c:n.testBit (w - 1) with
 | true=>exact .inl λ i h1 h2=>by rw[show i=w - 1 by omega];exact c
 | false=>exact .inr λ i h1 h2=>by rw[show i=w - 1 by omega];exact c
theorem aHc{a T W:Nat}(ha:a < W)(h:W - T<=a\/a < T)(hT:T<=W):∃ x k:Int,((a:Nat):Int)=x+k*((W:Nat):Int) /\ -((T:Nat):Int)<=x/\x < ((T:Nat):Int):=by
 rcases h with h | h
 ·exact⟨(a:Int) - W,1,by omega,by omega,by omega⟩
 ·exact⟨(a:Int),0,by omega,by omega,by omega⟩
theorem aNZ{x W T r k:Int}(h:r=x+k*W)(h1 : -(2*T)<=x)(h2:x < 2*T)(hT:2*T<=W)(r0:0<=r)(rW:r < W):W - 2*T<=r\/r < 2*T:=by
 rcases (show k <= -1\/k=0\/k=1\/2<=k by omega) with c | rfl | rfl | c
 ·have:k*W<=(-1)*W:=Int.mul_le_mul_of_nonneg_right c (by omega)
  omega
 ·exact .inr (by omega)
 ·exact .inl (by omega)
 ·have:2*W<=k*W:=Int.mul_le_mul_of_nonneg_right c (by omega)
  omega
theorem aRi{x y k l W z:Int}:(x+k*W+(y+l*W)) - W*z=x+y+(k+l - z)*W:=by
 rw[Int.sub_mul,Int.add_mul,Int.mul_comm W z];omega
theorem aRc{x y k l W z:Int}:(x+k*W - (y+l*W)) - W*z=x - y+(k - l - z)*W:=by
 rw[Int.sub_mul,Int.sub_mul,Int.mul_comm W z];omega
theorem aU3{s:Sw}{f g:Ft}(c:jW s f g≠1):(jW s f g=min f.A g.A - 1/\2<=min f.A g.A - 1)/\s≠.mul:=by
 cases s with
 | mul=>exact absurd rfl c
 | add =>
   have e:jW .add f g=max 1 (min f.A g.A - 1):=rfl;exact⟨by omega,λ h=>nomatch h⟩
 | sub =>
   have e:jW .sub f g=max 1 (min f.A g.A - 1):=rfl;exact⟨by omega,λ h=>nomatch h⟩
theorem aOj(s:Sw){f g:Ft}{a b w:Nat}(kf:FtOk f w)(kg:FtOk g w)(ha:a < 2^w)(hb:b < 2^w)(h1:Hd f a w)(h2:Hd g b w) :
 (∀ i,w - jW s f g<=i->i < w->(rs (s.oc (a:Nat) (b:Nat)) w).testBit i=true)\/(∀ i,w - jW s f g<=i->i < w->(rs (s.oc (a:Nat) (b:Nat)) w).testBit i=false):=by
 by_cases c:jW s f g=1
 ·rw[c];exact kM _ _
 ·have hw:=kf.aw;obtain⟨⟨hA,hm⟩,hs⟩:=aU3 c;have g1:min f.A g.A<=f.A:=Nat.min_le_left ..;have g2:min f.A g.A<=g.A:=Nat.min_le_right ..;rw[hA];generalize min f.A g.A=m at *;have hmw:m<=w:=xAi g1 hw;rw[aCl (mZ _ _) (xAi (Nat.sub_le m 1) hmw)];have a1:=(aCl ha hmw).mp (qB g1 h1.2.2);have a2:=(aCl hb hmw).mp (qB g2 h2.2.2);have e:(2:Nat)^(w - (m - 1))=2*2^(w - m):=by
   rw[show w - (m - 1)=w - m+1 by omega,Nat.pow_succ,Nat.mul_comm]
  have hT:2*2^(w - m)<=2^w:=by
   rw[<- e];exact Nat.pow_le_pow_right (by decide) (Nat.sub_le ..)
  rw[e];have hT1:2^(w - m)<=2^w:=Nat.pow_le_pow_right (by decide) (Nat.sub_le ..)
  obtain⟨x,k,e1,x1,x2⟩:=aHc ha a1 hT1;obtain⟨y,l,e2,y1,y2⟩:=aHc hb a2 hT1;have hr:=mV (s.oc (a:Nat) (b:Nat)) w;have hl:=mZ (s.oc (a:Nat) (b:Nat)) w;rw[Int.emod_def] at hr;generalize rs (s.oc (a:Nat) (b:Nat)) w=r at *;generalize s.oc (a:Nat) (b:Nat) / ((2^w:Nat):Int)=z at *;generalize (2:Nat)^w=W at *;generalize (2:Nat)^(w - m)=T at *;clear a1 a2 h1 h2 e g1 g2 hmw hw hm hA c;have bK:∀ {x k:Int},((r:Nat):Int)=x+k*((W:Nat):Int) -> -(2*((T:Nat):Int))<=x->x < 2*((T:Nat):Int)->W - 2*T<=r\/r < 2*T:=λ q1 q2 q3=>by
   rcases aNZ q1 q2 q3 (by omega) (by omega) (by omega) with q | q
   ·exact .inl (by omega)
   ·exact .inr (by omega)
  cases s with
  | mul=>exact absurd rfl hs
  | add =>
    have hk:((r:Nat):Int)=((a:Nat):Int)+((b:Nat):Int) - ((W:Nat):Int)*z:=hr;rw[e1,e2,aRi] at hk;exact bK hk (by omega) (by omega)
  | sub =>
    have hk:((r:Nat):Int)=((a:Nat):Int) - ((b:Nat):Int) - ((W:Nat):Int)*z:=hr;rw[e1,e2,aRc] at hk;exact bK hk (by omega) (by omega)
noncomputable def vE(s:Sw)(w:Nat)(f g:Ft):Ft:=⟨qY s f g ||| pI s w f g ||| pN s w f g,jT s f g ||| pJ s w f g,jW s f g⟩
theorem aMB(s:Sw){f g:Ft}{a b w:Nat}(kf:FtOk f w)(kg:FtOk g w)(ha:a < 2^w)(hb:b < 2^w)(h1:Hd f a w)(h2:Hd g b w):Hd (vE s w f g) (rs (s.oc (a:Nat) (b:Nat)) w) w:=by
 obtain⟨t1,t2,_,_⟩:=aFq s kf kg ha hb h1 h2;refine⟨λ i hi=>?_,λ i hi=>?_,aOj s kf kg ha hb h1 h2⟩
 ·have hi':(qY s f g ||| pI s w f g ||| pN s w f g).testBit i=true:=hi
  rw[xAp,xAp,Bool.or_eq_true,Bool.or_eq_true] at hi';rcases hi' with (q | q) | q
  ·obtain⟨q1,q2⟩:=aM5 q;rw[aFE s kf h1 h2 q1,q2]
  ·exact t1 i q
  ·exact aNE s h1 h2 i q
 ·have hi':(jT s f g ||| pJ s w f g).testBit i=true:=hi
  rw[xAp,Bool.or_eq_true] at hi';rcases hi' with q | q
  ·rw[aFE s kf h1 h2 (aMs q),q]
  ·exact t2 i q
theorem aBi{n v w:Nat}(h:n < 2^v)(hv:v<=w):n < 2^w:=xAc h (Nat.pow_le_pow_right (by decide) hv)
theorem aQV(s:Sw){f g:Ft}{a b w:Nat}(kf:FtOk f w)(kg:FtOk g w)(ha:a < 2^w)(hb:b < 2^w)(h1:Hd f a w)(h2:Hd g b w):FtOk (vE s w f g) w:=by
 obtain⟨_,_,t3,t4⟩:=aFq s kf kg ha hb h1 h2;have hL:=aBG (g:=g) kf;have hO:jT s f g < 2^fU f g:=mZ _ _;have hN:qY s f g < 2^fU f g:=Nat.xor_lt_two_pow (by have:=xAf (fU f g);omega) hO
 have hl:pN s w f g < 2^w:=by
  have:=xAf w;cases s with
  | add=>exact this
  | sub=>exact this
  | mul=>exact aBi (v:=min w (lr f.N+lr g.N)) (by show 2^min w (lr f.N+lr g.N) - 1 < _;have:=xAf (min w (lr f.N+lr g.N));omega) (by omega)
 have q1:=kf.aw;have q2:=kf.a1;refine⟨Nat.or_lt_two_pow (Nat.or_lt_two_pow (aBi hN hL) t3) hl,Nat.or_lt_two_pow (aBi hO hL) t4,?_,?_⟩
 ·show 1<=jW s f g;cases s with
  | mul=>exact Nat.le_refl 1
  | add=>show 1<=max 1 (min f.A g.A - 1);omega
  | sub=>show 1<=max 1 (min f.A g.A - 1);omega
 ·show jW s f g<=w;cases s with
  | mul=>show 1<=w;omega
  | add=>show max 1 (min f.A g.A - 1)<=w;omega
  | sub=>show max 1 (min f.A g.A - 1)<=w;omega
noncomputable def F1:Ft:=⟨0,1,1⟩
noncomputable def F0:Ft:=⟨1,0,1⟩
noncomputable def jD:Ft:=⟨0,0,1⟩
noncomputable def l3(a b c e:Int):Ft:=if b < c then F1 else if e<=a then F0 else jD
theorem aI8(a b c e:Int):l3 a b c e=F1\/l3 a b c e=F0\/l3 a b c e=jD:=by
 unfold l3
 split
 ·exact .inl rfl
 ·split
  ·exact .inr (.inl rfl)
  ·exact .inr (.inr rfl)
theorem xS{r k:Nat}(h:r < 2^k):r ^^^ 2^k=r+2^k:=by
 apply xAm;intro i;have e:r+2^k=r+1*2^k:=by omega
 rw[e,aEj h,Nat.testBit_xor,Nat.testBit_two_pow]
 by_cases c:i < k
 ·rw[if_pos c,dqF (by omega),Bool.xor_false]
 ·rw[if_neg c,dD h (by omega),Bool.false_xor]
  by_cases c2:k=i
  ·subst c2;rw[dqT rfl,Nat.sub_self];rfl
  ·rw[dqF c2];have:1 < 2^(i - k):=Nat.one_lt_two_pow (by omega)
   rw[dD this (Nat.le_refl _)]
theorem aBs{n k:Nat}(h1:2^k<=n)(h2:n < 2^(k+1)):n ^^^ 2^k=n - 2^k:=by
 have hr:n - 2^k < 2^k:=by rw[Nat.pow_succ] at h2;omega
 have e:(n - 2^k) ^^^ 2^k=n:=by rw[xS hr];omega
 calc n ^^^ 2^k=((n - 2^k) ^^^ 2^k) ^^^ 2^k:=by rw[e]
  _=n - 2^k:=by rw[Nat.xor_assoc,Nat.xor_self,Nat.xor_zero]
theorem aH9{n w:Nat}(h:n < 2^w)(hw:0 < w):n.testBit (w - 1)=decide (2^(w - 1)<=n):=by
 have hb:=aOb h hw;have hp:=xAf (w - 1);cases c:n.testBit (w - 1) with
 | true =>
   rw[c] at hb;have:2^(w - 1)<=n:=by
    by_cases q:n < 2^(w - 1)
    ·rw[Nat.div_eq_of_lt q] at hb;exact absurd hb (by decide)
    ·omega
   rw[dqT this]
 | false =>
   rw[c] at hb;have:¬ 2^(w - 1)<=n:=λ q=>by
    have h3:=Nat.div_pos q hp;rw[hb] at h3;exact absurd h3 (by decide)
   rw[dqF this]
noncomputable def tt(f:Ft)(w:Nat):Ft:=⟨f.N ^^^ ((f.N ^^^ f.O) &&& dA 1 w),f.O ^^^ ((f.N ^^^ f.O) &&& dA 1 w),f.A⟩
theorem aFr{w i:Nat}(hw:1<=w):(dA 1 w).testBit i=decide (w - 1=i):=by
 rw[mM]
 by_cases c:w - 1=i
 ·rw[dqT c,dqT (by omega),dqT (by omega)];rfl
 ·rw[dqF c]
  by_cases c2:w - 1<=i
  ·rw[dqF (show ¬ i < w by omega),Bool.and_false]
  ·rw[dqF c2,Bool.false_and]
theorem aMq{f:Ft}{w:Nat}(k:FtOk f w)(hd:f.N &&& f.O=0)(hw:1<=w) :
 (f.N < 2^(w - 1)/\f.O < 2^(w - 1)/\(tt f w).N=f.N/\(tt f w).O=f.O)\/(f.N < 2^(w - 1)/\2^(w - 1)<=f.O/\(tt f w).N=f.N+2^(w - 1)/\(tt f w).O=f.O - 2^(w - 1))\/(2^(w - 1)<=f.N/\f.O < 2^(w - 1)/\(tt f w).N=f.N - 2^(w - 1)/\(tt f w).O=f.O+2^(w - 1)):=by
 have hN:=aH9 k.lN (show 0 < w by omega)
 have hO:=aH9 k.lO (show 0 < w by omega)
 have lN:=k.lN;have lO:=k.lO;have e:w - 1+1=w:=by omega
 have tb:∀ b:Bool,(f.N.testBit (w - 1) ^^ f.O.testBit (w - 1))=b->(f.N ^^^ f.O) &&& dA 1 w=if b=true then 2^(w - 1) else 0:=λ b hb=>by
  apply xAm;intro i;rw[Nat.testBit_and,aFr hw,Nat.testBit_xor]
  by_cases c:w - 1=i
  ·subst c;rw[hb,dqT rfl,Bool.and_true];cases b
   ·simp
   ·simp
  ·rw[dqF c,Bool.and_false];cases b
   ·simp
   ·rw[if_pos rfl,Nat.testBit_two_pow,dqF c]
 by_cases c1:2^(w - 1)<=f.N
 ·by_cases c2:2^(w - 1)<=f.O
  ·exfalso;have:=(kD _).mp hd (w - 1);rw[Nat.testBit_and,hN,hO,dqT c1,dqT c2] at this;cases this
  ·refine .inr (.inr ⟨c1,by omega,?_,?_⟩)
   ·show f.N ^^^ _=_;rw[tb true (by rw[hN,hO,dqT c1,dqF c2];rfl),if_pos rfl,aBs c1 (by rw[e];exact lN)]
   ·show f.O ^^^ _=_;rw[tb true (by rw[hN,hO,dqT c1,dqF c2];rfl),if_pos rfl,xS (by omega)]
 ·by_cases c2:2^(w - 1)<=f.O
  ·refine .inr (.inl ⟨by omega,c2,?_,?_⟩)
   ·show f.N ^^^ _=_;rw[tb true (by rw[hN,hO,dqT c2,dqF c1];rfl),if_pos rfl,xS (by omega)]
   ·show f.O ^^^ _=_;rw[tb true (by rw[hN,hO,dqT c2,dqF c1];rfl),if_pos rfl,aBs c2 (by rw[e];exact lO)]
  ·refine .inl ⟨by omega,by omega,?_,?_⟩
   ·show f.N ^^^ _=_;rw[tb false (by rw[hN,hO,dqF c2,dqF c1];rfl),if_neg (by decide),Nat.xor_zero]
   ·show f.O ^^^ _=_;rw[tb false (by rw[hN,hO,dqF c2,dqF c1];rfl),if_neg (by decide),Nat.xor_zero]
theorem aIX{f:Ft}{w:Nat}(k:FtOk f w)(hd:f.N &&& f.O=0)(hw:1<=w):(tt f w).N < 2^w:=by
 have h2:(2:Nat)^w=2^(w - 1)+2^(w - 1):=by
  have:(2:Nat)^(w - 1+1)=2^(w - 1)*2:=Nat.pow_succ ..;rw[show w - 1+1=w by omega] at this
  omega
 have lN:=k.lN;rcases aMq k hd hw with ⟨_,_,h,_⟩ | ⟨_,_,h,_⟩ | ⟨_,_,h,_⟩<;>rw[h]<;>omega
noncomputable def mF(w:Nat)(f g:Ft):Ft:=if f.N &&& g.O ||| f.O &&& g.N≠0 then F0 else if (f.N ||| f.O) &&& (g.N ||| g.O)=2^w - 1 then F1 else jD
theorem aTA(w:Nat)(f g:Ft):mF w f g=F1\/mF w f g=F0\/mF w f g=jD:=by
 unfold mF
 split
 ·exact .inr (.inl rfl)
 ·split
  ·exact .inl rfl
  ·exact .inr (.inr rfl)
noncomputable def nX(t f g:Ft):Ft:=if t.O=1 then f else if t.N=1 then g else ⟨f.N &&& g.N,f.O &&& g.O,min f.A g.A⟩
theorem aSR{t f g:Ft}{w:Nat}(hf:FtOk f w)(hg:FtOk g w):FtOk (nX t f g) w:=by
 unfold nX
 split
 ·exact hf
 ·split
  ·exact hg
  ·have h1:=hf.a1;have h2:=hg.a1;have h3:=hf.aw;exact⟨xAj Nat.and_le_left hf.lN,xAj Nat.and_le_left hf.lO,by show 1<=min f.A g.A;omega,by show min f.A g.A<=w;omega⟩
def Al(n w a:Nat):Prop:=(∀ i,w - a<=i->i < w->n.testBit i=true)\/(∀ i,w - a<=i->i < w->n.testBit i=false)
theorem nC{f:Ft}{a w:Nat}(hd:f.N &&& f.O=0)(h:Hd f a w)(j:Nat):(cZ f j=0->a.testBit j=false)/\(cZ f j=1->a.testBit j=true):=by
 refine⟨λ e=>h.1 j ?_,λ e=>h.2.1 j ?_⟩
 ·rw[<- gF hd j,beq_iff_eq];exact e
 ·rw[<- gC hd j,beq_iff_eq];exact e
theorem mS{t:Nat->Nat}{n:Nat}{g:Ft}{z:Nat}(m:Mk t n g)(hz:∀ i,i < n->(t i=0->z.testBit i=false)/\(t i=1->z.testBit i=true))(ha:Al z n g.A):Hd g z n:=by
 have hl:∀ {x:Nat},x < 2^n->∀ i,x.testBit i=true->i < n:=λ {x} hx i hi=>by
  by_cases c:i < n
  ·exact c
  ·rw[dD hx (by omega)] at hi;cases hi
 refine⟨λ i hi=>?_,λ i hi=>?_,ha⟩
 ·have c:=hl m.lN i hi;rw[m.b0 i c,beq_iff_eq] at hi;exact(hz i c).1 hi
 ·have c:=hl m.lO i hi;rw[m.b1 i c,beq_iff_eq] at hi;exact(hz i c).2 hi
theorem aQG(n w:Nat):rs ((n:Nat):Int) w=n%2^w:=by
 have:=mV ((n:Nat):Int) w;rw[<- Int.natCast_emod] at this;omega
section
variable {f : Ft}{a w : Nat}(hf : FtOk f w)(hd : f.N &&& f.O = 0)(ha : a < 2 ^ w)(h : Hd f a w)
include hf hd ha h
theorem aNf:Hd ⟨f.O,f.N,f.A⟩ (2^w - 1 - a) w:=by
 refine mS (aRb hf hd) (λ i hi=>?_) ?_
 ·rw[yQ ha hi];refine⟨λ e=>?_,λ e=>?_⟩
  ·have:f.O.testBit i=true:=by rw[<- aJD hd i,beq_iff_eq];exact e
   rw[h.2.1 i this];rfl
  ·have:f.N.testBit i=true:=by rw[<- aJn hd i,beq_iff_eq];exact e
   rw[h.1 i this];rfl
 ·rcases h.2.2 with q | q
  ·exact .inr λ i h1 h2=>by rw[yQ ha h2,q i h1 h2];rfl
  ·exact .inl λ i h1 h2=>by rw[yQ ha h2,q i h1 h2];rfl
theorem aLL(k:Nat):Hd (tY w f k) (a*2^k%2^w) w:=by
 have hb:∀ i,i < w->(a*2^k%2^w).testBit i=(decide (k<=i)&&a.testBit (i - k)):=λ i hi=>by
  rw[Nat.testBit_mod_two_pow,dqT hi,Bool.true_and,wY]
 refine mS (aGx k hd) (λ i hi=>?_) ?_
 ·rw[hb i hi];unfold zT
  by_cases c:i < k
  ·rw[if_pos c,dqF (by omega),Bool.false_and]
   exact⟨λ _=>rfl,λ e=>nomatch e⟩
  ·rw[if_neg c,dqT (by omega),Bool.true_and]
   exact nC hd h (i - k)
 ·show Al _ w (max 1 (f.A - k))
  by_cases c:f.A - k<=1
  ·rw[Nat.max_eq_left c];exact kM _ _
  ·rw[Nat.max_eq_right (by omega)]
   have:=hf.aw;rcases h.2.2 with q | q
   ·exact .inl λ i h1 h2=>by rw[hb i h2,dqT (by omega),Bool.true_and];exact q _ (by omega) (by omega)
   ·exact .inr λ i h1 h2=>by rw[hb i h2,dqT (by omega),Bool.true_and];exact q _ (by omega) (by omega)
theorem aKV(k:Nat):Hd (lP w f k) (a / 2^k) w:=by
 refine mS (aF2 k hf hd) (λ i hi=>?_) ?_
 ·rw[kI];unfold yV
  by_cases c:i+k < w
  ·rw[if_pos c,Nat.add_comm k i];exact nC hd h (i+k)
  ·rw[if_neg c,dD ha (by omega)]
   exact⟨λ _=>rfl,λ e=>nomatch e⟩
 ·show Al _ w (if k=0 then f.A else 1)
  by_cases c:k=0
  ·subst c;rw[if_pos rfl,Nat.pow_zero,Nat.div_one];exact h.2.2
  ·rw[if_neg c];exact kM _ _
theorem aK1(hw:1<=w)(k:Nat):Hd (tU w f k) (dX a w (w+k) / 2^k) w:=by
 have hb:∀ i,i < w->(dX a w (w+k) / 2^k).testBit i=a.testBit (min (i+k) (w - 1)):=λ i hi=>by
  rw[kI,qE ha hw (by omega) (by omega),Nat.add_comm]
 refine mS (aFP k hw hf hd) (λ i hi=>?_) ?_
 ·rw[hb i hi];exact nC hd h _
 ·have h1:=hf.a1;show Al _ w (min w (f.A+k));rcases h.2.2 with q | q
  ·exact .inl λ i h1 h2=>by rw[hb i h2];exact q _ (by omega) (by omega)
  ·exact .inr λ i h1 h2=>by rw[hb i h2];exact q _ (by omega) (by omega)
theorem aMx{v:Nat}(hv:v<=w):Hd (vG w v f) (a%2^v) v:=by
 have hb:∀ i,i < v->(a%2^v).testBit i=a.testBit i:=λ i hi=>by rw[Nat.testBit_mod_two_pow,dqT hi,Bool.true_and]
 refine mS (aHr w v hd) (λ i hi=>?_) ?_
 ·rw[hb i hi];exact nC hd h _
 ·have h1:=hf.aw;show Al _ v (max 1 (f.A - (w - v)))
  by_cases c:f.A - (w - v)<=1
  ·rw[Nat.max_eq_left c];exact kM _ _
  ·rw[Nat.max_eq_right (by omega)]
   rcases h.2.2 with q | q
   ·exact .inl λ i h1 h2=>by rw[hb i h2];exact q _ (by omega) (by omega)
   ·exact .inr λ i h1 h2=>by rw[hb i h2];exact q _ (by omega) (by omega)
theorem aLw{v:Nat}(hv:w<=v):Hd (lS w v f) a v:=by
 refine mS (aGt hv hf hd) (λ i hi=>?_) ?_
 ·unfold zD
  by_cases c:i < w
  ·rw[if_pos c];exact nC hd h i
  ·rw[if_neg c,dD ha (by omega)]
   exact⟨λ _=>rfl,λ e=>nomatch e⟩
 ·show Al _ v (if v=w then f.A else 1)
  by_cases c:v=w
  ·subst c;rw[if_pos rfl];exact h.2.2
  ·rw[if_neg c];exact kM _ _
theorem aLU(hw:1<=w){v:Nat}(hv:w<=v):Hd (uD w v f) (dX a w v) v:=by
 have hb:∀ i,i < v->(dX a w v).testBit i=a.testBit (min i (w - 1)):=λ i hi=>qE ha hw hv hi
 refine mS (aGl hw hv hf hd) (λ i hi=>?_) ?_
 ·rw[hb i hi];exact nC hd h _
 ·have h1:=hf.a1;show Al _ v (f.A+(v - w));rcases h.2.2 with q | q
  ·exact .inl λ i h1 h2=>by rw[hb i h2];exact q _ (by omega) (by omega)
  ·exact .inr λ i h1 h2=>by rw[hb i h2];exact q _ (by omega) (by omega)
end
noncomputable def bwv(b:Nat)(x y:Nat):Nat:=match b with
 | 0=>x &&& y
 | 1=>x ||| y
 | _=>x ^^^ y
noncomputable def bwB(b:Nat)(x y:Bool):Bool:=match b with
 | 0=>x&&y
 | 1=>x||y
 | _=>x ^^ y
theorem aBL{b:Nat}(hb:b=0\/b=1\/b=2)(x y i:Nat):(bwv b x y).testBit i=bwB b (x.testBit i) (y.testBit i):=by
 rcases hb with rfl | rfl | rfl
 ·exact Nat.testBit_and ..
 ·exact xAp ..
 ·exact Nat.testBit_xor ..
theorem aQB:∀ (b p q:Fin 3) (x y:Bool),(p.1=0->x=false)/\(p.1=1->x=true)->(q.1=0->y=false)/\(q.1=1->y=true)->(btN b.1 p.1 q.1=0->bwB b.1 x y=false)/\(btN b.1 p.1 q.1=1->bwB b.1 x y=true):=by decide
theorem aOf{b:Nat}(hb:b=0\/b=1\/b=2){f g:Ft}{x y w:Nat}(hf:FtOk f w)(hd:f.N &&& f.O=0)(h:Hd f x w)(hg:FtOk g w)(he:g.N &&& g.O=0)(h':Hd g y w):Hd (rR b f g) (bwv b x y) w:=by
 refine mS (aIG b hb hf hd hg he) (λ i hi=>?_) ?_
 ·rw[aBL hb];exact aQB ⟨b,by omega⟩ ⟨_,tK f i⟩ ⟨_,tK g i⟩ _ _ (nC hd h i) (nC he h' i)
 ·have hA:(rR b f g).A=min f.A g.A:=by rcases hb with rfl | rfl | rfl<;>rfl
  rw[hA];have q1:Al x w (min f.A g.A):=qB (by omega) h.2.2
  have q2:Al y w (min f.A g.A):=qB (by omega) h'.2.2
  have go:∀ (p q:Bool),(∀ i,w - min f.A g.A<=i->i < w->x.testBit i=p)->(∀ i,w - min f.A g.A<=i->i < w->y.testBit i=q)->Al (bwv b x y) w (min f.A g.A):=λ p q hp hq=>by
   cases c:bwB b p q with
   | true=>exact .inl λ i h1 h2=>by rw[aBL hb,hp i h1 h2,hq i h1 h2,c]
   | false=>exact .inr λ i h1 h2=>by rw[aBL hb,hp i h1 h2,hq i h1 h2,c]
  rcases q1 with q1 | q1<;>rcases q2 with q2 | q2
  ·exact go _ _ q1 q2
  ·exact go _ _ q1 q2
  ·exact go _ _ q1 q2
  ·exact go _ _ q1 q2
noncomputable def oA(a w:Nat):Int:=if 2^(w - 1)<=a then (a:Nat) - ((2^w:Nat):Int) else (a:Nat)
theorem qA{i:Nat}{p:Prop}(h:(0:Nat).testBit i=true):p:=by
 rw[Nat.zero_testBit] at h;cases h
theorem aGO:Hd F1 1 1:=⟨λ i h=>qA h,λ i h=>h,kM _ _⟩
theorem aGH:Hd F0 0 1:=⟨λ i h=>Nat.zero_testBit i,λ i h=>qA h,kM _ _⟩
theorem aGz(z:Nat):Hd jD z 1:=⟨λ i h=>qA h,λ i h=>qA h,kM _ _⟩
theorem aGE{a b c e x y:Int}(h1:a<=x)(h2:x<=b)(h3:c<=y)(h4:y<=e):Hd (l3 a b c e) (decide (x < y)).toNat 1:=by
 unfold l3
 by_cases c1:b < c
 ·rw[if_pos c1,dqT (by omega)]
  exact aGO
 ·rw[if_neg c1]
  by_cases c2:e<=a
  ·rw[if_pos c2,dqF (by omega)]
   exact aGH
  ·rw[if_neg c2];exact aGz _
theorem aLs{f g:Ft}{a b w:Nat}(kf:FtOk f w)(kg:FtOk g w)(ha:a < 2^w)(hb:b < 2^w)(h1:Hd f a w)(h2:Hd g b w):Hd (l3 (f.O:Nat) ((2^w - 1 - f.N:Nat):Int) (g.O:Nat) ((2^w - 1 - g.N:Nat):Int)) (decide ((a:Int) < (b:Int))).toNat 1:=
 aGE (Int.ofNat_le.mpr (zL h1)) (Int.ofNat_le.mpr (zU kf ha h1)) (Int.ofNat_le.mpr (zL h2)) (Int.ofNat_le.mpr (zU kg hb h2))
theorem aL5{f g:Ft}{a b w:Nat}(kf:FtOk f w)(ha:a < 2^w)(hb:b < 2^w)(h1:Hd f a w)(h2:Hd g b w):Hd (mF w f g) (decide (a=b)).toNat 1:=by
 unfold mF
 by_cases c1:f.N &&& g.O ||| f.O &&& g.N=0
 ·rw[if_neg (by simp[c1])]
  by_cases c2:(f.N ||| f.O) &&& (g.N ||| g.O)=2^w - 1
  ·rw[if_pos c2];have:a=b:=by
    apply xAm;intro i
    by_cases c:i < w
    ·have q:((f.N ||| f.O) &&& (g.N ||| g.O)).testBit i=true:=by rw[c2,eE,dqT c]
     have z:=(kD _).mp c1 i;rw[Nat.testBit_and,xAp,xAp] at q;rw[xAp,Nat.testBit_and,Nat.testBit_and] at z;have p1:=h1.1 i;have p2:=h1.2.1 i;have p3:=h2.1 i;have p4:=h2.2.1 i
     revert q z p1 p2 p3 p4
     generalize f.N.testBit i=y0;generalize f.O.testBit i=y1;generalize g.N.testBit i=y2;generalize g.O.testBit i=y3;generalize a.testBit i=y4;generalize b.testBit i=y5
     revert y0 y1 y2 y3 y4 y5
     decide
    ·rw[dD ha (by omega),dD hb (by omega)]
   rw[dqT this];exact aGO
  ·rw[if_neg c2];exact aGz _
 ·rw[if_pos c1];have:a≠b:=by
   rintro rfl;apply c1;rw[kD];intro i;rw[xAp,Nat.testBit_and,Nat.testBit_and];have p1:=h1.1 i;have p2:=h1.2.1 i;have p3:=h2.1 i;have p4:=h2.2.1 i
   revert p1 p2 p3 p4
   generalize f.N.testBit i=y0;generalize f.O.testBit i=y1;generalize g.N.testBit i=y2;generalize g.O.testBit i=y3;generalize a.testBit i=y4
   revert y0 y1 y2 y3 y4
   decide
  rw[dqF this];exact aGH
noncomputable def tw(a w:Nat):Int:=oA a w+((2^(w - 1):Nat):Int)
theorem aSh{w:Nat}(hw:1<=w):(2:Nat)^w=2^(w - 1)+2^(w - 1):=by
 have:(2:Nat)^(w - 1+1)=2^(w - 1)*2:=Nat.pow_succ ..;rw[show w - 1+1=w by omega] at this
 omega
theorem aRu{a w:Nat}(ha:a < 2^w)(hw:1<=w):((a ^^^ 2^(w - 1):Nat):Int)=tw a w:=by
 have h2:=aSh hw;unfold tw oA
 by_cases c:2^(w - 1)<=a
 ·rw[if_pos c,aBs c (by rw[show w - 1+1=w by omega];exact ha)]
  omega
 ·rw[if_neg c,xS (by omega)]
  omega
theorem aF9{f:Ft}{a w:Nat}(hw:1<=w)(h:Hd f a w)(i:Nat):((tt f w).N.testBit i=true->(a ^^^ 2^(w - 1)).testBit i=false)/\((tt f w).O.testBit i=true->(a ^^^ 2^(w - 1)).testBit i=true):=by
 have h1:=h.1 i;have h2:=h.2.1 i;show((f.N ^^^ ((f.N ^^^ f.O) &&& dA 1 w)).testBit i=true->_)/\((f.O ^^^ ((f.N ^^^ f.O) &&& dA 1 w)).testBit i=true->_);simp only[Nat.testBit_xor,Nat.testBit_and,aFr hw,Nat.testBit_two_pow];have key:∀ b n o x:Bool,(n=true->x=false)->(o=true->x=true)->((n ^^ ((n ^^ o)&&b))=true->(x ^^ b)=false)/\((o ^^ ((n ^^ o)&&b))=true->(x ^^ b)=true):=by decide
 exact key _ _ _ _ h1 h2
theorem aIU{f:Ft}{a w:Nat}(kf:FtOk f w)(hd:f.N &&& f.O=0)(hw:1<=w)(ha:a < 2^w)(h:Hd f a w):(((tt f w).O:Nat):Int)<=tw a w/\tw a w<=((2^w - 1 - (tt f w).N:Nat):Int):=by
 have hp:2^(w - 1) < 2^w:=Nat.pow_lt_pow_right (by decide) (by omega)
 have lN:(tt f w).N < 2^w:=Nat.xor_lt_two_pow kf.lN (xAj Nat.and_le_right (aB4 1 w));rw[<- aRu ha hw];exact⟨Int.ofNat_le.mpr (aBN λ i=>(aF9 hw h i).2),Int.ofNat_le.mpr (aH2 lN (Nat.xor_lt_two_pow ha hp) λ i=>(aF9 hw h i).1)⟩
theorem aK3{f g:Ft}{a b w:Nat}(kf:FtOk f w)(kg:FtOk g w)(fd:f.N &&& f.O=0)(gd:g.N &&& g.O=0)(hw:1<=w)(ha:a < 2^w)(hb:b < 2^w)(h1:Hd f a w)(h2:Hd g b w):Hd (l3 ((tt f w).O:Nat) ((2^w - 1 - (tt f w).N:Nat):Int) ((tt g w).O:Nat) ((2^w - 1 - (tt g w).N:Nat):Int)) (decide (oA a w < oA b w)).toNat 1:=by
 have i1:=aIU kf fd hw ha h1;have i2:=aIU kg gd hw hb h2;have e:decide (oA a w < oA b w)=decide (tw a w < tw b w):=by
  rw[decide_eq_decide];unfold tw;omega
 rw[e];exact aGE i1.1 i1.2 i2.1 i2.2
theorem aLM{t f g:Ft}{c a b w:Nat}(ht:Hd t c 1)(hc:c < 2)(h1:Hd f a w)(h2:Hd g b w):Hd (nX t f g) (if c=1 then a else b) w:=by
 unfold nX
 by_cases c1:t.O=1
 ·have:c=1:=by
   have:=ht.2.1 0 (by rw[c1];rfl)
   rcases (show c=0\/c=1 by omega) with rfl | rfl
   ·cases this
   ·rfl
  rw[if_pos c1,if_pos this];exact h1
 ·rw[if_neg c1]
  by_cases c2:t.N=1
  ·have:c=0:=by
    have:=ht.1 0 (by rw[c2];rfl)
    rcases (show c=0\/c=1 by omega) with rfl | rfl
    ·rfl
    ·cases this
   rw[if_pos c2,if_neg (by omega)]
   exact h2
  ·rw[if_neg c2];have go:∀ {z:Nat}{h:Ft},Hd h z w->(∀ i,(f.N &&& g.N).testBit i=true->h.N.testBit i=true)->(∀ i,(f.O &&& g.O).testBit i=true->h.O.testBit i=true)->min f.A g.A<=h.A->Hd ⟨f.N &&& g.N,f.O &&& g.O,min f.A g.A⟩ z w:=λ {z h} q q1 q2 q3 =>
    ⟨λ i hi=>q.1 i (q1 i hi),λ i hi=>q.2.1 i (q2 i hi),qB q3 q.2.2⟩
   have an:∀ {x y:Nat} i,(x &&& y).testBit i=true->x.testBit i=true/\y.testBit i=true:=λ i hi=>by
    rw[Nat.testBit_and,Bool.and_eq_true] at hi;exact hi
   split
   ·exact go h1 (λ i hi=>(an i hi).1) (λ i hi=>(an i hi).1) (by omega)
   ·exact go h2 (λ i hi=>(an i hi).2) (λ i hi=>(an i hi).2) (by omega)
theorem aTo(a b:D):aO (.tuple [a,b]) (.int 0)=some a:=rfl
theorem aRH(a b:D):aO (.tuple [a,b]) (.int 1)=some b:=rfl
theorem aOs(a:Wd):aX .In (.str a.s) (.tuple [.str "add",.str "sub",.str "mul"])=some (.bool (decide (a=.add\/a=.sub\/a=.mul))):=by cases a<;>rfl
theorem aSu(a:Wd):aX .In (.str a.s) (.tuple [.str "and",.str "or",.str "xor"])=some (.bool (decide (a=.and\/a=.or\/a=.xor))):=by cases a<;>rfl
theorem fM{C:Calls}{i:Nat}{j:Int}{env:aT}{R x:D}{S:aC}(h:env[i]? = some (some (.d R)))(e:aO R (.int j)=some x):ev C (.ix (.var i) (.int j)) env S=some (.d x,S):=by
 simp only[gS0,h,e]
noncomputable abbrev oe(R Wi Fs:D)(wd:Wd)(v:Int):aT:=[some (.d R),some (.d Wi),some (.d Fs),some (.d (.str wd.s)),some (.d (.int v))]
section
variable (C : Calls)(R Wi Fs : D)(v : Int)(S : aC)(wd : Wd)
theorem mB:tv C (.cmp .Eq (.var 3) (.str "in")) (oe R Wi Fs wd v) S=some (decide (wd=.in),S):=dM rfl (bZ wd .in)
theorem nF:tv C (.cmp .Eq (.var 3) (.str "num")) (oe R Wi Fs wd v) S=some (decide (wd=.num),S):=dM rfl (bZ wd .num)
theorem oU:tv C (.cmp .Eq (.var 3) (.str "not")) (oe R Wi Fs wd v) S=some (decide (wd=.not),S):=dM rfl (bZ wd .not)
theorem aCn:tv C (.cmp .Eq (.var 3) (.str "pick")) (oe R Wi Fs wd v) S=some (decide (wd=.pick),S):=dM rfl (bZ wd .pick)
theorem qF:tv C (.cmp .In (.var 3) (.con "SUMS" aB2)) (oe R Wi Fs wd v) S=some (decide (wd=.add\/wd=.sub\/wd=.mul),S):=jO rfl rfl (aOs wd)
theorem sO:tv C (.cmp .In (.var 3) (.con "SHIFTS" sU)) (oe R Wi Fs wd v) S=some (decide (wd=.left\/wd=.right\/wd=.slide),S):=jO rfl rfl (aBz wd)
theorem yT:tv C (.cmp .In (.var 3) (.con "COMPARES" sF)) (oe R Wi Fs wd v) S=some (decide (wd=.same\/wd=.less\/wd=.under),S):=jO rfl rfl (yF wd)
theorem aJc:tv C (.cmp .In (.var 3) (.tup (.cons (.str "and") (.cons (.str "or") (.cons (.str "xor") .nil))))) (oe R Wi Fs wd v) S=some (decide (wd=.and\/wd=.or\/wd=.xor),S):=jO rfl rfl (aSu wd)
end
theorem aPb{wd:Wd}(h:wd=.cut\/wd=.wide\/wd=.sign):¬ wd=.in/\¬ wd=.num/\¬ wd=.not/\¬ (wd=.add\/wd=.sub\/wd=.mul)/\¬ (wd=.left\/wd=.right\/wd=.slide)/\¬ (wd=.same\/wd=.less\/wd=.under)/\¬ wd=.pick/\¬ (wd=.and\/wd=.or\/wd=.xor):=by
 rcases h with rfl | rfl | rfl<;>decide
theorem aSi{wd:Wd}(h:wd=.and\/wd=.or\/wd=.xor):¬ wd=.in/\¬ wd=.num/\¬ wd=.not/\¬ (wd=.add\/wd=.sub\/wd=.mul)/\¬ (wd=.left\/wd=.right\/wd=.slide)/\¬ (wd=.same\/wd=.less\/wd=.under)/\¬ wd=.pick:=by
 rcases h with rfl | rfl | rfl<;>decide
theorem aSI{wd:Wd}(h:wd=.left\/wd=.right\/wd=.slide):¬ wd=.in/\¬ wd=.num/\¬ wd=.not/\¬ (wd=.add\/wd=.sub\/wd=.mul):=by
 rcases h with rfl | rfl | rfl<;>decide
section
variable (d : Nat)(R Wi Fs : D)(v : Int)(S : aC)
theorem aMl(f:Ft)(e0:aO R (.int 0)=some (.str "not"))(e1:aO R (.int 1)=some (.int v))(ef:aO Fs (.int 0)=some f.d):cl fns (d+1) 53 [.d R,.d Wi,.d Fs] S=some (.d (Ft.mk f.O f.N f.A).d,S):=by
 have t1:=mB (aD fns d) R Wi Fs v S .not;have t2:=nF (aD fns d) R Wi Fs v S .not;have t3:=oU (aD fns d) R Wi Fs v S .not;refine eN (S1:=S) rfl d rfl rfl List.take_length (eH (S1:=S) (w:=.d (.str Wd.not.s)) (fM rfl e0) rfl (eH (S1:=S) (w:=.d (.int v)) (fM rfl e1) rfl (bP t1 (bP t2 (dO t3 (cR ?_))))));simp only[gS0,ef,gH,gM,iI]
theorem aLh(wd:Wd)(bD:wd=.left\/wd=.right\/wd=.slide)(f:Ft)(k:Nat)(g:D)(e0:aO R (.int 0)=some (.str wd.s))(e1:aO R (.int 1)=some (.int v))(e3:aO R (.int 3)=some (.int (k:Nat)))(ef:aO Fs (.int 0)=some f.d)(hk:cl fns d 46 [.d (.str wd.s),.d (.int v),.d f.d,.d (.int (k:Nat))] S=some (.d g,S)):cl fns (d+1) 53 [.d R,.d Wi,.d Fs] S=some (.d g,S):=by
 have t1:=mB (aD fns d) R Wi Fs v S wd;have t2:=nF (aD fns d) R Wi Fs v S wd;have t3:=oU (aD fns d) R Wi Fs v S wd;have t4:=qF (aD fns d) R Wi Fs v S wd;have t5:=sO (aD fns d) R Wi Fs v S wd;rw[dqT bD] at t5;obtain⟨n1,n2,n3,n4⟩:=aSI bD;rw[dqF n1] at t1;rw[dqF n2] at t2;rw[dqF n3] at t3;rw[dqF n4] at t4;refine eN (S1:=S) rfl d rfl rfl List.take_length (eH (S1:=S) (w:=.d (.str wd.s)) (fM rfl e0) rfl (eH (S1:=S) (w:=.d (.int v)) (fM rfl e1) rfl (bP t1 (bP t2 (bP t3 (bP t4 (dO t5 (cR ?_))))))));simp only[gS0,ef,e3,hk]
theorem aNT(wd:Wd)(bD:wd=.and\/wd=.or\/wd=.xor)(f g:Ft)(e0:aO R (.int 0)=some (.str wd.s))(e1:aO R (.int 1)=some (.int v))(ef:aO Fs (.int 0)=some f.d)(eg:aO Fs (.int 1)=some g.d):cl fns (d+3) 53 [.d R,.d Wi,.d Fs] S=some (.d (bwN wd f g).d,S):=by
 have t1:=mB (aD fns (d+2)) R Wi Fs v S wd;have t2:=nF (aD fns (d+2)) R Wi Fs v S wd;have t3:=oU (aD fns (d+2)) R Wi Fs v S wd;have t4:=qF (aD fns (d+2)) R Wi Fs v S wd;have t5:=sO (aD fns (d+2)) R Wi Fs v S wd;have t6:=yT (aD fns (d+2)) R Wi Fs v S wd;have t7:=aCn (aD fns (d+2)) R Wi Fs v S wd;have t8:=aJc (aD fns (d+2)) R Wi Fs v S wd;rw[dqT bD] at t8;obtain⟨n1,n2,n3,n4,n5,n6,n7⟩:=aSi bD;rw[dqF n1] at t1;rw[dqF n2] at t2;rw[dqF n3] at t3;rw[dqF n4] at t4;rw[dqF n5] at t5;rw[dqF n6] at t6;rw[dqF n7] at t7;refine eN (S1:=S) rfl (d+2) rfl rfl List.take_length (eH (S1:=S) (w:=.d (.str wd.s)) (fM rfl e0) rfl (eH (S1:=S) (w:=.d (.int v)) (fM rfl e1) rfl (bP t1 (bP t2 (bP t3 (bP t4 (bP t5 (bP t6 (bP t7 (dO t8 (cR ?_)))))))))));simp only[gS0,ef,eg,aLk d wd bD f g]
theorem aBF(wd:Wd)(bD:wd=.cut\/wd=.wide\/wd=.sign)(f:Ft)(w:Int)(g:D)(e0:aO R (.int 0)=some (.str wd.s))(e1:aO R (.int 1)=some (.int v))(ew:aO Wi (.int 0)=some (.int w))(ef:aO Fs (.int 0)=some f.d)(hk:cl fns d 47 [.d (.str wd.s),.d (.int w),.d (.int v),.d f.d] S=some (.d g,S)):cl fns (d+1) 53 [.d R,.d Wi,.d Fs] S=some (.d g,S):=by
 have t1:=mB (aD fns d) R Wi Fs v S wd;have t2:=nF (aD fns d) R Wi Fs v S wd;have t3:=oU (aD fns d) R Wi Fs v S wd;have t4:=qF (aD fns d) R Wi Fs v S wd;have t5:=sO (aD fns d) R Wi Fs v S wd;have t6:=yT (aD fns d) R Wi Fs v S wd;have t7:=aCn (aD fns d) R Wi Fs v S wd;have t8:=aJc (aD fns d) R Wi Fs v S wd;obtain⟨n1,n2,n3,n4,n5,n6,n7,n8⟩:=aPb bD;rw[dqF n1] at t1;rw[dqF n2] at t2;rw[dqF n3] at t3;rw[dqF n4] at t4;rw[dqF n5] at t5;rw[dqF n6] at t6;rw[dqF n7] at t7;rw[dqF n8] at t8;refine eN (S1:=S) rfl d rfl rfl List.take_length (eH (S1:=S) (w:=.d (.str wd.s)) (fM rfl e0) rfl (eH (S1:=S) (w:=.d (.int v)) (fM rfl e1) rfl (bP t1 (bP t2 (bP t3 (bP t4 (bP t5 (bP t6 (bP t7 (bP t8 (cR ?_)))))))))));simp only[gS0,ew,ef,hk]
theorem aBS(n:Nat)(g:Ft)(e1:aO R (.int 1)=some (.int (n:Nat)))(ho:cl fns (d+3) 53 [.d R,.d Wi,.d Fs] S=some (.d g.d,S))(hg:FtOk g n)(hn:n<=64):cl fns (d+4) 54 [.d R,.d Wi,.d Fs] S=some (.d (gJ g n).d,S):=by
 rw[aQ rfl (d+3) _ S rfl];simp only[gR1,aIr,ho,e1,aLz d g n hg hn]
end
noncomputable def shN(wd:Wd)(w:Nat)(f:Ft)(k:Nat):Ft:=match wd with
 | .left=>tY w f k
 | .right=>lP w f k
 | _=>tU w f k
theorem aBE(d:Nat)(wd:Wd)(bD:wd=.left\/wd=.right\/wd=.slide)(w:Nat)(f:Ft)(k:Nat)(hf:FtOk f w)(bL:1<=w)(hw:w<=64)(hk:k<=900)(S:aC):cl fns (d+4) 46 [.d (.str wd.s),.d (.int (w:Nat)),.d f.d,.d (.int (k:Nat))] S=some (.d (shN wd w f k).d,S):=by
 have t1:=dM (C:=aD fns (d+3)) (i:=0) (S:=S) (x:="left") (env:=[some (.d (.str wd.s)),some (.d (.int (w:Nat))),some (.d f.d),some (.d (.int (k:Nat)))]) rfl (bZ wd .left);have t2:=dM (C:=aD fns (d+3)) (i:=0) (S:=S) (x:="right") (env:=[some (.d (.str wd.s)),some (.d (.int (w:Nat))),some (.d f.d),some (.d (.int (k:Nat)))]) rfl (bZ wd .right);rcases bD with rfl | rfl | rfl
 ·refine eN (S1:=S) rfl (d+3) rfl rfl List.take_length (dO t1 (cR ?_));have hq43:=aNY (d+1) w f k hf hw (by omega)
  simp only[gS0,hq43]
 ·refine eN (S1:=S) rfl (d+3) rfl rfl List.take_length (bP t1 (dO t2 (cR ?_)));simp only[gS0,aNe d w f k hw]
 ·refine eN (S1:=S) rfl (d+3) rfl rfl List.take_length (bP t1 (bP t2 (cR ?_)));simp only[gS0,aMI d w f k bL hw hk]
theorem aBB(d:Nat)(f:Ft)(S:aC):cl fns (d+1) 29 [.d f.d] S=some (.d (.int ((f.N ||| f.O:Nat):Int)),S):=by
 rw[aQ rfl d _ S rfl];simp only[gR1,aD8,gH,gM,eO]
theorem oD(n:Nat):(((n:Nat):Int)==1)=(n==1):=by
 rw[Bool.eq_iff_iff,beq_iff_eq,beq_iff_eq];omega
theorem aGd(d w:Nat)(f g:Ft)(hf:f.N < 2^w)(hg:g.N < 2^w)(hw:w<=64)(S:aC):cl fns (d+3) 49 [.d (.int (w:Nat)),.d f.d,.d g.d] S=some (.d (l3 (f.O:Nat) ((2^w - 1 - f.N:Nat):Int) (g.O:Nat) ((2^w - 1 - g.N:Nat):Int)).d,S):=by
 have g1:=wR d f w hf hw S;have g2:=wR d g w hg hw S;have l1:=sY (d+1) f S;have l2:=sY (d+1) g S;rw[aQ rfl (d+2) _ S rfl];unfold l3
 by_cases c1:((2^w - 1 - f.N:Nat):Int) < ((g.O:Nat):Int)
 ·rw[if_pos c1];simp only[gR1,wZ,g1,l2,eV,dqT c1,uM,Tv.d]
 ·rw[if_neg c1]
  by_cases c2:((2^w - 1 - g.N:Nat):Int)<=((f.O:Nat):Int)
  ·rw[if_pos c2];simp only[gR1,wZ,g1,l2,eV,dqF c1,l1,g2,aHn,dqT c2,sR,Tv.d]
  ·rw[if_neg c2];simp only[gR1,wZ,g1,l2,eV,dqF c1,l1,g2,aHn,dqF c2,pS,Tv.d]
theorem xI(d w:Nat)(f:Ft)(bL:1<=w)(hw:w<=64)(S:aC):cl fns (d+3) 50 [.d f.d,.d (.int (w:Nat))] S=some (.d (tt f w).d,S):=by
 have t:cl fns (d+2) 28 [.d (.int 1),.d (.int (w:Nat))] S=some (.d (.int ((dA 1 w:Nat):Int)),S):=oG d 1 w S bL hw;rw[aQ rfl (d+2) _ S rfl];simp only[gR1,aEo,Ft.d,t,lJ,dJ]
theorem aNF(d w:Nat)(f g:Ft)(hw:w<=64)(S:aC):cl fns (d+3) 48 [.d (.int (w:Nat)),.d f.d,.d g.d] S=some (.d (mF w f g).d,S):=by
 rw[aQ rfl (d+2) _ S rfl];unfold mF
 by_cases c1:f.N &&& g.O ||| f.O &&& g.N=0
 ·have d1:(f.N &&& g.O ||| f.O &&& g.N==0)=true:=by rw[beq_iff_eq];exact c1
  rw[if_neg (by simp[c1])]
  by_cases c2:(f.N ||| f.O) &&& (g.N ||| g.O)=2^w - 1
  ·have d2:((f.N ||| f.O) &&& (g.N ||| g.O)==2^w - 1)=true:=by rw[beq_iff_eq];exact c2
   rw[if_pos c2];have hq44:=dF (d+1) w (by omega)
   simp only[gR1,xA,xD (d+1),lQ,cU,d1,aBB (d+1),dJ,hq44,bM,xN,d2,uM,Tv.d]
  ·have d2:((f.N ||| f.O) &&& (g.N ||| g.O)==2^w - 1)=false:=by rw[beq_eq_false_iff_ne];exact c2
   rw[if_neg c2];have hq45:=dF (d+1) w (by omega)
   simp only[gR1,xA,xD (d+1),lQ,cU,d1,aBB (d+1),dJ,hq45,bM,xN,d2,pS,Tv.d]
 ·have d1:(f.N &&& g.O ||| f.O &&& g.N==0)=false:=by rw[beq_eq_false_iff_ne];exact c1
  rw[if_pos c1];simp only[gR1,xA,xD (d+1),lQ,cU,d1,sR,Tv.d]
theorem aND(d:Nat)(t f g:Ft)(S:aC):cl fns (d+1) 52 [.d t.d,.d f.d,.d g.d] S=some (.d (nX t f g).d,S):=by
 rw[aQ rfl d _ S rfl];unfold nX
 by_cases c1:t.O=1
 ·have d1:(t.O==1)=true:=by rw[beq_iff_eq];exact c1
  rw[if_pos c1];simp only[gR1,wU,gM,bM,oD,d1]
 ·have d1:(t.O==1)=false:=by rw[beq_eq_false_iff_ne];exact c1
  rw[if_neg c1]
  by_cases c2:t.N=1
  ·have d2:(t.N==1)=true:=by rw[beq_iff_eq];exact c2
   rw[if_pos c2];simp only[gR1,wU,gM,gH,bM,oD,d1,d2]
  ·have d2:(t.N==1)=false:=by rw[beq_eq_false_iff_ne];exact c2
   rw[if_neg c2];simp only[gR1,wU,gM,gH,iI,bM,oD,d1,d2,dJ,kC]
noncomputable def nV(wd:Wd)(w:Nat)(f g:Ft):Ft:=match wd with
 | .same=>mF w f g
 | .less=>l3 (f.O:Nat) ((2^w - 1 - f.N:Nat):Int) (g.O:Nat) ((2^w - 1 - g.N:Nat):Int)
 | _=>l3 ((tt f w).O:Nat) ((2^w - 1 - (tt f w).N:Nat):Int) ((tt g w).O:Nat) ((2^w - 1 - (tt g w).N:Nat):Int)
theorem aSK(wd:Wd)(w:Nat)(f g:Ft):nV wd w f g=F1\/nV wd w f g=F0\/nV wd w f g=jD:=by
 unfold nV
 split
 ·exact aTA ..
 ·exact aI8 ..
 ·exact aI8 ..
structure Ftd(f:Ft)(w:Nat):Prop where
 ok:FtOk f w
 dj:f.N &&& f.O=0
theorem aK9(d:Nat)(wd:Wd)(bD:wd=.same\/wd=.less\/wd=.under)(w:Nat)(f g:Ft)(hf:Ftd f w)(hg:Ftd g w)(bL:1<=w)(hw:w<=64)(S:aC):cl fns (d+4) 51 [.d (.str wd.s),.d (.int (w:Nat)),.d f.d,.d g.d] S=some (.d (nV wd w f g).d,S):=by
 have t1:=dM (C:=aD fns (d+3)) (i:=0) (S:=S) (x:="same") (env:=[some (.d (.str wd.s)),some (.d (.int (w:Nat))),some (.d f.d),some (.d g.d)]) rfl (bZ wd .same);have t2:=dM (C:=aD fns (d+3)) (i:=0) (S:=S) (x:="less") (env:=[some (.d (.str wd.s)),some (.d (.int (w:Nat))),some (.d f.d),some (.d g.d)]) rfl (bZ wd .less);rcases bD with rfl | rfl | rfl
 ·refine eN (S1:=S) rfl (d+3) rfl rfl List.take_length (dO t1 (cR ?_));simp only[gS0,aNF d w f g hw]
 ·refine eN (S1:=S) rfl (d+3) rfl rfl List.take_length (bP t1 (dO t2 (cR ?_)));simp only[gS0,aGd d w f g hf.ok.lN hg.ok.lN hw]
 ·refine eN (S1:=S) rfl (d+3) rfl rfl List.take_length (bP t1 (bP t2 (cR ?_)));simp only[gS0,xI d w f bL hw,xI d w g bL hw,aGd d w (tt f w) (tt g w) (aIX hf.ok hf.dj bL) (aIX hg.ok hg.dj bL) hw]
noncomputable def Sw.wd:Sw->Wd
 | .add=>.add
 | .sub=>.sub
 | .mul=>.mul
theorem aKA(x:Int)(L:Nat):cB .BitAnd (.int x) (.int ((2^L - 1:Nat):Int))=some (.int ((rs x L:Nat):Int)):=by
 have hp:=xAf L
 by_cases c:0<=x
 ·obtain⟨n,rfl⟩:∃ n:Nat,x=(n:Nat):=⟨x.toNat,by omega⟩
  rw[dJ,aQG,Nat.and_two_pow_sub_one_eq_mod]
 ·have h1:decide ((0:Int)<=x)=false:=dqF c;have h2:decide ((0:Int)<=((2^L - 1:Nat):Int))=true:=dqT (by omega)
  obtain⟨b,hb⟩:∃ b:Nat,Builtin.bitNot x=(b:Nat):=⟨(Builtin.bitNot x).toNat,by unfold Builtin.bitNot;omega⟩
  have hx:x = -((b:Nat):Int) - 1:=by unfold Builtin.bitNot at hb;omega
  have e:(2^L - 1) &&& b=b%2^L:=by rw[Nat.and_comm,Nat.and_two_pow_sub_one_eq_mod]
  have hm:=Nat.mod_lt b hp;have hr:=mV x L;have e2:x%((2^L:Nat):Int)=((2^L:Nat):Int) - 1 - ((b%2^L:Nat):Int):=by
   have hd:((b:Nat):Int)=((2^L:Nat):Int)*((b / 2^L:Nat):Int)+((b%2^L:Nat):Int):=by
    rw[<- Int.natCast_mul,<- Int.natCast_add,Nat.div_add_mod]
   have hx2:x=(((2^L:Nat):Int) - 1 - ((b%2^L:Nat):Int))+((2^L:Nat):Int)*(-((b / 2^L:Nat):Int) - 1):=by
    rw[hx,hd,Int.mul_sub,Int.mul_neg,Int.mul_one];omega
   rw[hx2,Int.add_mul_emod_self_left,Int.emod_eq_of_lt (by omega) (by omega)]
  simp only[cB,kP];unfold Builtin.bitAnd;rw[h1,h2];simp only[hb,Int.toNat_natCast,e];congr 2;omega
theorem aA7(d:Nat)(s:Sw)(x y:Nat)(hx:x < 2^64)(S:aC):cl fns (d+1) 33 [.d (.str s.wd.s),.d (.int (x:Nat)),.d (.int (y:Nat))] S=some (.d (.int (s.oc (x:Nat) (y:Nat))),S):=by
 have t1:=dM (C:=aD fns d) (i:=0) (S:=S) (x:="add") (env:=[some (.d (.str s.wd.s)),some (.d (.int (x:Nat))),some (.d (.int (y:Nat)))]) rfl (bZ s.wd .add);have t2:=dM (C:=aD fns d) (i:=0) (S:=S) (x:="sub") (env:=[some (.d (.str s.wd.s)),some (.d (.int (x:Nat))),some (.d (.int (y:Nat)))]) rfl (bZ s.wd .sub);cases s with
 | add =>
   refine eN (S1:=S) rfl d rfl rfl List.take_length (dO t1 (cR ?_));simp only[gS0,cK]
 | sub =>
   refine eN (S1:=S) rfl d rfl rfl List.take_length (bP t1 (dO t2 (cR ?_)));simp only[gS0,cG]
 | mul =>
   refine eN (S1:=S) rfl d rfl rfl List.take_length (bP t1 (bP t2 (cR ?_)));have hq46:=oJ (i:=((x:Nat):Int)) (j:=((y:Nat):Int)) (by omega) (by omega)
   simp only[gS0,hq46]
theorem p64{n w:Nat}(h:n < 2^w)(hw:w<=64):n < 2^64:=xAc h (Nat.pow_le_pow_right (by decide) hw)
theorem aNr(d:Nat)(s:Sw)(w:Nat)(f g:Ft)(hf:FtOk f w)(hw:w<=64)(S:aC):cl fns (d+3) 34 [.d (.str s.wd.s),.d f.d,.d g.d] S=some (.d (.tuple [.int ((qY s f g:Nat):Int),.int ((jT s f g:Nat):Int)]),S):=by
 have hL:=aBG (g:=g) hf;have e1:=aCr d ((f.N ||| f.O) &&& (g.N ||| g.O)) S
 have e2:=dF (d+1) (fU f g) (show fU f g<=100000 by omega) S
 rw[aQ rfl (d+2) _ S rfl];simp only[evs,eX,aEv,aBB (d+1),dJ];rw[e1];simp only[evs,show lr ((f.N ||| f.O) &&& (g.N ||| g.O))=fU f g from rfl]
 rw[e2];simp only[gS0,sY (d+1),aA7 (d+1) s f.O g.O (p64 hf.lO hw),aKA,lJ]
theorem aLX(d:Nat)(s:Sw)(w:Nat)(f g:Ft)(hf:FtOk f w)(hg:FtOk g w)(hw:w<=64)(S:aC):cl fns (d+3) 36 [.d (.str s.wd.s),.d (.int (w:Nat)),.d f.d,.d g.d] S=some (.d (.tuple [.int (fY s w f g),.int (fW s w f g)]),S):=by
 have g1:=wR d f w hf.lN hw S;have g2:=wR d g w hg.lN hw S;have l1:=sY (d+1) f S;have l2:=sY (d+1) g S;have hp:=xAf w;have o1:=aA7 (d+1) s f.O g.O (p64 hf.lO hw) S;have o2:=aA7 (d+1) s (2^w - 1 - f.N) (2^w - 1 - g.N) (p64 (w:=w) (by omega) hw) S
 have t1:aX .Eq (.str s.wd.s) (.str "sub")=some (.bool (decide (s.wd=.sub))):=bZ s.wd .sub;rw[aQ rfl (d+2) _ S rfl];cases s with
 | sub =>
   have t:aX .Eq (.str Sw.sub.wd.s) (.str "sub")=some (.bool true):=t1;simp only[gR1,xR,t,g1,g2,l1,l2,cG]
 | add =>
   have t:aX .Eq (.str Sw.add.wd.s) (.str "sub")=some (.bool false):=t1;simp only[gR1,xR,t,g1,g2,l1,l2,o1,o2]
 | mul =>
   have t:aX .Eq (.str Sw.mul.wd.s) (.str "sub")=some (.bool false):=t1;simp only[gR1,xR,t,g1,g2,l1,l2,o1,o2]
theorem aLq(d l g w:Nat)(S:aC)(hl:l < 2^w)(hg:g < 2^w)(hw:w<=64):cl fns (d+3) 14 [.d (.int (l:Nat)),.d (.int (g:Nat)),.d (.int (w:Nat))] S=some (.d (.tuple [.int (sP l g w:Nat),.int (nG l g w:Nat)]),S):=by
 have hx:l ^^^ g < 2^10000:=aH6 (Nat.xor_lt_two_pow hl hg) (by omega)
 rw[aQ rfl (d+2) _ S rfl];have hq47:=dF (d+1) w (by omega)
 simp only[gR1,aEi,hq47,lJ,aFK d (l ^^^ g) _ hx,dJ]
theorem aRP(s:Sw)(w:Nat)(f g:Ft){a b:Nat}(hf:FtOk f w)(hg:FtOk g w)(ha:a < 2^w)(hb:b < 2^w)(h1:Hd f a w)(h2:Hd g b w):fY s w f g<=fW s w f g:=by
 have:=aIY s hf hg ha hb h1 h2;omega
theorem aNo(d:Nat)(s:Sw)(w:Nat)(f g:Ft)(hf:FtOk f w)(hg:FtOk g w)(hb:fY s w f g<=fW s w f g)(hw:w<=64)(S:aC):cl fns (d+4) 37 [.d (.str s.wd.s),.d (.int (w:Nat)),.d f.d,.d g.d] S=some (.d (.tuple [.int ((pI s w f g:Nat):Int),.int ((pJ s w f g:Nat):Int)]),S):=by
 have b1:=aLX d s w f g hf hg hw S;have hp:=xAf w;rw[aQ rfl (d+3) _ S rfl];unfold pI pJ
 by_cases c1:fY s w f g < 0
 ·rw[if_pos (.inl c1),if_pos (.inl c1)];simp only[gR1,wV,b1,eV,dqT c1]
 ·by_cases c2:((2^w - 1:Nat):Int) < fW s w f g
  ·rw[if_pos (.inr c2),if_pos (.inr c2)];have hq48:=dF (d+2) w (by omega)
   simp only[gR1,wV,b1,eV,dqF c1,hq48,jM,dqT c2]
  ·have c:¬ (fY s w f g < 0\/fW s w f g > ((2^w - 1:Nat):Int)):=λ h=>h.elim c1 c2
   rw[if_neg c,if_neg c];obtain⟨l,hl⟩:∃ l:Nat,fY s w f g=(l:Nat):=⟨(fY s w f g).toNat,by omega⟩
   obtain⟨u,hu⟩:∃ u:Nat,fW s w f g=(u:Nat):=⟨(fW s w f g).toNat,by omega⟩
   rw[hl] at c1;rw[hu] at c2;rw[hl,hu] at b1 hb;rw[hl,hu,Int.toNat_natCast,Int.toNat_natCast];have hq49:=dF (d+2) w (by omega)
   have hq50:=aLq d l u w S (by omega) (by omega) hw
   simp only[gR1,wV,b1,eV,dqF c1,hq49,jM,dqF c2,hq50]
theorem aOn(d:Nat)(s:Sw)(w:Nat)(f g:Ft)(hw:w<=64)(S:aC):cl fns (d+3) 35 [.d (.str s.wd.s),.d (.int (w:Nat)),.d f.d,.d g.d] S=some (.d (.int ((pN s w f g:Nat):Int)),S):=by
 rw[aQ rfl (d+2) _ S rfl];cases s with
 | add =>
   have t:aX .NotEq (.str Sw.add.wd.s) (.str "mul")=some (.bool true):=by kernel_rfl
   simp only[gR1,wN,t]
 | sub =>
   have t:aX .NotEq (.str Sw.sub.wd.s) (.str "mul")=some (.bool true):=by kernel_rfl
   simp only[gR1,wN,t]
 | mul =>
   have t:aX .NotEq (.str Sw.mul.wd.s) (.str "mul")=some (.bool false):=by kernel_rfl
   have e:((lr f.N:Nat):Int)+((lr g.N:Nat):Int)=((lr f.N+lr g.N:Nat):Int):=by omega
   have hq51:=dF (d+1) (min w (lr f.N+lr g.N)) (by omega)
   simp only[gR1,wN,t,gH,aCr d,cK,e,kC,hq51]
theorem aL8(d:Nat)(s:Sw)(f g:Ft)(S:aC):cl fns (d+1) 38 [.d (.str s.wd.s),.d f.d,.d g.d] S=some (.d (.int ((jW s f g:Nat):Int)),S):=by
 have e:∀ m:Nat,nQ [.int 1,.int (((m:Nat):Int) - 1)]=some (.int ((max 1 (m - 1):Nat):Int)):=λ m=>aBA m 1
 rw[aQ rfl d _ S rfl];cases s with
 | add =>
   have t:aX .Eq (.str Sw.add.wd.s) (.str "mul")=some (.bool false):=bZ .add .mul;simp only[gR1,wW,t,iI,kC,cG,e]
 | sub =>
   have t:aX .Eq (.str Sw.sub.wd.s) (.str "mul")=some (.bool false):=bZ .sub .mul;simp only[gR1,wW,t,iI,kC,cG,e]
 | mul =>
   have t:aX .Eq (.str Sw.mul.wd.s) (.str "mul")=some (.bool true):=bZ .mul .mul;simp only[gR1,wW,t]
theorem aPp(d:Nat)(s:Sw)(w:Nat)(f g:Ft)(hf:FtOk f w)(hg:FtOk g w)(hb:fY s w f g<=fW s w f g)(hw:w<=64)(S:aC):cl fns (d+5) 39 [.d (.str s.wd.s),.d (.int (w:Nat)),.d f.d,.d g.d] S=some (.d (vE s w f g).d,S):=by
 rw[aQ rfl (d+4) _ S rfl];simp only[gR1,aEP,aNr (d+1) s w f g hf hw,aNo d s w f g hf hg hb hw,aTo,aRH,eO,aOn (d+1) s w f g hw,aL8 (d+3) s f g]
section
variable (d : Nat)(R Wi Fs : D)(v : Nat)(S : aC)
theorem aM6(s:Sw)(f g:Ft)(e0:aO R (.int 0)=some (.str s.wd.s))(e1:aO R (.int 1)=some (.int (v:Nat)))(ef:aO Fs (.int 0)=some f.d)(eg:aO Fs (.int 1)=some g.d)(hf:FtOk f v)(hg:FtOk g v)(hb:fY s v f g<=fW s v f g)(hv:v<=64):cl fns (d+6) 53 [.d R,.d Wi,.d Fs] S=some (.d (vE s v f g).d,S):=by
 have bD:s.wd=.add\/s.wd=.sub\/s.wd=.mul:=by
  cases s
  ·exact .inl rfl
  ·exact .inr (.inl rfl)
  ·exact .inr (.inr rfl)
 have t1:=mB (aD fns (d+5)) R Wi Fs (v:Nat) S s.wd;have t2:=nF (aD fns (d+5)) R Wi Fs (v:Nat) S s.wd;have t3:=oU (aD fns (d+5)) R Wi Fs (v:Nat) S s.wd;have t4:=qF (aD fns (d+5)) R Wi Fs (v:Nat) S s.wd;rw[dqT bD] at t4;rw[dqF (by rcases bD with h | h | h<;>rw[h]<;>decide)] at t1 t2 t3
 refine eN (S1:=S) rfl (d+5) rfl rfl List.take_length (eH (S1:=S) (w:=.d (.str s.wd.s)) (fM rfl e0) rfl (eH (S1:=S) (w:=.d (.int (v:Nat))) (fM rfl e1) rfl (bP t1 (bP t2 (bP t3 (dO t4 (cR ?_)))))));simp only[gS0,ef,eg,aPp d s v f g hf hg hb hv]
end
section
variable {f : Ft}{w : Nat}(hf : FtOk f w)(hd : f.N &&& f.O = 0)(bL : 1 <= w)
include hf hd bL
theorem aOz(k:Nat):FtOk (tY w f k) w:=by
 have m:=aGx (w:=w) k hd;have:=hf.aw;exact⟨m.lN,m.lO,by show 1<=max 1 (f.A - k);omega,by show max 1 (f.A - k)<=w;omega⟩
theorem aMh(k:Nat):FtOk (lP w f k) w:=by
 have m:=aF2 k hf hd;have h1:=hf.aw;have h2:=hf.a1;refine⟨m.lN,m.lO,?_,?_⟩
 ·show 1<=if k=0 then f.A else 1
  split<;>omega
 ·show(if k=0 then f.A else 1)<=w
  split<;>omega
theorem aM0(k:Nat):FtOk (tU w f k) w:=by
 have m:=aFP k bL hf hd;have h1:=hf.a1;exact⟨m.lN,m.lO,by show 1<=min w (f.A+k);omega,by show min w (f.A+k)<=w;omega⟩
theorem aRd{v:Nat}(hv1:1<=v)(hv:v<=w):FtOk (vG w v f) v:=by
 have m:=aHr w v hd;have h1:=hf.aw;exact⟨m.lN,m.lO,by show 1<=max 1 (f.A - (w - v));omega,by show max 1 (f.A - (w - v))<=v;omega⟩
theorem aOv{v:Nat}(hv:w<=v):FtOk (lS w v f) v:=by
 have m:=aGt hv hf hd;have h1:=hf.aw;have h2:=hf.a1;refine⟨m.lN,m.lO,?_,?_⟩
 ·show 1<=if v=w then f.A else 1
  split<;>omega
 ·show(if v=w then f.A else 1)<=v
  split<;>omega
theorem aO9{v:Nat}(hv:w<=v):FtOk (uD w v f) v:=by
 have m:=aGl bL hv hf hd;have h1:=hf.aw;have h2:=hf.a1;exact⟨m.lN,m.lO,by show 1<=f.A+(v - w);omega,by show f.A+(v - w)<=v;omega⟩
end
theorem aRL{b:Nat}{f g:Ft}{w:Nat}(hb:b=0\/b=1\/b=2)(hf:FtOk f w)(hd:f.N &&& f.O=0)(hg:FtOk g w)(he:g.N &&& g.O=0):FtOk (rR b f g) w:=by
 have m:=aIG b hb hf hd hg he;have h1:=hf.a1;have h2:=hg.a1;have h3:=hf.aw;rcases hb with rfl | rfl | rfl<;>exact⟨m.lN,m.lO,by show 1<=min f.A g.A;omega,by show min f.A g.A<=w;omega⟩
section
variable (d : Nat)(R Wi Fs : D)(v : Int)(S : aC)
theorem aLZ(wd:Wd)(bD:wd=.same\/wd=.less\/wd=.under)(w:Nat)(f g:Ft)(e0:aO R (.int 0)=some (.str wd.s))(e1:aO R (.int 1)=some (.int v))(ew:aO Wi (.int 0)=some (.int (w:Nat)))(ef:aO Fs (.int 0)=some f.d)(eg:aO Fs (.int 1)=some g.d)(hf:Ftd f w)(hg:Ftd g w)(bL:1<=w)(hw:w<=64):cl fns (d+5) 53 [.d R,.d Wi,.d Fs] S=some (.d (nV wd w f g).d,S):=by
 have t1:=mB (aD fns (d+4)) R Wi Fs v S wd;have t2:=nF (aD fns (d+4)) R Wi Fs v S wd;have t3:=oU (aD fns (d+4)) R Wi Fs v S wd;have t4:=qF (aD fns (d+4)) R Wi Fs v S wd;have t5:=sO (aD fns (d+4)) R Wi Fs v S wd;have t6:=yT (aD fns (d+4)) R Wi Fs v S wd;rw[dqT bD] at t6;rw[dqF (by rcases bD with rfl | rfl | rfl<;>decide)] at t1 t2 t3 t4 t5
 refine eN (S1:=S) rfl (d+4) rfl rfl List.take_length (eH (S1:=S) (w:=.d (.str wd.s)) (fM rfl e0) rfl (eH (S1:=S) (w:=.d (.int v)) (fM rfl e1) rfl (bP t1 (bP t2 (bP t3 (bP t4 (bP t5 (dO t6 (cR ?_)))))))));simp only[gS0,ew,ef,eg,aK9 d wd bD w f g hf hg bL hw]
theorem aKX(t f g:Ft)(e0:aO R (.int 0)=some (.str "pick"))(e1:aO R (.int 1)=some (.int v))(et:aO Fs (.int 0)=some t.d)(ef:aO Fs (.int 1)=some f.d)(eg:aO Fs (.int 2)=some g.d):cl fns (d+2) 53 [.d R,.d Wi,.d Fs] S=some (.d (nX t f g).d,S):=by
 have t1:=mB (aD fns (d+1)) R Wi Fs v S .pick;have t2:=nF (aD fns (d+1)) R Wi Fs v S .pick;have t3:=oU (aD fns (d+1)) R Wi Fs v S .pick;have t4:=qF (aD fns (d+1)) R Wi Fs v S .pick;have t5:=sO (aD fns (d+1)) R Wi Fs v S .pick;have t6:=yT (aD fns (d+1)) R Wi Fs v S .pick;have t7:=aCn (aD fns (d+1)) R Wi Fs v S .pick;refine eN (S1:=S) rfl (d+1) rfl rfl List.take_length (eH (S1:=S) (w:=.d (.str Wd.pick.s)) (fM rfl e0) rfl (eH (S1:=S) (w:=.d (.int v)) (fM rfl e1) rfl (bP t1 (bP t2 (bP t3 (bP t4 (bP t5 (bP t6 (dO t7 (cR ?_))))))))));simp only[gS0,et,ef,eg,aND d t f g]
end
structure Op(f:Ft)(w:Nat):Prop where
 ok:FtOk f w
 ho:∃ a,a < 2^w/\Hd f a w
 w1:1<=w
 w2:w<=64
theorem Op.dj{f:Ft}{w:Nat}(o:Op f w):f.N &&& f.O=0:=by
 obtain⟨a,_,h⟩:=o.ho;exact aT8 h
noncomputable def bE:Wd->Nat
 | .in | .num=>0
 | .not | .left | .right | .slide | .cut | .wide | .sign=>1
 | .pick=>3
 | _=>2
theorem aNv(wd:Wd):zZ rT (.str wd.s)=some (.int (bE wd:Nat)):=by cases wd<;>kernel_rfl
theorem aIC(r:Rw):aO r.d (.int 0)=some (.str r.wd.s):=eG (xs:=.str r.wd.s::nD r.w::r.args.map nD) (k:=0) rfl
theorem aN5{fa:FE}{fl fh:FO}{env:aT}{S:aC}(r:Rw)(c:Nat)(h1:fa env S=some (.d r.d,S))(h2:fl env S=some (some 2,S))(h3:fh env S=some (some ((2+c:Nat):Int),S)):jV fa fl fh env S=some (.d (.tuple ((r.args.take c).map nD)),S):=by
 have i2:HT.sIx (PyData.str r.wd.s::nD r.w::r.args.map nD).length 0 (some 2)=2:=by
  rw[show(2:Int)=((2:Nat):Int) from rfl,HT.sIx_nat]
  simp
 have e:fJ (PyData.str r.wd.s::nD r.w::r.args.map nD) (some 2) (some ((2+c:Nat):Int))=(r.args.take c).map nD:=by
  unfold fJ;rw[i2,HT.sIx_nat];simp only[List.drop_succ_cons,List.drop_zero,List.length_cons,List.length_map];rw[List.map_take];rcases Nat.le_total c r.args.length with z | z
  ·rw[Nat.min_eq_left (by omega),show 2+c - 2=c by omega]
  ·rw[Nat.min_eq_right (by omega),List.take_of_length_le (by simp),List.take_of_length_le (by simpa using z)]
 unfold jV;rw[h1,oB];simp only[];rw[h2,oB];simp only[];rw[h3,oB];simp only[dr,oB,Rw.d];rw[e]
theorem oE(d:Nat)(r:Rw)(S:aC):cl fns (d+1) 15 [.d r.d] S=some (.d (.tuple ((r.args.take (bE r.wd)).map nD)),S):=by
 have e2:(2:Int)+((bE r.wd:Nat):Int)=((2+bE r.wd:Nat):Int):=by omega
 have sl:ev (aD fns d) (.sl (.var 0) (.cons (.int 2) .nil) (.cons (.bin .Add (.int 2) (.tab "OPERAND_COUNTS" rT (.ix (.var 0) (.int 0)))) .nil)) [some (.d r.d)] S=some (.d (.tuple ((r.args.take (bE r.wd)).map nD)),S):=by
  simp only[aCD];refine aN5 r (bE r.wd) (by simp only[evs]) (by simp only[evs,jP]) ?_
  simp only[gS0,jP,aIC,aNv,cK,e2]
 rw[aQ rfl d _ S rfl];show((cX (nN (ev (aD fns d) (.sl (.var 0) (.cons (.int 2) .nil) (.cons (.bin .Add (.int 2) (.tab "OPERAND_COUNTS" rT (.ix (.var 0) (.int 0)))) .nil)))) oW) [some (.d r.d)] S).bind _=_;simp only[cX,nN,sl,oB,lA,List.take_length]
inductive RwOk:Rw->List Nat->Prop
 | inp {w:Nat} (h1:1<=w) (h2:w<=64):RwOk ⟨.in,w,[]⟩ []
 | num {w n:Nat} (h1:1<=w) (h2:w<=64) (hn:n < 2^w):RwOk ⟨.num,w,[n]⟩ []
 | nt {w a:Nat} (h1:1<=w) (h2:w<=64):RwOk ⟨.not,w,[a]⟩ [w]
 | sh {wd:Wd}{w a k:Nat} (h1:1<=w) (h2:w<=64) (bD:wd=.left\/wd=.right\/wd=.slide) (hk:k < 64):RwOk ⟨wd,w,[a,k]⟩ [w]
 | cut {w v a:Nat} (h1:1<=w) (hv:w<=v) (h2:v<=64):RwOk ⟨.cut,w,[a]⟩ [v]
 | wide {w v a:Nat} (h1:1<=v) (hv:v<=w) (h2:w<=64):RwOk ⟨.wide,w,[a]⟩ [v]
 | sign {w v a:Nat} (h1:1<=v) (hv:v<=w) (h2:w<=64):RwOk ⟨.sign,w,[a]⟩ [v]
 | bw {wd:Wd}{w a b:Nat} (h1:1<=w) (h2:w<=64) (bD:wd=.and\/wd=.or\/wd=.xor):RwOk ⟨wd,w,[a,b]⟩ [w,w]
 | sm {s:Sw}{w a b:Nat} (h1:1<=w) (h2:w<=64):RwOk ⟨s.wd,w,[a,b]⟩ [w,w]
 | cmp {wd:Wd}{v a b:Nat} (h1:1<=v) (h2:v<=64) (bD:wd=.same\/wd=.less\/wd=.under):RwOk ⟨wd,1,[a,b]⟩ [v,v]
 | pick {w c a b:Nat} (h1:1<=w) (h2:w<=64):RwOk ⟨.pick,w,[c,a,b]⟩ [1,w,w]
noncomputable def rL:List Nat->List Nat->Prop
 | w::ws,n::ns=>n < 2^w/\rL ws ns
 | [],[]=>True
 | _,_=>False
theorem zY{w:Nat}{ns:List Nat}(h:rL [w] ns):∃ a,ns=[a]/\a < 2^w:=by
 rcases ns with _ | ⟨a,_ | ⟨b,r⟩⟩
 ·exact h.elim
 ·exact⟨a,rfl,h.1⟩
 ·exact h.2.elim
theorem aJM{w v:Nat}{ns:List Nat}(h:rL [w,v] ns):∃ a b,ns=[a,b]/\a < 2^w/\b < 2^v:=by
 rcases ns with _ | ⟨a,_ | ⟨b,_ | ⟨c,r⟩⟩⟩
 ·exact h.elim
 ·exact h.2.elim
 ·exact⟨a,b,rfl,h.1,h.2.1⟩
 ·exact h.2.2.elim
theorem aUo{w v u:Nat}{ns:List Nat}(h:rL [w,v,u] ns):∃ a b c,ns=[a,b,c]/\a < 2^w/\b < 2^v/\c < 2^u:=by
 rcases ns with _ | ⟨a,_ | ⟨b,_ | ⟨c,_ | ⟨e,r⟩⟩⟩⟩
 ·exact h.elim
 ·exact h.2.elim
 ·exact h.2.2.elim
 ·exact⟨a,b,c,rfl,h.1,h.2.1,h.2.2.1⟩
 ·exact h.2.2.2.elim
noncomputable def shV(wd:Wd)(w a k:Nat):Nat:=match wd with
 | .left=>a*2^k%2^w
 | .right=>a / 2^k
 | _=>dX a w (w+k) / 2^k
noncomputable def cmV(wd:Wd)(w a b:Nat):Bool:=match wd with
 | .same=>decide (a=b)
 | .less=>decide ((a:Int) < (b:Int))
 | _=>decide (oA a w < oA b w)
noncomputable def cbV(wd:Wd)(w a b:Nat):Nat:=match wd with
 | .and=>a &&& b
 | .or=>a ||| b
 | .xor=>a ^^^ b
 | .add=>rs ((a:Nat)+(b:Nat):Int) w
 | .sub=>rs ((a:Nat) - (b:Nat):Int) w
 | _=>rs ((a:Nat)*(b:Nat):Int) w
noncomputable def g0(l:List Nat)(i:Nat):Nat:=l.getD i 0
noncomputable def iL(r:Rw)(ws ns:List Nat):Nat:=match r.wd with
 | .in=>0
 | .num=>g0 r.args 0
 | .not=>2^r.w - 1 - g0 ns 0
 | .left | .right | .slide=>shV r.wd r.w (g0 ns 0) (g0 r.args 1)
 | .cut=>g0 ns 0%2^r.w
 | .wide=>g0 ns 0
 | .sign=>dX (g0 ns 0) (g0 ws 0) r.w
 | .same | .less | .under=>(cmV r.wd (g0 ws 0) (g0 ns 0) (g0 ns 1)).toNat
 | .pick=>if g0 ns 0=1 then g0 ns 1 else g0 ns 2
 | wd=>cbV wd r.w (g0 ns 0) (g0 ns 1)
theorem aO1{n w:Nat}(hn:n < 2^w):n ^^^ (2^w - 1)=2^w - 1 - n:=by
 apply xAm;intro i;rw[Nat.testBit_xor,eE];have:=qD hn i;unfold pL at this;rw[this]
 by_cases c:i < w
 ·rw[dqT c,Bool.true_and];cases n.testBit i<;>rfl
 ·rw[dqF c,dD hn (by omega)]
  rfl
theorem aHe(wd:Wd):bE wd<=3:=by cases wd<;>decide
theorem aBn(S0:aC)(l:List D)(x:D)(h:l.length<=1000):eZ (S0++[some l]) (.loc S0.length) (.d x)=some (.d .none,S0++[some (l++[x])]):=by
 unfold eZ;simp only[List.getElem?_append_right (Nat.le_refl S0.length),Nat.sub_self,List.getElem?_cons_zero];rw[if_pos (by rw[sizeLine_eq];omega)]
 rw[List.set_append_right _ _ (Nat.le_refl _),Nat.sub_self];rfl
theorem pX(S0:aC)(l:List D):(S0++[some l])[S0.length]? = some (some l):=by
 rw[List.getElem?_append_right (Nat.le_refl _),Nat.sub_self];rfl
noncomputable def bG(r:Rw)(l:List Nat):List Nat:=(r.args.take (bE r.wd)).map (g0 l)
theorem aEq{α:Type}{l:List α}{vs:List D}{f:α->D}(h1:vs.length=l.length)(h2:∀ (i:Nat) (a:α),l[i]? = some a->∃ v,vs[i]? = some v/\v=f a):vs=l.map f:=by
 apply List.ext_getElem?;intro i;rw[xAb]
 by_cases c:i < l.length
 ·obtain⟨v,h3,rfl⟩:=h2 i l[i] (List.getElem?_eq_getElem c);rw[h3,List.getElem?_eq_getElem c];rfl
 ·rw[List.getElem?_eq_none (by omega),List.getElem?_eq_none (by omega)]
  rfl
theorem aBC(d:Nat)(r:Rw)(w:W)(x:D)(f:Nat->D)(S:aC)(hv:∀ aF,dr (S++[some aF]) w=some x)(hx:∀ a∈r.args.take (bE r.wd),aO x (nD a)=some (f a)):cl fns (d+2) 16 [.d r.d,w] S=some (.d (.tuple ((r.args.take (bE r.wd)).map f)),S):=by
 have cH:(r.args.take (bE r.wd)).length<=3:=by have:=aHe r.wd;rw[List.length_take];omega
 obtain⟨vs,S',e1,hS',hI,hvl,hq⟩:=aFk (t:=.one 2) (fi:=lv (aD fns (d+1)) (.it (.call 15 (.cons (.var 0) .nil)))) (fe:=ev (aD fns (d+1)) (.ix (.var 1) (.var 2))) (env:=[some (.d r.d),some w,none]) (S:=S) (S1:=S) nD (λ _ S'=>S'=S) (λ a v=>v=f a) (r.args.take (bE r.wd)) (by
  simp only[evs,oE d,fP]) (by rw[sizeLine_eq];omega) rfl (by
  intro a ha;refine⟨_,rfl,?_⟩;rintro j S' aF hj hS rfl;refine⟨f a,S',?_,rfl,rfl,rfl⟩;have hd:∀ {k:D->Option (W × aC)},(dr (S'++[some aF]) w).bind k=k x:=λ {k}=>by rw[hv aF];rfl
  simp only[aCz,aB3,nT,f2,iY,gP,clr,Tg.slots,List.foldl_cons,List.foldl_nil,List.set_cons_succ,List.set_cons_zero,List.getElem?_cons_succ,List.getElem?_cons_zero,oB,hd];show((aO x (nD a)).bind λ z=>some (W.d z,S'++[some aF]))=_
  rw[hx a ha];rfl)
 subst hI;have e2:vs=(r.args.take (bE r.wd)).map f:=aEq hvl hq;subst e2;have e1':lv (aD fns (d+1)) aDM [some (.d r.d),some w,none] S'=some ((r.args.take (bE r.wd)).map f,S'):=e1;rw[aQ rfl (d+1) _ S' rfl];simp only[gR1,aD7,e1',iU,iR]
theorem aTn{l:List Nat}{a:Nat}(h:a < l.length):(l.map nD)[a]? = some (nD (g0 l a)):=by
 rw[xAb,List.getElem?_eq_getElem h];show some (nD l[a])=some (nD (l.getD a 0));rw[xAh,List.getElem?_eq_getElem h];rfl
theorem aOR(d:Nat)(r:Rw)(l:List Nat)(S:aC)(h:∀ a∈r.args.take (bE r.wd),a < l.length):cl fns (d+2) 16 [.d r.d,.d (.tuple (l.map nD))] S=some (.d (.tuple ((bG r l).map nD)),S):=by
 have:=aBC d r (.d (.tuple (l.map nD))) (.tuple (l.map nD)) (λ a=>nD (g0 l a)) S (λ _=>rfl) λ a ha=>eG (aTn (h a ha))
 rw[this,bG,List.map_map];rfl
theorem aKE(d:Nat)(rs:List Rw)(o:D)(hl:rs.length<=1000)(S:aC):cl fns (d+1) 18 [.d (.tuple [.tuple (rs.map Rw.d),o])] S=some (.d (.tuple ((rs.map (·.w)).map nD)),S):=by
 have i0:aO (.tuple [.tuple (rs.map Rw.d),o]) (.int 0)=some (.tuple (rs.map Rw.d)):=rfl;have hc:lv (aD fns d) aDU [some (.d (.tuple [.tuple (rs.map Rw.d),o])),none] S=some ((rs.map (·.w)).map nD,S):=by
  rw[List.map_map];refine mQ (fi:=lv (aD fns d) (.it (.ix (.var 0) (.int 0)))) (fe:=ev (aD fns d) (.ix (.var 1) (.int 1))) Rw.d (nD ∘ λ r=>r.w) rs ?_ (by rw[sizeLine_eq];omega) λ r hr=>?_
  ·simp only[gS0,i0,fP]
  ·refine⟨_,rfl,λ S'=>?_⟩
   simp only[gS0,clr,List.foldl_cons,List.foldl_nil,dZ]
 rw[aQ rfl d _ S rfl];simp only[gR1,aEr,hc,iU,iR]
noncomputable def hG:List Rw->List Nat->Prop
 | [],is=>is=[]
 | r::rs,is=>if r.wd=.in then ∃ n is',is=n::is'/\n < 2^r.w/\hG rs is' else hG rs is
def aCM(rs:List Rw):Prop:=∀ (j:Nat) (r:Rw),rs[j]? = some r->RwOk r (bG r (rs.map (·.w)))/\∀ a∈r.args.take (bE r.wd),a < j
theorem aG6{W aF:List Nat}(h:∀ (i a w:Nat),aF[i]? = some a->W[i]? = some w->a < 2^w):∀ (l:List Nat),(∀ a∈l,a < aF.length/\a < W.length)->rL (l.map (g0 W)) (l.map (g0 aF))
 | [],_=>True.intro
 | a::l,hl=>by
   obtain⟨h1,h2⟩:=hl a xAd;refine⟨h a _ _ ?_ ?_,aG6 h l λ b hb=>hl b (xAg _ hb)⟩
   ·show aF[a]? = some (aF.getD a 0);rw[xAh,List.getElem?_eq_getElem h1];rfl
   ·show W[a]? = some (W.getD a 0);rw[xAh,List.getElem?_eq_getElem h2];rfl
theorem aQf{r:Rw}{ws ns:List Nat}(h:RwOk r ws)(hl:rL ws ns):iL r ws ns < 2^r.w:=by
 have hp:=xAf r.w;cases h with
 | inp=>exact hp
 | num h1 h2 hn=>exact hn
 | nt =>
   obtain⟨x,rfl,hx⟩:=zY hl;exact xAj (Nat.sub_le _ _) (by omega)
 | sh h1 h2 bD hk =>
   obtain⟨x,rfl,hx⟩:=zY hl;rcases bD with rfl | rfl | rfl
   ·exact Nat.mod_lt _ hp
   ·exact xAj (Nat.div_le_self _ _) hx
   ·rename_i w a k;show dX x w (w+k) / 2^k < 2^w;rw[Nat.div_lt_iff_lt_mul (xAf k),<- Nat.pow_add];exact sC hx h1 (by omega)
 | cut=>exact Nat.mod_lt _ hp
 | wide h1 hv h2 =>
   obtain⟨x,rfl,hx⟩:=zY hl;exact xAc hx (Nat.pow_le_pow_right (by decide) hv)
 | sign h1 hv h2 =>
   obtain⟨x,rfl,hx⟩:=zY hl;exact sC hx h1 hv
 | bw h1 h2 bD =>
   obtain⟨x,y,rfl,hx,hy⟩:=aJM hl;rcases bD with rfl | rfl | rfl
   ·exact xAj Nat.and_le_left hx
   ·exact Nat.or_lt_two_pow hx hy
   ·exact Nat.xor_lt_two_pow hx hy
 | sm h1 h2 =>
   obtain⟨x,y,rfl,hx,hy⟩:=aJM hl;rename_i s w a b;cases s
   ·exact mZ (((x:Nat):Int)+((y:Nat):Int)) w
   ·exact mZ (((x:Nat):Int) - ((y:Nat):Int)) w
   ·exact mZ (((x:Nat):Int)*((y:Nat):Int)) w
 | cmp h1 h2 bD =>
   have q:∀ b:Bool,b.toNat < 2^1:=λ b=>by cases b<;>decide
   rcases bD with rfl | rfl | rfl<;>exact q _
 | pick h1 h2 =>
   obtain⟨z,x,y,rfl,hz,hx,hy⟩:=aUo hl;show(if z=1 then x else y) < _
   split
   ·exact hx
   ·exact hy
noncomputable def eB:List Rw->List Nat->List Nat->List Nat->List Nat
 | [],_,_,aF=>aF
 | r::rs,W,is,aF=>if r.wd=.in then eB rs W is.tail (aF++[g0 is 0]) else eB rs W is (aF++[iL r (bG r W) (bG r aF)])
structure Prg(rs:List Rw):Prop where
 l:rs.length<=100
 fit:aCM rs
 ins:∃ is,hG rs is
 ws:∀ (j:Nat) (r:Rw),rs[j]? = some r->1<=r.w/\r.w<=64
theorem zA{l:List Nat}{a:Nat}(h:a < l.length):l[a]? = some (g0 l a):=by
 show l[a]? = some (l.getD a 0);rw[xAh,List.getElem?_eq_getElem h];rfl
theorem aBr:∀ (rs:List Rw) (W is aF:List Nat),∃ t,eB rs W is aF=aF++t
 | [],W,is,aF=>⟨[],by simp[eB]⟩
 | r::rs,W,is,aF=>by
   unfold eB
   split
   ·obtain⟨t,h⟩:=aBr rs W is.tail (aF++[g0 is 0]);exact⟨[g0 is 0]++t,by rw[h,List.append_assoc]⟩
   ·obtain⟨t,h⟩:=aBr rs W is (aF++[iL r (bG r W) (bG r aF)]);exact⟨[iL r (bG r W) (bG r aF)]++t,by rw[h,List.append_assoc]⟩
theorem aBP:∀ (rs:List Rw) (W is aF:List Nat) (j:Nat) (r:Rw),rs[j]? = some r->r.wd≠.in->(eB rs W is aF)[aF.length+j]? = some (iL r (bG r W) (bG r ((eB rs W is aF).take (aF.length+j))))
 | [],W,is,aF,j,r,h,_=>by simp at h
 | q::rs,W,is,aF,0,r,h,hw=>by
   cases h;unfold eB;rw[if_neg hw];obtain⟨t,ht⟩:=aBr rs W is (aF++[iL q (bG q W) (bG q aF)]);rw[ht,Nat.add_zero,List.append_assoc,List.take_left,List.getElem?_append_right (Nat.le_refl _),Nat.sub_self];rfl
 | q::rs,W,is,aF,j+1,r,h,hw=>by
   have h':rs[j]? = some r:=by simpa using h
   unfold eB
   split
   ·have:=aBP rs W is.tail (aF++[g0 is 0]) j r h' hw;rw[xAo,show aF.length+[g0 is 0].length+j=aF.length+(j+1) by simp;omega] at this
    exact this
   ·have:=aBP rs W is (aF++[iL q (bG q W) (bG q aF)]) j r h' hw;rw[xAo,show aF.length+[iL q (bG q W) (bG q aF)].length+j=aF.length+(j+1) by simp;omega] at this
    exact this
theorem aNc{r:Rw}{l:List Nat}{m:Nat}(h:∀ a∈r.args.take (bE r.wd),a < m):bG r (l.take m)=bG r l:=by
 unfold bG;refine List.map_congr_left λ a ha=>?_
 show(l.take m).getD a 0=l.getD a 0;rw[xAh,xAh,List.getElem?_take_of_lt (h a ha)]
theorem aPw{rs:List Rw}(hf:aCM rs)(is:List Nat){j:Nat}{r:Rw}(hr:rs[j]? = some r)(hw:r.wd≠.in):(eB rs (rs.map (·.w)) is [])[j]? = some (iL r (bG r (rs.map (·.w))) (bG r (eB rs (rs.map (·.w)) is []))):=by
 have:=aBP rs (rs.map (·.w)) is [] j r hr hw;rw[List.length_nil,Nat.zero_add,aNc (hf j r hr).2] at this;exact this
theorem aBv:∀ (rs:List Rw) (W is aF:List Nat),(eB rs W is aF).length=aF.length+rs.length
 | [],_,_,_=>rfl
 | r::rs,W,is,aF=>by
   unfold eB
   split
   ·rw[aBv rs,xAo];simp;omega
   ·rw[aBv rs,xAo];simp;omega
theorem aGg{W aF:List Nat}{z w:Nat}(h:∀ (i a w:Nat),aF[i]? = some a->W[i]? = some w->a < 2^w)(hw:W[aF.length]? = some w)(hz:z < 2^w):∀ (i a w:Nat),(aF++[z])[i]? = some a->W[i]? = some w->a < 2^w:=λ i a v h1 h2=>by
 by_cases c:i < aF.length
 ·rw[xAn c] at h1;exact h i a v h1 h2
 ·have ci:i=aF.length:=by
   have:=(gIm h1).1;simp at this;omega
  subst ci;rw[List.getElem?_append_right (Nat.le_refl _),Nat.sub_self] at h1;cases h1;rw[hw] at h2;cases h2;exact hz
theorem aBH{rs0:List Rw}(hf:aCM rs0):∀ (rs:List Rw) (is aF:List Nat),rs=rs0.drop aF.length->hG rs is->(∀ (i a w:Nat),aF[i]? = some a->(rs0.map (·.w))[i]? = some w->a < 2^w)->∀ (i a w:Nat),(eB rs (rs0.map (·.w)) is aF)[i]? = some a->(rs0.map (·.w))[i]? = some w->a < 2^w
 | [],is,aF,_,_,hb=>hb
 | r::rs,is,aF,hd,hi,hb=>by
   have hr:rs0[aF.length]? = some r:=by
    have:=congrArg (λ l=>l[0]?) hd
    simp only[List.getElem?_cons_zero,List.getElem?_drop,Nat.add_zero] at this;exact this.symm
   have hd':∀ z:Nat,rs=rs0.drop (aF++[z]).length:=λ z=>by
    rw[xAo,List.length_singleton];have:=congrArg List.tail hd;rw[List.tail_drop] at this;exact this
   have hw:(rs0.map (·.w))[aF.length]? = some r.w:=by rw[xAb,hr];rfl
   have hj:aF.length < rs0.length:=(gIm hr).1;unfold eB
   split
   ·rename_i c;rw[hG,if_pos c] at hi;obtain⟨n,is',rfl,hn,hi'⟩:=hi;exact aBH hf rs is' (aF++[n]) (hd' n) hi' (aGg hb hw hn)
   ·rename_i c;rw[hG,if_neg c] at hi;obtain⟨f1,f2⟩:=hf _ r hr;have lt:=aG6 hb (r.args.take (bE r.wd)) λ a ha=>⟨f2 a ha,by have:=f2 a ha;rw[List.length_map];omega⟩
    exact aBH hf rs is _ (hd' _) hi (aGg hb hw (aQf f1 lt))
theorem aGr{rs:List Rw}(p:Prg rs){is:List Nat}(hi:hG rs is):(eB rs (rs.map (·.w)) is []).length=rs.length:=by
 rw[aBv];simp
theorem aH5{rs:List Rw}(p:Prg rs){is:List Nat}(hi:hG rs is){i a w:Nat}(h1:(eB rs (rs.map (·.w)) is [])[i]? = some a)(h2:(rs.map (·.w))[i]? = some w):a < 2^w:=aBH p.fit rs is [] rfl hi (λ i a w h=>by simp at h) i a w h1 h2
theorem aM3{n w:Nat}(hn:n < 2^w):(2^w - 1) ^^^ n=2^w - 1 - n:=by
 rw[Nat.xor_comm];exact aO1 hn
noncomputable def rQ(n w:Nat):Ft:=⟨2^w - 1 - n,n,1⟩
theorem aIW{n w:Nat}(hn:n < 2^w)(hw:1<=w):FtOk (rQ n w) w:=⟨by show 2^w - 1 - n < 2^w;have:=xAf w;omega,hn,Nat.le_refl 1,hw⟩
theorem aNJ{n w:Nat}(hn:n < 2^w):Hd (rQ n w) n w:=by
 refine⟨λ i hi=>?_,λ i hi=>hi,kM _ _⟩
 have hi':(2^w - 1 - n).testBit i=true:=hi
 by_cases c:i < w
 ·rw[yQ hn c] at hi';simpa using hi'
 ·exact dD hn (by omega)
theorem aGX{w:Nat}(hw:1<=w):gJ jD w=jD:=by
 have u:cT 0 1 w=0:=by
  unfold cT;rw[Nat.zero_and,if_pos rfl]
 have t:tr 0 w=0:=by
  unfold tr;rw[Nat.zero_xor];have:bl (2^w - 1)=w:=aFh (sZ w) (.inr (by rw[eE,dqT (by omega)]))
  omega
 show Ft.mk (cT 0 1 w) (cT 0 1 w) (uV 1 (tr (cT 0 1 w) w) (tr (cT 0 1 w) w))=⟨0,0,1⟩;rw[u,t];rfl
theorem aMG(d n w:Nat)(hn:n < 2^w)(bL:1<=w)(hw:w<=64)(S:aC):cl fns (d+4) 54 [.d (.tuple [.str "num",.int (w:Nat),.int (n:Nat)]),.d (.tuple []),.d (.tuple [])] S=some (.d (gJ (rQ n w) w).d,S):=by
 have nf:cl fns (d+2) 40 [.d (.int (w:Nat)),.d (.int (n:Nat))] S=some (.d (rQ n w).d,S):=by
  rw[aQ rfl (d+1) _ S rfl];have hq52:=dF d w (by omega)
  simp only[gR1,aES,hq52,lJ,aM3 hn]
 have i2:aO (.tuple [.str "num",.int (w:Nat),.int (n:Nat)]) (.int 2)=some (.int (n:Nat)):=rfl;refine aBS d _ _ _ S w (rQ n w) rfl ?_ (aIW hn bL) hw;have t1:=mB (aD fns (d+2)) (.tuple [.str "num",.int (w:Nat),.int (n:Nat)]) (.tuple []) (.tuple []) (w:Nat) S .num;have t2:=nF (aD fns (d+2)) (.tuple [.str "num",.int (w:Nat),.int (n:Nat)]) (.tuple []) (.tuple []) (w:Nat) S .num;refine eN (S1:=S) rfl (d+2) rfl rfl List.take_length (eH (S1:=S) (w:=.d (.str Wd.num.s)) (fM rfl rfl) rfl (eH (S1:=S) (w:=.d (.int (w:Nat))) (fM rfl rfl) rfl (bP t1 (dO t2 (cR ?_)))));simp only[gS0,i2,nf]
theorem aOV(d w:Nat)(bL:1<=w)(hw:w<=64)(S:aC):cl fns (d+4) 54 [.d (.tuple [.str "in",.int (w:Nat)]),.d (.tuple []),.d (.tuple [])] S=some (.d jD.d,S):=by
 have t1:=mB (aD fns (d+2)) (.tuple [.str "in",.int (w:Nat)]) (.tuple []) (.tuple []) (w:Nat) S .in;have hk:FtOk jD w:=⟨xAf w,xAf w,Nat.le_refl 1,bL⟩;have r:=aBS d (.tuple [.str "in",.int (w:Nat)]) (.tuple []) (.tuple []) S w jD rfl (eN (S1:=S) rfl (d+2) rfl rfl List.take_length (eH (S1:=S) (w:=.d (.str Wd.in.s)) (fM rfl rfl) rfl (eH (S1:=S) (w:=.d (.int (w:Nat))) (fM rfl rfl) rfl (dO t1 (cR rfl))))) hk hw;rw[aGX bL] at r;exact r
noncomputable def pH:List Ft->List Nat->List Nat->Prop
 | f::Fs,w::ws,n::ns=>(n < 2^w/\Hd f n w)/\pH Fs ws ns
 | [],[],[]=>True
 | _,_,_=>False
noncomputable def qX:List Ft->List Nat->Prop
 | f::Fs,w::ws=>Op f w/\qX Fs ws
 | [],[]=>True
 | _,_=>False
structure RG(r:Rw)(ws:List Nat)(Fs:List Ft):Prop where
 g:∃ g:Ft,FtOk g r.w/\(∀ d S,cl fns (d+7) 54 [.d r.d,.d (.tuple (ws.map nD)),.d (.tuple (Fs.map Ft.d))] S=some (.d (gJ g r.w).d,S))/\(∀ ns,pH Fs ws ns->r.wd≠.in->Hd g (iL r ws ns) r.w)/\(r.wd=.in->∀ z,Hd g z r.w)
theorem vJ{w:Nat}{Fs:List Ft}(h:qX Fs [w]):∃ f,Fs=[f]/\Op f w:=by
 rcases Fs with _ | ⟨a,_ | ⟨b,r⟩⟩
 ·exact h.elim
 ·exact⟨a,rfl,h.1⟩
 ·exact h.2.elim
theorem aC1{w v:Nat}{Fs:List Ft}(h:qX Fs [w,v]):∃ f g,Fs=[f,g]/\Op f w/\Op g v:=by
 rcases Fs with _ | ⟨a,_ | ⟨b,_ | ⟨c,r⟩⟩⟩
 ·exact h.elim
 ·exact h.2.elim
 ·exact⟨a,b,rfl,h.1,h.2.1⟩
 ·exact h.2.2.elim
theorem aUX{w v u:Nat}{Fs:List Ft}(h:qX Fs [w,v,u]):∃ f g k,Fs=[f,g,k]/\Op f w/\Op g v/\Op k u:=by
 rcases Fs with _ | ⟨a,_ | ⟨b,_ | ⟨c,_ | ⟨e,r⟩⟩⟩⟩
 ·exact h.elim
 ·exact h.2.elim
 ·exact h.2.2.elim
 ·exact⟨a,b,c,rfl,h.1,h.2.1,h.2.2.1⟩
 ·exact h.2.2.2.elim
theorem uR{f:Ft}{w:Nat}{ns:List Nat}(h:pH [f] [w] ns):∃ a,ns=[a]/\a < 2^w/\Hd f a w:=by
 rcases ns with _ | ⟨a,_ | ⟨b,r⟩⟩
 ·exact h.elim
 ·exact⟨a,rfl,h.1⟩
 ·exact h.2.elim
theorem aCU{f g:Ft}{w v:Nat}{ns:List Nat}(h:pH [f,g] [w,v] ns):∃ a b,ns=[a,b]/\(a < 2^w/\Hd f a w)/\b < 2^v/\Hd g b v:=by
 rcases ns with _ | ⟨a,_ | ⟨b,_ | ⟨c,r⟩⟩⟩
 ·exact h.elim
 ·exact h.2.elim
 ·exact⟨a,b,rfl,h.1,h.2.1⟩
 ·exact h.2.2.elim
theorem aUO{f g k:Ft}{w v u:Nat}{ns:List Nat}(h:pH [f,g,k] [w,v,u] ns):∃ a b c,ns=[a,b,c]/\(a < 2^w/\Hd f a w)/\(b < 2^v/\Hd g b v)/\c < 2^u/\Hd k c u:=by
 rcases ns with _ | ⟨a,_ | ⟨b,_ | ⟨c,_ | ⟨e,r⟩⟩⟩⟩
 ·exact h.elim
 ·exact h.2.elim
 ·exact h.2.2.elim
 ·exact⟨a,b,c,rfl,h.1,h.2.1,h.2.2.1⟩
 ·exact h.2.2.2.elim
theorem lT{r:Rw}{ws:List Nat}{Fs:List Ft}(hi:r.wd≠.in)(h2:r.w<=64)(g:Ft)(hg:FtOk g r.w)(ho:∀ d S,cl fns (d+6) 53 [.d r.d,.d (.tuple (ws.map nD)),.d (.tuple (Fs.map Ft.d))] S=some (.d g.d,S))(hh:∀ ns,pH Fs ws ns->Hd g (iL r ws ns) r.w):RG r ws Fs:=
 ⟨g,hg,λ d S=>aBS (d+3) _ _ _ S r.w g (dZ r) (ho d S) hg h2,λ ns h _=>hh ns h,λ h=>absurd h hi⟩
theorem aQz{f:Ft}{w a:Nat}(o:Op f w):RG ⟨.not,w,[a]⟩ [w] [f]:=
 lT (λ h=>nomatch h) o.w2 ⟨f.O,f.N,f.A⟩ ⟨o.ok.lO,o.ok.lN,o.ok.a1,o.ok.aw⟩ (λ d S=>aMl (d+5) _ _ _ (w:Nat) S f rfl rfl rfl) λ ns h=>by
  obtain⟨x,rfl,hx,hf⟩:=uR h;exact aNf o.ok o.dj hx hf
theorem aTk{wd:Wd}(h:wd=.left\/wd=.right\/wd=.slide):wd≠.in:=by rcases h with rfl | rfl | rfl<;>decide
theorem aSV{wd:Wd}(h:wd=.and\/wd=.or\/wd=.xor):wd≠.in:=by rcases h with rfl | rfl | rfl<;>decide
theorem aSf{wd:Wd}(h:wd=.same\/wd=.less\/wd=.under):wd≠.in:=by rcases h with rfl | rfl | rfl<;>decide
theorem aS1(s:Sw):s.wd≠.in:=by cases s<;>decide
theorem aRK{f:Ft}{w a k:Nat}(wd:Wd)(bD:wd=.left\/wd=.right\/wd=.slide)(hk:k < 64)(o:Op f w):RG ⟨wd,w,[a,k]⟩ [w] [f]:=by
 refine lT (aTk bD) o.w2 (shN wd w f k) ?_ (λ d S=>aLh (d+5) _ _ _ (w:Nat) S wd bD f k _ rfl rfl rfl rfl (aBE (d+1) wd bD w f k o.ok o.w1 o.w2 (by omega) S)) λ ns h=>?_
 ·rcases bD with rfl | rfl | rfl
  ·exact aOz o.ok o.dj o.w1 k
  ·exact aMh o.ok o.dj o.w1 k
  ·exact aM0 o.ok o.dj o.w1 k
 ·obtain⟨x,rfl,hx,hf⟩:=uR h;rcases bD with rfl | rfl | rfl
  ·exact aLL o.ok o.dj hx hf k
  ·exact aKV o.ok o.dj hx hf k
  ·exact aK1 o.ok o.dj hx hf o.w1 k
theorem aQv{f:Ft}{w v a:Nat}(h1:1<=w)(hv:w<=v)(o:Op f v):RG ⟨.cut,w,[a]⟩ [v] [f]:=
 lT (λ h=>nomatch h) (xAi hv o.w2) (vG v w f) (aRd o.ok o.dj o.w1 h1 hv) (λ d S=>aBF (d+5) _ _ _ (w:Nat) S .cut (.inl rfl) f (v:Nat) _ rfl rfl rfl rfl (aPE (d+3) v w f hv (xAi hv o.w2) S)) λ ns h=>by
  obtain⟨x,rfl,hx,hf⟩:=uR h;exact aMx o.ok o.dj hx hf hv
theorem aOG{f:Ft}{w v a:Nat}(hv:v<=w)(h2:w<=64)(o:Op f v):RG ⟨.wide,w,[a]⟩ [v] [f]:=
 lT (λ h=>nomatch h) h2 (lS v w f) (aOv o.ok o.dj o.w1 hv) (λ d S=>aBF (d+5) _ _ _ (w:Nat) S .wide (.inr (.inl rfl)) f (v:Nat) _ rfl rfl rfl rfl (aNV (d+2) v w f hv h2 S)) λ ns h=>by
  obtain⟨x,rfl,hx,hf⟩:=uR h;exact aLw o.ok o.dj hx hf hv
theorem aON{f:Ft}{w v a:Nat}(hv:v<=w)(h2:w<=64)(o:Op f v):RG ⟨.sign,w,[a]⟩ [v] [f]:=
 lT (λ h=>nomatch h) h2 (uD v w f) (aO9 o.ok o.dj o.w1 hv) (λ d S=>aBF (d+5) _ _ _ (w:Nat) S .sign (.inr (.inr rfl)) f (v:Nat) _ rfl rfl rfl rfl (aOm (d+2) v w f o.w1 hv h2 S)) λ ns h=>by
  obtain⟨x,rfl,hx,hf⟩:=uR h;exact aLU o.ok o.dj hx hf o.w1 hv
theorem aSb{f g:Ft}{w a b:Nat}(wd:Wd)(bD:wd=.and\/wd=.or\/wd=.xor)(o:Op f w)(o':Op g w):RG ⟨wd,w,[a,b]⟩ [w,w] [f,g]:=by
 obtain⟨n,hb',eb,ej⟩:∃ n,(n=0\/n=1\/n=2)/\bwN wd f g=rR n f g/\∀ x y:Nat,iL ⟨wd,w,[a,b]⟩ [w,w] [x,y]=bwv n x y:=by
  rcases bD with rfl | rfl | rfl
  ·exact⟨0,.inl rfl,rfl,λ x y=>rfl⟩
  ·exact⟨1,.inr (.inl rfl),rfl,λ x y=>rfl⟩
  ·exact⟨2,.inr (.inr rfl),rfl,λ x y=>rfl⟩
 refine lT (aSV bD) o.w2 (rR n f g) (aRL hb' o.ok o.dj o'.ok o'.dj) (λ d S=>?_) λ ns h=>?_
 ·have q:=aNT (d+3) (Rw.mk wd w [a,b]).d (.tuple [nD w,nD w]) (.tuple [f.d,g.d]) (w:Nat) S wd bD f g rfl rfl rfl rfl;rw[eb] at q;exact q
 ·obtain⟨x,y,rfl,⟨hx,h1⟩,hy,h2⟩:=aCU h;rw[ej];exact aOf hb' o.ok o.dj h1 o'.ok o'.dj h2
theorem aTi{f g:Ft}{w a b:Nat}(s:Sw)(o:Op f w)(o':Op g w):RG ⟨s.wd,w,[a,b]⟩ [w,w] [f,g]:=by
 obtain⟨p,hp,h⟩:=o.ho;obtain⟨q,hq,h'⟩:=o'.ho;refine lT (aS1 s) o.w2 (vE s w f g) (aQV s o.ok o'.ok hp hq h h') (λ d S=>aM6 d _ _ _ w S s f g rfl rfl rfl rfl o.ok o'.ok (aRP s w f g o.ok o'.ok hp hq h h') o.w2) λ ns hn=>?_
 obtain⟨x,y,rfl,⟨hx,h1⟩,hy,h2⟩:=aCU hn;have e:iL ⟨s.wd,w,[a,b]⟩ [w,w] [x,y]=rs (s.oc (x:Nat) (y:Nat)) w:=by cases s<;>rfl
 rw[e];exact aMB s o.ok o'.ok hx hy h1 h2
theorem aQd{f g:Ft}{v a b:Nat}(wd:Wd)(bD:wd=.same\/wd=.less\/wd=.under)(o:Op f v)(o':Op g v):RG ⟨wd,1,[a,b]⟩ [v,v] [f,g]:=by
 have hk:FtOk (nV wd v f g) 1:=by rcases aSK wd v f g with h | h | h<;>rw[h]<;>exact⟨by decide,by decide,by decide,by decide⟩
 refine lT (aSf bD) (show 1<=64 by omega) (nV wd v f g) hk (λ d S=>aLZ (d+1) _ _ _ ((1:Nat):Int) S wd bD v f g rfl rfl rfl rfl rfl ⟨o.ok,o.dj⟩ ⟨o'.ok,o'.dj⟩ o.w1 o.w2) λ ns hn=>?_
 obtain⟨x,y,rfl,⟨hx,h1⟩,hy,h2⟩:=aCU hn;rcases bD with rfl | rfl | rfl
 ·exact aL5 o.ok hx hy h1 h2
 ·exact aLs o.ok o'.ok hx hy h1 h2
 ·exact aK3 o.ok o'.ok o.dj o'.dj o.w1 hx hy h1 h2
theorem aNS{t f g:Ft}{w c a b:Nat}(ot:Op t 1)(o:Op f w)(o':Op g w):RG ⟨.pick,w,[c,a,b]⟩ [1,w,w] [t,f,g]:=
 lT (λ h=>nomatch h) o.w2 (nX t f g) (aSR o.ok o'.ok) (λ d S=>aKX (d+4) _ _ _ (w:Nat) S t f g rfl rfl rfl rfl rfl) λ ns hn=>by
  obtain⟨z,x,y,rfl,⟨hz,h0⟩,⟨hx,h1⟩,hy,h2⟩:=aUO hn;exact aLM h0 hz h1 h2
theorem aQe{w n:Nat}(h1:1<=w)(h2:w<=64)(hn:n < 2^w):RG ⟨.num,w,[n]⟩ [] []:=
 ⟨rQ n w,aIW hn h1,λ d S=>aMG (d+3) n w hn h1 h2 S,λ ns _ _=>aNJ hn,λ h=>nomatch h⟩
theorem aTZ{w:Nat}(h1:1<=w)(h2:w<=64):RG ⟨.in,w,[]⟩ [] []:=by
 refine⟨jD,⟨xAf w,xAf w,Nat.le_refl 1,h1⟩,λ d S=>?_,λ ns _ h=>absurd rfl h,λ _ z=>⟨λ i h=>qA h,λ i h=>qA h,kM _ _⟩⟩
 have:=aOV (d+3) w h1 h2 S;rw[aGX h1];exact this
theorem rg{r:Rw}{ws:List Nat}(h:RwOk r ws){Fs:List Ft}(o:qX Fs ws):RG r ws Fs:=by
 cases h with
 | inp h1 h2 =>
   rcases Fs with _ | ⟨f,Fs⟩
   ·exact aTZ h1 h2
   ·exact o.elim
 | num h1 h2 hn =>
   rcases Fs with _ | ⟨f,Fs⟩
   ·exact aQe h1 h2 hn
   ·exact o.elim
 | nt h1 h2 =>
   obtain⟨f,rfl,o1⟩:=vJ o;exact aQz o1
 | sh h1 h2 bD hk =>
   obtain⟨f,rfl,o1⟩:=vJ o;exact aRK _ bD hk o1
 | cut h1 hv h2 =>
   obtain⟨f,rfl,o1⟩:=vJ o;exact aQv h1 hv o1
 | wide h1 hv h2 =>
   obtain⟨f,rfl,o1⟩:=vJ o;exact aOG hv h2 o1
 | sign h1 hv h2 =>
   obtain⟨f,rfl,o1⟩:=vJ o;exact aON hv h2 o1
 | bw h1 h2 bD =>
   obtain⟨f,g,rfl,o1,o2⟩:=aC1 o;exact aSb _ bD o1 o2
 | sm h1 h2 =>
   obtain⟨f,g,rfl,o1,o2⟩:=aC1 o;exact aTi _ o1 o2
 | cmp h1 h2 bD =>
   obtain⟨f,g,rfl,o1,o2⟩:=aC1 o;exact aQd _ bD o1 o2
 | pick h1 h2 =>
   obtain⟨t,f,g,rfl,ot,o1,o2⟩:=aUX o;exact aNS ot o1 o2
noncomputable def f0(F:List Ft)(a:Nat):Ft:=F.getD a ⟨0,0,1⟩
noncomputable def fB(r:Rw)(F:List Ft):List Ft:=(r.args.take (bE r.wd)).map (f0 F)
structure Snd(rs:List Rw)(F:List Ft):Prop where
 ok:∀ (i:Nat) (f:Ft) (w:Nat),F[i]? = some f->(rs.map (·.w))[i]? = some w->FtOk f w
 hold:∀ is,hG rs is->∀ (i:Nat) (f:Ft) (w n:Nat),F[i]? = some f->(rs.map (·.w))[i]? = some w->(eB rs (rs.map (·.w)) is [])[i]? = some n->Hd f n w
theorem kR{F:List Ft}{a:Nat}(h:a < F.length):F[a]? = some (f0 F a):=by
 show F[a]? = some (F.getD a ⟨0,0,1⟩);rw[xAh,List.getElem?_eq_getElem h];rfl
theorem aOD{rs:List Rw}(p:Prg rs){a w:Nat}(h:(rs.map (·.w))[a]? = some w):1<=w/\w<=64:=by
 rw[xAb] at h;obtain⟨r,hr,rfl⟩:=Option.map_eq_some_iff.mp h;exact p.ws a r hr
theorem aGS{rs:List Rw}(p:Prg rs){F:List Ft}(s:Snd rs F):∀ (l:List Nat),(∀ a∈l,a < F.length/\a < rs.length)->qX (l.map (f0 F)) (l.map (g0 (rs.map (·.w))))
 | [],_=>True.intro
 | a::l,h=>by
   obtain⟨h1,h2⟩:=h a xAd;have hw:=zA (l:=rs.map (·.w)) (a:=a) (by rw[List.length_map];exact h2)
   have hf:=kR h1;obtain⟨is,hi⟩:=p.ins;have hn:=zA (l:=eB rs (rs.map (·.w)) is []) (a:=a) (by rw[aGr p hi];exact h2)
   obtain⟨w1,w2⟩:=aOD p hw;exact⟨⟨s.ok a _ _ hf hw,⟨_,aH5 p hi hn hw,s.hold is hi a _ _ _ hf hw hn⟩,w1,w2⟩,aGS p s l λ b hb=>h b (xAg _ hb)⟩
theorem aG7{rs:List Rw}(p:Prg rs){F:List Ft}(s:Snd rs F){is:List Nat}(hi:hG rs is):∀ (l:List Nat),(∀ a∈l,a < F.length/\a < rs.length)->pH (l.map (f0 F)) (l.map (g0 (rs.map (·.w)))) (l.map (g0 (eB rs (rs.map (·.w)) is [])))
 | [],_=>True.intro
 | a::l,h=>by
   obtain⟨h1,h2⟩:=h a xAd;have hw:=zA (l:=rs.map (·.w)) (a:=a) (by rw[List.length_map];exact h2)
   have hf:=kR h1;have hn:=zA (l:=eB rs (rs.map (·.w)) is []) (a:=a) (by rw[aGr p hi];exact h2)
   exact⟨⟨aH5 p hi hn hw,s.hold is hi a _ _ _ hf hw hn⟩,aG7 p s hi l λ b hb=>h b (xAg _ hb)⟩
structure Nx(rs:List Rw)(F:List Ft)(j:Nat)(r:Rw)(g:Ft):Prop where
 ok:FtOk g r.w
 rule:∀ d S,cl fns (d+7) 54 [.d r.d,.d (.tuple ((bG r (rs.map (·.w))).map nD)),.d (.tuple ((fB r F).map Ft.d))] S=some (.d g.d,S)
 hold:∀ is,hG rs is->∀ n,(eB rs (rs.map (·.w)) is [])[j]? = some n->Hd g n r.w
theorem aEJ{rs:List Rw}(p:Prg rs){F:List Ft}(s:Snd rs F){j:Nat}{r:Rw}(hr:rs[j]? = some r)(hF:j<=F.length):∃ g,Nx rs F j r g:=by
 obtain⟨f1,f2⟩:=p.fit j r hr;have hj:j < rs.length:=(gIm hr).1;have hb:∀ a∈r.args.take (bE r.wd),a < F.length/\a < rs.length:=λ a ha=>by have:=f2 a ha;omega
 obtain⟨g,gk,rl,h1,h2⟩:=(rg f1 (aGS p s _ hb)).g;refine⟨gJ g r.w,aT0 gk,rl,λ is hi n hn=>(aM2 gk).mpr ?_⟩
 by_cases c:r.wd=.in
 ·exact h2 c n
 ·have e:=aPw p.fit is hr c;rw[hn] at e;cases e;exact h1 _ (aG7 p s hi _ hb) c
theorem aFA{rs:List Rw}{F:List Ft}(s:Snd rs F){r:Rw}{g f:Ft}(hr:rs[F.length]? = some r)(nx:Nx rs F F.length r g)(fk:FtOk f r.w)(hN:∀ i,f.N.testBit i=true->g.N.testBit i=true)(hO:∀ i,f.O.testBit i=true->g.O.testBit i=true)(hA:f.A<=g.A):Snd rs (F++[f]):=by
 have last:∀ {i:Nat}{x:Ft},(F++[f])[i]? = some x->F[i]? = some x\/(i=F.length/\x=f):=λ {i x} h=>by
  by_cases c:i < F.length
  ·rw[xAn c] at h;exact .inl h
  ·have hl:=(gIm h).1;simp at hl;have:i=F.length:=by omega
   subst this;rw[List.getElem?_append_right (Nat.le_refl _),Nat.sub_self] at h;cases h;exact .inr ⟨rfl,rfl⟩
 have hw:(rs.map (·.w))[F.length]? = some r.w:=by rw[xAb,hr];rfl
 refine⟨λ i x w h1 h2=>?_,λ is hi i x w n h1 h2 h3=>?_⟩
 ·rcases last h1 with h | ⟨rfl,rfl⟩
  ·exact s.ok i x w h h2
  ·rw[hw] at h2;cases h2;exact fk
 ·rcases last h1 with h | ⟨rfl,rfl⟩
  ·exact s.hold is hi i x w n h h2 h3
  ·rw[hw] at h2;cases h2;have q:=nx.hold is hi n h3;exact⟨λ i hi=>q.1 i (hN i hi),λ i hi=>q.2.1 i (hO i hi),qB hA q.2.2⟩
theorem aGj(rs:List Rw):Snd rs []:=⟨λ i f w h=>by simp at h,λ is hi i f w n h=>by simp at h⟩
theorem aN8(d:Nat)(r:Rw)(F:List Ft)(S0:aC)(h:∀ a∈r.args.take (bE r.wd),a < F.length):cl fns (d+2) 16 [.d r.d,.loc S0.length] (S0++[some (F.map Ft.d)])=some (.d (.tuple ((fB r F).map Ft.d)),S0++[some (F.map Ft.d)]):=by
 have:=aBC d r (.loc S0.length) (.list (F.map Ft.d)) (λ a=>(f0 F a).d) (S0++[some (F.map Ft.d)]) (λ aF=>by
  show(match (S0++[some (F.map Ft.d)]++[some aF])[S0.length]? with | some (some ds)=>some (PyData.list ds) | _=>none)=_
  rw[List.append_assoc,List.getElem?_append_right (Nat.le_refl _),Nat.sub_self];rfl) λ a ha=>mW (by rw[xAb,kR (h a ha)];rfl)
 rw[this,fB,List.map_map];rfl
theorem aMw{r:Rw}{F:List Ft}{f:Ft}(h:∀ a∈r.args.take (bE r.wd),a < F.length):fB r (F++[f])=fB r F:=by
 unfold fB;refine List.map_congr_left λ a ha=>?_
 show(F++[f]).getD a ⟨0,0,1⟩=F.getD a ⟨0,0,1⟩;rw[xAh,xAh,xAn (h a ha)]
theorem aPi{F:List Ft}{f:Ft}{a:Nat}(h:a < F.length):f0 (F++[f]) a=f0 F a:=by
 show(F++[f]).getD a ⟨0,0,1⟩=F.getD a ⟨0,0,1⟩;rw[xAh,xAh,xAn h]
theorem aP6(F:List Ft)(f:Ft):f0 (F++[f]) F.length=f:=by
 show(F++[f]).getD F.length ⟨0,0,1⟩=f;rw[xAh,List.getElem?_append_right (Nat.le_refl _),Nat.sub_self];rfl
def Own(rs:List Rw)(F:List Ft):Prop:=∀ (i:Nat) (r:Rw),i < F.length->rs[i]? = some r->∃ g,g=f0 F i/\Nx rs F i r g
theorem aGA{rs:List Rw}(p:Prg rs){F:List Ft}{f:Ft}{i:Nat}{r:Rw}{g:Ft}(hi:i<=F.length)(hr:rs[i]? = some r)(nx:Nx rs F i r g):Nx rs (F++[f]) i r g:=by
 refine⟨nx.ok,?_,nx.hold⟩;rw[aMw λ a ha=>by have:=(p.fit i r hr).2 a ha;omega]
 exact nx.rule
theorem aMv{rs:List Rw}(p:Prg rs){F:List Ft}(h:Own rs F){r:Rw}{g:Ft}(hr:rs[F.length]? = some r)(nx:Nx rs F F.length r g):Own rs (F++[g]):=λ i q hi hq=>by
 by_cases c:i < F.length
 ·obtain⟨g',rfl,h1⟩:=h i q c hq;exact⟨_,(aPi c).symm,aGA p (by omega) hq h1⟩
 ·have ci:i=F.length:=by simp at hi;omega
  subst ci;rw[hr] at hq;cases hq;exact⟨g,(aP6 F g).symm,aGA p (Nat.le_refl _) hr nx⟩
theorem aKI(d:Nat)(rs:List Rw)(o:D)(p:Prg rs)(S:aC):∃ F:List Ft,F.length=rs.length/\Snd rs F/\Own rs F/\cl fns (d+9) 55 [.d (.tuple [.tuple (rs.map Rw.d),o])] S=some (.d (.tuple (F.map Ft.d)),S):=by
 have i0:aO (.tuple [.tuple (rs.map Rw.d),o]) (.int 0)=some (.tuple (rs.map Rw.d)):=rfl;have pl:=p.l;obtain⟨aI,S',p1,F,c3,rfl,rfl,fl,fs,fo⟩:=lK (t:=.one 3) (fi:=lv (aD fns (d+8)) wK) (fb:=xs (aD fns (d+8)) wJ) (env:=[some (.d (.tuple [.tuple (rs.map Rw.d),o])),some (.d (.tuple ((rs.map (·.w)).map nD))),some (.loc S.length),none]) (S:=S++[some []]) (S1:=S++[some []]) (ds:=rs.map Rw.d)
  (λ j env S'=>∃ (F:List Ft) (c3:Option W),env=[some (.d (.tuple [.tuple (rs.map Rw.d),o])),some (.d (.tuple ((rs.map (·.w)).map nD))),some (.loc S.length),c3]/\S'=S++[some (F.map Ft.d)]/\F.length=j/\Snd rs F/\Own rs F)
  (by
    simp only[evs,wK,i0,fP]) ⟨[],none,rfl,rfl,rfl,aGj rs,λ i r hi=>absurd hi (Nat.not_lt_zero i)⟩ (by
    rintro j dd env S' hd ⟨F,c3,rfl,rfl,fl,fs,fo⟩;rw[xAb] at hd;obtain⟨r,hr,rfl⟩:=Option.map_eq_some_iff.mp hd;subst fl;obtain⟨f1,f2⟩:=p.fit _ r hr;have hj:F.length < rs.length:=(gIm hr).1;have hWl:(rs.map (·.w)).length=rs.length:=List.length_map ..;obtain⟨g,nx⟩:=aEJ p fs hr (Nat.le_refl _);have o1:=aOR (d+6) r (rs.map (·.w)) (S++[some (F.map Ft.d)]) λ a ha=>by have:=f2 a ha;omega
    have o2:=aN8 (d+6) r F S λ a ha=>f2 a ha
    have rl:=nx.rule (d+1) (S++[some (F.map Ft.d)]);have ap:eZ (S++[some (F.map Ft.d)]) (.loc S.length) (.d g.d)=some (.d .none,S++[some ((F++[g]).map Ft.d)]):=by
     rw[aBn S (F.map Ft.d) _ (by rw[List.length_map];omega),List.map_append]
     rfl
    refine⟨_,[some (.d (.tuple [.tuple (rs.map Rw.d),o])),some (.d (.tuple ((rs.map (·.w)).map nD))),some (.loc S.length),some (.d r.d)],S++[some ((F++[g]).map Ft.d)],rfl,?_,F++[g],_,rfl,rfl,by simp,aFA fs hr nx nx.ok (λ i h=>h) (λ i h=>h) (Nat.le_refl _),aMv p fo hr nx⟩
    simp only[evs,wJ,o1,o2,rl,jS,ap])
 rw[List.length_map] at fl;refine⟨F,fl,fs,fo,?_⟩;have p1':cJ (.one 3) (lv (aD fns (d+8)) wK) (xs (aD fns (d+8)) wJ) [some (.d (.tuple [.tuple (rs.map Rw.d),o])),some (.d (.tuple ((rs.map (·.w)).map nD))),some (.loc S.length),none] (S++[some []])=some (.nx [some (.d (.tuple [.tuple (rs.map Rw.d),o])),some (.d (.tuple ((rs.map (·.w)).map nD))),some (.loc S.length),c3],S++[some (F.map Ft.d)]):=p1;have tk1:∀ x,List.take S.length (S++[x])=S:=λ x=>List.take_left
 rw[aQ rfl (d+8) _ S rfl];have hq53:=aKE (d+7) rs o (by omega)
 simp only[gR1,aFj,hq53,gG,p1',pX,iU,iR,tk1]
theorem aBe:∀ (rs:List Rw) (ws:List Nat),dL ws rs->∀ (j:Nat) (r:Rw),rs[j]? = some r->gE (ws++(rs.take j).map (·.w)) r
 | [],_,_,j,r,h=>by simp at h
 | q::rs,ws,⟨h1,h2⟩,0,r,h=>by
   cases h;simpa using h1
 | q::rs,ws,⟨h1,h2⟩,j+1,r,h=>by
   have:=aBe rs (ws++[q.w]) h2 j r (by simpa using h)
   simpa using this
theorem aJu{a n:Nat}(h:a < n):∀ x∈[a],x < n:=λ x hx=>by
 rw[List.mem_singleton.mp hx];exact h
theorem aJr{a b n:Nat}(h:a < n)(h':b < n):∀ x∈[a,b],x < n:=λ x hx=>by
 rcases List.mem_cons.mp hx with rfl | hx
 ·exact h
 ·exact aJu h' x hx
theorem aUd{a b c n:Nat}(h:a < n)(h':b < n)(h'':c < n):∀ x∈[a,b,c],x < n:=λ x hx=>by
 rcases List.mem_cons.mp hx with rfl | hx
 ·exact h
 ·exact aJr h' h'' x hx
theorem aI6{n:Nat}:∀ x∈([]:List Nat),x < n:=λ x hx=>by simp at hx
section
variable {ws W : List Nat}{n : Nat}(hw : ∀ a v, ws[a]? = some v -> g0 W a = v /\ 1 <= v /\ v <= 64 /\ a < n)
include hw
theorem oP{wd:Wd}{w a v:Nat}{args:List Nat}(e:(args.take (bE wd))=[a])(h:ws[a]? = some v)(k:RwOk ⟨wd,w,args⟩ [v]):RwOk ⟨wd,w,args⟩ (bG ⟨wd,w,args⟩ W)/\∀ x∈args.take (bE wd),x < n:=by
 obtain⟨e1,_,_,e4⟩:=hw a v h;have:bG ⟨wd,w,args⟩ W=[v]:=by
  show(args.take (bE wd)).map (g0 W)=[v];rw[e,List.map_cons,List.map_nil,e1]
 rw[this,e];exact⟨k,aJu e4⟩
theorem oO{wd:Wd}{w a b v u:Nat}{args:List Nat}(e:(args.take (bE wd))=[a,b])(h:ws[a]? = some v)(h':ws[b]? = some u)(k:RwOk ⟨wd,w,args⟩ [v,u]):RwOk ⟨wd,w,args⟩ (bG ⟨wd,w,args⟩ W)/\∀ x∈args.take (bE wd),x < n:=by
 obtain⟨e1,_,_,e4⟩:=hw a v h;obtain⟨d1,_,_,d4⟩:=hw b u h';have:bG ⟨wd,w,args⟩ W=[v,u]:=by
  show(args.take (bE wd)).map (g0 W)=[v,u];rw[e,List.map_cons,List.map_cons,List.map_nil,e1,d1]
 rw[this,e];exact⟨k,aJr e4 d4⟩
omit hw in
theorem aTr{wd:Wd}{w:Nat}(h:gE ws ⟨wd,w,[]⟩):RwOk ⟨wd,w,[]⟩ (bG ⟨wd,w,[]⟩ W)/\∀ x∈List.take (bE wd) [],x < n:=by
 cases wd
 case «in» => exact⟨.inp h.1 h.2.1,aI6⟩
 all_goals exact h.2.2.elim
theorem aTH{wd:Wd}{w a:Nat}(h:gE ws ⟨wd,w,[a]⟩):RwOk ⟨wd,w,[a]⟩ (bG ⟨wd,w,[a]⟩ W)/\∀ x∈List.take (bE wd) [a],x < n:=by
 cases wd
 case num=>exact⟨.num h.1 h.2.1 h.2.2,aI6⟩
 case not=>exact oP hw rfl h.2.2 (.nt h.1 h.2.1)
 case cut =>
  obtain⟨v,q1,q2⟩:=h.2.2;exact oP hw rfl q1 (.cut h.1 q2 (hw a v q1).2.2.1)
 case wide =>
  obtain⟨v,q1,q2⟩:=h.2.2;exact oP hw rfl q1 (.wide (hw a v q1).2.1 q2 h.2.1)
 case sign =>
  obtain⟨v,q1,q2⟩:=h.2.2;exact oP hw rfl q1 (.sign (hw a v q1).2.1 q2 h.2.1)
 all_goals exact h.2.2.elim
theorem aCp{wd:Wd}(bD:wd=.same\/wd=.less\/wd=.under){w a b:Nat}(q:w=1/\∃ v,ws[a]? = some v/\ws[b]? = some v)(e:bE wd=2):RwOk ⟨wd,w,[a,b]⟩ (bG ⟨wd,w,[a,b]⟩ W)/\∀ x∈List.take (bE wd) [a,b],x < n:=by
 obtain⟨rfl,v,q1,q2⟩:=q;exact oO hw (by rw[e];rfl) q1 q2 (.cmp (hw a v q1).2.1 (hw a v q1).2.2.1 bD)
theorem aTI{wd:Wd}{w a b:Nat}(h:gE ws ⟨wd,w,[a,b]⟩):RwOk ⟨wd,w,[a,b]⟩ (bG ⟨wd,w,[a,b]⟩ W)/\∀ x∈List.take (bE wd) [a,b],x < n:=by
 cases wd
 case left=>exact oP hw rfl h.2.2.1 (.sh h.1 h.2.1 (.inl rfl) h.2.2.2)
 case right=>exact oP hw rfl h.2.2.1 (.sh h.1 h.2.1 (.inr (.inl rfl)) h.2.2.2)
 case slide=>exact oP hw rfl h.2.2.1 (.sh h.1 h.2.1 (.inr (.inr rfl)) h.2.2.2)
 case and=>exact oO hw rfl h.2.2.1 h.2.2.2 (.bw h.1 h.2.1 (.inl rfl))
 case or=>exact oO hw rfl h.2.2.1 h.2.2.2 (.bw h.1 h.2.1 (.inr (.inl rfl)))
 case xor=>exact oO hw rfl h.2.2.1 h.2.2.2 (.bw h.1 h.2.1 (.inr (.inr rfl)))
 case add=>exact oO hw rfl h.2.2.1 h.2.2.2 (.sm (s:=.add) h.1 h.2.1)
 case sub=>exact oO hw rfl h.2.2.1 h.2.2.2 (.sm (s:=.sub) h.1 h.2.1)
 case mul=>exact oO hw rfl h.2.2.1 h.2.2.2 (.sm (s:=.mul) h.1 h.2.1)
 case same=>exact aCp hw (.inl rfl) h.2.2 rfl
 case less=>exact aCp hw (.inr (.inl rfl)) h.2.2 rfl
 case under=>exact aCp hw (.inr (.inr rfl)) h.2.2 rfl
 all_goals exact h.2.2.elim
theorem aTR{wd:Wd}{w a b c:Nat}(h:gE ws ⟨wd,w,[a,b,c]⟩):RwOk ⟨wd,w,[a,b,c]⟩ (bG ⟨wd,w,[a,b,c]⟩ W)/\∀ x∈List.take (bE wd) [a,b,c],x < n:=by
 cases wd
 case pick =>
  obtain⟨q1,q2,q3⟩:=h.2.2;obtain⟨e1,_,_,e4⟩:=hw a _ q1;obtain⟨d1,_,_,d4⟩:=hw b _ q2;obtain⟨c1,_,_,c4⟩:=hw c _ q3;have:bG ⟨.pick,w,[a,b,c]⟩ W=[1,w,w]:=by
   show [g0 W a,g0 W b,g0 W c]=[1,w,w];rw[e1,d1,c1]
  rw[this];exact⟨.pick h.1 h.2.1,aUd e4 d4 c4⟩
 all_goals exact h.2.2.elim
omit hw in
theorem aSr{wd:Wd}{w a b c e:Nat}{t:List Nat}(h:gE ws ⟨wd,w,a::b::c::e::t⟩):False:=by
 cases wd
 all_goals exact h.2.2
theorem aOX{r:Rw}(h:gE ws r):RwOk r (bG r W)/\∀ x∈r.args.take (bE r.wd),x < n:=by
 obtain⟨wd,w,args⟩:=r
 match args,h with
 | [],h=>exact aTr h
 | [a],h=>exact aTH hw h
 | [a,b],h=>exact aTI hw h
 | [a,b,c],h=>exact aTR hw h
 | _::_::_::_::_,h=>exact(aSr h).elim
end
theorem aFt:∀ rs:List Rw,∃ is,hG rs is
 | []=>⟨[],rfl⟩
 | r::rs=>by
   obtain⟨is,h⟩:=aFt rs
   by_cases c:r.wd=.in
   ·refine⟨0::is,?_⟩;rw[hG,if_pos c];exact⟨0,is,rfl,xAf _,h⟩
   ·refine⟨is,?_⟩;rw[hG,if_neg c];exact h
theorem aPL{rs:List Rw}(h:dL [] rs)(hl:rs.length<=100):Prg rs:=by
 have ws:∀ (j:Nat) (r:Rw),rs[j]? = some r->1<=r.w/\r.w<=64:=λ j r hr=>by
  have:=aBe rs [] h j r hr;exact⟨this.1,this.2.1⟩
 refine⟨hl,λ j r hr=>?_,aFt rs,ws⟩
 have ok:=aBe rs [] h j r hr;rw[List.nil_append] at ok;refine aOX (n:=j) (λ a v ha=>?_) ok
 have hj:j < rs.length:=(gIm hr).1;have haj:a < j:=by
  have:=(gIm ha).1;rw[List.length_map,List.length_take] at this;omega
 rw[xAb,List.getElem?_take_of_lt haj] at ha;obtain⟨q,hq,rfl⟩:=Option.map_eq_some_iff.mp ha;obtain⟨w1,w2⟩:=ws a q hq;refine⟨?_,w1,w2,haj⟩;show(rs.map (·.w)).getD a 0=q.w;rw[xAh,xAb,hq];rfl
noncomputable abbrev sT(T:aC)(ns:List Int)(k:Nat)(x:Int):aC:=some (aG ns k x)::T
theorem zR(T:aC)(ns:List Int)(k:Nat)(x:Int)(h:T.length<=40):aN (none::T) 0 50 ns k x []=sT T ns k x:=by
 unfold aN;rw[List.set_cons_zero,List.set_eq_of_length_le];simp;omega
theorem aJb(T:aC)(h:T.length<=40):At0 (none::T) 0 50:=⟨by simp,by decide⟩
section
variable {ns : List Int}{k : Nat}{x : Int}
theorem qH(T:aC)(hT:T.length<=40)(d m:Nat)(hm:0 < m)(hm2:m < 2^64)(hk:k<=100000):∃ (r:Nat) (x':Int),r < m/\cl fns (d+1) 56 [.loc 0,.d (.int (m:Nat))] (sT T ns k x)=some (.d (.int (r:Nat)),sT T ns (k+1) x'):=by
 obtain⟨r,x',hr,e⟩:=fG (rs:=[]) (ns:=ns) (k:=k) (x:=x) (aJb T hT) d m hm hm2 hk;rw[zR T _ _ _ hT,zR T _ _ _ hT] at e;exact⟨r,x',hr,e⟩
theorem aF0(T:aC)(hT:T.length<=40)(d w:Nat)(bW:w<=64)(hk:k<=99000):∃ (r k':Nat) (x':Int),r < 2^w/\k'<=k+2/\cl fns (d+2) 57 [.loc 0,.d (.int (w:Nat))] (sT T ns k x)=some (.d (.int (r:Nat)),sT T ns k' x'):=by
 obtain⟨r,k',x',hr,hk',e⟩:=aEV (rs:=[]) (ns:=ns) (k:=k) (x:=x) (aJb T hT) d w bW hk;rw[zR T _ _ _ hT,zR T _ _ _ hT] at e;exact⟨r,k',x',hr,hk',e⟩
end
theorem aNm(i t:Nat):(2^i).testBit t=decide (i=t):=Nat.testBit_two_pow
noncomputable def kT(x w:Nat):Nat:=if x / 2^w=0 then x else (x &&& (2^w - 1)) ||| 2^(w - 1)
theorem aMy{x w t:Nat}(hw:1<=w):(kT x w).testBit t=true ↔ (t < w/\x.testBit t=true)\/(t=w - 1/\∃ j,w<=j/\x.testBit j=true):=by
 unfold kT
 split
 ·rename_i h;rw[aAL] at h;constructor
  ·intro z;refine .inl ⟨?_,z⟩
   by_cases c:t < w
   ·exact c
   ·rw[h t (by omega)] at z;cases z
  ·rintro (⟨_,z⟩ | ⟨_,j,h1,h2⟩)
   ·exact z
   ·rw[h j h1] at h2;cases h2
 ·rename_i h;rw[xAp,Nat.testBit_and,eE,aNm];have h':∃ j,w<=j/\x.testBit j=true:=by
   rw[aAL] at h
   by_cases c:∃ j,w<=j/\x.testBit j=true
   ·exact c
   ·refine absurd (λ i hi=>?_) h
    cases q:x.testBit i with
    | false=>rfl
    | true=>exact absurd ⟨i,hi,q⟩ c
  constructor
  ·intro z;simp only[Bool.or_eq_true,Bool.and_eq_true,decide_eq_true_eq] at z;rcases z with ⟨z1,z2⟩ | z
   ·exact .inl ⟨z2,z1⟩
   ·exact .inr ⟨z.symm,h'⟩
  ·rintro (⟨z1,z2⟩ | ⟨z,_⟩)
   ·simp[z1,z2]
   ·simp[z]
theorem aGD{x w:Nat}(hw:1<=w):kT x w < 2^w:=by
 apply Nat.lt_pow_two_of_testBit;intro i hi;cases q:(kT x w).testBit i with
 | false=>rfl
 | true =>
   rcases (aMy hw).mp q with ⟨h,_⟩ | ⟨h,_⟩<;>omega
structure Fc where
 N:Nat
 O:Nat
 A:Nat
noncomputable instance:Inhabited Fc:=⟨⟨0,0,0⟩⟩
noncomputable def fS(wd:Wd)(w kk:Nat)(ws:List Nat)(fs:List Fc)(m:Nat):List Nat:=
 if m=0 then List.replicate (bE wd) 0 else
 match wd with
 | .in | .num=>[]
 | .not | .cut=>[m]
 | .xor=>[m,m]
 | .and=>[iJ m (iJ (fs.getD 1 default).N (fs.getD 0 default).N),iJ m (fs.getD 0 default).N]
 | .or=>[iJ m (iJ (fs.getD 1 default).O (fs.getD 0 default).O),iJ m (fs.getD 0 default).O]
 | .add | .sub=>[2^bl m - 1,2^bl m - 1]
 | .mul=>[2^(bl m - min (bl m) (lr (fs.getD 1 default).N)) - 1,2^(bl m - min (bl m - min (bl m) (lr (fs.getD 1 default).N)) (lr (fs.getD 0 default).N)) - 1]
 | .left=>[m / 2^kk]
 | .right=>[(m*2^kk) &&& (2^w - 1)]
 | .slide=>[kT (m*2^kk) w]
 | .wide=>[m &&& (2^ws.getD 0 0 - 1)]
 | .sign=>[kT m (ws.getD 0 0)]
 | .same | .less | .under=>[2^ws.getD 0 0 - 1,2^ws.getD 1 0 - 1]
 | .pick=>if (fs.getD 0 default).O=1 then [1,m,0] else if (fs.getD 0 default).N=1 then [1,0,m] else [1,m,m]
def aAd(wd:Wd)(w:Nat)(ws:List Nat):Prop:=1<=w/\w<=64/\match wd with
 | .in | .num=>ws=[]
 | .not | .left | .right | .slide=>ws=[w]
 | .and | .or | .xor | .add | .sub | .mul=>ws=[w,w]
 | .cut=>∃ v,ws=[v]/\w<=v/\v<=64
 | .wide | .sign=>∃ v,ws=[v]/\v<=w/\1<=v
 | .same | .less | .under=>w=1/\∃ v,ws=[v,v]/\1<=v/\v<=64
 | .pick=>ws=[1,w,w]
theorem gW{k v:Nat}(h:k<=v):2^k - 1 < 2^v:=by
 have h1:=xAf k;have h2:(2:Nat)^k<=2^v:=Nat.pow_le_pow_right (by decide) h
 omega
theorem yI{m y v:Nat}(h:m < 2^v):iJ m y < 2^v:=xAj (Nat.sub_le _ _) h
theorem aNW(wd:Wd)(w kk:Nat)(ws:List Nat)(fs:List Fc)(m c v:Nat)(hk:aAd wd w ws)(hm:m < 2^w)(hv:ws[c]? = some v):(fS wd w kk ws fs m).getD c 0 < 2^v:=by
 by_cases h0:m=0
 ·subst h0;have e:(fS wd w kk ws fs 0).getD c 0=0:=by
   unfold fS;rw[if_pos rfl,xAh,List.getElem?_replicate]
   split<;>rfl
  rw[e];exact xAf _
 have hb:bl m<=w:=qN hm;have e0:fS wd w kk ws fs m=_:=if_neg h0;rw[e0];have one:∀ {a u:Nat},ws=[u]->a < 2^u->[a].getD c 0 < 2^v:=λ {a u} e h=>by
  subst e
  match c,hv with
  | 0,hv=>cases hv;exact h
  | c+1,hv=>simp at hv
 have two:∀ {a b u x:Nat},ws=[u,x]->a < 2^u->b < 2^x->[a,b].getD c 0 < 2^v:=λ {a b u x} e h h2=>by
  subst e
  match c,hv with
  | 0,hv=>cases hv;exact h
  | 1,hv=>cases hv;exact h2
  | c+2,hv=>simp at hv
 have three:∀ {a b e u x y:Nat},ws=[u,x,y]->a < 2^u->b < 2^x->e < 2^y->[a,b,e].getD c 0 < 2^v:=λ {a b e u x y} e' h h2 h3=>by
  subst e'
  match c,hv with
  | 0,hv=>cases hv;exact h
  | 1,hv=>cases hv;exact h2
  | 2,hv=>cases hv;exact h3
  | c+3,hv=>simp at hv
 obtain⟨bL,bW,hk⟩:=hk;cases wd with
 | «in» => rw[hk] at hv;simp at hv
 | num=>rw[hk] at hv;simp at hv
 | not=>exact one hk hm
 | cut =>
   obtain⟨u,e,h1,h2⟩:=hk;exact one e (xAc hm (Nat.pow_le_pow_right (by decide) h1))
 | xor=>exact two hk hm hm
 | and=>exact two hk (yI hm) (yI hm)
 | or=>exact two hk (yI hm) (yI hm)
 | add=>exact two hk (gW hb) (gW hb)
 | sub=>exact two hk (gW hb) (gW hb)
 | mul=>exact two hk (gW (by omega)) (gW (by omega))
 | left=>exact one hk (xAj (Nat.div_le_self _ _) hm)
 | right=>exact one hk (Nat.and_lt_two_pow _ (gW (Nat.le_refl _)))
 | slide=>exact one hk (aGD bL)
 | wide =>
   obtain⟨u,e,h1,h2⟩:=hk;subst e;exact one rfl (Nat.and_lt_two_pow _ (gW (Nat.le_refl _)))
 | sign =>
   obtain⟨u,e,h1,h2⟩:=hk;subst e;exact one rfl (aGD h2)
 | same =>
   obtain⟨_,u,e,h1,h2⟩:=hk;subst e;exact two rfl (gW (Nat.le_refl _)) (gW (Nat.le_refl _))
 | less =>
   obtain⟨_,u,e,h1,h2⟩:=hk;subst e;exact two rfl (gW (Nat.le_refl _)) (gW (Nat.le_refl _))
 | under =>
   obtain⟨_,u,e,h1,h2⟩:=hk;subst e;exact two rfl (gW (Nat.le_refl _)) (gW (Nat.le_refl _))
 | pick =>
   simp only
   split
   ·exact three hk (by decide) hm (xAf _)
   ·split
    ·exact three hk (by decide) (xAf _) hm
    ·exact three hk (by decide) hm hm
noncomputable def Fc.d(f:Fc):D:=.tuple [.int (f.N:Nat),.int (f.O:Nat),.int (f.A:Nat)]
theorem aAg(f:Fc):aO f.d (.int 0)=some (.int (f.N:Nat)):=rfl
theorem aAe(f:Fc):aO f.d (.int 1)=some (.int (f.O:Nat)):=rfl
theorem aIf(a:D):aO (.tuple [a]) (.int 0)=some a:=rfl
theorem zE(a b:D):aO (.tuple [a,b]) (.int 0)=some a:=rfl
theorem zG(a b:D):aO (.tuple [a,b]) (.int 1)=some b:=rfl
theorem aTX(a b c:D):aO (.tuple [a,b,c]) (.int 0)=some a:=rfl
theorem aEs(d a b m:Nat)(S:aC):cl fns (d+1) 19 [.d (.int (a:Nat)),.d (.int (b:Nat)),.d (.int (m:Nat))] S=some (.d (.tuple [.int ((iJ m (iJ b a):Nat):Int),.int ((iJ m a:Nat):Int)]),S):=by
 rw[aQ rfl d _ S rfl];simp only[gR1,aDV,aGq,aFC]
theorem aMr(i j:Nat):(if ((j:Nat):Int) < ((i:Nat):Int) then ((j:Nat):Int) else ((i:Nat):Int))=((min i j:Nat):Int):=by
 by_cases c:j < i
 ·rw[if_pos (by omega),Nat.min_eq_right (by omega)]
 ·rw[if_neg (by omega),Nat.min_eq_left (by omega)]
theorem aKR(d a b m:Nat)(hm:m < 2^64)(S:aC):cl fns (d+3) 20 [.d (.int (a:Nat)),.d (.int (b:Nat)),.d (.int (m:Nat))] S=some (.d (.tuple [.int ((2^(bl m - min (bl m) (lr b)) - 1:Nat):Int),.int ((2^(bl m - min (bl m - min (bl m) (lr b)) (lr a)) - 1:Nat):Int)]),S):=by
 have hb:=qN hm;have e1:((bl m:Nat):Int) - ((min (bl m) (lr b):Nat):Int)=((bl m - min (bl m) (lr b):Nat):Int):=by omega
 have e2:((bl m:Nat):Int) - ((min (bl m - min (bl m) (lr b)) (lr a):Nat):Int)=((bl m - min (bl m - min (bl m) (lr b)) (lr a):Nat):Int):=by omega
 rw[aQ rfl (d+2) _ S rfl];simp only[evs,eX,aE7,xO (d+1),aCr d,iH,aMr,cG,e1,e2,dF (d+1) (bl m - min (bl m) (lr b)) (by omega),dF (d+1) (bl m - min (bl m - min (bl m) (lr b)) (lr a)) (by omega)]
theorem aEM(d y w:Nat)(hw:1<=w)(bW:w<=1000)(S:aC):cl fns (d+2) 21 [.d (.int (y:Nat)),.d (.int (w:Nat))] S=some (.d (.int ((kT y w:Nat):Int)),S):=by
 have e1:(w:Int) - 1=((w - 1:Nat):Int):=by omega
 rw[aQ rfl (d+1) _ S rfl];unfold kT
 by_cases c:y / 2^w=0
 ·have d1:(y / 2^w==0)=true:=by rw[beq_iff_eq];exact c
  rw[if_pos c];simp only[gR1,aBT,jG,bM,cU,d1]
 ·have d1:(y / 2^w==0)=false:=by rw[beq_eq_false_iff_ne];exact c
  rw[if_neg c];have hq54:=dF d w (by omega)
  have hq55:=gL (show w - 1<=100000 by omega)
  simp only[gR1,aBT,jG,bM,cU,d1,hq54,dJ,cG,e1,hq55,eO]
theorem aO8(d w kk m:Nat)(S:aC):cl fns (d+3) 22 [.d (.str "left"),.d (.int (w:Nat)),.d (.int (kk:Nat)),.d (.int (m:Nat))] S=some (.d (.int ((m / 2^kk:Nat):Int)),S):=by
 have c1:aX .Eq (.str "left") (.str "left")=some (.bool true):=bZ .left .left;rw[aQ rfl (d+2) _ S rfl];simp only[gR1,wO,c1,jG]
theorem aMm(d w kk m:Nat)(hw:w<=64)(hk:kk<=64)(hm:m < 2^64)(S:aC):cl fns (d+3) 22 [.d (.str "right"),.d (.int (w:Nat)),.d (.int (kk:Nat)),.d (.int (m:Nat))] S=some (.d (.int (((m*2^kk) &&& (2^w - 1):Nat):Int)),S):=by
 have c1:aX .Eq (.str "right") (.str "left")=some (.bool false):=bZ .right .left;have c2:aX .Eq (.str "right") (.str "right")=some (.bool true):=bZ .right .right;rw[aQ rfl (d+2) _ S rfl];have hq56:=tI hm (show 64+kk<=100000 by omega)
 have hq57:=dF (d+1) w (by omega)
 simp only[gR1,wO,c1,c2,hq56,hq57,dJ]
theorem aMo(d w kk m:Nat)(bL:1<=w)(hw:w<=64)(hk:kk<=64)(hm:m < 2^64)(S:aC):cl fns (d+3) 22 [.d (.str "slide"),.d (.int (w:Nat)),.d (.int (kk:Nat)),.d (.int (m:Nat))] S=some (.d (.int ((kT (m*2^kk) w:Nat):Int)),S):=by
 have c1:aX .Eq (.str "slide") (.str "left")=some (.bool false):=bZ .slide .left;have c2:aX .Eq (.str "slide") (.str "right")=some (.bool false):=bZ .slide .right;rw[aQ rfl (d+2) _ S rfl];have hq58:=tI hm (show 64+kk<=100000 by omega)
 simp only[gR1,wO,c1,c2,hq58,aEM d _ w bL (by omega)]
theorem aKC(d:Nat)(f:Fc)(m:Nat)(S:aC):cl fns (d+1) 23 [.d f.d,.d (.int (m:Nat))] S=some (.d (.tuple ((if f.O=1 then [1,m,0] else if f.N=1 then [1,0,m] else [1,m,m]).map nD)),S):=by
 rw[aQ rfl d _ S rfl]
 by_cases c1:f.O=1
 ·have d1:(f.O==1)=true:=by rw[beq_iff_eq];exact c1
  rw[if_pos c1];simp only[gR1,wT,aAe,bM,oD,d1]
 ·have d1:(f.O==1)=false:=by rw[beq_eq_false_iff_ne];exact c1
  rw[if_neg c1]
  by_cases c2:f.N=1
  ·have d2:(f.N==1)=true:=by rw[beq_iff_eq];exact c2
   rw[if_pos c2];simp only[gR1,wT,aAe,aAg,bM,oD,d1,d2]
  ·have d2:(f.N==1)=false:=by rw[beq_eq_false_iff_ne];exact c2
   rw[if_neg c2];simp only[gR1,wT,aAe,aAg,bM,oD,d1,d2]
def tM(wd:Wd)(args:List Nat)(kk:Nat):Prop:=match wd with
 | .in=>args=[]
 | .num=>∃ n,args=[n]
 | .not | .cut | .wide | .sign=>∃ a,args=[a]
 | .left | .right | .slide=>∃ a,args=[a,kk]/\kk < 64
 | .pick=>∃ a b c,args=[a,b,c]
 | _=>∃ a b,args=[a,b]
theorem aBm{wd:Wd}{args:List Nat}{kk:Nat}(h:tM wd args kk):(args.take (bE wd)).length=bE wd:=by
 cases wd<;>first
  | (obtain rfl:=h;rfl)
  | (obtain⟨a,b,c,rfl⟩:=h;rfl)
  | (obtain⟨a,b,rfl⟩:=h;rfl)
  | (obtain⟨a,rfl,_⟩:=h;rfl)
  | (obtain⟨a,rfl⟩:=h;rfl)
theorem aTG(a:Wd):aX .In (.str a.s) (.tuple [.str "add",.str "sub"])=some (.bool (decide (a=.add\/a=.sub))):=by cases a<;>rfl
theorem aRI{wd:Wd}{w a k:Nat}:aO (Rw.mk wd w [a,k]).d (.int 3)=some (.int (k:Nat)):=rfl
theorem aAi{α:Type}{l:List α}(h:l.length=1):∃ a,l=[a]:=List.length_eq_one_iff.mp h
theorem aDa{α:Type}{l:List α}(h:l.length=2):∃ a b,l=[a,b]:=by
 match l,h with
 | [a,b],_=>exact⟨a,b,rfl⟩
theorem aUz{α:Type}{l:List α}(h:l.length=3):∃ a b c,l=[a,b,c]:=by
 match l,h with
 | [a,b,c],_=>exact⟨a,b,c,rfl⟩
noncomputable abbrev eA(R W G:D)(m:Nat)(x:Wd):aT:=[some (.d R),some (.d W),some (.d G),some (.d (.int (m:Nat))),some (.d (.str x.s))]
noncomputable def aK:Nat->Sx
 | 0=>bC aDY
 | k+1=>bC (aK k)
section
variable (C : Calls)(R W G : D)(m : Nat)(S : aC)(x : Wd)
theorem aCO:tv C (.cmp .Eq (.var 4) (.str "and")) (eA R W G m x) S=some (decide (x=.and),S):=dM rfl (bZ x .and)
theorem aJQ:tv C (.cmp .Eq (.var 4) (.str "or")) (eA R W G m x) S=some (decide (x=.or),S):=dM rfl (bZ x .or)
theorem aJP:tv C (.cmp .In (.var 4) (.tup (.cons (.str "add") (.cons (.str "sub") .nil)))) (eA R W G m x) S=some (decide (x=.add\/x=.sub),S):=jO rfl rfl (aTG x)
theorem aJG:tv C (.cmp .Eq (.var 4) (.str "mul")) (eA R W G m x) S=some (decide (x=.mul),S):=dM rfl (bZ x .mul)
theorem aI5:tv C (.cmp .In (.var 4) (.con "SHIFTS" sU)) (eA R W G m x) S=some (decide (x=.left\/x=.right\/x=.slide),S):=jO rfl rfl (aBz x)
theorem aC8:tv C (.cmp .Eq (.var 4) (.str "wide")) (eA R W G m x) S=some (decide (x=.wide),S):=dM rfl (bZ x .wide)
theorem aJp:tv C (.cmp .Eq (.var 4) (.str "sign")) (eA R W G m x) S=some (decide (x=.sign),S):=dM rfl (bZ x .sign)
theorem aC6:tv C (.cmp .In (.var 4) (.con "COMPARES" sF)) (eA R W G m x) S=some (decide (x=.same\/x=.less\/x=.under),S):=jO rfl rfl (yF x)
theorem aJg:tv C (.cmp .Eq (.var 4) (.str "pick")) (eA R W G m x) S=some (decide (x=.pick),S):=dM rfl (bZ x .pick)
variable {C R W G m S}{r : Option (Fl × aC)}
theorem iZ{k:Nat}{c:E}{t:Sx}{b:Bool}(e:aK k=.seq (.ifs c t .skip) (aK (k+1)))(h:tv C c (eA R W G m x) S=some (b,S))(hb:b=false)(g:xs C (aK (k+1)) (eA R W G m x) S=r):xs C (aK k) (eA R W G m x) S=r:=by
 subst hb;rw[e];exact bP h g
theorem aJs(h:(decide (x=.and)||decide (x=.or))=false)(g:xs C (aK 2) (eA R W G m x) S=r):xs C (aK 0) (eA R W G m x) S=r:=by
 obtain⟨h1,h2⟩:=Bool.or_eq_false_iff.mp h;exact iZ x rfl (aCO C R W G m S x) h1 (iZ x rfl (aJQ C R W G m S x) h2 g)
theorem aJH(h:(decide (x=.and)||decide (x=.or))=false)(h2:decide (x=.add\/x=.sub)=false)(g:xs C (aK 3) (eA R W G m x) S=r):xs C (aK 0) (eA R W G m x) S=r:=aJs x h (iZ x rfl (aJP C R W G m S x) h2 g)
theorem aJt(h:(decide (x=.and)||decide (x=.or))=false)(h2:(decide (x=.add\/x=.sub)||decide (x=.mul))=false)(g:xs C (aK 4) (eA R W G m x) S=r):xs C (aK 0) (eA R W G m x) S=r:=by
 obtain⟨h3,h4⟩:=Bool.or_eq_false_iff.mp h2;exact aJH x h h3 (iZ x rfl (aJG C R W G m S x) h4 g)
theorem aCT(h:(decide (x=.and)||decide (x=.or))=false)(h2:(decide (x=.add\/x=.sub)||decide (x=.mul))=false)(h5:decide (x=.left\/x=.right\/x=.slide)=false)(g:xs C (aK 5) (eA R W G m x) S=r):xs C (aK 0) (eA R W G m x) S=r:=aJt x h h2 (iZ x rfl (aI5 C R W G m S x) h5 g)
theorem aCK(h:(decide (x=.and)||decide (x=.or))=false)(h2:(decide (x=.add\/x=.sub)||decide (x=.mul))=false)(h5:decide (x=.left\/x=.right\/x=.slide)=false)(h6:(decide (x=.wide)||decide (x=.sign))=false)(g:xs C (aK 7) (eA R W G m x) S=r):xs C (aK 0) (eA R W G m x) S=r:=by
 obtain⟨h3,h4⟩:=Bool.or_eq_false_iff.mp h6;exact aCT x h h2 h5 (iZ x rfl (aC8 C R W G m S x) h3 (iZ x rfl (aJp C R W G m S x) h4 g))
theorem aUm(h:(decide (x=.and)||decide (x=.or))=false)(h2:(decide (x=.add\/x=.sub)||decide (x=.mul))=false)(h5:decide (x=.left\/x=.right\/x=.slide)=false)(h6:(decide (x=.wide)||decide (x=.sign))=false)(h8:(decide (x=.same\/x=.less\/x=.under)||decide (x=.pick))=false)(g:xs C (aK 9) (eA R W G m x) S=r):xs C (aK 0) (eA R W G m x) S=r:=by
 obtain⟨h3,h4⟩:=Bool.or_eq_false_iff.mp h8;exact aCK x h h2 h5 h6 (iZ x rfl (aC6 C R W G m S x) h3 (iZ x rfl (aJg C R W G m S x) h4 g))
end
section
variable (d w kk m : Nat)(ws : List Nat)(R W : D)(S : aC)(h0 : m ≠ 0)
include h0
theorem aOt(f g:Fc):xs (aD fns (d+3)) (aK 0) (eA R W (.tuple ([f,g].map Fc.d)) m .and) S=some (.rt (.d (.tuple ((fS .and w kk ws [f,g] m).map nD))),S):=by
 rw[show fS .and w kk ws [f,g] m=_ from if_neg h0]
 refine dO (aCO _ _ _ _ _ _ .and) (cR ?_);simp only[gS0,zE,zG,aAg,aEs (d+2),nD,List.getD_cons_zero,List.getD_cons_succ]
theorem aQg(f g:Fc):xs (aD fns (d+3)) (aK 0) (eA R W (.tuple ([f,g].map Fc.d)) m .or) S=some (.rt (.d (.tuple ((fS .or w kk ws [f,g] m).map nD))),S):=by
 rw[show fS .or w kk ws [f,g] m=_ from if_neg h0]
 refine iZ .or rfl (aCO _ _ _ _ _ _ .or) rfl (dO (aJQ _ _ _ _ _ _ .or) (cR ?_));simp only[gS0,zE,zG,aAe,aEs (d+2),nD,List.getD_cons_zero,List.getD_cons_succ]
theorem aGa(x:Wd)(hx:decide (x=.add\/x=.sub)=true)(h1:(decide (x=.and)||decide (x=.or))=false)(G:D)(bm:m < 2^10000):xs (aD fns (d+3)) (aK 0) (eA R W G m x) S=some (.rt (.d (.tuple ([2^bl m - 1,2^bl m - 1].map nD))),S):=by
 have t:=aJP (aD fns (d+3)) R W G m S x;rw[hx] at t;refine aJs x h1 (dO t (cR ?_));simp only[gS0,aFK (d+1) m _ bm,nD]
theorem aO4(f g:Fc)(hm:m < 2^64):xs (aD fns (d+3)) (aK 0) (eA R W (.tuple ([f,g].map Fc.d)) m .mul) S=some (.rt (.d (.tuple ((fS .mul w kk ws [f,g] m).map nD))),S):=by
 rw[show fS .mul w kk ws [f,g] m=_ from if_neg h0]
 refine aJH .mul rfl rfl (dO (aJG _ _ _ _ _ _ .mul) (cR ?_));simp only[evs,zE,zG,aAg,aKR d f.N g.N m hm,nD,List.getD_cons_zero,List.getD_cons_succ]
theorem aCf(x:Wd)(hx:decide (x=.left\/x=.right\/x=.slide)=true)(h1:(decide (x=.and)||decide (x=.or))=false)(h2:(decide (x=.add\/x=.sub)||decide (x=.mul))=false)(a:Nat)(G:D){z:Nat}(sl:cl fns (d+3) 22 [.d (.str x.s),.d (.int (w:Nat)),.d (.int (kk:Nat)),.d (.int (m:Nat))] S=some (.d (.int (z:Nat)),S)):xs (aD fns (d+3)) (aK 0) (eA (Rw.mk x w [a,kk]).d W G m x) S=some (.rt (.d (.tuple ([z].map nD))),S):=by
 have t:=aI5 (aD fns (d+3)) (Rw.mk x w [a,kk]).d W G m S x;rw[hx] at t;have r1:aO (Rw.mk x w [a,kk]).d (.int 1)=some (.int (w:Nat)):=dZ _;refine aJt x h1 h2 (dO t (cR ?_));simp only[evs,r1,aRI,sl,nD]
theorem aMV(v:Nat)(hv:v<=64)(G:D):xs (aD fns (d+3)) (aK 0) (eA R (.tuple ([v].map nD)) G m .wide) S=some (.rt (.d (.tuple ([m &&& (2^v - 1)].map nD))),S):=by
 refine aCT .wide rfl rfl rfl (dO (aC8 _ _ _ _ _ _ .wide) (cR ?_));have hq59:=dF (d+2) v (by omega)
 simp only[gS0,nD,aIf,hq59,dJ]
theorem aMg(v:Nat)(hv1:1<=v)(hv:v<=64)(G:D):xs (aD fns (d+3)) (aK 0) (eA R (.tuple ([v].map nD)) G m .sign) S=some (.rt (.d (.tuple ([kT m v].map nD))),S):=by
 refine aCT .sign rfl rfl rfl (iZ .sign rfl (aC8 _ _ _ _ _ _ .sign) rfl (dO (aJp _ _ _ _ _ _ .sign) (cR ?_)));have hq60:=aEM (d+1) m v hv1 (by omega)
 simp only[gS0,nD,aIf,hq60]
theorem aBK(x:Wd)(hx:decide (x=.same\/x=.less\/x=.under)=true)(h1:(decide (x=.and)||decide (x=.or))=false)(h2:(decide (x=.add\/x=.sub)||decide (x=.mul))=false)(h5:decide (x=.left\/x=.right\/x=.slide)=false)(h6:(decide (x=.wide)||decide (x=.sign))=false)(v:Nat)(hv:v<=64)(G:D):xs (aD fns (d+3)) (aK 0) (eA R (.tuple ([v,v].map nD)) G m x) S=some (.rt (.d (.tuple ([2^v - 1,2^v - 1].map nD))),S):=by
 have t:=aC6 (aD fns (d+3)) R (.tuple ([v,v].map nD)) G m S x;rw[hx] at t;refine aCK x h1 h2 h5 h6 (dO t (cR ?_));have hq61:=dF (d+2) v (by omega)
 simp only[gS0,nD,zE,zG,hq61]
theorem aMP(f g h:Fc):xs (aD fns (d+3)) (aK 0) (eA R W (.tuple ([f,g,h].map Fc.d)) m .pick) S=some (.rt (.d (.tuple ((fS .pick w kk ws [f,g,h] m).map nD))),S):=by
 rw[show fS .pick w kk ws [f,g,h] m=_ from if_neg h0]
 refine aCK .pick rfl rfl rfl rfl (iZ .pick rfl (aC6 _ _ _ _ _ _ .pick) rfl (dO (aJg _ _ _ _ _ _ .pick) (cR ?_)));simp only[gS0,aTX,aKC (d+2),List.getD_cons_zero]
omit h0 in
theorem aTK(n:Nat)(h:n<=10):cB .Mult (.tuple [.int (m:Nat)]) (.int ((n:Nat):Int))=some (.tuple ((List.replicate n m).map nD)):=by
 rw[aFz (k:=n) (by omega),List.map_replicate]
 rfl
theorem sS(x:Wd)(args:List Nat)(ha:tM x args kk)(h1:(decide (x=.and)||decide (x=.or))=false)(h2:(decide (x=.add\/x=.sub)||decide (x=.mul))=false)(h5:decide (x=.left\/x=.right\/x=.slide)=false)(h6:(decide (x=.wide)||decide (x=.sign))=false)(h8:(decide (x=.same\/x=.less\/x=.under)||decide (x=.pick))=false)(G:D):xs (aD fns (d+3)) (aK 0) (eA (Rw.mk x w args).d W G m x) S=some (.rt (.d (.tuple ((List.replicate (bE x) m).map nD))),S):=by
 have op:cl fns (d+3) 15 [.d (Rw.mk x w args).d] S=some (.d (.tuple ((args.take (bE x)).map nD)),S):=oE (d+2) ⟨x,w,args⟩ S;have lop:hU [.tuple ((args.take (bE x)).map nD)]=some (.int ((bE x:Nat):Int)):=by
  simp only[dR,dQ,List.length_map,aBm ha]
 have rp:=aTK m (bE x) (by cases x<;>decide)
 refine aUm x h1 h2 h5 h6 h8 (cR ?_);simp only[gS0,op,lop,rp]
end
theorem aL0(d:Nat)(wd:Wd)(w:Nat)(args:List Nat)(kk:Nat)(ws:List Nat)(fs:List Fc)(m:Nat)(hk:aAd wd w ws)(hf:fs.length=bE wd)(ha:tM wd args kk)(hm:m < 2^w)(h0:m≠0)(S:aC) :
 cl fns (d+4) 24 [.d (Rw.mk wd w args).d,.d (.tuple (ws.map nD)),.d (.tuple (fs.map Fc.d)),.d (.int (m:Nat))] S=some (.d (.tuple ((fS wd w kk ws fs m).map nD)),S):=by
 have hm64:m < 2^64:=xAc hm (Nat.pow_le_pow_right (by decide) hk.2.1)
 have r0:aO (Rw.mk wd w args).d (.int 0)=some (.str wd.s):=aIC _;have bm:m < 2^10000:=aH6 hm64 (by decide)
 refine eN rfl (d+3) rfl rfl (List.take_length) (eH (S1:=S) (w:=.d (.str wd.s)) (aI:=eA (Rw.mk wd w args).d (.tuple (ws.map nD)) (.tuple (fs.map Fc.d)) m wd) (by simp only[evs,r0]) rfl ?_)
 show xs (aD fns (d+3)) (aK 0) (eA (Rw.mk wd w args).d (.tuple (ws.map nD)) (.tuple (fs.map Fc.d)) m wd) S=_;clear r0;obtain⟨bL,bW,hk⟩:=hk;have e0:fS wd w kk ws fs m=_:=if_neg h0;cases wd
 case and=>obtain⟨f,g,rfl⟩:=aDa hf;exact aOt d w kk m ws _ _ S h0 f g
 case or=>obtain⟨f,g,rfl⟩:=aDa hf;exact aQg d w kk m ws _ _ S h0 f g
 case add=>rw[e0];exact aGa d m _ _ S h0 .add rfl rfl _ bm
 case sub=>rw[e0];exact aGa d m _ _ S h0 .sub rfl rfl _ bm
 case mul=>obtain⟨f,g,rfl⟩:=aDa hf;exact aO4 d w kk m ws _ _ S h0 f g hm64
 case left =>
  obtain⟨a,rfl,hkk⟩:=ha;rw[e0];exact aCf d w kk m _ S h0 .left rfl rfl rfl a _ (aO8 d w kk m S)
 case right =>
  obtain⟨a,rfl,hkk⟩:=ha;rw[e0];exact aCf d w kk m _ S h0 .right rfl rfl rfl a _ (aMm d w kk m bW (by omega) hm64 S)
 case slide =>
  obtain⟨a,rfl,hkk⟩:=ha;rw[e0];exact aCf d w kk m _ S h0 .slide rfl rfl rfl a _ (aMo d w kk m bL bW (by omega) hm64 S)
 case wide =>
  obtain⟨v,rfl,hv1,hv2⟩:=hk;rw[e0];exact aMV d m _ S h0 v (by omega) _
 case sign =>
  obtain⟨v,rfl,hv1,hv2⟩:=hk;rw[e0];exact aMg d m _ S h0 v (by omega) (by omega) _
 case same =>
  obtain⟨_,v,rfl,hv1,hv2⟩:=hk;rw[e0];exact aBK d m _ S h0 .same rfl rfl rfl rfl rfl v (by omega) _
 case less =>
  obtain⟨_,v,rfl,hv1,hv2⟩:=hk;rw[e0];exact aBK d m _ S h0 .less rfl rfl rfl rfl rfl v (by omega) _
 case under =>
  obtain⟨_,v,rfl,hv1,hv2⟩:=hk;rw[e0];exact aBK d m _ S h0 .under rfl rfl rfl rfl rfl v (by omega) _
 case pick=>obtain⟨f,g,h,rfl⟩:=aUz hf;exact aMP d w kk m ws _ _ S h0 f g h
 case «in» => rw[e0];exact sS d w kk m _ S h0 .in args ha rfl rfl rfl rfl rfl _
 case num=>rw[e0];exact sS d w kk m _ S h0 .num args ha rfl rfl rfl rfl rfl _
 case not=>rw[e0];exact sS d w kk m _ S h0 .not args ha rfl rfl rfl rfl rfl _
 case cut=>rw[e0];exact sS d w kk m _ S h0 .cut args ha rfl rfl rfl rfl rfl _
 case xor=>rw[e0];exact sS d w kk m _ S h0 .xor args ha rfl rfl rfl rfl rfl _
theorem aMj(n:Nat)(h:n<=10):cB .Mult (.tuple [.int 0]) (.int ((n:Nat):Int))=some (.tuple ((List.replicate n 0).map nD)):=by
 rw[aFz (k:=n) (by omega),List.map_replicate]
 rfl
theorem aGJ(d:Nat)(wd:Wd)(w:Nat)(args:List Nat)(kk:Nat)(ws:List Nat)(fs:List Fc)(m:Nat)(hk:aAd wd w ws)(hf:fs.length=bE wd)(ha:tM wd args kk)(hm:m < 2^w)(S:aC) :
 cl fns (d+5) 25 [.d (Rw.mk wd w args).d,.d (.tuple (ws.map nD)),.d (.tuple (fs.map Fc.d)),.d (.int (m:Nat))] S=some (.d (.tuple ((fS wd w kk ws fs m).map nD)),S):=by
 rw[aQ rfl (d+4) _ S rfl]
 by_cases h0:m=0
 ·have d0:(m==0)=true:=by rw[beq_iff_eq];exact h0
  have e0:fS wd w kk ws fs m=List.replicate (bE wd) 0:=if_pos h0;have lop:hU [.tuple ((args.take (bE wd)).map nD)]=some (.int ((bE wd:Nat):Int)):=by
   simp only[dR,dQ,List.length_map,aBm ha]
  have op:cl fns (d+4) 15 [.d (Rw.mk wd w args).d] S=some (.d (.tuple ((args.take (bE wd)).map nD)),S):=oE (d+3) ⟨wd,w,args⟩ S;rw[e0];have hq62:=aMj (bE wd) (by cases wd<;>decide)
  simp only[gR1,aCF,bM,cU,d0,op,lop,hq62]
 ·have d0:(m==0)=false:=by rw[beq_eq_false_iff_ne];exact h0
  simp only[gR1,aCF,bM,cU,d0,aL0 d wd w args kk ws fs m hk hf ha hm h0]
noncomputable def pT:Sx:=bC (bC (bC gK))
noncomputable def pR(k:Nat):Sx:=match k with
 | 0=>bX gK
 | 1=>bX (bC gK)
 | 2=>bX (bC (bC gK))
 | 4=>bX pT
 | 5=>bX (bC pT)
 | 6=>bX (bC (bC pT))
 | 7=>bX (bC (bC (bC pT)))
 | _=>bX (bC (bC (bC (bC pT))))
theorem aM9:pT=.seq (pR 4) (.seq (pR 5) (.seq (pR 6) (.seq (pR 7) (.seq (pR 8) .skip)))):=rfl
theorem aNM:gK=.seq (pR 0) (.seq (pR 1) (.seq (pR 2) pT)):=rfl
theorem aMp{S:aC}{p:Nat}(h:At S 0 p)(ns:List Int)(k:Nat)(x:Int)(rs:List Rw):∃ T,aN S 0 p ns k x rs=some (aG ns k x)::T:=by
 have hs:=h.toAt0.state (ns:=ns) (k:=k) (x:=x) (rs:=rs);rcases e:aN S 0 p ns k x rs with _ | ⟨a,T⟩
 ·rw[e] at hs;cases hs
 ·rw[e] at hs;cases hs;exact⟨T,rfl⟩
theorem xY{S:aC}{p:Nat}(h:At S 0 p)(ns:List Int)(k:Nat)(x:Int)(rs:List Rw)(T:aC):aN (S++T) 0 p ns k x rs=aN S 0 p ns k x rs++T:=by
 unfold aN;rw[List.set_append_left _ _ h.hn,List.set_append_left _ _ (by rw[List.length_set];exact h.hp)]
theorem At.app{S:aC}{p:Nat}(h:At S 0 p)(T:aC):At (S++T) 0 p:=⟨⟨by rw[xAo];have:=h.hn;omega,h.ne⟩,by rw[xAo];have:=h.hp;omega⟩
theorem aMf{l:List Nat}{q n:Nat}(h:∀ o∈l,o < n)(hq:q < n):∀ o∈l++[q],o < n:=λ o ho=>by
 rcases List.mem_append.mp ho with ho | ho
 ·exact h o ho
 ·rw[List.mem_singleton] at ho;subst ho;exact hq
theorem aNz{a m:Nat}(h:a=m+1)(h2:m<=7):a<=8:=by omega
theorem aIj{S:aC}{p:Nat}(h:At S 0 p){ns:List Int}{k:Nat}{x:Int}{rs:List Rw}(d most q:Nat)(hm:most<=30)(ok:dL [] rs)(l0:0 < rs.length)(l1:rs.length<=40)(hk:k<=50000) :
 ∃ (aJ:List Rw) (aH:List Nat) (k':Nat) (x':Int) (T:aC),dL [] aJ/\0 < aJ.length/\aJ.length<=40/\k'<=k+700/\(∀ o∈aH,o < aJ.length)/\aH.length<=8/\xs (aD fns (d+5)) pT [some (.loc 0),some (.d (.int (most:Nat))),some (.d (.int (q:Nat))),some (.loc p),none,none,none] (aN S 0 p ns k x rs)=some (.rt (.d (.tuple [.tuple (aJ.map Rw.d),.tuple (aH.map nD)])),some (aG ns k' x')::T):=by
 obtain⟨env1,S1,p1,a4,aJ,k1,x1,ok1,l0',l1',hk1,rfl,rfl⟩:=aHU (t:=.one 4) (fi:=lv (aD fns (d+5)) wA) (fb:=xs (aD fns (d+5)) wC) (env:=[some (.loc 0),some (.d (.int (most:Nat))),some (.d (.int (q:Nat))),some (.loc p),none,none,none]) (S:=aN S 0 p ns k x rs)
  (λ j env S'=>∃ (a4:Option W) (rs:List Rw) (k':Nat) (x:Int),dL [] rs/\0 < rs.length/\rs.length<=40/\k'<=k+20*j/\env=[some (.loc 0),some (.d (.int (most:Nat))),some (.d (.int (q:Nat))),some (.loc p),a4,none,none]/\S'=aN S 0 p ns k' x rs)
  (show lv (aD fns (d+5)) wA _ _=some ((List.range most).map (λ k=>PyData.int (k:Nat)),_) by
    simp only[wA,kW,kE,kH,kF,kN,kQ,kG];exact pP rfl (by omega))
  ⟨none,rs,k,x,ok,l0,l1,by omega,rfl,rfl⟩ (by
   rintro j dd env S' hj ⟨a4,rs,k',x,ok,l0,l1,hk',rfl,rfl⟩;have hj':j < most:=by simpa using hj
   refine⟨[some (.loc 0),some (.d (.int (most:Nat))),some (.d (.int (q:Nat))),some (.loc p),some (.d dd),none,none],[some (.loc 0),some (.d (.int (most:Nat))),some (.d (.int (q:Nat))),some (.loc p),some (.d dd),none,none],?_⟩
   by_cases c:rs.length < 37
   ·have d1:decide (((rs.length:Nat):Int) < 37)=true:=dqT (by omega)
    obtain⟨k2,x',aJ,ok',g1,g2,hk2,e⟩:=GP.row_ok (ns:=ns) (k:=k') (x:=x) h d ok l0 (by omega) (by omega)
    refine⟨_,rfl,?_,some (.d dd),aJ,k2,x',ok',by omega,by omega,by omega,rfl,rfl⟩
    simp only[gS1,wC,h.rows,dR,dQ,GP.rows_len,eV,d1,e]
   ·have d1:decide (((rs.length:Nat):Int) < 37)=false:=dqF (by omega)
    refine⟨_,rfl,?_,some (.d dd),rs,k',x,ok,l0,l1,by omega,rfl,rfl⟩
    simp only[evs,wC,h.rows,dR,dQ,GP.rows_len,eV,d1])
 have hk2:k1<=k+600:=by simp at hk1;omega
 obtain⟨q2,x2,hq2,e2⟩:=fG (ns:=ns) (k:=k1) (x:=x1) (rs:=aJ) h.toAt0 (d+4) aJ.length l0' (by omega) (by omega)
 obtain⟨q3,x3,hq3,e3⟩:=gU (ns:=ns) (k:=k1+1) (x:=x2) (rs:=aJ) h.toAt0 (d+4) 4 (i:=4) rfl (by decide) (by decide) (by omega)
 obtain⟨b3,hb3,eb3⟩:=b2i ((q3:Int)==1);obtain⟨y,hy,ey⟩:=at2 (.int (((aJ.length:Nat):Int) - 1)) (.int (q2:Nat)) hb3;obtain⟨y0,hy0,rfl⟩:∃ y0:Nat,y0 < aJ.length/\y=nD y0:=by
  rcases hy with rfl | rfl
  ·have e9:((aJ.length:Nat):Int) - 1=((aJ.length - 1:Nat):Int):=by omega
   exact⟨aJ.length - 1,by omega,by rw[e9];rfl⟩
  ·exact⟨q2,hq2,rfl⟩
 have p5:xs (aD fns (d+5)) (pR 5) [some (.loc 0),some (.d (.int (most:Nat))),some (.d (.int (q:Nat))),some (.loc p),a4,none,none] (aN S 0 p ns k1 x1 aJ)=some (.nx [some (.loc 0),some (.d (.int (most:Nat))),some (.d (.int (q:Nat))),some (.loc p),a4,some (.d (.list [.int (((aJ.length:Nat):Int) - 1),.int (q2:Nat)])),none],aN S 0 p ns (k1+1) x2 aJ):=by
  simp only[gS5,pR,pT,bC,bX,gK,h.rows,dR,dQ,GP.rows_len,cG,e2]
 have p6:xs (aD fns (d+5)) (pR 6) [some (.loc 0),some (.d (.int (most:Nat))),some (.d (.int (q:Nat))),some (.loc p),a4,some (.d (.list [.int (((aJ.length:Nat):Int) - 1),.int (q2:Nat)])),none] (aN S 0 p ns (k1+1) x2 aJ)=some (.nx [some (.loc 0),some (.d (.int (most:Nat))),some (.d (.int (q:Nat))),some (.loc p),a4,some (.d (.list [.int (((aJ.length:Nat):Int) - 1),.int (q2:Nat)])),some (.loc S.length)],aN (S++[some [nD y0]]) 0 p ns (k1+2) x3 aJ):=by
  have hl:(aN S 0 p ns (k1+1+1) x3 aJ).length=S.length:=h.toAt0.len;rw[xY h];simp only[gS5,pR,pT,bC,bX,gK,gG,e3,bM,tT,tX,eb3,ey,hl]
 obtain⟨q4,x4,hq4,e4⟩:=gU (ns:=ns) (k:=k1+2) (x:=x3) (rs:=aJ) (At.app h [some [nD y0]]).toAt0 (d+4) 3 (i:=3) rfl (by decide) (by decide) (by omega)
 obtain⟨q5,x5,hq5,e5⟩:=gU (ns:=ns) (k:=k1+3) (x:=x4) (rs:=aJ) (At.app h [some [nD y0]]).toAt0 (d+4) 8 (i:=8) rfl (by decide) (by decide) (by omega)
 obtain⟨b5,hb5,eb5⟩:=b2i ((q5:Int)==1);obtain⟨z,hz,ez⟩:=at2 (.int (q4:Nat)) (.int 7) hb5;obtain⟨m,hm7,rfl⟩:∃ m:Nat,m<=7/\z=.int (m:Nat):=by
  rcases hz with rfl | rfl
  ·exact⟨_,by omega,rfl⟩
  ·exact⟨7,by decide,rfl⟩
 obtain⟨env2,S2,p4,a4',aH,k6,x6,ol,oa,hk6,rfl,rfl⟩:=aHU (t:=.one 4) (fi:=lv (aD fns (d+5)) aAH) (fb:=xs (aD fns (d+5)) aAG) (env:=[some (.loc 0),some (.d (.int (most:Nat))),some (.d (.int (q:Nat))),some (.loc p),a4,some (.d (.list [.int (((aJ.length:Nat):Int) - 1),.int (q2:Nat)])),some (.loc S.length)]) (S:=aN (S++[some [nD y0]]) 0 p ns (k1+2) x3 aJ) (S1:=aN (S++[some [nD y0]]) 0 p ns (k1+2+1+1) x5 aJ) (ds:=(List.range m).map (λ k=>PyData.int (k:Nat)))
  (λ j env S'=>∃ (a4:Option W) (aH:List Nat) (k:Nat) (x:Int),aH.length=j+1/\(∀ o∈aH,o < aJ.length)/\k<=k1+4+j/\env=[some (.loc 0),some (.d (.int (most:Nat))),some (.d (.int (q:Nat))),some (.loc p),a4,some (.d (.list [.int (((aJ.length:Nat):Int) - 1),.int (q2:Nat)])),some (.loc S.length)]/\S'=aN (S++[some (aH.map nD)]) 0 p ns k x aJ)
  (by
    simp only[aAH,kW,kE,kH,kF,kN,kQ,kG];refine pP ?_ (by omega)
    simp only[evs,e4,e5,bM,tT,tX,eb5,ez])
  ⟨a4,[y0],k1+4,x5,rfl,λ o ho=>by rw[List.mem_singleton] at ho;subst ho;exact hy0,by omega,rfl,rfl⟩ (by
   rintro j dd env S' hj ⟨a4,aH,k,x,ol,oa,hk,rfl,rfl⟩;have hj':j < m:=by simpa using hj
   have hA:=At.app h [some (aH.map nD)];obtain⟨q6,x6,hq6,e6⟩:=fG (ns:=ns) (k:=k) (x:=x) (rs:=aJ) hA.toAt0 (d+4) aJ.length l0' (by omega) (by omega)
   refine⟨[some (.loc 0),some (.d (.int (most:Nat))),some (.d (.int (q:Nat))),some (.loc p),some (.d dd),some (.d (.list [.int (((aJ.length:Nat):Int) - 1),.int (q2:Nat)])),some (.loc S.length)],[some (.loc 0),some (.d (.int (most:Nat))),some (.d (.int (q:Nat))),some (.loc p),some (.d dd),some (.d (.list [.int (((aJ.length:Nat):Int) - 1),.int (q2:Nat)])),some (.loc S.length)],aN (S++[some ((aH++[q6]).map nD)]) 0 p ns (k+1) x6 aJ,rfl,?_,some (.d dd),aH++[q6],k+1,x6,by simp[ol],aMf oa hq6,by omega,rfl,rfl⟩
   have ap:eZ (aN (S++[some (aH.map nD)]) 0 p ns (k+1) x6 aJ) (.loc S.length) (.d (.int (q6:Nat)))=some (.d .none,aN (S++[some ((aH++[q6]).map nD)]) 0 p ns (k+1) x6 aJ):=by
    rw[xY h,xY h,List.map_append];have hl:(aN S 0 p ns (k+1) x6 aJ).length=S.length:=h.toAt0.len;have:=aBn (aN S 0 p ns (k+1) x6 aJ) (aH.map nD) (.int (q6:Nat)) (by rw[List.length_map];omega)
    rw[hl] at this;exact this
   simp only[evs,aAG,hA.rows,dR,dQ,GP.rows_len,e6,jS,ap])
 have hk7:k6<=k1+4+m:=by simpa using hk6
 obtain⟨T,hT⟩:=aMp (At.app h [some (aH.map nD)]) ns k6 x6 aJ;refine⟨aJ,aH,k6,x6,T,ok1,l0',l1',by omega,oa,aNz (by simpa using ol) hm7,?_⟩
 have p4':xs (aD fns (d+5)) (pR 4) [some (.loc 0),some (.d (.int (most:Nat))),some (.d (.int (q:Nat))),some (.loc p),none,none,none] (aN S 0 p ns k x rs)=some (.nx [some (.loc 0),some (.d (.int (most:Nat))),some (.d (.int (q:Nat))),some (.loc p),a4,none,none],aN S 0 p ns k1 x1 aJ):=p1;have p7':xs (aD fns (d+5)) (pR 7) [some (.loc 0),some (.d (.int (most:Nat))),some (.d (.int (q:Nat))),some (.loc p),a4,some (.d (.list [.int (((aJ.length:Nat):Int) - 1),.int (q2:Nat)])),some (.loc S.length)] (aN (S++[some [nD y0]]) 0 p ns (k1+2) x3 aJ)=some (.nx [some (.loc 0),some (.d (.int (most:Nat))),some (.d (.int (q:Nat))),some (.loc p),a4',some (.d (.list [.int (((aJ.length:Nat):Int) - 1),.int (q2:Nat)])),some (.loc S.length)],aN (S++[some (aH.map nD)]) 0 p ns k6 x6 aJ):=p4;rw[aM9,dP p4',dP p5,dP p6,dP p7',<- hT];have g2:(aN (S++[some (aH.map nD)]) 0 p ns k6 x6 aJ)[S.length]? = some (some (aH.map nD)):=by
  rw[xY h];have hl:(aN S 0 p ns k6 x6 aJ).length=S.length:=h.toAt0.len;rw[<- hl];exact pX _ _
 simp only[gS5,pR,pT,bC,bX,gK,(At.app h [some (aH.map nD)]).rows,g2,iU,iR]
theorem A2:At [none,none] 0 1:=⟨⟨by decide,by decide⟩,by decide⟩
theorem A3(j:List D):At [none,some j,none] 0 2:=⟨⟨by show 0 < 3;decide,by decide⟩,by show 2 < 3;decide⟩
theorem aP7(d most:Nat)(ns:List Int)(hm:most<=30)(kk:Nat)(xx:Int)(hkk:kk<=40000):∃ (rs:List Rw) (aH:List Nat) (k:Nat) (x:Int),dL [] rs/\0 < rs.length/\rs.length<=40/\k<=kk+800/\(∀ o∈aH,o < rs.length)/\aH.length<=8/\cl fns (d+6) 66 [.loc 0,.d (.int (most:Nat))] [some (aG ns kk xx)]=some (.d (.tuple [.tuple (rs.map Rw.d),.tuple (aH.map nD)]),[some (aG ns k x)]):=by
 obtain⟨w,x0,bL,bW,e0⟩:=aFZ (ns:=ns) (k:=kk) (x:=xx) (rs:=[]) at1 (d+3) (by omega)
 rw[aJL,aJL] at e0;have p0:xs (aD fns (d+5)) (pR 0) [some (.loc 0),some (.d (.int (most:Nat))),none,none,none,none,none] [some (aG ns kk xx)]=some (.nx [some (.loc 0),some (.d (.int (most:Nat))),some (.d (.int (w:Nat))),none,none,none,none],[some (aG ns (kk+3) x0)]):=by
  simp only[gS3,pR,bX,gK,e0]
 have p1:xs (aD fns (d+5)) (pR 1) [some (.loc 0),some (.d (.int (most:Nat))),some (.d (.int (w:Nat))),none,none,none,none] [some (aG ns (kk+3) x0)]=some (.nx [some (.loc 0),some (.d (.int (most:Nat))),some (.d (.int (w:Nat))),some (.loc 1),none,none,none],aN [none,none] 0 1 ns (kk+3) x0 [⟨.in,w,[]⟩]):=by
  simp only[gS4,pR,bX,bC,gK,gG]
 obtain⟨q,x1,hq,e1⟩:=gU (ns:=ns) (k:=kk+3) (x:=x0) (rs:=[⟨.in,w,[]⟩]) A2.toAt0 (d+4) 8 (i:=8) rfl (by decide) (by decide) (by omega)
 have ok0:dL [] [⟨.in,w,[]⟩]:=⟨⟨bL,bW,True.intro⟩,True.intro⟩
 suffices H:∃ (rs:List Rw) (aH:List Nat) (k:Nat) (x:Int) (T:aC),dL [] rs/\0 < rs.length/\rs.length<=40/\k<=kk+800/\(∀ o∈aH,o < rs.length)/\aH.length<=8/\xs (aD fns (d+5)) (.seq (pR 2) pT) [some (.loc 0),some (.d (.int (most:Nat))),some (.d (.int (w:Nat))),some (.loc 1),none,none,none] (aN [none,none] 0 1 ns (kk+3) x0 [⟨.in,w,[]⟩])=some (.rt (.d (.tuple [.tuple (rs.map Rw.d),.tuple (aH.map nD)])),some (aG ns k x)::T) by
  obtain⟨rs,aH,k,x,T,h1,h2,h3,h4,h6,h7,h5⟩:=H;refine⟨rs,aH,k,x,h1,h2,h3,h4,h6,h7,?_⟩;have full:xs (aD fns (d+5)) gK [some (.loc 0),some (.d (.int (most:Nat))),none,none,none,none,none] [some (aG ns kk xx)]=some (.rt (.d (.tuple [.tuple (rs.map Rw.d),.tuple (aH.map nD)])),some (aG ns k x)::T):=by
   rw[aNM,dP p0,dP p1];exact h5
  rw[aQ rfl (d+5) _ _ rfl];show((xs (aD fns (d+5)) gK [some (.loc 0),some (.d (.int (most:Nat))),none,none,none,none,none] [some (aG ns kk xx)]).bind _)=_;rw[full];rfl
 by_cases c:q=1
 ·have dq:(((q:Nat):Int)==1)=true:=by rw[beq_iff_eq];omega
  obtain⟨n,k2,x2,hn,hk2,e2⟩:=aHm (ns:=ns) (k:=kk+3+1) (x:=x1) (rs:=[⟨.in,w,[]⟩]) A2.toAt0 (d+2) w bL bW (by omega)
  have hl:(aN [none,none] 0 1 ns k2 x2 [⟨.in,w,[]⟩]).length=2:=rfl;have p2:xs (aD fns (d+5)) (pR 2) [some (.loc 0),some (.d (.int (most:Nat))),some (.d (.int (w:Nat))),some (.loc 1),none,none,none] (aN [none,none] 0 1 ns (kk+3) x0 [⟨.in,w,[]⟩])=some (.nx [some (.loc 0),some (.d (.int (most:Nat))),some (.d (.int (w:Nat))),some (.loc 2),none,none,none],aN [none,some ([(⟨.in,w,[]⟩:Rw)].map Rw.d),none] 0 2 ns k2 x2 [⟨.num,w,[n]⟩]):=by
   simp only[gS4,pR,bX,bC,gK,e1,bM,dq,e2,gG,hl]
  obtain⟨rs,aH,k,x,T,h1,h2,h3,h4,h6,h7,h5⟩:=aIj (A3 ([(⟨.in,w,[]⟩:Rw)].map Rw.d)) (ns:=ns) (k:=k2) (x:=x2) (rs:=[⟨.num,w,[n]⟩]) d most w hm ⟨⟨bL,bW,hn⟩,True.intro⟩ (by simp) (by simp) (by omega)
  refine⟨rs,aH,k,x,T,h1,h2,h3,by omega,h6,h7,?_⟩
  rw[dP p2];exact h5
 ·have dq:(((q:Nat):Int)==1)=false:=by rw[beq_eq_false_iff_ne];omega
  have p2:xs (aD fns (d+5)) (pR 2) [some (.loc 0),some (.d (.int (most:Nat))),some (.d (.int (w:Nat))),some (.loc 1),none,none,none] (aN [none,none] 0 1 ns (kk+3) x0 [⟨.in,w,[]⟩])=some (.nx [some (.loc 0),some (.d (.int (most:Nat))),some (.d (.int (w:Nat))),some (.loc 1),none,none,none],aN [none,none] 0 1 ns (kk+3+1) x1 [⟨.in,w,[]⟩]):=by
   simp only[gS4,pR,bX,bC,gK,e1,bM,dq]
  obtain⟨rs,aH,k,x,T,h1,h2,h3,h4,h6,h7,h5⟩:=aIj A2 (ns:=ns) (k:=kk+3+1) (x:=x1) (rs:=[⟨.in,w,[]⟩]) d most w hm ok0 (by simp) (by simp) (by omega)
  refine⟨rs,aH,k,x,T,h1,h2,h3,by omega,h6,h7,?_⟩
  rw[dP p2];exact h5
noncomputable def eT(r:Rw):List Nat:=r.args.take (bE r.wd)
noncomputable def vI(r:Rw):Nat:=r.args.getD 1 0
noncomputable def lC(r:Rw)(F:List Ft):List Fc:=(fB r F).map λ f=>⟨f.N,f.O,f.A⟩
noncomputable def rN(rs:List Rw)(F:List Ft)(r:Rw)(m:Nat):List Nat:=fS r.wd r.w (vI r) (bG r (rs.map (·.w))) (lC r F) m
noncomputable def fA(rs:List Rw)(F:List Ft)(r:Rw)(m:Nat):List (Nat × Nat):=(eT r).zip (rN rs F r m)
noncomputable def pD(p:Nat × Nat):D:=.tuple [nD p.1,nD p.2]
theorem zS{r:Rw}{ws:List Nat}(h:RwOk r ws):aAd r.wd r.w ws/\tM r.wd r.args (vI r):=by
 cases h with
 | inp h1 h2=>exact⟨⟨h1,h2,rfl⟩,rfl⟩
 | num h1 h2 hn=>exact⟨⟨h1,h2,rfl⟩,_,rfl⟩
 | nt h1 h2=>exact⟨⟨h1,h2,rfl⟩,_,rfl⟩
 | sh h1 h2 bD hk=>rcases bD with rfl | rfl | rfl<;>exact⟨⟨h1,h2,rfl⟩,_,rfl,hk⟩
 | cut h1 hv h2=>exact⟨⟨h1,xAi hv h2,_,rfl,hv,h2⟩,_,rfl⟩
 | wide h1 hv h2=>exact⟨⟨xAi h1 hv,h2,_,rfl,hv,h1⟩,_,rfl⟩
 | sign h1 hv h2=>exact⟨⟨xAi h1 hv,h2,_,rfl,hv,h1⟩,_,rfl⟩
 | bw h1 h2 bD=>rcases bD with rfl | rfl | rfl<;>exact⟨⟨h1,h2,rfl⟩,_,_,rfl⟩
 | sm h1 h2 =>
   rename_i s w a b;cases s<;>exact⟨⟨h1,h2,rfl⟩,_,_,rfl⟩
 | cmp h1 h2 bD=>rcases bD with rfl | rfl | rfl<;>exact⟨⟨Nat.le_refl 1,(show 1<=64 by decide),rfl,_,rfl,h1,h2⟩,_,_,rfl⟩
 | pick h1 h2=>exact⟨⟨h1,h2,rfl⟩,_,_,_,rfl⟩
theorem aB8:∀ as bs:List Nat,dC (as.map nD) (bs.map nD)=(as.zip bs).map pD
 | [],_=>by cases ‹List Nat› <;> rfl
 | _::_,[]=>rfl
 | a::as,b::bs=>by
   show PyData.tuple [nD a,nD b]::dC (as.map nD) (bs.map nD)=pD (a,b)::(as.zip bs).map pD;rw[aB8 as bs];rfl
theorem aIB(r:Rw)(F:List Ft):(lC r F).map Fc.d=(fB r F).map Ft.d:=by
 unfold lC;rw[List.map_map];rfl
theorem aHw(d a:Nat){rs:List Rw}{r:Rw}(hr:rs[a]? = some r)(o:D)(S:aC):cl fns (d+1) 17 [.d (.tuple [.tuple (rs.map Rw.d),o]),.d (.int (a:Nat))] S=some (.d (.int (r.w:Nat)),S):=by
 have i0:aO (.tuple [.tuple (rs.map Rw.d),o]) (.int 0)=some (.tuple (rs.map Rw.d)):=rfl;have e1:aO (.tuple (rs.map Rw.d)) (.int (a:Nat))=some r.d:=eG (by rw[xAb,hr];rfl)
 rw[aQ rfl d _ S rfl];simp only[gR1,aEF,i0,e1,dZ]
theorem qV{rs:List Rw}{a:Nat}{r:Rw}(hr:rs[a]? = some r):g0 (rs.map (·.w)) a=r.w:=by
 show(rs.map (·.w)).getD a 0=_;rw[xAh,xAb,hr];rfl
theorem aNQ{fa fb:FE}{env:aT}{S S1 S2:aC}{as bs:List Nat}(h1:fa env S=some (.d (.tuple (as.map nD)),S1))(h2:fb env S1=some (.d (.tuple (bs.map nD)),S2))(hl:as.length<=1000):qT fa fb env S=some ((as.zip bs).map pD,S2):=by
 have e:oX fa fb env S=some ((as.zip bs).map pD,S2):=by
  unfold oX;rw[h1,oB,h2,oB,<- aB8];rfl
 unfold qT aI9;rw[e,oB,if_pos];show((as.zip bs).map pD).length<=1000000;rw[List.length_map,List.length_zip];omega
theorem xZ(r:Rw):(eT r).length<=3:=by
 have:=aHe r.wd;unfold eT;rw[List.length_take];omega
section
variable {rs : List Rw}{F : List Ft}{r : Rw}{k m : Nat}
theorem aG4(p:Prg rs)(hr:rs[k]? = some r):(lC r F).length=bE r.wd:=by
 have h:=(zS (p.fit k r hr).1).2;unfold lC fB;rw[List.length_map,List.length_map];exact aBm h
theorem aKG(d:Nat)(p:Prg rs)(hr:rs[k]? = some r)(hF:F.length=rs.length)(hm:m < 2^r.w)(o:D)(S:aC):cl fns (d+6) 26 [.d (.tuple [.tuple (rs.map Rw.d),o]),.d (.tuple (F.map Ft.d)),.d (.int (k:Nat)),.d (.int (m:Nat))] S=some (.d (.list ((fA rs F r m).map pD)),S):=by
 have i0:aO (.tuple [.tuple (rs.map Rw.d),o]) (.int 0)=some (.tuple (rs.map Rw.d)):=rfl;have e1:aO (.tuple (rs.map Rw.d)) (.int (k:Nat))=some r.d:=eG (by rw[xAb,hr];rfl)
 obtain⟨f1,f2'⟩:=p.fit k r hr;have hk:k < rs.length:=(gIm hr).1;have ol:=xZ r;have hc:lv (aD fns (d+5)) aDW [some (.d (.tuple [.tuple (rs.map Rw.d),o])),some (.d (.tuple (F.map Ft.d))),some (.d (.int (k:Nat))),some (.d (.int (m:Nat))),some (.d r.d),none,none,none] S=some ((bG r (rs.map (·.w))).map nD,S):=by
  unfold bG;rw[List.map_map];refine mQ (fi:=lv (aD fns (d+5)) (.it (.call 15 (.cons (.var 4) .nil)))) (fe:=ev (aD fns (d+5)) (.call 17 (.cons (.var 0) (.cons (.var 7) .nil)))) nD (nD ∘ g0 (rs.map (·.w))) (r.args.take (bE r.wd)) ?_ (by rw[sizeLine_eq];have:(r.args.take (bE r.wd)).length<=3:=ol;omega) λ a ha=>?_
  ·simp only[gS0,oE (d+4),fP]
  ·refine⟨_,rfl,λ S'=>?_⟩
   have haj:=f2' a ha;have hq:rs[a]? = some rs[a]:=List.getElem?_eq_getElem (by omega)
   have e2:=aHw (d+4) a hq o S';have e2':cl fns (d+5) 17 [.d (.tuple [.tuple (rs.map Rw.d),o]),.d (nD a)] S'=some (.d (.int (rs[a].w:Nat)),S'):=e2;simp only[evs,clr,List.foldl_cons,List.foldl_nil,e2'];show _=some (W.d (nD (g0 (rs.map (·.w)) a)),S');rw[qV hq];rfl
 have o2:=aBC (d+3) r (.d (.tuple (F.map Ft.d))) (.tuple (F.map Ft.d)) (λ a=>(f0 F a).d) S (λ _=>rfl) λ a ha=>eG (by rw[xAb,kR (by have:=f2' a ha;omega)];rfl)
 have o2':cl fns (d+5) 16 [.d r.d,.d (.tuple (F.map Ft.d))] S=some (.d (.tuple ((lC r F).map Fc.d)),S):=by
  rw[o2,aIB,fB,List.map_map];rfl
 obtain⟨w1,w2⟩:=zS f1;have nk:=aGJ d r.wd r.w r.args (vI r) (bG r (rs.map (·.w))) (lC r F) m w1 (aG4 p hr) w2 hm S;have nk':cl fns (d+5) 25 [.d r.d,.d (.tuple ((bG r (rs.map (·.w))).map nD)),.d (.tuple ((lC r F).map Fc.d)),.d (.int (m:Nat))] S=some (.d (.tuple ((rN rs F r m).map nD)),S):=nk;have lz:∀ fa:FE,∀ env:aT,fa env S=some (.d (.tuple ((eT r).map nD)),S)->env[6]? = some (some (.d (.tuple ((rN rs F r m).map nD))))->qT fa (iY 6) env S=some ((fA rs F r m).map pD,S):=λ fa env h h6=>aNQ h (aFV h6) (by omega)
 rw[aQ rfl (d+5) _ S rfl];simp only[evs,eX,aEB,i0,e1,hc,iU,iR,o2',nk'];rw[lz _ _ (by simp only[evs,oE (d+4)];rfl) rfl]
 simp only[gS0,True]
end
noncomputable def dS(M:List Nat)(q:Nat × Nat):List Nat:=M.set q.1 (M.getD q.1 0 ||| q.2)
noncomputable def oY(rs:List Rw)(F:List Ft)(M:List Nat)(k:Nat):List Nat:=match rs[k]? with
 | some r=>(fA rs F r (M.getD k 0)).foldl dS M
 | none=>M
noncomputable def aAj(rs:List Rw)(F:List Ft):Nat->List Nat->List Nat
 | 0,M=>M
 | k+1,M=>aAj rs F k (oY rs F M k)
noncomputable def eU(rs:List Rw)(M:List Nat)(o:Nat):List Nat:=M.set o (2^g0 (rs.map (·.w)) o - 1)
noncomputable def nK(rs:List Rw)(aH:List Nat):List Nat:=aH.foldl (eU rs) (List.replicate rs.length 0)
noncomputable def pA(rs:List Rw)(F:List Ft)(aH:List Nat):List Nat:=aAj rs F rs.length (nK rs aH)
structure Bd(rs:List Rw)(M:List Nat):Prop where
 l:M.length=rs.length
 lt:∀ (i:Nat) (r:Rw),rs[i]? = some r->M.getD i 0 < 2^r.w
theorem aA6{α β:Type}{f:β->α->β}{l:List α}{j:Nat}{q:α}(M:β)(h:l[j]? = some q):(l.take (j+1)).foldl f M=f ((l.take j).foldl f M) q:=by
 rw[List.take_add_one,h];simp
theorem aD9{M:List Nat}{a i v:Nat}(h:a≠i):(M.set a v).getD i 0=M.getD i 0:=by
 rw[xAh,xAh,List.getElem?_set_ne h]
theorem aEg{M:List Nat}{a v:Nat}(h:a < M.length):(M.set a v).getD a 0=v:=by
 rw[xAh,List.getElem?_set_self h];rfl
theorem aBU{M:List Nat}{i:Nat}(h:i < M.length):M[i]? = some (M.getD i 0):=by
 rw[xAh,List.getElem?_eq_getElem h];rfl
section
variable {rs : List Rw}{F : List Ft}{r : Rw}{k m : Nat}{M : List Nat}
theorem aHb(p:Prg rs)(hr:rs[k]? = some r)(hm:m < 2^r.w)(q:Nat × Nat)(hq:q∈fA rs F r m):q.1 < k/\∀ r',rs[q.1]? = some r'->q.2 < 2^r'.w:=by
 obtain⟨f1,f2⟩:=p.fit k r hr;obtain⟨w1,w2⟩:=zS f1;obtain⟨c,hc⟩:=List.getElem?_of_mem hq;obtain⟨a,b⟩:=q;unfold fA at hc;rw[List.getElem?_zip_eq_some] at hc;obtain⟨h1,h2⟩:=hc;refine⟨f2 a (xAl h1),λ r' hr'=>?_⟩
 have hv:(bG r (rs.map (·.w)))[c]? = some r'.w:=by
  unfold bG;have h1':(r.args.take (bE r.wd))[c]? = some a:=h1;rw[xAb,h1'];show some (g0 (rs.map (·.w)) a)=_;rw[qV hr']
 have:=aNW r.wd r.w (vI r) (bG r (rs.map (·.w))) (lC r F) m c r'.w w1 hm hv;have e:(rN rs F r m).getD c 0=b:=by
  rw[xAh,h2];rfl
 rw[<- e];exact this
theorem aCA(h:Bd rs M){q:Nat × Nat}(h1:q.1 < rs.length)(h2:∀ r',rs[q.1]? = some r'->q.2 < 2^r'.w):Bd rs (dS M q):=by
 refine⟨by unfold dS;rw[List.length_set];exact h.l,λ i r hr=>?_⟩
 unfold dS
 by_cases c:q.1=i
 ·rw[c] at h1 h2 ⊢;rw[aEg (by rw[h.l];exact h1)]
  exact Nat.or_lt_two_pow (h.lt i r hr) (h2 r hr)
 ·rw[aD9 c];exact h.lt i r hr
theorem aGP:Bd rs (List.replicate rs.length 0):=by
 refine⟨List.length_replicate,λ i r hr=>?_⟩
 have hi:i < rs.length:=(gIm hr).1;rw[xAh,List.getElem?_replicate,if_pos hi];exact xAf _
theorem aEU{o:Nat}(hr:rs[o]? = some r):eU rs M o=M.set o (2^r.w - 1):=by
 unfold eU;rw[qV hr]
theorem aGR(h:Bd rs M){o:Nat}(ho:o < rs.length):Bd rs (eU rs M o):=by
 refine⟨by unfold eU;rw[List.length_set];exact h.l,λ i r hr=>?_⟩
 unfold eU
 by_cases c:o=i
 ·subst c;rw[aEg (by rw[h.l];exact ho),qV hr]
  have:=xAf r.w;omega
 ·rw[aD9 c];exact h.lt i r hr
theorem tF(S:aC)(M:List Nat)(a v:Nat)(ha:a < M.length):hB (S++[some (M.map nD)]) (.loc S.length) (.d (.int (a:Nat))) (.d (.int (v:Nat)))=some (S++[some ((M.set a v).map nD)]):=by
 unfold hB;simp only[pX];unfold jB;rw[List.length_map,if_pos (by omega),if_pos (by omega),oB,Int.toNat_natCast,List.set_append_right _ _ (Nat.le_refl _),Nat.sub_self,List.map_set]
 rfl
theorem tP{M:List Nat}{i:Nat}(h:i < M.length):aO (.list (M.map nD)) (.int (i:Nat))=some (.int ((M.getD i 0:Nat):Int)):=mW (by rw[xAb,aBU h];rfl)
theorem aTt{fa fb:FE}{env:aT}{S:aC}{n:Nat}(h1:fa env S=some (.d (.list [.int 0]),S))(h2:fb env S=some (.d (.int (n:Nat)),S))(hn:n<=1000):vH fa fb env S=some ((List.replicate n 0).map nD,S):=by
 have hz:(([.int 0]:List D)).length*(((n:Nat):Int)).toNat<=sizeLine:=by rw[Int.toNat_natCast,sizeLine_eq];simp;omega
 have hd:dr S (.d (.list [.int 0]))=some (.list [.int 0]):=rfl;unfold vH;rw[h1,oB,h2,oB];show((dr S (.d (.list [.int 0]))).bind _)=_;rw[hd,oB];show(if ((n:Nat):Int) < 2^63 /\ -(2^63)<=((n:Nat):Int)/\(([.int 0]:List D)).length*(((n:Nat):Int)).toNat<=sizeLine then some (vK (((n:Nat):Int)).toNat [PyData.int 0],S) else none)=_
 rw[if_pos ⟨by omega,by omega,hz⟩,Int.toNat_natCast,aM8,List.map_replicate]
 rfl
theorem aMc(d:Nat)(p:Prg rs)(hr:rs[k]? = some r)(hF:F.length=rs.length)(o:D)(S:aC)(h:Bd rs M)(c3 c5 c6 c7 c8:Option W):∃ c7' c8':Option W,Bd rs (oY rs F M k)/\cJ (.many [7,8]) (lv (aD fns (d+6)) xG) (xs (aD fns (d+6)) xJ) [some (.d (.tuple [.tuple (rs.map Rw.d),o])),some (.d (.tuple (F.map Ft.d))),some (.loc S.length),c3,some (.d (.int (k:Nat))),c5,c6,c7,c8] (S++[some (M.map nD)])=some (.nx [some (.d (.tuple [.tuple (rs.map Rw.d),o])),some (.d (.tuple (F.map Ft.d))),some (.loc S.length),c3,some (.d (.int (k:Nat))),c5,c6,c7',c8'],S++[some ((oY rs F M k).map nD)]):=by
 have hk:k < rs.length:=(gIm hr).1;have hm:=h.lt k r hr;have e0:=tP (M:=M) (i:=k) (by rw[h.l];exact hk)
 have rn:=aKG d p hr hF hm o (S++[some (M.map nD)]);have eR:oY rs F M k=(fA rs F r (M.getD k 0)).foldl dS M:=by unfold oY;rw[hr]
 obtain⟨aI,S',p1,c7',c8',hb,rfl,rfl⟩:=lK (t:=.many [7,8]) (fi:=lv (aD fns (d+6)) xG) (fb:=xs (aD fns (d+6)) xJ) (env:=[some (.d (.tuple [.tuple (rs.map Rw.d),o])),some (.d (.tuple (F.map Ft.d))),some (.loc S.length),c3,some (.d (.int (k:Nat))),c5,c6,c7,c8]) (S:=S++[some (M.map nD)]) (S1:=S++[some (M.map nD)]) (ds:=(fA rs F r (M.getD k 0)).map pD)
  (λ j env S'=>∃ c7 c8:Option W,Bd rs (((fA rs F r (M.getD k 0)).take j).foldl dS M)/\env=[some (.d (.tuple [.tuple (rs.map Rw.d),o])),some (.d (.tuple (F.map Ft.d))),some (.loc S.length),c3,some (.d (.int (k:Nat))),c5,c6,c7,c8]/\S'=S++[some ((((fA rs F r (M.getD k 0)).take j).foldl dS M).map nD)])
  (by simp only[evs,xG,pX,e0,rn,fP]) ⟨c7,c8,h,rfl,rfl⟩ (by
    rintro j dd env S' hd ⟨c7,c8,hb,rfl,rfl⟩;rw[xAb] at hd;obtain⟨q,hq,rfl⟩:=Option.map_eq_some_iff.mp hd;obtain⟨q1,q2⟩:=aHb p hr hm q (xAl hq);have ql:q.1 < (((fA rs F r (M.getD k 0)).take j).foldl dS M).length:=by rw[hb.l];omega
    have ft:=aA6 (f:=dS) M hq;have e1:=tP ql;have pe:hB (S++[some ((((fA rs F r (M.getD k 0)).take j).foldl dS M).map nD)]) (.loc S.length) (.d (.int (q.1:Nat))) (.d (.int (((((fA rs F r (M.getD k 0)).take j).foldl dS M).getD q.1 0 ||| q.2:Nat):Int)))=some (S++[some ((dS (((fA rs F r (M.getD k 0)).take j).foldl dS M) q).map nD)]):=tF S _ q.1 _ ql
    refine⟨[some (.d (.tuple [.tuple (rs.map Rw.d),o])),some (.d (.tuple (F.map Ft.d))),some (.loc S.length),c3,some (.d (.int (k:Nat))),c5,c6,some (.d (.int (q.1:Nat))),some (.d (.int (q.2:Nat)))],[some (.d (.tuple [.tuple (rs.map Rw.d),o])),some (.d (.tuple (F.map Ft.d))),some (.loc S.length),c3,some (.d (.int (k:Nat))),c5,c6,some (.d (.int (q.1:Nat))),some (.d (.int (q.2:Nat)))],S++[some ((dS (((fA rs F r (M.getD k 0)).take j).foldl dS M) q).map nD)],rfl,?_,_,_,?_,rfl,by rw[ft]⟩
    ·simp only[gS1,xJ,pX,e1,eO,iG,pe]
    ·rw[ft];exact aCA hb (by omega) q2)
 rw[List.length_map,List.take_length,<- eR] at hb p1;exact⟨c7',c8',hb,p1⟩
theorem aMW(d:Nat)(p:Prg rs)(hF:F.length=rs.length)(aH:List Nat)(ho:∀ o∈aH,o < rs.length)(S:aC):Bd rs (pA rs F aH)/\cl fns (d+7) 27 [.d (.tuple [.tuple (rs.map Rw.d),.tuple (aH.map nD)]),.d (.tuple (F.map Ft.d))] S=some (.d (.tuple ((pA rs F aH).map nD)),S):=by
 have pl:=p.l;have lR:hU [.tuple (rs.map Rw.d)]=some (.int (rs.length:Nat)):=by
  show some (PyData.int (((rs.map Rw.d).length:Nat):Int))=_;rw[List.length_map]
 obtain⟨env1,S1,p1,c3,hb0,rfl,rfl⟩:=lK (t:=.one 3) (fi:=lv (aD fns (d+6)) aBc) (fb:=xs (aD fns (d+6)) aBh) (env:=[some (.d (.tuple [.tuple (rs.map Rw.d),.tuple (aH.map nD)])),some (.d (.tuple (F.map Ft.d))),some (.loc S.length),none,none,some (.d (.tuple (rs.map Rw.d))),some (.d (.tuple (aH.map nD))),none,none]) (S:=S++[some ((List.replicate rs.length 0).map nD)]) (S1:=S++[some ((List.replicate rs.length 0).map nD)]) (ds:=aH.map nD)
  (λ j env S'=>∃ c3:Option W,Bd rs ((aH.take j).foldl (eU rs) (List.replicate rs.length 0))/\env=[some (.d (.tuple [.tuple (rs.map Rw.d),.tuple (aH.map nD)])),some (.d (.tuple (F.map Ft.d))),some (.loc S.length),c3,none,some (.d (.tuple (rs.map Rw.d))),some (.d (.tuple (aH.map nD))),none,none]/\S'=S++[some (((aH.take j).foldl (eU rs) (List.replicate rs.length 0)).map nD)])
  (by simp only[evs,aBc,fP]) ⟨none,aGP,rfl,rfl⟩ (by
    rintro j dd env S' hd ⟨c3,hb,rfl,rfl⟩;rw[xAb] at hd;obtain⟨q,hq,rfl⟩:=Option.map_eq_some_iff.mp hd;have hql:=ho q (xAl hq);have hr:rs[q]? = some rs[q]:=List.getElem?_eq_getElem hql;have ft:=aA6 (f:=eU rs) (List.replicate rs.length 0) hq;have wo:=aHw (d+5) q hr (.tuple (aH.map nD)) (S++[some (((aH.take j).foldl (eU rs) (List.replicate rs.length 0)).map nD)]);have fu:=dF (d+5) rs[q].w (by have:=(p.ws q _ hr).2;omega) (S++[some (((aH.take j).foldl (eU rs) (List.replicate rs.length 0)).map nD)])
    have pe:hB (S++[some (((aH.take j).foldl (eU rs) (List.replicate rs.length 0)).map nD)]) (.loc S.length) (.d (.int (q:Nat))) (.d (.int ((2^rs[q].w - 1:Nat):Int)))=some (S++[some ((eU rs ((aH.take j).foldl (eU rs) (List.replicate rs.length 0)) q).map nD)]):=by
     rw[aEU hr];exact tF S _ q _ (by rw[hb.l];exact hql)
    refine⟨[some (.d (.tuple [.tuple (rs.map Rw.d),.tuple (aH.map nD)])),some (.d (.tuple (F.map Ft.d))),some (.loc S.length),some (.d (.int (q:Nat))),none,some (.d (.tuple (rs.map Rw.d))),some (.d (.tuple (aH.map nD))),none,none],[some (.d (.tuple [.tuple (rs.map Rw.d),.tuple (aH.map nD)])),some (.d (.tuple (F.map Ft.d))),some (.loc S.length),some (.d (.int (q:Nat))),none,some (.d (.tuple (rs.map Rw.d))),some (.d (.tuple (aH.map nD))),none,none],S++[some ((eU rs ((aH.take j).foldl (eU rs) (List.replicate rs.length 0)) q).map nD)],rfl,?_,_,?_,rfl,by rw[ft]⟩
    ·simp only[gS1,aBh,wo,fu,iG,pe]
    ·rw[ft];exact aGR hb hql)
 rw[List.length_map,List.take_length] at hb0 p1;have un1:nZ .USub (.int 1)=some (.int (-1)):=rfl;have i3:lv (aD fns (d+6)) xL [some (.d (.tuple [.tuple (rs.map Rw.d),.tuple (aH.map nD)])),some (.d (.tuple (F.map Ft.d))),some (.loc S.length),c3,none,some (.d (.tuple (rs.map Rw.d))),some (.d (.tuple (aH.map nD))),none,none] (S++[some ((nK rs aH).map nD)])=some (kO (((rs.length:Nat):Int) - 1) rs.length,S++[some ((nK rs aH).map nD)]):=by
  have hc:(-(2^62)<=((rs.length:Nat):Int) - 1/\((rs.length:Nat):Int) - 1 < 2^62 /\ -(2^62)<=(-1:Int)/\(-1:Int) < 2^62)/\(-1:Int) = -1:=⟨⟨by omega,by omega,by decide,by decide⟩,rfl⟩
  have hn:(((rs.length:Nat):Int) - 1 - (-1)).toNat=rs.length:=by omega
  simp only[evs,xL,zF,lR,cG,un1];rw[if_pos ⟨hc.1,True.intro⟩,hn]
 obtain⟨env2,S2,p2,c4,c7,c8,M,hb,hM,rfl,rfl⟩:=lK (t:=.one 4) (fi:=lv (aD fns (d+6)) xL) (fb:=xs (aD fns (d+6)) aBd) (env:=[some (.d (.tuple [.tuple (rs.map Rw.d),.tuple (aH.map nD)])),some (.d (.tuple (F.map Ft.d))),some (.loc S.length),c3,none,some (.d (.tuple (rs.map Rw.d))),some (.d (.tuple (aH.map nD))),none,none]) (S:=S++[some ((nK rs aH).map nD)]) (S1:=S++[some ((nK rs aH).map nD)]) (ds:=kO (((rs.length:Nat):Int) - 1) rs.length)
  (λ j env S'=>∃ (c4 c7 c8:Option W) (M:List Nat),Bd rs M/\aAj rs F (rs.length - j) M=pA rs F aH/\env=[some (.d (.tuple [.tuple (rs.map Rw.d),.tuple (aH.map nD)])),some (.d (.tuple (F.map Ft.d))),some (.loc S.length),c3,c4,some (.d (.tuple (rs.map Rw.d))),some (.d (.tuple (aH.map nD))),c7,c8]/\S'=S++[some (M.map nD)])
  i3 ⟨none,none,none,nK rs aH,hb0,rfl,rfl,rfl⟩ (by
   rintro j dd env S' hd ⟨c4,c7,c8,M,hb,hM,rfl,rfl⟩;have hj:j < rs.length:=by
    have:=(gIm hd).1;rw[pO] at this;exact this
   rw[aA3 _ _ j hj] at hd;have ek:((rs.length:Nat):Int) - 1 - ((j:Nat):Int)=((rs.length - 1 - j:Nat):Int):=by omega
   rw[ek] at hd;cases hd;have hr:rs[rs.length - 1 - j]? = some rs[rs.length - 1 - j]:=List.getElem?_eq_getElem (by omega)
   obtain⟨c7',c8',hb',e⟩:=aMc d p hr hF (.tuple (aH.map nD)) S hb c3 (some (.d (.tuple (rs.map Rw.d)))) (some (.d (.tuple (aH.map nD)))) c7 c8;refine⟨[some (.d (.tuple [.tuple (rs.map Rw.d),.tuple (aH.map nD)])),some (.d (.tuple (F.map Ft.d))),some (.loc S.length),c3,some (.d (.int ((rs.length - 1 - j:Nat):Int))),some (.d (.tuple (rs.map Rw.d))),some (.d (.tuple (aH.map nD))),c7,c8],[some (.d (.tuple [.tuple (rs.map Rw.d),.tuple (aH.map nD)])),some (.d (.tuple (F.map Ft.d))),some (.loc S.length),c3,some (.d (.int ((rs.length - 1 - j:Nat):Int))),some (.d (.tuple (rs.map Rw.d))),some (.d (.tuple (aH.map nD))),c7',c8'],S++[some ((oY rs F M (rs.length - 1 - j)).map nD)],rfl,?_,_,_,_,_,hb',?_,rfl,rfl⟩
   ·simp only[gS1,aBd,e]
   ·rw[<- hM,show rs.length - j=(rs.length - 1 - j)+1 by omega]
    show _=aAj rs F (rs.length - 1 - j) (oY rs F M (rs.length - 1 - j));rw[show rs.length - (j+1)=rs.length - 1 - j by omega])
 rw[pO,Nat.sub_self] at hM;have hM':M=pA rs F aH:=hM;subst hM';refine⟨hb,?_⟩;have tk1:∀ x,List.take S.length (S++[x])=S:=λ x=>List.take_left
 have q0:xs (aD fns (d+6)) (bX gB) [some (.d (.tuple [.tuple (rs.map Rw.d),.tuple (aH.map nD)])),some (.d (.tuple (F.map Ft.d))),none,none,none,none,none,none,none] S=some (.nx [some (.d (.tuple [.tuple (rs.map Rw.d),.tuple (aH.map nD)])),some (.d (.tuple (F.map Ft.d))),none,none,none,some (.d (.tuple (rs.map Rw.d))),some (.d (.tuple (aH.map nD))),none,none],S):=by
  simp only[gS2,bX,gB,True]
 have q1:xs (aD fns (d+6)) (bX (bC gB)) [some (.d (.tuple [.tuple (rs.map Rw.d),.tuple (aH.map nD)])),some (.d (.tuple (F.map Ft.d))),none,none,none,some (.d (.tuple (rs.map Rw.d))),some (.d (.tuple (aH.map nD))),none,none] S=some (.nx [some (.d (.tuple [.tuple (rs.map Rw.d),.tuple (aH.map nD)])),some (.d (.tuple (F.map Ft.d))),some (.loc S.length),none,none,some (.d (.tuple (rs.map Rw.d))),some (.d (.tuple (aH.map nD))),none,none],S++[some ((List.replicate rs.length 0).map nD)]):=by
  simp only[bX,bC,gB,yM,aB9,aGG,jA,gG];rw[aTt (n:=rs.length) (by simp only[evs]) (by simp only[evs,lR]) (by omega)]
  simp only[gS0,True]
 have e:gB=.seq (bX gB) (.seq (bX (bC gB)) (.seq (bX (bC (bC gB))) (.seq (bX (bC (bC (bC gB)))) (bC (bC (bC (bC gB))))))):=rfl;have p1':xs (aD fns (d+6)) (bX (bC (bC gB))) [some (.d (.tuple [.tuple (rs.map Rw.d),.tuple (aH.map nD)])),some (.d (.tuple (F.map Ft.d))),some (.loc S.length),none,none,some (.d (.tuple (rs.map Rw.d))),some (.d (.tuple (aH.map nD))),none,none] (S++[some ((List.replicate rs.length 0).map nD)])=some (.nx [some (.d (.tuple [.tuple (rs.map Rw.d),.tuple (aH.map nD)])),some (.d (.tuple (F.map Ft.d))),some (.loc S.length),c3,none,some (.d (.tuple (rs.map Rw.d))),some (.d (.tuple (aH.map nD))),none,none],S++[some ((nK rs aH).map nD)]):=p1;have p2':xs (aD fns (d+6)) (bX (bC (bC (bC gB)))) [some (.d (.tuple [.tuple (rs.map Rw.d),.tuple (aH.map nD)])),some (.d (.tuple (F.map Ft.d))),some (.loc S.length),c3,none,some (.d (.tuple (rs.map Rw.d))),some (.d (.tuple (aH.map nD))),none,none] (S++[some ((nK rs aH).map nD)])=some (.nx [some (.d (.tuple [.tuple (rs.map Rw.d),.tuple (aH.map nD)])),some (.d (.tuple (F.map Ft.d))),some (.loc S.length),c3,c4,some (.d (.tuple (rs.map Rw.d))),some (.d (.tuple (aH.map nD))),c7,c8],S++[some ((pA rs F aH).map nD)]):=p2;have fl:xs (aD fns (d+6)) gB [some (.d (.tuple [.tuple (rs.map Rw.d),.tuple (aH.map nD)])),some (.d (.tuple (F.map Ft.d))),none,none,none,none,none,none,none] S=some (.rt (.d (.tuple ((pA rs F aH).map nD))),S++[some ((pA rs F aH).map nD)]):=by
  rw[e,dP q0,dP q1,dP p1',dP p2'];simp only[gS2,bC,gB,pX,iU,iR]
 rw[aQ rfl (d+6) _ S rfl];show((xs (aD fns (d+6)) gB [some (.d (.tuple [.tuple (rs.map Rw.d),.tuple (aH.map nD)])),some (.d (.tuple (F.map Ft.d))),none,none,none,none,none,none,none] S).bind _)=_;rw[fl];simp only[oB,lA,tk1]
end
theorem aA9{t:Tg}{fb:FS}{S:aC}{P:aT->Prop}{r:W}:∀ (ds:List D) (q:Nat) (env:aT),q < ds.length->P env->(∀ j dd env,j < q->ds[j]? = some dd->P env->∃ e1 aI,t.put dd env=some e1/\fb e1 S=some (.nx aI,S)/\P aI)->(∀ dd env,ds[q]? = some dd->P env->∃ e1,t.put dd env=some e1/\fb e1 S=some (.rt r,S))->fH t fb ds env S=some (.rt r,S)
 | [],q,_,h,_,_,_=>absurd h (Nat.not_lt_zero q)
 | dd::ds,0,env,_,h0,_,h2=>by
   obtain⟨e1,h3,h4⟩:=h2 dd env rfl h0;simp only[fH,h3,oB,h4]
 | dd::ds,q+1,env,hq,h0,h1,h2=>by
   obtain⟨e1,aI,h3,h4,h5⟩:=h1 0 dd env (Nat.succ_pos q) rfl h0;simp only[fH,h3,oB,h4];exact aA9 ds q aI (by simpa using hq) h5 (λ j x e hj hx he=>h1 (j+1) x e (by omega) (by simpa using hx) he) λ x e hx he=>h2 x e (by simpa using hx) he
section
variable {rs : List Rw}{F : List Ft}{r : Rw}{k m : Nat}{M : List Nat}
theorem aBM{M:List Nat}{i:Nat}(h:i < M.length):aO (.tuple (M.map nD)) (.int (i:Nat))=some (.int ((M.getD i 0:Nat):Int)):=eG (by rw[xAb,aBU h];rfl)
end
section
variable {rs : List Rw}{F : List Ft}{r : Rw}{k m : Nat}{M : List Nat}
theorem aBu{n j:Nat}{dd:D}(h:((List.range n).map λ k=>PyData.int ((k:Nat):Int))[j]? = some dd):j < n/\dd=.int (j:Nat):=by
 have hj:j < n:=by
  have:=(gIm h).1;simpa using this
 rw[xAb,List.getElem?_range hj] at h;cases h;exact⟨hj,rfl⟩
end
section
variable {rs : List Rw}{F : List Ft}{r : Rw}{k m : Nat}{M : List Nat}
end
theorem aJO(n b:Nat):((((n / 2^b) &&& 1:Nat):Int)==1)=n.testBit b:=by
 rw[oD,Nat.and_one_is_mod,Nat.testBit_eq_decide_div_mod_eq];cases h:decide (n / 2^b%2=1) with
 | true=>rw[oqT h];rfl
 | false=>rw[beq_eq_false_iff_ne];exact of_decide_eq_false h
inductive Yw where
 | cut | nought | sign
 deriving DecidableEq
noncomputable def Yw.s:Yw->Str
 | .cut => "cut" | .nought => "nought" | .sign => "sign"
theorem aHR(a b:Yw):aX .Eq (.str a.s) (.str b.s)=some (.bool (decide (a=b))):=by cases a<;>cases b<;>kernel_rfl
noncomputable def lb(wd:Yw)(kept:Nat)(f:Ft)(m w:Nat):Bool:=(m / 2^kept==0)||(match wd with
 | .cut=>false
 | .nought=>iJ (m / 2^kept) (f.N / 2^kept)==0
 | .sign=>m.testBit (kept - 1)&&decide (w < kept+f.A))
noncomputable def yD:Option (Yw × Nat)->D
 | none=>.none
 | some (y,k)=>.tuple [.str y.s,.int (k:Nat)]
theorem aBQ(d:Nat)(wd:Yw)(kept:Nat)(f:Ft)(m w:Nat)(hk:1<=kept)(hkw:kept<=w)(S:aC):cl fns (d+1) 0 [.d (.tuple [.str wd.s,.int (kept:Nat)]),.d f.d,.d (.int (m:Nat)),.d (.int (w:Nat))] S=some (.d (.bool (lb wd kept f m w)),S):=by
 have c1:aX .Eq (.str wd.s) (.str "nought")=some (.bool (decide (wd=.nought))):=aHR wd .nought;have c2:aX .Eq (.str wd.s) (.str "sign")=some (.bool (decide (wd=.sign))):=aHR wd .sign;have ek:(kept:Int) - 1=((kept - 1:Nat):Int):=by omega
 have el:decide ((w:Int) - (kept:Int)+1<=(f.A:Int))=decide (w < kept+f.A):=by
  rw[decide_eq_decide];omega
 rw[aQ rfl d _ S rfl];unfold lb;cases q:(m / 2^kept==0) with
 | true=>simp only[evs,eX,pY,jG,bM,cU,q,Bool.true_or]
 | false =>
   rw[Bool.false_or];cases wd with
   | cut =>
     rw[dqF (by decide)] at c1 c2
     simp only[gR1,pY,jG,bM,cU,q,c1,c2]
   | nought =>
     rw[dqT rfl] at c1;simp only[gR1,pY,jG,bM,cU,q,c1,gH,aGq,aFC]
   | sign =>
     rw[dqF (by decide)] at c1
     rw[dqT rfl] at c2;cases q2:m.testBit (kept - 1) with
     | true=>simp only[evs,eX,pY,jG,bM,cU,q,c1,c2,cG,ek,aFN,aJO,q2,cK,aRp,iI,el,Bool.true_and]
     | false=>simp only[evs,eX,pY,jG,bM,cU,q,c1,c2,cG,ek,aFN,aJO,q2,Bool.false_and]
noncomputable def pE(p:Nat->Bool):Nat->Nat->Nat
 | 0,i=>i
 | n+1,i=>if p i=true then i else pE p n (i+1)
theorem aG0(p:Nat->Bool):∀ n i,p (i+n)=true->i<=pE p n i/\pE p n i<=i+n/\p (pE p n i)=true/\∀ j,i<=j->j < pE p n i->p j=false
 | 0,i,h=>⟨Nat.le_refl _,Nat.le_refl _,h,λ j h1 h2=>absurd h1 (Nat.not_le_of_lt h2)⟩
 | n+1,i,h=>by
   unfold pE
   by_cases c:p i=true
   ·rw[if_pos c];exact⟨Nat.le_refl _,by omega,c,λ j h1 h2=>absurd h1 (Nat.not_le_of_lt h2)⟩
   ·rw[if_neg c];obtain⟨h1,h2,h3,h4⟩:=aG0 p n (i+1) (by rw[show i+1+n=i+(n+1) by omega];exact h)
    refine⟨by omega,by omega,h3,λ j h5 h6=>?_⟩
    by_cases e:i=j
    ·subst e;exact Bool.eq_false_iff.mpr c
    ·exact h4 j (by omega) h6
noncomputable def lw(y:Yw)(f:Ft)(m w:Nat):Nat:=pE (λ k=>lb y k f m w) (w - 1) 1
theorem aQl{y:Yw}{f:Ft}{m w:Nat}(h:m < 2^w):lb y w f m w=true:=by
 unfold lb;rw[Nat.div_eq_of_lt h];rfl
theorem uF(y:Yw)(f:Ft){m w:Nat}(hw:1<=w)(h:m < 2^w):1<=lw y f m w/\lw y f m w<=w/\lb y (lw y f m w) f m w=true/\∀ j,1<=j->j < lw y f m w->lb y j f m w=false:=by
 obtain⟨h1,h2,h3,h4⟩:=aG0 (λ k=>lb y k f m w) (w - 1) 1 (by
  show lb y (1+(w - 1)) f m w=true;rw[show 1+(w - 1)=w by omega]
  exact aQl h)
 exact⟨h1,by unfold lw;omega,h3,h4⟩
theorem aBa:∀ l:List Nat,iS (l.map nD)=some (l.map λ n=>((n:Nat):Int))
 | []=>rfl
 | a::r=>by
   have ih:=aBa r;simp only[List.map_cons,nD,iS];rw[show iS (r.map nD)=_ from ih,oB]
theorem aFT:∀ (l:List Nat) (a m:Nat),(m=a\/m∈l)->m<=a->(∀ b∈l,m<=b)->(l.map λ n=>((n:Nat):Int)).foldl min ((a:Nat):Int)=((m:Nat):Int)
 | [],a,m,h,_,_=>by
   rcases h with rfl | h
   ·rfl
   ·cases h
 | b::l,a,m,h,h1,h2=>by
   rw[List.map_cons,List.foldl_cons,show min ((a:Nat):Int) ((b:Nat):Int)=((min a b:Nat):Int) by omega]
   have hb:=h2 b xAd;refine aFT l (min a b) m ?_ (by omega) λ c hc=>h2 c (xAg _ hc)
   rcases h with rfl | h
   ·exact .inl (by omega)
   ·rcases List.mem_cons.mp h with rfl | h
    ·exact .inl (by omega)
    ·exact .inr h
theorem aHE{l:List Nat}{m:Nat}(h:m∈l)(h2:∀ b∈l,m<=b):iH [.list (l.map nD)]=some (.int (m:Nat)):=by
 have e:=aBa l;cases l with
 | nil=>cases h
 | cons a r =>
   have f:=aFT r a m (List.mem_cons.mp h) (h2 a xAd) λ b hb=>h2 b (xAg _ hb)
   show(match iS ((a::r).map nD) with
    | some (i::r)=>some (PyData.int (r.foldl min i))
    | _=>none)=_
   rw[e,List.map_cons];simp only[];rw[f]
theorem aLV(d:Nat)(y:Yw)(f:Ft)(m w:Nat)(bL:1<=w)(hw:w<=64)(hm:m < 2^w)(S:aC):cl fns (d+2) 1 [.d (.str y.s),.d f.d,.d (.int (m:Nat)),.d (.int (w:Nat))] S=some (.d (.int (lw y f m w:Nat)),S):=by
 have ea:((w:Nat):Int)+1=((w+1:Nat):Int):=rfl;have hc:lv (aD fns (d+1)) aDN [some (.d (.str y.s)),some (.d f.d),some (.d (.int (m:Nat))),some (.d (.int (w:Nat))),none] S=some ((((List.range w).filter λ k=>lb y (1+k) f m w).map λ k=>nD (1+k)),S):=by
  refine aFn (fi:=lv (aD fns (d+1)) (.rng2 (.int 1) (.bin .Add (.var 3) (.int 1)))) (fc:=tv (aD fns (d+1)) (.call 0 (.cons (.tup (.cons (.var 0) (.cons (.var 4) .nil))) (.cons (.var 1) (.cons (.var 2) (.cons (.var 3) .nil)))))) (fe:=ev (aD fns (d+1)) (.var 4)) (λ k=>PyData.int ((1+k:Nat):Int)) (λ k=>nD (1+k)) (λ k=>lb y (1+k) f m w) (List.range w) ?_ (by rw[sizeLine_eq,List.length_range];omega) λ k hk=>?_
  ·simp only[kW,kE,kH,kF,kN,kQ,kG];have:=aEf (fa:=ev (aD fns (d+1)) (.int 1)) (fb:=ev (aD fns (d+1)) (.bin .Add (.var 3) (.int 1))) (env:=[some (.d (.str y.s)),some (.d f.d),some (.d (.int (m:Nat))),some (.d (.int (w:Nat))),none]) (S:=S) (S1:=S) (S2:=S) (v:=1) (w:=w+1) rfl (by simp only[evs,cK,ea]) (by omega) (by omega)
   rw[Nat.add_sub_cancel] at this;exact this
  ·have hk:=List.mem_range.mp hk;have l1:=λ S'=>aBQ d y (1+k) f m w (by omega) (by omega) S'
   refine⟨[some (.d (.str y.s)),some (.d f.d),some (.d (.int (m:Nat))),some (.d (.int (w:Nat))),some (.d (.int ((1+k:Nat):Int)))],rfl,λ S'=>?_,λ _ S'=>?_⟩
   ·simp only[gS0,l1]
   ·simp only[gS0,True]
 obtain⟨h1,h2,h3,h4⟩:=uF y f bL hm;have mn:iH [.list (((List.range w).filter λ k=>lb y (1+k) f m w).map λ k=>nD (1+k))]=some (.int (lw y f m w:Nat)):=by
  rw[show(((List.range w).filter λ k=>lb y (1+k) f m w).map λ k=>nD (1+k))=(((List.range w).filter λ k=>lb y (1+k) f m w).map λ k=>1+k).map nD by rw[List.map_map];rfl]
  refine aHE (List.mem_map.mpr ⟨lw y f m w - 1,List.mem_filter.mpr ⟨List.mem_range.mpr (by omega),?_⟩,by omega⟩) λ b hb=>?_
  ·show lb y (1+(lw y f m w - 1)) f m w=true;rw[show 1+(lw y f m w - 1)=lw y f m w by omega]
   exact h3
  ·obtain⟨k,hk,rfl⟩:=List.mem_map.mp hb;refine Nat.le_of_not_lt λ c=>?_
   have:=(List.mem_filter.mp hk).2;rw[h4 (1+k) (by omega) c] at this
   cases this
 rw[aQ rfl (d+1) _ S rfl];simp only[gR1,aD5,hc,mn]
noncomputable def bV(f:Ft)(m w:Nat):Nat:=min (lw .cut f m w) (min (lw .nought f m w) (lw .sign f m w))
noncomputable def jC(f:Ft)(m w:Nat):Yw:=if lw .cut f m w=bV f m w then .cut else if lw .nought f m w=bV f m w then .nought else .sign
theorem aG1:PyData.tuple (tJ.map Tv.d)=.tuple [.str Yw.cut.s,.str Yw.nought.s,.str Yw.sign.s]:=rfl
theorem aT5(a b c m:Nat)(h:m=a\/m=b\/m=c):([a,b,c].map λ n=>((n:Nat):Int)).idxOf ((m:Nat):Int)=if a=m then 0 else if b=m then 1 else 2:=by
 have e:∀ x y:Nat,(((x:Nat):Int)==((y:Nat):Int))=decide (x=y):=λ x y=>by
  rw[Bool.eq_iff_iff,beq_iff_eq,decide_eq_true_eq];omega
 simp only[List.map_cons,List.map_nil,List.idxOf_cons,e]
 by_cases h1:a=m
 ·rw[dqT h1,if_pos h1];rfl
 ·rw[dqF h1,if_neg h1]
  by_cases h2:b=m
  ·rw[dqT h2,if_pos h2];rfl
  ·rw[dqF h2,if_neg h2]
   by_cases h3:c=m
   ·rw[dqT h3];rfl
   ·omega
theorem aOY(S:aC)(xs:List D)(k:Int):uW S (.d (.list xs)) (.d (.int k))=(iS xs).bind λ ns=>if k∈ns then some (.d (.int ((ns.idxOf k:Nat):Int)),S) else none:=rfl
theorem aMJ(d:Nat)(f:Ft)(m w:Nat)(bL:1<=w)(hw:w<=64)(hm:m < 2^w)(S:aC):cl fns (d+3) 2 [.d f.d,.d (.int (m:Nat)),.d (.int (w:Nat))] S=some (.d (yD (some (jC f m w,bV f m w))),S):=by
 have hc:lv (aD fns (d+2)) rX [some (.d f.d),some (.d (.int (m:Nat))),some (.d (.int (w:Nat))),none,none,none] S=some ([Yw.cut,.nought,.sign].map λ y=>nD (lw y f m w),S):=by
  refine mQ (fi:=lv (aD fns (d+2)) (.it (.con "WORDS" tJ))) (fe:=ev (aD fns (d+2)) (.call 1 (.cons (.var 5) (.cons (.var 0) (.cons (.var 1) (.cons (.var 2) .nil)))))) (λ y:Yw=>PyData.str y.s) (λ y=>nD (lw y f m w)) [Yw.cut,.nought,.sign] ?_ (by rw[sizeLine_eq];show 3<=16777216;decide) λ y _=>?_
  ·simp only[evs,aG1,fP]
  ·have l1:=λ S'=>aLV d y f m w bL hw hm S'
   refine⟨[some (.d f.d),some (.d (.int (m:Nat))),some (.d (.int (w:Nat))),none,none,some (.d (.str y.s))],rfl,λ S'=>?_⟩
   show _=some (W.d (PyData.int ((lw y f m w:Nat):Int)),S');simp only[evs,l1]
 have hc':lv (aD fns (d+2)) rX [some (.d f.d),some (.d (.int (m:Nat))),some (.d (.int (w:Nat))),none,none,none] S=some ([lw .cut f m w,lw .nought f m w,lw .sign f m w].map nD,S):=hc;have mi:bV f m w=lw .cut f m w\/bV f m w=lw .nought f m w\/bV f m w=lw .sign f m w:=by unfold bV;omega
 have mn:iH [.list ([lw .cut f m w,lw .nought f m w,lw .sign f m w].map nD)]=some (.int (bV f m w:Nat)):=by
  refine aHE (by simp only[List.mem_cons,List.not_mem_nil,or_false];exact mi) λ b hb=>?_
  simp only[List.mem_cons,List.not_mem_nil,or_false] at hb;unfold bV;omega
 have ix:uW S (.d (.list ([lw .cut f m w,lw .nought f m w,lw .sign f m w].map nD))) (.d (.int (bV f m w:Nat)))=some (.d (.int ((if lw .cut f m w=bV f m w then 0 else if lw .nought f m w=bV f m w then 1 else 2:Nat):Int)),S):=by
  rw[aOY,aBa,oB,if_pos ?_,aT5 _ _ _ _ mi];simp only[List.map_cons,List.map_nil,List.mem_cons,List.not_mem_nil,or_false];omega
 have wd:aO (.tuple [.str Yw.cut.s,.str Yw.nought.s,.str Yw.sign.s]) (.int ((if lw .cut f m w=bV f m w then 0 else if lw .nought f m w=bV f m w then 1 else 2:Nat):Int))=some (.str (jC f m w).s):=by
  unfold jC
  split
  ·rfl
  ·split<;>rfl
 generalize hL:PyData.list ([lw .cut f m w,lw .nought f m w,lw .sign f m w].map nD)=L at mn ix;generalize (if lw .cut f m w=bV f m w then 0 else if lw .nought f m w=bV f m w then 1 else 2:Nat)=j at ix wd
 have fz:xs (aD fns (d+2)) (.setC false 3 rX) [some (.d f.d),some (.d (.int (m:Nat))),some (.d (.int (w:Nat))),none,none,none] S=some (.nx [some (.d f.d),some (.d (.int (m:Nat))),some (.d (.int (w:Nat))),some (.d L),none,none],S):=by
  rw[<- hL];simp only[evs,hc']
 have e:pQ=.seq (.setC false 3 rX) (bC pQ):=rfl;have tl:xs (aD fns (d+2)) (bC pQ) [some (.d f.d),some (.d (.int (m:Nat))),some (.d (.int (w:Nat))),some (.d L),none,none] S=some (.rt (.d (yD (some (jC f m w,bV f m w)))),S):=by
  simp only[evs,bC,pQ,mn,aG1,aAa,ix,wd];rfl
 refine eN (S1:=S) rfl (d+2) rfl rfl List.take_length ?_;show xs (aD fns (d+2)) pQ [some (.d f.d),some (.d (.int (m:Nat))),some (.d (.int (w:Nat))),none,none,none] S=_;rw[e,dP fz,tl]
noncomputable def fX(r:Rw)(f:Ft)(m:Nat):Option (Yw × Nat):=if r.wd=.in then some (.cut,r.w) else if m=0 then none else some (jC f m r.w,bV f m r.w)
theorem aCi(r:Rw):aO r.d (.int 0)=some (.str r.wd.s):=eG (xs:=.str r.wd.s::nD r.w::r.args.map nD) (k:=0) rfl
theorem aMS(d:Nat)(r:Rw)(f:Ft)(m:Nat)(bL:1<=r.w)(hw:r.w<=64)(hm:m < 2^r.w)(S:aC):cl fns (d+4) 3 [.d r.d,.d f.d,.d (.int (m:Nat))] S=some (.d (yD (fX r f m)),S):=by
 have c1:aX .Eq (.str r.wd.s) (.str "in")=some (.bool (decide (r.wd=.in))):=bZ r.wd .in;have ls:=aMJ d f m r.w bL hw hm S;have rw0:=aCi r;have rw1:=dZ r;unfold fX;rw[aQ rfl (d+3) _ S rfl]
 by_cases c:r.wd=.in
 ·rw[dqT c] at c1;rw[if_pos c];simp only[gR1,xH,rw0,c1,rw1]
 ·rw[dqF c] at c1;rw[if_neg c]
  by_cases z:m=0
  ·have dz:(m==0)=true:=by rw[beq_iff_eq];exact z
   rw[if_pos z];simp only[gR1,xH,rw0,c1,bM,cU,dz]
  ·have dz:(m==0)=false:=by rw[beq_eq_false_iff_ne];exact z
   rw[if_neg z];simp only[gR1,xH,rw0,c1,bM,cU,dz,rw1,ls]
noncomputable def z3:List Rw->List Ft->List Nat->List (Rw × Ft × Nat)
 | r::rs,f::F,m::M=>(r,f,m)::z3 rs F M
 | _,_,_=>[]
theorem aI7:∀ (rs:List Rw) (F:List Ft) (M:List Nat),gD (rs.map Rw.d) (F.map Ft.d) (M.map nD)=(z3 rs F M).map λ t=>PyData.tuple [t.1.d,t.2.1.d,nD t.2.2]
 | [],_,_=>rfl
 | _::_,[],_=>rfl
 | _::_,_::_,[]=>rfl
 | r::rs,f::F,m::M=>by
   have ih:=aI7 rs F M;simp only[List.map_cons,gD,z3,ih]
theorem aCe:∀ (rs:List Rw) (F:List Ft) (M:List Nat) (k:Nat) (t:Rw × Ft × Nat),(z3 rs F M)[k]? = some t ↔ rs[k]? = some t.1/\F[k]? = some t.2.1/\M[k]? = some t.2.2
 | [],_,_,k,t=>by simp[z3]
 | _::_,[],_,k,t=>by simp[z3]
 | _::_,_::_,[],k,t=>by simp[z3]
 | r::rs,f::F,m::M,0,(a,b,c)=>by simp[z3]
 | r::rs,f::F,m::M,k+1,t=>by
   have ih:=aCe rs F M k t;simpa [z3] using ih
theorem aCq:∀ (rs:List Rw) (F:List Ft) (M:List Nat),F.length=rs.length->M.length=rs.length->(z3 rs F M).length=rs.length
 | [],_,_,_,_=>rfl
 | _::_,[],_,h,_=>by cases h
 | _::_,_::_,[],_,h=>by cases h
 | r::rs,f::F,m::M,h1,h2=>by
   have ih:=aCq rs F M (Nat.succ.inj h1) (Nat.succ.inj h2);simp only[z3,List.length_cons,ih]
noncomputable def eQ(rs:List Rw)(F:List Ft)(M:List Nat):List (Option (Yw × Nat)):=(z3 rs F M).map λ t=>fX t.1 t.2.1 t.2.2
section
variable {rs : List Rw}{F : List Ft}{M : List Nat}
theorem aLQ(d:Nat)(p:Prg rs)(hF:F.length=rs.length)(h:Bd rs M)(o:D)(S:aC):cl fns (d+5) 4 [.d (.tuple [.tuple (rs.map Rw.d),o]),.d (.tuple (F.map Ft.d)),.d (.tuple (M.map nD))] S=some (.d (.tuple ((eQ rs F M).map yD)),S):=by
 have pl:=p.l;have zl:=aCq rs F M hF h.l;have i0:aO (.tuple [.tuple (rs.map Rw.d),o]) (.int 0)=some (.tuple (rs.map Rw.d)):=rfl;have hz:=aI7 rs F M;have hc:lv (aD fns (d+4)) aDL [some (.d (.tuple [.tuple (rs.map Rw.d),o])),some (.d (.tuple (F.map Ft.d))),some (.d (.tuple (M.map nD))),none,none,none] S=some ((eQ rs F M).map yD,S):=by
  unfold eQ;rw[List.map_map];refine mQ (fi:=lv (aD fns (d+4)) (.zip3 (.ix (.var 0) (.int 0)) (.var 1) (.var 2))) (fe:=ev (aD fns (d+4)) (.call 3 (.cons (.var 3) (.cons (.var 4) (.cons (.var 5) .nil))))) (λ t:Rw × Ft × Nat=>PyData.tuple [t.1.d,t.2.1.d,nD t.2.2]) (yD ∘ λ t=>fX t.1 t.2.1 t.2.2) (z3 rs F M) ?_ (by rw[sizeLine_eq];omega) λ t ht=>?_
  ·simp only[gS0,i0,hz]
  ·obtain⟨k,hk⟩:=List.getElem?_of_mem ht;obtain⟨h1,h2,h3⟩:=(aCe rs F M k t).mp hk;obtain⟨r,f,m⟩:=t;have hw:=p.ws k r h1;have hm:m < 2^r.w:=by
    have:=h.lt k r h1;rw[xAh,h3] at this;exact this
   have e1:=λ S'=>aMS d r f m hw.1 hw.2 hm S'
   refine⟨[some (.d (.tuple [.tuple (rs.map Rw.d),o])),some (.d (.tuple (F.map Ft.d))),some (.d (.tuple (M.map nD))),some (.d r.d),some (.d f.d),some (.d (.int (m:Nat)))],rfl,λ S'=>?_⟩
   show _=some (W.d (yD (fX r f m)),S');simp only[gS0,e1]
 rw[aQ rfl (d+4) _ S rfl];simp only[gR1,aD2,hc,iU,iR]
theorem aMZ(d:Nat)(p:Prg rs)(hF:F.length=rs.length)(h:Bd rs M)(o:D)(S:aC):cl fns (d+6) 5 [.d (.tuple [.tuple (rs.map Rw.d),o]),.d (.tuple (F.map Ft.d)),.d (.tuple (M.map nD))] S=some (.d (.tuple ((eQ rs F M).map yD)),S):=by
 have e:=aLQ d p hF h o S;rw[aQ rfl (d+5) _ S rfl];simp only[gR1,aG9,e]
theorem aBV(hF:F.length=rs.length)(hM:M.length=rs.length):(eQ rs F M).length=rs.length:=by
 unfold eQ;rw[List.length_map,aCq rs F M hF hM]
theorem xX{k:Nat}{r:Rw}(hr:rs[k]? = some r)(hF:F.length=rs.length)(hM:M.length=rs.length):(eQ rs F M)[k]? = some (fX r (f0 F k) (M.getD k 0)):=by
 have hk:k < rs.length:=(gIm hr).1;unfold eQ;rw[xAb,(aCe rs F M k (r,f0 F k,M.getD k 0)).mpr ⟨hr,kR (by omega),aBU (by omega)⟩]
 rfl
end
noncomputable def yE(a b:Option (Yw × Nat)):Bool:=match a,b with
 | none,none=>true
 | some (x,k),some (y,l)=>decide (x=y)&&(k==l)
 | _,_=>false
theorem aSS(a b:Option (Yw × Nat)):yE a b=decide (a=b):=by
 rcases a with _ | ⟨x,k⟩<;>rcases b with _ | ⟨y,l⟩
 ·rfl
 ·rfl
 ·rfl
 ·show(decide (x=y)&&(k==l))=_;rw[Bool.eq_iff_iff,Bool.and_eq_true,decide_eq_true_eq,beq_iff_eq,decide_eq_true_eq,Option.some.injEq,Prod.mk.injEq]
theorem aT1(x y:Yw):(x.s==y.s)=decide (x=y):=by cases x<;>cases y<;>kernel_rfl
theorem aCy(a b:Option (Yw × Nat)):PyData.eqv (yD a) (yD b)=decide (a=b):=by
 rw[<- aSS];rcases a with _ | ⟨x,k⟩<;>rcases b with _ | ⟨y,l⟩
 ·rfl
 ·rfl
 ·rfl
 ·simp only[yD,PyData.eqv,PyData.eqvAll,yE,aT1,Bool.and_true];congr 1;rw[Bool.eq_iff_iff,beq_iff_eq,beq_iff_eq];omega
theorem uA(a:Option (Yw × Nat)):(yD a).canLay0=true:=by
 rcases a with _ | ⟨x,k⟩
 ·rfl
 ·cases x<;>kernel_rfl
theorem aCB(a:Option (Yw × Nat)):(yD a).depth<=1:=by
 rcases a with _ | ⟨x,k⟩
 ·exact Nat.zero_le _
 ·simp[yD,PyData.depth,PyData.depthAll]
theorem aTN(a b:Option (Yw × Nat)):aX .Eq (yD a) (yD b)=some (.bool (decide (a=b))):=by
 unfold aX nL;simp only[];rw[if_pos ⟨uA a,uA b,xAi (aCB a) (by decide)⟩,aCy]
 rfl
theorem aQi(a b:Option (Yw × Nat)):aX .NotEq (yD a) (yD b)=some (.bool !decide (a=b)):=by
 unfold aX nL;simp only[];rw[if_pos ⟨uA a,uA b,xAi (aCB a) (by decide)⟩,aCy]
 rfl
theorem aT4(a:Option (Yw × Nat)):aX .Is (yD a) .none=some (.bool a.isNone):=by
 rcases a with _ | ⟨x,k⟩<;>rfl
theorem aOr(a:Option (Yw × Nat)):aX .IsNot (yD a) .none=some (.bool a.isSome):=by
 rcases a with _ | ⟨x,k⟩<;>rfl
noncomputable def rt(r:Rw)(f:Ft)(m:Nat)(y:Option (Yw × Nat)):Bool:=if r.wd=.in then decide (y=some (.cut,r.w)) else if m=0 then y.isNone else match y with
 | none=>false
 | some (a,k)=>lb a k f m r.w
def nY(w:Nat)(y:Option (Yw × Nat)):Prop:=∀ a k,y=some (a,k)->1<=k/\k<=w
theorem aHx(d:Nat)(r:Rw)(f:Ft)(m:Nat)(y:Option (Yw × Nat))(hy:nY r.w y)(S:aC):cl fns (d+2) 6 [.d r.d,.d f.d,.d (.int (m:Nat)),.d (yD y)] S=some (.d (.bool (rt r f m y)),S):=by
 have c1:aX .Eq (.str r.wd.s) (.str "in")=some (.bool (decide (r.wd=.in))):=bZ r.wd .in;have rw0:=aCi r;have rw1:=dZ r;have cy:aX .Eq (yD y) (.tuple [.str "cut",.int (r.w:Nat)])=some (.bool (decide (y=some (.cut,r.w)))):=aTN y (some (.cut,r.w));have iy:=aT4 y;unfold rt;rw[aQ rfl (d+1) _ S rfl]
 by_cases c:r.wd=.in
 ·rw[dqT c] at c1;rw[if_pos c];simp only[gR1,sK,rw0,c1,rw1,cy]
 ·rw[dqF c] at c1;rw[if_neg c]
  by_cases z:m=0
  ·have dz:(m==0)=true:=by rw[beq_iff_eq];exact z
   rw[if_pos z];simp only[gR1,sK,rw0,c1,bM,cU,dz,iy]
  ·have dz:(m==0)=false:=by rw[beq_eq_false_iff_ne];exact z
   rw[if_neg z];rcases y with _ | ⟨a,k⟩
   ·rw[Option.isNone_none] at iy;simp only[gR1,sK,rw0,c1,bM,cU,dz,iy]
   ·rw[Option.isNone_some] at iy;obtain⟨k1,k2⟩:=hy a k rfl;have lt:cl fns (d+1) 0 [.d (yD (some (a,k))),.d f.d,.d (.int (m:Nat)),.d (.int (r.w:Nat))] S=some (.d (.bool (lb a k f m r.w)),S):=aBQ d a k f m r.w k1 k2 S;simp only[gR1,sK,rw0,c1,bM,cU,dz,iy,rw1,lt]
theorem aPJ(d:Nat)(r:Rw)(f:Ft)(m:Nat)(y:Option (Yw × Nat))(hy:nY r.w y)(S:aC):cl fns (d+2) 71 [.d r.d,.d f.d,.d (.int (m:Nat)),.d (yD y)] S=some (.d (.bool (rt r f m y)),S):=by
 rw[<- aHx d r f m y hy S,aQ rfl (d+1) _ S rfl,aQ rfl (d+1) _ S rfl];rfl
section
variable {rs : List Rw}{F : List Ft}{M : List Nat}
noncomputable def gQ(rs:List Rw)(F:List Ft)(M:List Nat)(Y:List (Option (Yw × Nat)))(k:Nat):Bool:=match rs[k]?,Y[k]? with
 | some r,some y=>rt r (f0 F k) (M.getD k 0) y
 | _,_=>true
structure Yst(rs:List Rw)(Y:List (Option (Yw × Nat))):Prop where
 l:Y.length=rs.length
 ok:∀ (k:Nat) (r:Rw) (y:Option (Yw × Nat)),rs[k]? = some r->Y[k]? = some y->nY r.w y
theorem aCc{ds:List D}{j:Nat}{dd:D}(h:(ds.zipIdx.map (λ p=>PyData.tuple [.int (p.2:Nat),p.1]))[j]? = some dd):∃ x,ds[j]? = some x/\dd=.tuple [.int (j:Nat),x]:=by
 rw[xAb,List.getElem?_zipIdx,Nat.zero_add] at h;cases e:ds[j]? with
 | none=>rw[e] at h;cases h
 | some x=>rw[e] at h;cases h;exact⟨x,rfl,rfl⟩
noncomputable abbrev eS(P:D)(F:List Ft)(M:List Nat)(Y:List (Option (Yw × Nat)))(c4 c5:Option W):aT:=[some (.d P),some (.d (.tuple (F.map Ft.d))),some (.d (.tuple (M.map nD))),some (.d (.tuple (Y.map yD))),c4,c5]
theorem aF8(d:Nat)(hF:F.length=rs.length)(hM:M.length=rs.length){Y:List (Option (Yw × Nat))}(hY:Yst rs Y){k:Nat}{r:Rw}(hr:rs[k]? = some r)(P:D)(S:aC):xs (aD fns (d+2)) mJ (eS P F M Y (some (.d (.int (k:Nat)))) (some (.d r.d))) S=cond (gQ rs F M Y k) (some (.nx (eS P F M Y (some (.d (.int (k:Nat)))) (some (.d r.d))),S)) (some (.rt (.d (.int (k:Nat))),S)):=by
 have hk:k < rs.length:=(gIm hr).1;have hkY:k < Y.length:=by rw[hY.l];exact hk
 have hy:Y[k]? = some Y[k]:=List.getElem?_eq_getElem hkY;have e1:aO (.tuple (F.map Ft.d)) (.int (k:Nat))=some (f0 F k).d:=eG (by rw[xAb,kR (by omega)];rfl)
 have e2:=aBM (M:=M) (i:=k) (by omega)
 have e3:aO (.tuple (Y.map yD)) (.int (k:Nat))=some (yD Y[k]):=eG (by rw[xAb,hy];rfl)
 have e4:=aHx d r (f0 F k) (M.getD k 0) Y[k] (hY.ok k r _ hr hy) S;have er:gQ rs F M Y k=rt r (f0 F k) (M.getD k 0) Y[k]:=by unfold gQ;rw[hr,hy]
 rw[er];cases c:rt r (f0 F k) (M.getD k 0) Y[k] with
 | true =>
   rw[c] at e4;simp only[gS2,mJ,eS,e1,e2,e3,e4,cond_true]
 | false =>
   rw[c] at e4;simp only[gS2,mJ,eS,e1,e2,e3,e4,cond_false]
theorem aIx(d:Nat)(Y:List (Option (Yw × Nat)))(o:D)(S:aC):lv (aD fns (d+2)) rV (eS (.tuple [.tuple (rs.map Rw.d),o]) F M Y none none) S=some ((rs.map Rw.d).zipIdx.map (λ p=>PyData.tuple [.int (p.2:Nat),p.1]),S):=by
 have i0:aO (.tuple [.tuple (rs.map Rw.d),o]) (.int 0)=some (.tuple (rs.map Rw.d)):=rfl;simp only[rV,kW,kE,kH,kF,kN,kQ,kG];exact aKy (by simp only[evs,eS,i0])
theorem aGN(d:Nat)(hF:F.length=rs.length)(hM:M.length=rs.length){Y:List (Option (Yw × Nat))}(hY:Yst rs Y)(h:∀ k,k < rs.length->gQ rs F M Y k=true)(o:D)(S:aC):cl fns (d+3) 7 [.d (.tuple [.tuple (rs.map Rw.d),o]),.d (.tuple (F.map Ft.d)),.d (.tuple (M.map nD)),.d (.tuple (Y.map yD))] S=some (.d .none,S):=by
 have it:=aIx (rs:=rs) (F:=F) (M:=M) d Y o S;have tn:=λ k r (hr:rs[k]? = some r)=>aF8 d hF hM hY hr (.tuple [.tuple (rs.map Rw.d),o]) S
 generalize hP:PyData.tuple [.tuple (rs.map Rw.d),o]=P at it tn;obtain⟨aI,p1,c4,c5,rfl⟩:=aHM (t:=.many [4,5]) (fb:=xs (aD fns (d+2)) mJ) (λ env=>∃ c4 c5:Option W,env=eS P F M Y c4 c5) it ⟨none,none,rfl⟩ (by
  rintro dd hdd env ⟨c4,c5,rfl⟩;obtain⟨j,hj⟩:=List.getElem?_of_mem hdd;obtain⟨z,hz,rfl⟩:=aCc hj;rw[xAb] at hz;obtain⟨r,hr,rfl⟩:=Option.map_eq_some_iff.mp hz;have e:=tn j r hr;rw[h j (gIm hr).1,cond_true] at e;exact⟨_,_,rfl,e,_,_,rfl⟩)
 have p1':cJ (.many [4,5]) (lv (aD fns (d+2)) rV) (xs (aD fns (d+2)) mJ) [some (.d P),some (.d (.tuple (F.map Ft.d))),some (.d (.tuple (M.map nD))),some (.d (.tuple (Y.map yD))),none,none] S=some (.nx (eS P F M Y c4 c5),S):=p1;rw[aQ rfl (d+2) _ S rfl];simp only[gR2,aAU,eS,p1']
theorem aIt(d:Nat)(hF:F.length=rs.length)(hM:M.length=rs.length){Y:List (Option (Yw × Nat))}(hY:Yst rs Y){q:Nat}(hq:q < rs.length)(h:∀ k,k < q->gQ rs F M Y k=true)(hb:gQ rs F M Y q=false)(o:D)(S:aC):cl fns (d+3) 7 [.d (.tuple [.tuple (rs.map Rw.d),o]),.d (.tuple (F.map Ft.d)),.d (.tuple (M.map nD)),.d (.tuple (Y.map yD))] S=some (.d (.int (q:Nat)),S):=by
 have it:=aIx (rs:=rs) (F:=F) (M:=M) d Y o S;have tn:=λ k r (hr:rs[k]? = some r)=>aF8 d hF hM hY hr (.tuple [.tuple (rs.map Rw.d),o]) S
 generalize hP:PyData.tuple [.tuple (rs.map Rw.d),o]=P at it tn;have lp:=aA9 (t:=.many [4,5]) (fb:=xs (aD fns (d+2)) mJ) (S:=S) (P:=λ env=>∃ c4 c5:Option W,env=eS P F M Y c4 c5) (r:=.d (.int (q:Nat))) ((rs.map Rw.d).zipIdx.map (λ p=>PyData.tuple [.int (p.2:Nat),p.1])) q (eS P F M Y none none) (by simpa using hq) ⟨none,none,rfl⟩ (by
  rintro j dd env hj hd ⟨c4,c5,rfl⟩;obtain⟨z,hz,rfl⟩:=aCc hd;rw[xAb] at hz;obtain⟨r,hr,rfl⟩:=Option.map_eq_some_iff.mp hz;have e:=tn j r hr;rw[h j hj,cond_true] at e;exact⟨_,_,rfl,e,_,_,rfl⟩) (by
  rintro dd env hd ⟨c4,c5,rfl⟩;obtain⟨z,hz,rfl⟩:=aCc hd;rw[xAb] at hz;obtain⟨r,hr,rfl⟩:=Option.map_eq_some_iff.mp hz;have e:=tn q r hr;rw[hb,cond_false] at e;exact⟨_,rfl,e⟩)
 have p1':cJ (.many [4,5]) (lv (aD fns (d+2)) rV) (xs (aD fns (d+2)) mJ) [some (.d P),some (.d (.tuple (F.map Ft.d))),some (.d (.tuple (M.map nD))),some (.d (.tuple (Y.map yD))),none,none] S=some (.rt (.d (.int (q:Nat))),S):=by
  unfold cJ;rw[show [some (W.d P),some (.d (.tuple (F.map Ft.d))),some (.d (.tuple (M.map nD))),some (.d (.tuple (Y.map yD))),none,none]=eS P F M Y none none from rfl,it,oB]
  exact lp
 rw[aQ rfl (d+2) _ S rfl];simp only[gR1,aAU,p1']
end
theorem aQm(f:Ft)(m w:Nat):lw (jC f m w) f m w=bV f m w:=by
 unfold jC
 by_cases h1:lw .cut f m w=bV f m w
 ·rw[if_pos h1];exact h1
 ·rw[if_neg h1]
  by_cases h2:lw .nought f m w=bV f m w
  ·rw[if_pos h2];exact h2
  ·rw[if_neg h2];unfold bV at h1 h2 ⊢;omega
theorem aHv(y:Yw)(f:Ft)(m w:Nat):bV f m w<=lw y f m w:=by
 unfold bV;cases y<;>omega
theorem yY(f:Ft){m w:Nat}(hw:1<=w)(h:m < 2^w):1<=bV f m w/\bV f m w<=w/\lb (jC f m w) (bV f m w) f m w=true:=by
 have:=uF (jC f m w) f hw h;rw[aQm] at this;exact⟨this.1,this.2.1,this.2.2.1⟩
theorem aBq(f:Ft){m w:Nat}(hw:1<=w)(h:m < 2^w)(y:Yw){j:Nat}(h1:1<=j)(h2:j < bV f m w):lb y j f m w=false:=
 (uF y f hw h).2.2.2 j h1 (xAc h2 (aHv y f m w))
theorem aCG(f:Ft){m w:Nat}(hw:1<=w)(h:m < 2^w)(y:Yw):lb y (bV f m w) f m w=decide (lw y f m w=bV f m w):=by
 by_cases c:lw y f m w=bV f m w
 ·rw[dqT c,<- c];exact(uF y f hw h).2.2.1
 ·rw[dqF c];have:=aHv y f m w;exact(uF y f hw h).2.2.2 _ (yY f hw h).1 (by omega)
theorem aOk(r:Rw)(f:Ft)(m:Nat)(hw:1<=r.w)(h:m < 2^r.w):rt r f m (fX r f m)=true:=by
 unfold rt fX
 by_cases c:r.wd=.in
 ·rw[if_pos c,if_pos c];exact dqT rfl
 ·rw[if_neg c,if_neg c]
  by_cases z:m=0
  ·rw[if_pos z,if_pos z];rfl
  ·rw[if_neg z,if_neg z];exact(yY f hw h).2.2
theorem aFH(r:Rw)(f:Ft)(m:Nat)(hw:1<=r.w)(h:m < 2^r.w):nY r.w (fX r f m):=by
 intro a k e;unfold fX at e
 by_cases c:r.wd=.in
 ·rw[if_pos c] at e;cases e;exact⟨hw,Nat.le_refl _⟩
 ·rw[if_neg c] at e
  by_cases z:m=0
  ·rw[if_pos z] at e;cases e
  ·rw[if_neg z] at e;cases e;have:=yY f hw h;exact⟨this.1,this.2.1⟩
section
variable {rs : List Rw}{F : List Ft}{M : List Nat}
theorem aF6(p:Prg rs)(hF:F.length=rs.length)(h:Bd rs M):Yst rs (eQ rs F M):=by
 refine⟨aBV hF h.l,λ k r y hr hy=>?_⟩
 rw[xX hr hF h.l] at hy;cases hy;exact aFH r _ _ (p.ws k r hr).1 (h.lt k r hr)
theorem aGb(p:Prg rs)(hF:F.length=rs.length)(h:Bd rs M)(k:Nat)(hk:k < rs.length):gQ rs F M (eQ rs F M) k=true:=by
 have hr:rs[k]? = some rs[k]:=List.getElem?_eq_getElem hk;unfold gQ;rw[hr,xX hr hF h.l];exact aOk _ _ _ (p.ws k _ hr).1 (h.lt k _ hr)
end
noncomputable abbrev eD(r:Rw)(f:Ft)(m:Nat)(c3 c4:Option W):aT:=[some (.d r.d),some (.d f.d),some (.d (.int (m:Nat))),c3,c4]
theorem aF4(d:Nat)(r:Rw)(f:Ft)(m k:Nat)(h1:1<=k)(h2:k<=r.w)(c4:Option W)(S:aC):∃ c4',xs (aD fns (d+1)) mL (eD r f m (some (.d (.int (k:Nat)))) c4) S =
 cond (lb .cut k f m r.w) (some (.rt (.d (yD (some (.cut,k)))),S)) (cond (lb .nought k f m r.w) (some (.rt (.d (yD (some (.nought,k)))),S)) (cond (lb .sign k f m r.w) (some (.rt (.d (yD (some (.sign,k)))),S)) (some (.nx (eD r f m (some (.d (.int (k:Nat)))) c4'),S)))):=by
 have rw1:=dZ r;have it:lv (aD fns (d+1)) oC (eD r f m (some (.d (.int (k:Nat)))) c4) S=some ([Yw.cut,.nought,.sign].map λ y=>PyData.str y.s,S):=by
  simp only[gS2,oC,eD,fP]
 have tn:∀ (y:Yw) (c4:Option W),xs (aD fns (d+1)) mK (eD r f m (some (.d (.int (k:Nat)))) (some (.d (.str y.s)))) S=cond (lb y k f m r.w) (some (.rt (.d (yD (some (y,k)))),S)) (some (.nx (eD r f m (some (.d (.int (k:Nat)))) (some (.d (.str y.s)))),S)):=λ y c4=>by
  have l1:=aBQ d y k f m r.w h1 h2 S;cases c:lb y k f m r.w with
  | true =>
    rw[c] at l1;simp only[gS2,mK,eD,rw1,l1,cond_true]
  | false =>
    rw[c] at l1;simp only[gS2,mK,eD,rw1,l1,cond_false]
 have t1:=tn .cut none;have t2:=tn .nought none;have t3:=tn .sign none;have put:∀ (y:Yw) (c4:Option W),Tg.put (.one 4) (PyData.str y.s) (eD r f m (some (.d (.int (k:Nat)))) c4)=some (eD r f m (some (.d (.int (k:Nat)))) (some (.d (.str y.s)))):=λ y c4=>rfl
 refine⟨some (.d (.str Yw.sign.s)),?_⟩;cases a1:lb .cut k f m r.w with
 | true =>
   rw[a1,cond_true] at t1;rw[cond_true];have fo:cJ (.one 4) (lv (aD fns (d+1)) oC) (xs (aD fns (d+1)) mK) (eD r f m (some (.d (.int (k:Nat)))) c4) S=some (.rt (.d (yD (some (.cut,k)))),S):=by
    unfold cJ;rw[it,oB,List.map_cons];simp only[fH,put,oB,t1]
   simp only[mL,iT,tE,cX,fo,oB]
 | false =>
   rw[a1,cond_false] at t1;rw[cond_false];cases a2:lb .nought k f m r.w with
   | true =>
     rw[a2,cond_true] at t2;rw[cond_true];have fo:cJ (.one 4) (lv (aD fns (d+1)) oC) (xs (aD fns (d+1)) mK) (eD r f m (some (.d (.int (k:Nat)))) c4) S=some (.rt (.d (yD (some (.nought,k)))),S):=by
      unfold cJ;rw[it,oB,List.map_cons,List.map_cons];simp only[fH,put,oB,t1,t2]
     simp only[mL,iT,tE,cX,fo,oB]
   | false =>
     rw[a2,cond_false] at t2;rw[cond_false];cases a3:lb .sign k f m r.w with
     | true =>
       rw[a3,cond_true] at t3;rw[cond_true];have fo:cJ (.one 4) (lv (aD fns (d+1)) oC) (xs (aD fns (d+1)) mK) (eD r f m (some (.d (.int (k:Nat)))) c4) S=some (.rt (.d (yD (some (.sign,k)))),S):=by
        unfold cJ;rw[it,oB,List.map_cons,List.map_cons,List.map_cons,List.map_nil];simp only[fH,put,oB,t1,t2,t3]
       simp only[mL,iT,tE,cX,fo,oB]
     | false =>
       rw[a3,cond_false] at t3;rw[cond_false];have fo:cJ (.one 4) (lv (aD fns (d+1)) oC) (xs (aD fns (d+1)) mK) (eD r f m (some (.d (.int (k:Nat)))) c4) S=some (.nx (eD r f m (some (.d (.int (k:Nat)))) (some (.d (.str Yw.sign.s)))),S):=by
        unfold cJ;rw[it,oB,List.map_cons,List.map_cons,List.map_cons,List.map_nil];simp only[fH,put,oB,t1,t2,t3]
       simp only[mL,iT,tE,cX,fo,oB,aBY,oW]
theorem aNt(d:Nat)(r:Rw)(f:Ft)(m:Nat)(bL:1<=r.w)(hw:r.w<=64)(hm:m < 2^r.w)(S:aC):cl fns (d+2) 70 [.d r.d,.d f.d,.d (.int (m:Nat))] S=some (.d (yD (fX r f m)),S):=by
 have c1:aX .Eq (.str r.wd.s) (.str "in")=some (.bool (decide (r.wd=.in))):=bZ r.wd .in;have rw0:=aCi r;have rw1:=dZ r;unfold fX;rw[aQ rfl (d+1) _ S rfl]
 by_cases c:r.wd=.in
 ·rw[dqT c] at c1;rw[if_pos c];simp only[gR1,xF,rw0,c1,rw1]
 ·rw[dqF c] at c1;rw[if_neg c]
  by_cases z:m=0
  ·have dz:(m==0)=true:=by rw[beq_iff_eq];exact z
   rw[if_pos z];simp only[gR1,xF,rw0,c1,bM,cU,dz]
  ·have dz:(m==0)=false:=by rw[beq_eq_false_iff_ne];exact z
   rw[if_neg z];have ea:((r.w:Nat):Int)+1=((r.w+1:Nat):Int):=rfl;obtain⟨q1,q2,q3⟩:=yY f bL hm;have it:lv (aD fns (d+1)) wM (eD r f m none none) S=some ((List.range r.w).map (λ k=>PyData.int ((1+k:Nat):Int)),S):=by
    simp only[wM,kW,kE,kH,kF,kN,kQ,kG];have:=aEf (fa:=ev (aD fns (d+1)) (.int 1)) (fb:=ev (aD fns (d+1)) (.bin .Add (.ix (.var 0) (.int 1)) (.int 1))) (env:=eD r f m none none) (S:=S) (S1:=S) (S2:=S) (v:=1) (w:=r.w+1) rfl (by simp only[evs,eD,rw1,cK,ea]) (by omega) (by omega)
    rw[Nat.add_sub_cancel] at this;exact this
   have lp:=aA9 (t:=.one 3) (fb:=xs (aD fns (d+1)) mL) (S:=S) (P:=λ env=>∃ c3 c4:Option W,env=eD r f m c3 c4) (r:=.d (yD (some (jC f m r.w,bV f m r.w)))) ((List.range r.w).map (λ k=>PyData.int ((1+k:Nat):Int))) (bV f m r.w - 1) (eD r f m none none) (by rw[List.length_map,List.length_range];omega) ⟨none,none,rfl⟩ (by
    rintro j dd env hj hd ⟨c3,c4,rfl⟩;have hj':j < r.w:=by omega
    rw[xAb,List.getElem?_range hj'] at hd;cases hd;obtain⟨c4',e⟩:=aF4 d r f m (1+j) (by omega) (by omega) c4 S
    rw[aBq f bL hm .cut (show 1<=1+j by omega) (by omega),aBq f bL hm .nought (show 1<=1+j by omega) (by omega),aBq f bL hm .sign (show 1<=1+j by omega) (by omega),cond_false,cond_false,cond_false] at e
    exact⟨_,_,rfl,e,_,_,rfl⟩) (by
    rintro dd env hd ⟨c3,c4,rfl⟩;have hj':bV f m r.w - 1 < r.w:=by omega
    rw[xAb,List.getElem?_range hj'] at hd;cases hd;obtain⟨c4',e⟩:=aF4 d r f m (1+(bV f m r.w - 1)) (by omega) (by omega) c4 S
    show ∃ e1,Tg.put (.one 3) (PyData.int ((1+(bV f m r.w - 1):Nat):Int)) (eD r f m c3 c4)=some e1/\_;rw[show 1+(bV f m r.w - 1)=bV f m r.w by omega] at e ⊢
    rw[aCG f bL hm .cut,aCG f bL hm .nought] at e;refine⟨_,rfl,e.trans ?_⟩;unfold jC
    by_cases a1:lw .cut f m r.w=bV f m r.w
    ·rw[dqT a1,if_pos a1];rfl
    ·rw[dqF a1,if_neg a1,cond_false]
     by_cases a2:lw .nought f m r.w=bV f m r.w
     ·rw[dqT a2,if_pos a2];rfl
     ·rw[dqF a2,if_neg a2,cond_false];have a3:lw .sign f m r.w=bV f m r.w:=by unfold bV at a1 a2 ⊢;omega
      rw[aCG f bL hm .sign,dqT a3];rfl)
   have p1':cJ (.one 3) (lv (aD fns (d+1)) wM) (xs (aD fns (d+1)) mL) [some (.d r.d),some (.d f.d),some (.d (.int (m:Nat))),none,none] S=some (.rt (.d (yD (some (jC f m r.w,bV f m r.w)))),S):=by
    unfold cJ;rw[show [some (W.d r.d),some (.d f.d),some (.d (.int (m:Nat))),none,none]=eD r f m none none from rfl,it,oB]
    exact lp
   simp only[gR1,xF,rw0,c1,bM,cU,dz,p1']
section
variable {ns : List Int}{k : Nat}{x : Int}
theorem aMN(d w:Nat)(T:aC)(hT:T.length<=40)(f:Ft)(hf:FtOk f w)(hw:w<=64)(hk:k<=90000):∃ (g:Ft) (k':Nat) (x':Int),FtOk g w/\(∀ i,g.N.testBit i=true->f.N.testBit i=true)/\(∀ i,g.O.testBit i=true->f.O.testBit i=true)/\g.A<=f.A/\k'<=k+6/\cl fns (d+3) 67 [.loc 0,.d f.d,.d (.int (w:Nat))] (sT T ns k x)=some (.d g.d,sT T ns k' x'):=by
 obtain⟨q,x1,hq,e1⟩:=qH (ns:=ns) (k:=k) (x:=x) T hT (d+1) 3 (by decide) (by decide) (by omega)
 have e1':cl fns (d+2) 56 [.loc 0,.d (.int 3)] (sT T ns k x)=some (.d (.int (q:Nat)),sT T ns (k+1) x1):=e1;have tk:∀ (k':Nat) (x':Int),List.take (List.length T+1) (sT T ns k' x')=sT T ns k' x':=λ k' x'=>by
  rw[show T.length+1=(sT T ns k' x').length from rfl,List.take_length]
 have fa:=hf.a1;have fw:=hf.aw
 by_cases c:0 < q
 ·have d1:decide ((0:Int) < ((q:Nat):Int))=true:=dqT (by omega)
  refine⟨f,k+1,x1,hf,λ _ h=>h,λ _ h=>h,Nat.le_refl _,by omega,?_⟩
  rw[aQ rfl (d+2) _ _ rfl];simp only[gR1,aAM,e1',jM,d1,tk]
 ·have d1:decide ((0:Int) < ((q:Nat):Int))=false:=dqF (by omega)
  obtain⟨n1,k2,x2,hn1,hk2,e2⟩:=aF0 (ns:=ns) (k:=k+1) (x:=x1) T hT d w hw (by omega)
  obtain⟨n2,k3,x3,hn2,hk3,e3⟩:=aF0 (ns:=ns) (k:=k2) (x:=x2) T hT d w hw (by omega)
  obtain⟨u,x4,hu,e4⟩:=qH (ns:=ns) (k:=k3) (x:=x3) T hT (d+1) f.A (by omega) (by omega) (by omega)
  have ea:(1:Int)+(u:Int)=((1+u:Nat):Int):=by omega
  refine⟨⟨f.N &&& (n1 ||| n2),f.O &&& (n1 ||| n2),1+u⟩,k3+1,x4,⟨xAj Nat.and_le_left hf.lN,xAj Nat.and_le_left hf.lO,by show 1<=1+u;omega,by show 1+u<=w;omega⟩,λ i h=>?_,λ i h=>?_,by show 1+u<=f.A;omega,by omega,?_⟩
  ·have h':(f.N &&& (n1 ||| n2)).testBit i=true:=h
   rw[Nat.testBit_and,Bool.and_eq_true] at h';exact h'.1
  ·have h':(f.O &&& (n1 ||| n2)).testBit i=true:=h
   rw[Nat.testBit_and,Bool.and_eq_true] at h';exact h'.1
  ·rw[aQ rfl (d+2) _ _ rfl];simp only[gR1,aAM,e1',jM,d1,e2,e3,eO,gH,gM,iI,dJ,e4,cK,ea,tk]
theorem aMO(F:List Ft)(f:Ft):(F++[f]).map Ft.d=F.map Ft.d++[f.d]:=by
 rw[List.map_append];rfl
theorem aLP(d:Nat)(rs:List Rw)(o:D)(p:Prg rs)(hk:k<=50000):∃ (F:List Ft) (k':Nat) (x':Int),F.length=rs.length/\k'<=k+1+6*rs.length/\cl fns (d+10) 68 [.loc 0,.d (.tuple [.tuple (rs.map Rw.d),o])] [some (aG ns k x)]=some (.d (.tuple (F.map Ft.d)),[some (aG ns k' x')]):=by
 have pl:=p.l;obtain⟨q,x1,hq,e1⟩:=qH (ns:=ns) (k:=k) (x:=x) [] (by decide) (d+8) 2 (by decide) (by decide) (by omega)
 have e1':cl fns (d+9) 56 [.loc 0,.d (.int 2)] [some (aG ns k x)]=some (.d (.int (q:Nat)),[some (aG ns (k+1) x1)]):=e1
 by_cases c:q=1
 ·have dq:(((q:Nat):Int)==1)=true:=by rw[beq_iff_eq];omega
  obtain⟨F,fl,_,_,eF⟩:=aKI d rs o p [some (aG ns (k+1) x1)];refine⟨F,k+1,x1,fl,by omega,?_⟩
  rw[aQ rfl (d+9) _ _ rfl];simp only[gR1,aAP,e1',bM,dq,eF]
 ·have dq:(((q:Nat):Int)==1)=false:=by rw[beq_eq_false_iff_ne];omega
  obtain⟨P,hP⟩:∃ P:D,P=.tuple [.tuple (rs.map Rw.d),o]:=⟨_,rfl⟩;have iP:aO P (.int 0)=some (.tuple (rs.map Rw.d)):=by rw[hP];rfl
  obtain⟨aI,S',p1,F,k',x',c3,c4,c5,fl,fs,hk',rfl,rfl⟩:=lK (t:=.one 3) (fi:=lv (aD fns (d+9)) wE) (fb:=xs (aD fns (d+9)) wG) (env:=[some (.loc 0),some (.d P),some (.loc 1),none,none,none,none]) (S:=[some (aG ns (k+1) x1),some []]) (S1:=[some (aG ns (k+1) x1),some []]) (ds:=rs.map Rw.d)
   (λ j env S'=>∃ (F:List Ft) (k':Nat) (x':Int) (c3 c4 c5:Option W),F.length=j/\Snd rs F/\k'<=k+1+6*j/\env=[some (.loc 0),some (.d P),some (.loc 1),c3,c4,c5,none]/\S'=[some (aG ns k' x'),some (F.map Ft.d)])
   (by simp only[evs,wE,iP,fP]) ⟨[],k+1,x1,none,none,none,rfl,aGj rs,by omega,rfl,rfl⟩ (by
     rintro j dd env S' hd ⟨F,k',x',c3,c4,c5,fl,fs,hk',rfl,rfl⟩;rw[xAb] at hd;obtain⟨r,hr,rfl⟩:=Option.map_eq_some_iff.mp hd;subst fl;have hj:F.length < rs.length:=(gIm hr).1;obtain⟨w1,w2⟩:=p.ws _ r hr;obtain⟨f1,f2'⟩:=p.fit _ r hr;have ol:=xZ r;obtain⟨g,nx⟩:=aEJ p fs hr (Nat.le_refl _);have op:=λ S'=>oE (d+8) r S'
     have op':∀ S',cl fns (d+9) 15 [.d r.d] S'=some (.d (.tuple ((eT r).map nD)),S'):=op;obtain⟨vs,S2,ec,hS2,hI,hvl,hq⟩:=aFk (t:=.one 6) (fi:=lv (aD fns (d+9)) (.it (.call 15 (.cons (.var 3) .nil)))) (fe:=ev (aD fns (d+9)) (.ix (.var 2) (.var 6))) (env:=[some (.loc 0),some (.d P),some (.loc 1),some (.d r.d),c4,c5,none]) (S:=[some (aG ns k' x'),some (F.map Ft.d)]) (S1:=[some (aG ns k' x'),some (F.map Ft.d)]) nD (λ _ S'=>S'=[some (aG ns k' x'),some (F.map Ft.d)]) (λ a v=>v=(f0 F a).d) (eT r) (by
      simp only[evs,op',fP]) (by rw[sizeLine_eq];omega) rfl (by
      intro a ha;refine⟨_,rfl,?_⟩;rintro i S3 aF hi hSl rfl;have hx:aO (.list (F.map Ft.d)) (nD a)=some (f0 F a).d:=mW (by rw[xAb,kR (f2' a ha)];rfl)
      refine⟨(f0 F a).d,_,?_,rfl,rfl,rfl⟩;simp only[evs,clr,List.foldl_cons,List.foldl_nil,hx])
     subst hI;have ev1:vs=(fB r F).map Ft.d:=by
      rw[aEq hvl hq,fB,List.map_map];rfl
     subst ev1;have ec':lv (aD fns (d+9)) aDQ [some (.loc 0),some (.d P),some (.loc 1),some (.d r.d),c4,c5,none] [some (aG ns k' x'),some (F.map Ft.d)]=some ((fB r F).map Ft.d,[some (aG ns k' x'),some (F.map Ft.d)]):=ec;have hc:lv (aD fns (d+9)) aDP [some (.loc 0),some (.d P),some (.loc 1),some (.d r.d),some (.d (.list ((fB r F).map Ft.d))),c5,none] [some (aG ns k' x'),some (F.map Ft.d)]=some ((bG r (rs.map (·.w))).map nD,[some (aG ns k' x'),some (F.map Ft.d)]):=by
      unfold bG;rw[List.map_map];refine mQ (fi:=lv (aD fns (d+9)) (.it (.call 15 (.cons (.var 3) .nil)))) (fe:=ev (aD fns (d+9)) (.ix (.ix (.ix (.var 1) (.int 0)) (.var 6)) (.int 1))) nD (nD ∘ g0 (rs.map (·.w))) (r.args.take (bE r.wd)) ?_ (by rw[sizeLine_eq];have:(r.args.take (bE r.wd)).length<=3:=ol;omega) λ a ha=>?_
      ·simp only[gS0,op',fP]
      ·refine⟨_,rfl,λ S'=>?_⟩
       have haj:=f2' a ha;have hq:rs[a]? = some rs[a]:=List.getElem?_eq_getElem (by omega)
       have e2:aO (.tuple (rs.map Rw.d)) (nD a)=some rs[a].d:=eG (by rw[xAb,hq];rfl)
       simp only[evs,clr,List.foldl_cons,List.foldl_nil,iP,e2,dZ];show _=some (W.d (nD (g0 (rs.map (·.w)) a)),S');rw[qV hq];rfl
     have rl:=nx.rule (d+2) [some (aG ns k' x'),some (F.map Ft.d)];obtain⟨f,k2,x2,fk,hN,hO,hA,hk2,ew⟩:=aMN (ns:=ns) (k:=k') (x:=x') (d+6) r.w [some (F.map Ft.d)] (by show 1<=40;decide) g nx.ok w2 (by omega)
     have ew':cl fns (d+9) 67 [.loc 0,.d g.d,.d (.int (r.w:Nat))] [some (aG ns k' x'),some (F.map Ft.d)]=some (.d f.d,[some (aG ns k2 x2),some (F.map Ft.d)]):=ew;have ap:eZ [some (aG ns k2 x2),some (F.map Ft.d)] (.loc 1) (.d f.d)=some (.d .none,[some (aG ns k2 x2),some ((F++[f]).map Ft.d)]):=by
      rw[aMO];exact aBn [some (aG ns k2 x2)] (F.map Ft.d) f.d (by rw[List.length_map];omega)
     refine⟨[some (.loc 0),some (.d P),some (.loc 1),some (.d r.d),c4,c5,none],[some (.loc 0),some (.d P),some (.loc 1),some (.d r.d),some (.d (.list ((fB r F).map Ft.d))),some (.d (.list ((bG r (rs.map (·.w))).map nD))),none],[some (aG ns k2 x2),some ((F++[f]).map Ft.d)],rfl,?_,F++[f],k2,x2,_,_,_,by simp,aFA fs hr nx fk hN hO hA,by omega,rfl,rfl⟩
     simp only[evs,wG,ec',hc,iU,iR,rl,dZ,ew',jS,ap])
  rw[List.length_map] at fl hk';refine⟨F,k',x',fl,hk',?_⟩;rw[<- hP];have p1':cJ (.one 3) (lv (aD fns (d+9)) wE) (xs (aD fns (d+9)) wG) [some (.loc 0),some (.d P),some (.loc 1),none,none,none,none] [some (aG ns (k+1) x1),some []]=some (.nx [some (.loc 0),some (.d P),some (.loc 1),c3,c4,c5,none],[some (aG ns k' x'),some (F.map Ft.d)]):=p1;rw[aQ rfl (d+9) _ _ rfl];simp only[gR1,aAP,e1',bM,dq,gG,p1',iU,iR]
end
theorem aHo(w v:Nat)(hw:1<=w)(hv:1<=v):∃ z:Nat,1<=z/\z<=w/\iH [.int ((w:Nat):Int),.int ((v:Nat):Int)]=some (.int (z:Nat)):=by
 have e:iH [.int ((w:Nat):Int),.int ((v:Nat):Int)]=some (.int (if ((v:Nat):Int) < ((w:Nat):Int) then ((v:Nat):Int) else ((w:Nat):Int))):=rfl
 by_cases c:v < w
 ·rw[if_pos (Int.ofNat_lt.mpr c)] at e;exact⟨v,hv,Nat.le_of_lt c,e⟩
 ·rw[if_neg (λ h=>c (Int.ofNat_lt.mp h))] at e
  exact⟨w,hw,Nat.le_refl w,e⟩
theorem aR9(kk w:Nat)(δ:Int)(hw:1<=w):∃ z:Nat,1<=z/\z<=w/\iH [.int ((w:Nat):Int),.int (if ((kk:Nat):Int)+δ > 1 then ((kk:Nat):Int)+δ else 1)]=some (.int (z:Nat)):=by
 by_cases c:((kk:Nat):Int)+δ > 1
 ·rw[if_pos c];obtain⟨v,hv⟩:∃ v:Nat,((kk:Nat):Int)+δ=((v:Nat):Int):=Int.eq_ofNat_of_zero_le (Int.le_trans (by decide) (Int.le_of_lt c))
  rw[hv] at c ⊢;exact aHo w v hw (Nat.le_of_lt (Int.ofNat_lt.mp c))
 ·rw[if_neg c];exact aHo w 1 hw (Nat.le_refl 1)
section
variable {ns : List Int}{k : Nat}{x : Int}
theorem aLW(d:Nat)(r:Rw)(y:Option (Yw × Nat))(bL:1<=r.w)(hw:r.w<=64)(hy:nY r.w y)(hk:k<=90000):∃ (y':Option (Yw × Nat)) (k':Nat) (x':Int),nY r.w y'/\k'<=k+3/\cl fns (d+2) 72 [.loc 0,.d r.d,.d (yD y)] [some (aG ns k x)]=some (.d (yD y'),[some (aG ns k' x')]):=by
 obtain⟨q,x1,hq,e1⟩:=uH (ns:=ns) (k:=k) (x:=x) d 6 (by decide) (by decide) (by omega)
 obtain⟨u,x2,hu,e2⟩:=uH (ns:=ns) (k:=k+1) (x:=x1) d r.w (by omega) (by omega) (by omega)
 obtain⟨v,x3,hv,e3⟩:=uH (ns:=ns) (k:=k+1+1) (x:=x2) d 3 (by decide) (by decide) (by omega)
 have e1':cl fns (d+1) 56 [.loc 0,.d (.int 6)] [some (aG ns k x)]=some (.d (.int (q:Nat)),[some (aG ns (k+1) x1)]):=e1;have e2':cl fns (d+1) 56 [.loc 0,.d (.int (r.w:Nat))] [some (aG ns (k+1) x1)]=some (.d (.int (u:Nat)),[some (aG ns (k+1+1) x2)]):=e2;have e3':cl fns (d+1) 56 [.loc 0,.d (.int 3)] [some (aG ns (k+1+1) x2)]=some (.d (.int (v:Nat)),[some (aG ns (k+1+1+1) x3)]):=e3;have rw1:=dZ r;have ea:(1:Int)+((u:Nat):Int)=((1+u:Nat):Int):=by omega
 have iy:=aOr y;obtain⟨a,hv'⟩:∃ a:Yw,aO (.list [.str "cut",.str "nought",.str "sign"]) (.int (v:Nat))=some (.str a.s):=by
  rcases (show v=0\/v=1\/v=2 by omega) with rfl | rfl | rfl
  ·exact⟨.cut,rfl⟩
  ·exact⟨.nought,rfl⟩
  ·exact⟨.sign,rfl⟩
 have l4:aX .Lt (.int (q:Nat)) (.int 4)=some (.bool (decide (((q:Nat):Int) < 4))):=rfl;have l1:aX .Lt (.int (q:Nat)) (.int 1)=some (.bool (decide (((q:Nat):Int) < 1))):=rfl;have l5:aX .Eq (.int (q:Nat)) (.int 5)=some (.bool (((q:Nat):Int)==5)):=rfl;have un:nZ .USub (.int 1)=some (.int (-1)):=rfl
 by_cases c5:q=5
 ·have d5:(((q:Nat):Int)==5)=true:=by rw[beq_iff_eq];omega
  have d4:decide (((q:Nat):Int) < 4)=false:=dqF (by omega)
  rw[d5] at l5;rw[d4] at l4;refine⟨none,k+1+1,x2,(λ a k e=>by cases e),by omega,?_⟩
  rw[aQ rfl (d+1) _ _ rfl];rcases y with _ | ⟨b,kk⟩
  ·rw[Option.isSome_none] at iy;simp only[gR1,oF,e1',rw1,e2',cK,ea,iy,l5]
  ·rw[Option.isSome_some] at iy;simp only[gR1,oF,e1',rw1,e2',cK,ea,iy,l4,l5]
 ·have d5:(((q:Nat):Int)==5)=false:=by rw[beq_eq_false_iff_ne];omega
  rw[d5] at l5;rcases y with _ | ⟨b,kk⟩
  ·rw[Option.isSome_none] at iy;refine⟨some (a,1+u),k+1+1+1,x3,(λ a' k' e=>by cases e;omega),by omega,?_⟩
   rw[aQ rfl (d+1) _ _ rfl];simp only[gR1,oF,e1',rw1,e2',cK,ea,iy,l5,e3',hv']
  ·rw[Option.isSome_some] at iy;obtain⟨k1,k2⟩:=hy b kk rfl;have y0:aO (yD (some (b,kk))) (.int 0)=some (.str b.s):=rfl;have y1:aO (yD (some (b,kk))) (.int 1)=some (.int (kk:Nat)):=rfl;generalize yD (some (b,kk))=Yd at iy y0 y1 ⊢
   by_cases c4:q < 4
   ·have d4:decide (((q:Nat):Int) < 4)=true:=dqT (by omega)
    rw[d4] at l4;obtain⟨δ,h1,h2,hδ⟩:∃ δ:Int,-1<=δ/\δ<=1/\aO (.list [.int (-1),.int 0,.int 1,.int 0]) (.int (q:Nat))=some (.int δ):=by
     rcases (show q=0\/q=1\/q=2\/q=3 by omega) with rfl | rfl | rfl | rfl
     ·exact⟨-1,by decide,by decide,rfl⟩
     ·exact⟨0,by decide,by decide,rfl⟩
     ·exact⟨1,by decide,by decide,rfl⟩
     ·exact⟨0,by decide,by decide,rfl⟩
    have mx:nQ [.int 1,.int (((kk:Nat):Int)+δ)]=some (.int (if ((kk:Nat):Int)+δ > 1 then ((kk:Nat):Int)+δ else 1)):=rfl
    obtain⟨z,z1,z2,mn⟩:=aR9 kk r.w δ bL
    by_cases c1:q < 1
    ·rw[dqT (show((q:Nat):Int) < 1 by omega)] at l1
     refine⟨some (b,z),k+1+1+1,x3,(λ a' k' e=>by cases e;exact⟨z1,z2⟩),by omega,?_⟩
     rw[aQ rfl (d+1) _ _ rfl];simp only[gR1,oF,e1',rw1,e2',cK,ea,iy,l4,y1,un,hδ,mx,mn,l5,e3',hv',l1,y0]
    ·rw[dqF (show ¬ ((q:Nat):Int) < 1 by omega)] at l1
     refine⟨some (a,z),k+1+1+1,x3,(λ a' k' e=>by cases e;exact⟨z1,z2⟩),by omega,?_⟩
     rw[aQ rfl (d+1) _ _ rfl];simp only[gR1,oF,e1',rw1,e2',cK,ea,iy,l4,y1,un,hδ,mx,mn,l5,e3',hv',l1]
   ·have d4:decide (((q:Nat):Int) < 4)=false:=dqF (by omega)
    rw[d4] at l4;rw[dqF (show ¬ ((q:Nat):Int) < 1 by omega)] at l1
    refine⟨some (a,1+u),k+1+1+1,x3,(λ a' k' e=>by cases e;omega),by omega,?_⟩
    rw[aQ rfl (d+1) _ _ rfl];simp only[gR1,oF,e1',rw1,e2',cK,ea,iy,l4,l5,e3',hv',l1]
end
section
variable {rs : List Rw}{F : List Ft}{r : Rw}{k m : Nat}{M : List Nat}
noncomputable abbrev eM(P:D)(F:List Ft)(c4 c5 c6 c7 c8 c9 c10:Option W):aT:=[some (.loc 0),some (.d P),some (.d (.tuple (F.map Ft.d))),some (.loc 1),c4,c5,c6,c7,c8,c9,c10,none]
theorem aNu(d:Nat)(p:Prg rs)(hr:rs[k]? = some r)(hF:F.length=rs.length)(P:D)(st:Option (List D))(h:Bd rs M)(c5 c9 c10:Option W):∃ (M':List Nat) (c9' c10':Option W),Bd rs M'/\cJ (.many [9,10]) (lv (aD fns (d+5)) rY) (xs (aD fns (d+5)) rZ) (eM P F (some (.d (.int (k:Nat)))) c5 (some (.d r.d)) (some (.d (.tuple ((eT r).map nD)))) (some (.d (.tuple ((bG r (rs.map (·.w))).map nD)))) c9 c10) [st,some (M.map nD)]=some (.nx (eM P F (some (.d (.int (k:Nat)))) c5 (some (.d r.d)) (some (.d (.tuple ((eT r).map nD)))) (some (.d (.tuple ((bG r (rs.map (·.w))).map nD)))) c9' c10'),[st,some (M'.map nD)]):=by
 have hk:k < rs.length:=(gIm hr).1;have hm:=h.lt k r hr;have e0:=tP (M:=M) (i:=k) (by rw[h.l];exact hk)
 obtain⟨f1,f2'⟩:=p.fit k r hr;have ol:=xZ r;obtain⟨w1,w2⟩:=zS f1;have nk:=λ S=>aGJ d r.wd r.w r.args (vI r) (bG r (rs.map (·.w))) (lC r F) (M.getD k 0) w1 (aG4 p hr) w2 hm S
 have nk':∀ S,cl fns (d+5) 25 [.d r.d,.d (.tuple ((bG r (rs.map (·.w))).map nD)),.d (.tuple ((fB r F).map Ft.d)),.d (.int ((M.getD k 0:Nat):Int))] S=some (.d (.tuple ((rN rs F r (M.getD k 0)).map nD)),S):=λ S=>by
  rw[<- aIB];exact nk S
 have hc:lv (aD fns (d+5)) aAJ (eM P F (some (.d (.int (k:Nat)))) c5 (some (.d r.d)) (some (.d (.tuple ((eT r).map nD)))) (some (.d (.tuple ((bG r (rs.map (·.w))).map nD)))) c9 c10) [st,some (M.map nD)]=some ((fB r F).map Ft.d,[st,some (M.map nD)]):=by
  rw[fB,List.map_map];refine mQ (fi:=lv (aD fns (d+5)) (.it (.var 7))) (fe:=ev (aD fns (d+5)) (.ix (.var 2) (.var 11))) nD (Ft.d ∘ f0 F) (r.args.take (bE r.wd)) ?_ (by rw[sizeLine_eq];have:(r.args.take (bE r.wd)).length<=3:=ol;omega) λ a ha=>?_
  ·simp only[gS1,eM,fP]
  ·refine⟨_,rfl,λ S'=>?_⟩
   have hx:aO (.tuple (F.map Ft.d)) (nD a)=some (f0 F a).d:=eG (by rw[xAb,kR (by have:=f2' a ha;omega)];rfl)
   simp only[gS0,clr,List.foldl_cons,List.foldl_nil,hx]
 have zp:dC ((eT r).map nD) ((rN rs F r (M.getD k 0)).map nD)=(fA rs F r (M.getD k 0)).map pD:=aB8 _ _;have g1:([st,some (M.map nD)]:aC)[1]? = some (some (M.map nD)):=rfl;have it:lv (aD fns (d+5)) rY (eM P F (some (.d (.int (k:Nat)))) c5 (some (.d r.d)) (some (.d (.tuple ((eT r).map nD)))) (some (.d (.tuple ((bG r (rs.map (·.w))).map nD)))) c9 c10) [st,some (M.map nD)]=some ((fA rs F r (M.getD k 0)).map pD,[st,some (M.map nD)]):=by
  have hc':lv (aD fns (d+5)) aAJ [some (.loc 0),some (.d P),some (.d (.tuple (F.map Ft.d))),some (.loc 1),some (.d (.int (k:Nat))),c5,some (.d r.d),some (.d (.tuple ((eT r).map nD))),some (.d (.tuple ((bG r (rs.map (·.w))).map nD))),c9,c10,none] [st,some (M.map nD)]=some ((fB r F).map Ft.d,[st,some (M.map nD)]):=hc;simp only[gS2,rY,eM,hc',iU,iR,e0,nk',zp]
 obtain⟨aI,S',p1,c9',c10',hb,rfl,rfl⟩:=lK (t:=.many [9,10]) (fb:=xs (aD fns (d+5)) rZ)
  (λ j env S'=>∃ c9 c10:Option W,Bd rs (((fA rs F r (M.getD k 0)).take j).foldl dS M)/\env=eM P F (some (.d (.int (k:Nat)))) c5 (some (.d r.d)) (some (.d (.tuple ((eT r).map nD)))) (some (.d (.tuple ((bG r (rs.map (·.w))).map nD)))) c9 c10/\S'=[st,some ((((fA rs F r (M.getD k 0)).take j).foldl dS M).map nD)])
  it ⟨c9,c10,h,rfl,rfl⟩ (by
   rintro j dd env S' hd ⟨c9,c10,hb,rfl,rfl⟩;rw[xAb] at hd;obtain⟨q,hq,rfl⟩:=Option.map_eq_some_iff.mp hd;obtain⟨q1,q2⟩:=aHb p hr hm q (xAl hq);have ft:=aA6 (f:=dS) M hq;generalize hM1:((fA rs F r (M.getD k 0)).take j).foldl dS M=M1 at hb ft ⊢;have ql:q.1 < M1.length:=by rw[hb.l];omega
   have e1:=tP ql;have pe:hB [st,some (M1.map nD)] (.loc 1) (.d (.int (q.1:Nat))) (.d (.int ((M1.getD q.1 0 ||| q.2:Nat):Int)))=some [st,some ((dS M1 q).map nD)]:=tF [st] M1 q.1 _ ql
   refine⟨eM P F (some (.d (.int (k:Nat)))) c5 (some (.d r.d)) (some (.d (.tuple ((eT r).map nD)))) (some (.d (.tuple ((bG r (rs.map (·.w))).map nD)))) (some (.d (.int (q.1:Nat)))) (some (.d (.int (q.2:Nat)))),eM P F (some (.d (.int (k:Nat)))) c5 (some (.d r.d)) (some (.d (.tuple ((eT r).map nD)))) (some (.d (.tuple ((bG r (rs.map (·.w))).map nD)))) (some (.d (.int (q.1:Nat)))) (some (.d (.int (q.2:Nat)))),[st,some ((dS M1 q).map nD)],rfl,?_,some (.d (.int (q.1:Nat))),some (.d (.int (q.2:Nat))),?_,rfl,by rw[ft]⟩
   ·simp only[gS2,rZ,eM,e1,eO,iG,pe]
   ·rw[ft];exact aCA hb (by omega) q2)
 exact⟨_,c9',c10',hb,p1⟩
end
section
variable {rs : List Rw}{F : List Ft}{ns : List Int}{k : Nat}{x : Int}
theorem aOL(d:Nat)(p:Prg rs)(hF:F.length=rs.length)(o:D){M:List Nat}(h:Bd rs M){j:Nat}(hj:j < rs.length)(hk:k<=90000)(c4 c6 c7 c8 c9 c10:Option W):∃ (M':List Nat) (k':Nat) (x':Int) (c4' c6' c7' c8' c9' c10':Option W),Bd rs M'/\k'<=k+2/\xs (aD fns (d+5)) fQ (eM (.tuple [.tuple (rs.map Rw.d),o]) F c4 (some (.d (.int (j:Nat)))) c6 c7 c8 c9 c10) [some (aG ns k x),some (M.map nD)]=some (.nx (eM (.tuple [.tuple (rs.map Rw.d),o]) F c4' (some (.d (.int (j:Nat)))) c6' c7' c8' c9' c10'),[some (aG ns k' x'),some (M'.map nD)]):=by
 have i0:aO (.tuple [.tuple (rs.map Rw.d),o]) (.int 0)=some (.tuple (rs.map Rw.d)):=rfl;obtain⟨P,hP⟩:∃ P:D,P=.tuple [.tuple (rs.map Rw.d),o]:=⟨_,rfl⟩;rw[<- hP] at i0 ⊢;have ek:((rs.length:Nat):Int) - 1 - ((j:Nat):Int)=((rs.length - 1 - j:Nat):Int):=by omega
 obtain⟨a,ha⟩:∃ a,a=rs.length - 1 - j:=⟨_,rfl⟩;rw[<- ha] at ek;have hal:a < rs.length:=by omega
 have hr:rs[a]? = some rs[a]:=List.getElem?_eq_getElem hal;obtain⟨r,er⟩:∃ r,r=rs[a]:=⟨_,rfl⟩;rw[<- er] at hr;have w1:=p.ws a r hr;have e1:aO (.tuple (rs.map Rw.d)) (.int (a:Nat))=some r.d:=eG (by rw[xAb,hr];rfl)
 have lM:∀ M':List Nat,Bd rs M'->hU [.list (M'.map nD)]=some (.int (rs.length:Nat)):=λ M' h'=>by
  show some (PyData.int (((M'.map nD).length:Nat):Int))=_;rw[List.length_map,h'.l]
 have lM1:=lM M h;have rw1:=dZ r;obtain⟨q,x1,hq,d1⟩:=qH (ns:=ns) (k:=k) (x:=x) [some (M.map nD)] (by show 1<=40;decide) (d+4) 8 (by decide) (by decide) (by omega)
 have d1':cl fns (d+5) 56 [.loc 0,.d (.int 8)] [some (aG ns k x),some (M.map nD)]=some (.d (.int (q:Nat)),[some (aG ns (k+1) x1),some (M.map nD)]):=d1;obtain⟨M1,k1,x2,hb,hk1,e3⟩:∃ (M1:List Nat) (k1:Nat) (x2:Int),Bd rs M1/\k1<=k+2/\xs (aD fns (d+5)) (bX (bC (bC fQ))) (eM P F (some (.d (.int (a:Nat)))) (some (.d (.int (j:Nat)))) (some (.d r.d)) c7 c8 c9 c10) [some (aG ns k x),some (M.map nD)]=some (.nx (eM P F (some (.d (.int (a:Nat)))) (some (.d (.int (j:Nat)))) (some (.d r.d)) c7 c8 c9 c10),[some (aG ns k1 x2),some (M1.map nD)]):=by
  by_cases c:q=1
  ·have dq:(((q:Nat):Int)==1)=true:=by rw[beq_iff_eq];omega
   obtain⟨u,x2,hu,d2⟩:=qH (ns:=ns) (k:=k+1) (x:=x1) [some (M.map nD)] (by show 1<=40;decide) (d+4) r.w (by omega) (by omega) (by omega)
   have d2':cl fns (d+5) 56 [.loc 0,.d (.int (r.w:Nat))] [some (aG ns (k+1) x1),some (M.map nD)]=some (.d (.int (u:Nat)),[some (aG ns (k+1+1) x2),some (M.map nD)]):=d2;have sh:cB .LShift (.int 1) (.int (u:Nat))=some (.int ((2^u:Nat):Int)):=gL (by omega)
   have al:a < M.length:=by rw[h.l];exact hal
   have e0:=tP (M:=M) (i:=a) al;have pe:hB [some (aG ns (k+1+1) x2),some (M.map nD)] (.loc 1) (.d (.int (a:Nat))) (.d (.int ((M.getD a 0 ||| 2^u:Nat):Int)))=some [some (aG ns (k+1+1) x2),some ((dS M (a,2^u)).map nD)]:=tF [some (aG ns (k+1+1) x2)] M a _ al
   refine⟨dS M (a,2^u),k+1+1,x2,aCA h hal (λ r' hr'=>?_),by omega,?_⟩
   ·rw[hr] at hr';cases hr';exact Nat.pow_lt_pow_right (by decide) hu
   ·simp only[gS4,bX,bC,fQ,eM,d1',bM,dq,e0,rw1,d2',sh,eO,iG,pe]
  ·have dq:(((q:Nat):Int)==1)=false:=by rw[beq_eq_false_iff_ne];omega
   refine⟨M,k+1,x1,h,by omega,?_⟩
   simp only[gS4,bX,bC,fQ,eM,d1',bM,dq]
 have s1:xs (aD fns (d+5)) (bX fQ) (eM P F c4 (some (.d (.int (j:Nat)))) c6 c7 c8 c9 c10) [some (aG ns k x),some (M.map nD)]=some (.nx (eM P F (some (.d (.int (a:Nat)))) (some (.d (.int (j:Nat)))) c6 c7 c8 c9 c10),[some (aG ns k x),some (M.map nD)]):=by
  simp only[gS3,bX,fQ,eM,lM1,cG,ek]
 have s2:xs (aD fns (d+5)) (bX (bC fQ)) (eM P F (some (.d (.int (a:Nat)))) (some (.d (.int (j:Nat)))) c6 c7 c8 c9 c10) [some (aG ns k x),some (M.map nD)]=some (.nx (eM P F (some (.d (.int (a:Nat)))) (some (.d (.int (j:Nat)))) (some (.d r.d)) c7 c8 c9 c10),[some (aG ns k x),some (M.map nD)]):=by
  simp only[gS4,bX,bC,fQ,eM,i0,e1]
 obtain⟨f1,f2'⟩:=p.fit a r hr;have ol:=xZ r;have op:cl fns (d+5) 15 [.d r.d] [some (aG ns k1 x2),some (M1.map nD)]=some (.d (.tuple ((eT r).map nD)),[some (aG ns k1 x2),some (M1.map nD)]):=oE (d+4) r _;have hc:lv (aD fns (d+5)) aAI (eM P F (some (.d (.int (a:Nat)))) (some (.d (.int (j:Nat)))) (some (.d r.d)) (some (.d (.tuple ((eT r).map nD)))) c8 c9 c10) [some (aG ns k1 x2),some (M1.map nD)]=some ((bG r (rs.map (·.w))).map nD,[some (aG ns k1 x2),some (M1.map nD)]):=by
  unfold bG;rw[List.map_map];refine mQ (fi:=lv (aD fns (d+5)) (.it (.var 7))) (fe:=ev (aD fns (d+5)) (.ix (.ix (.ix (.var 1) (.int 0)) (.var 9)) (.int 1))) nD (nD ∘ g0 (rs.map (·.w))) (r.args.take (bE r.wd)) ?_ (by rw[sizeLine_eq];have:(r.args.take (bE r.wd)).length<=3:=ol;omega) λ b hb=>?_
  ·simp only[gS1,eM,fP]
  ·refine⟨_,rfl,λ S'=>?_⟩
   have haj:=f2' b hb;have hq:rs[b]? = some rs[b]:=List.getElem?_eq_getElem (by omega)
   have e2:aO (.tuple (rs.map Rw.d)) (nD b)=some rs[b].d:=eG (by rw[xAb,hq];rfl)
   simp only[evs,clr,List.foldl_cons,List.foldl_nil,i0,e2,dZ];show _=some (W.d (nD (g0 (rs.map (·.w)) b)),S');rw[qV hq];rfl
 have hc':lv (aD fns (d+5)) aAI [some (.loc 0),some (.d P),some (.d (.tuple (F.map Ft.d))),some (.loc 1),some (.d (.int (a:Nat))),some (.d (.int (j:Nat))),some (.d r.d),some (.d (.tuple ((eT r).map nD))),c8,c9,c10,none] [some (aG ns k1 x2),some (M1.map nD)]=some ((bG r (rs.map (·.w))).map nD,[some (aG ns k1 x2),some (M1.map nD)]):=hc;obtain⟨M',c9',c10',hb',lp⟩:=aNu d p hr hF P (some (aG ns k1 x2)) hb (some (.d (.int (j:Nat)))) c9 c10;refine⟨M',k1,x2,some (.d (.int (a:Nat))),some (.d r.d),some (.d (.tuple ((eT r).map nD))),some (.d (.tuple ((bG r (rs.map (·.w))).map nD))),c9',c10',hb',hk1,?_⟩;have e:fQ=.seq (bX fQ) (.seq (bX (bC fQ)) (.seq (bX (bC (bC fQ))) (bC (bC (bC fQ))))):=rfl;rw[e,dP s1,dP s2,dP e3];have lp':cJ (.many [9,10]) (lv (aD fns (d+5)) rY) (xs (aD fns (d+5)) rZ) [some (.loc 0),some (.d P),some (.d (.tuple (F.map Ft.d))),some (.loc 1),some (.d (.int (a:Nat))),some (.d (.int (j:Nat))),some (.d r.d),some (.d (.tuple ((eT r).map nD))),some (.d (.tuple ((bG r (rs.map (·.w))).map nD))),c9,c10,none] [some (aG ns k1 x2),some (M1.map nD)]=_:=lp;simp only[gS3,bC,fQ,eM,op,hc',iU,iR,lp']
theorem aLu(d:Nat)(p:Prg rs)(hF:F.length=rs.length)(aH:List Nat)(ho:∀ o∈aH,o < rs.length)(hk:k<=50000):∃ (M:List Nat) (k':Nat) (x':Int),Bd rs M/\k'<=k+1+2*rs.length/\cl fns (d+8) 69 [.loc 0,.d (.tuple [.tuple (rs.map Rw.d),.tuple (aH.map nD)]),.d (.tuple (F.map Ft.d))] [some (aG ns k x)]=some (.d (.tuple (M.map nD)),[some (aG ns k' x')]):=by
 have pl:=p.l;obtain⟨q,x1,hq,e1⟩:=qH (ns:=ns) (k:=k) (x:=x) [] (by decide) (d+6) 2 (by decide) (by decide) (by omega)
 have e1':cl fns (d+7) 56 [.loc 0,.d (.int 2)] [some (aG ns k x)]=some (.d (.int (q:Nat)),[some (aG ns (k+1) x1)]):=e1
 by_cases c:q=1
 ·have dq:(((q:Nat):Int)==1)=true:=by rw[beq_iff_eq];omega
  obtain⟨bd,ak⟩:=aMW d p hF aH ho [some (aG ns (k+1) x1)];refine⟨_,k+1,x1,bd,by omega,?_⟩
  rw[aQ rfl (d+7) _ _ rfl];simp only[gR1,aAV,e1',bM,dq,ak]
 ·have dq:(((q:Nat):Int)==1)=false:=by rw[beq_eq_false_iff_ne];omega
  have i0:aO (.tuple [.tuple (rs.map Rw.d),.tuple (aH.map nD)]) (.int 0)=some (.tuple (rs.map Rw.d)):=rfl;have i1:aO (.tuple [.tuple (rs.map Rw.d),.tuple (aH.map nD)]) (.int 1)=some (.tuple (aH.map nD)):=rfl;have turn:=λ(M:List Nat) (h:Bd rs M) (j:Nat) (hj:j < rs.length) (k:Nat) (x:Int) (hk:k<=90000)=>aOL (ns:=ns) (k:=k) (x:=x) (d+2) p hF (.tuple (aH.map nD)) h hj hk
  obtain⟨P,hP⟩:∃ P:D,P=.tuple [.tuple (rs.map Rw.d),.tuple (aH.map nD)]:=⟨_,rfl⟩;simp only[<- hP] at i0 i1 turn ⊢;have c0:lv (aD fns (d+7)) aDR [some (.loc 0),some (.d P),some (.d (.tuple (F.map Ft.d))),none,none,none,none,none,none,none,none,none] [some (aG ns (k+1) x1)]=some ((List.replicate rs.length 0).map nD,[some (aG ns (k+1) x1)]):=by
   rw[show(List.replicate rs.length 0).map nD=rs.map λ _=>nD 0 by rw[List.map_replicate,List.map_const']]
   refine mQ (fi:=lv (aD fns (d+7)) (.it (.ix (.var 1) (.int 0)))) (fe:=ev (aD fns (d+7)) (.int 0)) Rw.d (λ _=>nD 0) rs ?_ (by rw[sizeLine_eq];omega) λ a _=>?_
   ·simp only[gS0,i0,fP]
   ·exact⟨_,rfl,λ S'=>rfl⟩
  have it2:lv (aD fns (d+7)) wF (eM P F none none none none none none none) [some (aG ns (k+1) x1),some ((List.replicate rs.length 0).map nD)]=some (aH.map nD,[some (aG ns (k+1) x1),some ((List.replicate rs.length 0).map nD)]):=by
   simp only[gS2,wF,eM,i1,fP]
  obtain⟨env1,S1,p1,c4,M1,hb1,rfl,rfl⟩:=lK (t:=.one 4) (fb:=xs (aD fns (d+7)) wH)
   (λ j env S'=>∃ (c4:Option W) (M:List Nat),Bd rs M/\env=eM P F c4 none none none none none none/\S'=[some (aG ns (k+1) x1),some (M.map nD)])
   it2 ⟨none,_,aGP,rfl,rfl⟩ (by
    rintro j dd env S' hd ⟨c4,M,hb,rfl,rfl⟩;rw[xAb] at hd;obtain⟨u,hu,rfl⟩:=Option.map_eq_some_iff.mp hd;have hul:=ho u (xAl hu);have hr:rs[u]? = some rs[u]:=List.getElem?_eq_getElem hul;have er:aO (.tuple (rs.map Rw.d)) (.int (u:Nat))=some rs[u].d:=eG (by rw[xAb,hr];rfl)
    have rw1:=dZ rs[u];have w1:=(p.ws u _ hr).2;have sh:cB .LShift (.int 1) (.int (rs[u].w:Nat))=some (.int ((2^rs[u].w:Nat):Int)):=gL (by omega)
    have fc:=xC rs[u].w;have pe:hB [some (aG ns (k+1) x1),some (M.map nD)] (.loc 1) (.d (.int (u:Nat))) (.d (.int ((2^rs[u].w - 1:Nat):Int)))=some [some (aG ns (k+1) x1),some ((eU rs M u).map nD)]:=by
     rw[aEU hr];exact tF [some (aG ns (k+1) x1)] M u _ (by rw[hb.l];exact hul)
    refine⟨eM P F (some (.d (.int (u:Nat)))) none none none none none none,eM P F (some (.d (.int (u:Nat)))) none none none none none none,[some (aG ns (k+1) x1),some ((eU rs M u).map nD)],rfl,?_,some (.d (.int (u:Nat))),eU rs M u,aGR hb hul,rfl,rfl⟩;simp only[evs,wH,eM,i0,er,rw1,sh,cG,fc,iG,pe])
  have lM1:hU [.list (M1.map nD)]=some (.int (rs.length:Nat)):=by
   show some (PyData.int (((M1.map nD).length:Nat):Int))=_;rw[List.length_map,hb1.l]
  have it0:lv (aD fns (d+7)) wD (eM P F c4 none none none none none none) [some (aG ns (k+1) x1),some (M1.map nD)]=some ((List.range rs.length).map (λ k=>PyData.int ((k:Nat):Int)),[some (aG ns (k+1) x1),some (M1.map nD)]):=by
   simp only[wD,kW,kE,kH,kF,kN,kQ,kG];exact pP (by simp only[evs,eM,lM1]) (by omega)
  obtain⟨env2,S2,p2,M2,k2,x2,a4,a5,a6,a7,a8,a9,a10,hb2,hk2,rfl,rfl⟩:=lK (t:=.one 5) (fb:=xs (aD fns (d+7)) fQ)
   (λ j env S'=>∃ (M:List Nat) (k':Nat) (x':Int) (c4 c5 c6 c7 c8 c9 c10:Option W),Bd rs M/\k'<=k+1+2*j/\env=eM P F c4 c5 c6 c7 c8 c9 c10/\S'=[some (aG ns k' x'),some (M.map nD)])
   it0 ⟨M1,k+1,x1,c4,none,none,none,none,none,none,hb1,by omega,rfl,rfl⟩ (by
    rintro j dd env S' hd ⟨M,k',x',c4,c5,c6,c7,c8,c9,c10,hb,hk',rfl,rfl⟩;obtain⟨hj,rfl⟩:=aBu hd;obtain⟨M',k2,x2,b4,b6,b7,b8,b9,b10,hb',hk2,e⟩:=turn M hb j hj k' x' (by omega) c4 c6 c7 c8 c9 c10
    exact⟨eM P F c4 (some (.d (.int (j:Nat)))) c6 c7 c8 c9 c10,eM P F b4 (some (.d (.int (j:Nat)))) b6 b7 b8 b9 b10,[some (aG ns k2 x2),some (M'.map nD)],rfl,e,M',k2,x2,b4,_,b6,b7,b8,b9,b10,hb',by omega,rfl,rfl⟩)
  rw[List.length_map,List.length_range] at hk2;refine⟨M2,k2,x2,hb2,hk2,?_⟩;have p1':cJ (.one 4) (lv (aD fns (d+7)) wF) (xs (aD fns (d+7)) wH) [some (.loc 0),some (.d P),some (.d (.tuple (F.map Ft.d))),some (.loc 1),none,none,none,none,none,none,none,none] [some (aG ns (k+1) x1),some ((List.replicate rs.length 0).map nD)]=some (.nx (eM P F c4 none none none none none none),[some (aG ns (k+1) x1),some (M1.map nD)]):=p1;have p2':cJ (.one 5) (lv (aD fns (d+7)) wD) (xs (aD fns (d+7)) fQ) [some (.loc 0),some (.d P),some (.d (.tuple (F.map Ft.d))),some (.loc 1),c4,none,none,none,none,none,none,none] [some (aG ns (k+1) x1),some (M1.map nD)]=some (.nx (eM P F a4 a5 a6 a7 a8 a9 a10),[some (aG ns k2 x2),some (M2.map nD)]):=p2;rw[aQ rfl (d+7) _ _ rfl];simp only[gR2,aAV,eM,e1',bM,dq,c0,gG,p1',p2',iU,iR]
end
theorem aI4(a b:List D)(h:a.length+b.length<=1000):cB .Add (.tuple a) (.tuple b)=some (.tuple (a++b)):=by
 cases a with
 | nil=>rfl
 | cons x r =>
   show(if (x::r).isEmpty=false/\(x::r).length+b.length<=sizeLine then some (PyData.tuple ((x::r)++b)) else none)=_
   rw[if_pos ⟨rfl,by rw[sizeLine_eq];omega⟩]
theorem aMT(a:List D)(k:Nat):fJ a (some (k:Nat)) none=a.drop k:=by
 unfold fJ;rw[HT.sIx_none,HT.sIx_nat];rcases Nat.le_total k a.length with h | h
 ·rw[Nat.min_eq_left h,List.take_of_length_le (by rw[List.length_drop];omega)]
 ·rw[Nat.min_eq_right h,List.drop_length,List.drop_of_length_le h,List.take_nil]
theorem aE0{Y:List (Option (Yw × Nat))}{k:Nat}(y:Option (Yw × Nat))(hk:k < Y.length)(hl:Y.length<=100):cB .Add (.tuple ((Y.map yD).take k)) (.tuple [yD y])=some (.tuple ((Y.map yD).take k++[yD y]))/\cB .Add (.tuple ((Y.map yD).take k++[yD y])) (.tuple ((Y.map yD).drop (k+1)))=some (.tuple ((Y.set k y).map yD)):=by
 have e:(Y.set k y).map yD=((Y.map yD).take k++[yD y])++(Y.map yD).drop (k+1):=by
  rw[List.map_set,List.set_eq_take_append_cons_drop,if_pos (by rw[List.length_map];exact hk),List.append_assoc]
  rfl
 have l1:((Y.map yD).take k).length<=100:=by rw[List.length_take,List.length_map];omega
 refine⟨aI4 _ _ (by show _+1<=1000;omega),?_⟩
 rw[e];exact aI4 _ _ (by rw[xAo,List.length_drop,List.length_map];show _+1+_<=1000;omega)
section
variable {rs : List Rw}{F : List Ft}{M : List Nat}{Y : List (Option (Yw × Nat))}{k : Nat}{y : Option (Yw × Nat)}
theorem aGh(h:Yst rs Y){r:Rw}(hr:rs[k]? = some r)(hy:nY r.w y):Yst rs (Y.set k y):=by
 refine⟨by rw[List.length_set,h.l],λ j r' z h1 h2=>?_⟩
 by_cases c:k=j
 ·subst c;rw[hr] at h1;cases h1;have:k < Y.length:=by rw[h.l];exact(gIm hr).1
  rw[List.getElem?_set_self this] at h2;cases h2;exact hy
 ·rw[List.getElem?_set_ne c] at h2;exact h.ok j r' z h1 h2
theorem zB{j:Nat}(h:k≠j):gQ rs F M (Y.set k y) j=gQ rs F M Y j:=by
 unfold gQ;rw[List.getElem?_set_ne h]
theorem aQy{r:Rw}(hr:rs[k]? = some r)(hk:k < Y.length):gQ rs F M (Y.set k y) k=rt r (f0 F k) (M.getD k 0) y:=by
 unfold gQ;rw[hr,List.getElem?_set_self hk]
end
noncomputable abbrev eY(sc:Option W)(P R:D)(F:List Ft)(M:List Nat)(Q:D)(c7 c8 c9 c10 c11 c12:Option W):aT:=[sc,some (.loc 0),some (.d P),some (.d R),some (.d (.tuple (F.map Ft.d))),some (.d (.tuple (M.map nD))),some (.d Q),c7,c8,c9,c10,c11,c12]
section
variable {rs : List Rw}{F : List Ft}{M : List Nat}{ns : List Int}{k : Nat}{x : Int}
theorem aRv(d:Nat)(p:Prg rs)(hF:F.length=rs.length)(h:Bd rs M){j:Nat}(hj:j < rs.length)(P:D)(sc c8 c9 c10 c11 c12:Option W)(S:aC):xs (aD fns (d+10)) tH (eY sc P (.tuple (rs.map Rw.d)) F M (.tuple ((eQ rs F M).map yD)) (some (.d (.int (j:Nat)))) c8 c9 c10 c11 c12) S=some (.nx (eY sc P (.tuple (rs.map Rw.d)) F M (.tuple ((eQ rs F M).map yD)) (some (.d (.int (j:Nat)))) c8 c9 c10 c11 c12),S):=by
 have hr:rs[j]? = some rs[j]:=List.getElem?_eq_getElem hj;have w1:=p.ws j _ hr;have e1:aO (.tuple (rs.map Rw.d)) (.int (j:Nat))=some rs[j].d:=eG (by rw[xAb,hr];rfl)
 have e2:aO (.tuple (F.map Ft.d)) (.int (j:Nat))=some (f0 F j).d:=eG (by rw[xAb,kR (by omega)];rfl)
 have e3:=aBM (M:=M) (i:=j) (by rw[h.l];exact hj)
 have e4:aO (.tuple ((eQ rs F M).map yD)) (.int (j:Nat))=some (yD (fX rs[j] (f0 F j) (M.getD j 0))):=eG (by rw[xAb,xX hr hF h.l];rfl)
 have e5:=aNt (d+8) rs[j] (f0 F j) (M.getD j 0) w1.1 w1.2 (h.lt j _ hr) S;have e6:=aQi (fX rs[j] (f0 F j) (M.getD j 0)) (fX rs[j] (f0 F j) (M.getD j 0));rw[dqT rfl,Bool.not_true] at e6;simp only[gS2,tH,eY,e4,e1,e2,e3,e5,e6]
theorem aPu(d:Nat)(p:Prg rs)(hF:F.length=rs.length)(h:Bd rs M)(h0:0 < rs.length)(hl:rs.length<=60)(o:D)(hk:k<=80000)(sc c7 c8 c9 c10 c11 c12:Option W):∃ (k':Nat) (x':Int) (c7' c9' c10' c11' c12':Option W),k'<=k+5/\xs (aD fns (d+10)) oN (eY sc (.tuple [.tuple (rs.map Rw.d),o]) (.tuple (rs.map Rw.d)) F M (.tuple ((eQ rs F M).map yD)) c7 c8 c9 c10 c11 c12) [some (aG ns k x)]=some (.nx (eY sc (.tuple [.tuple (rs.map Rw.d),o]) (.tuple (rs.map Rw.d)) F M (.tuple ((eQ rs F M).map yD)) c7' c8 c9' c10' c11' c12'),[some (aG ns k' x')]):=by
 obtain⟨a,x1,ha,d1⟩:=uH (ns:=ns) (k:=k) (x:=x) (d+9) rs.length h0 (by omega) (by omega)
 have d1':cl fns (d+10) 56 [.loc 0,.d (.int (rs.length:Nat))] [some (aG ns k x)]=some (.d (.int (a:Nat)),[some (aG ns (k+1) x1)]):=d1;have hr:rs[a]? = some rs[a]:=List.getElem?_eq_getElem ha;have w1:=p.ws a _ hr;have hY:=aF6 p hF h;have hR:=aGb p hF h;have yl:=aBV hF h.l;have sg:=xX hr hF h.l;have yk:nY rs[a].w (fX rs[a] (f0 F a) (M.getD a 0)):=aFH _ _ _ w1.1 (h.lt a _ hr);generalize hYs:eQ rs F M=Y at hY hR yl sg ⊢;obtain⟨y,k2,x2,hy,hk2,d2⟩:=aLW (ns:=ns) (k:=k+1) (x:=x1) (d+8) rs[a] _ w1.1 w1.2 yk (by omega)
 have e1:aO (.tuple (rs.map Rw.d)) (.int (a:Nat))=some rs[a].d:=eG (by rw[xAb,hr];rfl)
 have e2:aO (.tuple (F.map Ft.d)) (.int (a:Nat))=some (f0 F a).d:=eG (by rw[xAb,kR (by omega)];rfl)
 have e3:=aBM (M:=M) (i:=a) (by rw[h.l];exact ha)
 have e4:aO (.tuple (Y.map yD)) (.int (a:Nat))=some (yD (fX rs[a] (f0 F a) (M.getD a 0))):=eG (by rw[xAb,sg];rfl)
 have my:=aPJ (d+8) rs[a] (f0 F a) (M.getD a 0) y hy [some (aG ns k2 x2)];have ec:((a:Nat):Int)+1=((a+1:Nat):Int):=rfl;have aY:a < Y.length:=by omega
 obtain⟨s1,s2⟩:=aE0 y aY (by omega)
 have hY1:=aGh hY hr hy;have rb:∀ j,j < a->gQ rs F M (Y.set a y) j=true:=λ j hj=>by rw[zB (by omega)];exact hR j (by omega)
 have ra:gQ rs F M (Y.set a y) a=rt rs[a] (f0 F a) (M.getD a 0) y:=aQy hr aY;obtain⟨u,x3,hu,d3⟩:=uH (ns:=ns) (k:=k2) (x:=x2) (d+9) (rs.length - a) (by omega) (by omega) (by omega)
 have d3':cl fns (d+10) 56 [.loc 0,.d (.int ((rs.length - a:Nat):Int))] [some (aG ns k2 x2)]=some (.d (.int (u:Nat)),[some (aG ns (k2+1) x3)]):=d3;have el:((rs.length:Nat):Int) - ((a:Nat):Int)=((rs.length - a:Nat):Int):=by omega
 have eu:((a:Nat):Int)+((u:Nat):Int)=((a+u:Nat):Int):=by omega
 have lR:hU [.tuple (rs.map Rw.d)]=some (.int (rs.length:Nat)):=by
  show some (PyData.int (((rs.map Rw.d).length:Nat):Int))=_;rw[List.length_map]
 have ct:=λ(Z:List D) (k:Nat)=>aQ6 Z k
 have cf:=λ(Z:List D) (k:Nat)=>aMT Z k
 cases c:rt rs[a] (f0 F a) (M.getD a 0) y with
 | true =>
   rw[c] at my ra;have ws:=aGN (d+7) hF h.l hY1 (λ j hj=>by
    by_cases e:a=j
    ·rw[<- e];exact ra
    ·rw[zB e];exact hR j hj) o [some (aG ns k2 x2)]
   have ix1:aO (.list [.int (a:Nat),.none]) (.int (if true=true then 1 else 0))=some .none:=rfl
   have nn:aX .NotEq .none .none=some (.bool false):=rfl;have isn:aX .IsNot .none .none=some (.bool false):=rfl;generalize hP:PyData.tuple [.tuple (rs.map Rw.d),o]=P at ws ⊢;refine⟨k2+1,x3,some (.d (.int (a:Nat))),some (.d (yD y)),some (.d .none),some (.d (.tuple ((Y.set a y).map yD))),some (.d (.int ((a+u:Nat):Int))),by omega,?_⟩
   simp only[gS2,oN,eY,lR,d1',e1,e4,d2,e2,e3,my,tT,tX,ix1,jV,nW,jP,ct,s1,cK,ec,cf,s2,ws,nn,cG,el,d3',eu,isn]
 | false =>
   rw[c] at my ra;have ws:=aIt (d+7) hF h.l hY1 ha rb ra o [some (aG ns k2 x2)];have ix1:aO (.list [.int (a:Nat),.none]) (.int (if false=true then 1 else 0))=some (.int (a:Nat)):=rfl
   have nn:aX .NotEq (.int (a:Nat)) (.int (a:Nat))=some (.bool false):=by rw[lQ,beq_self_eq_true];rfl
   have isn:aX .IsNot (.int (a:Nat)) .none=some (.bool true):=rfl;have gt:aX .Gt (.int ((a+u:Nat):Int)) (.int (a:Nat))=some (.bool (decide (((a:Nat):Int) < ((a+u:Nat):Int)))):=rfl
   by_cases cu:0 < u
   ·rw[dqT (show((a:Nat):Int) < ((a+u:Nat):Int) by omega)] at gt
    have bY:a+u < (Y.set a y).length:=by rw[List.length_set];omega
    have hrb:rs[a+u]? = some rs[a+u]:=List.getElem?_eq_getElem (by omega)
    obtain⟨t1,t2⟩:=aE0 none bY (by rw[List.length_set];omega)
    have ec2:((a+u:Nat):Int)+1=((a+u+1:Nat):Int):=rfl;have hY2:Yst rs ((Y.set a y).set (a+u) none):=aGh hY1 hrb (λ _ _ e=>by cases e)
    have ws2:=aIt (d+7) hF h.l hY2 ha (λ j hj=>by rw[zB (by omega)];exact rb j hj) (by rw[zB (by omega)];exact ra) o [some (aG ns (k2+1) x3)]
    generalize hP:PyData.tuple [.tuple (rs.map Rw.d),o]=P at ws ws2 ⊢;generalize hZ:(Y.set a y).map yD=Z at s2 ws t1 t2;generalize hZ2:((Y.set a y).set (a+u) none).map yD=Z2 at t2 ws2;have yn:yD none=.none:=rfl;rw[yn] at t1 t2;refine⟨k2+1,x3,some (.d (.int (a:Nat))),some (.d (yD y)),some (.d (.int (a:Nat))),some (.d (.tuple Z2)),some (.d (.int ((a+u:Nat):Int))),by omega,?_⟩
    simp only[gS2,oN,eY,lR,d1',e1,e4,d2,e2,e3,my,tT,tX,ix1,jV,nW,jP,ct,s1,cK,ec,cf,s2,ws,nn,cG,el,d3',eu,isn,gt,t1,ec2,t2,ws2]
   ·rw[dqF (show ¬ ((a:Nat):Int) < ((a+u:Nat):Int) by omega)] at gt
    generalize hP:PyData.tuple [.tuple (rs.map Rw.d),o]=P at ws ⊢;refine⟨k2+1,x3,some (.d (.int (a:Nat))),some (.d (yD y)),some (.d (.int (a:Nat))),some (.d (.tuple ((Y.set a y).map yD))),some (.d (.int ((a+u:Nat):Int))),by omega,?_⟩
    simp only[gS2,oN,eY,lR,d1',e1,e4,d2,e2,e3,my,tT,tX,ix1,jV,nW,jP,ct,s1,cK,ec,cf,s2,ws,nn,cG,el,d3',eu,isn,gt]
end
theorem aHi:∀ Y:List (Option (Yw × Nat)),PyData.eqvAll (Y.map yD) (Y.map yD)=true
 | []=>rfl
 | a::r=>by
   have ih:=aHi r;simp only[List.map_cons,PyData.eqvAll,ih,Bool.and_true,aCy,decide_true]
theorem aHh:∀ Y:List (Option (Yw × Nat)),PyData.canLayAll0 (Y.map yD)=true
 | []=>rfl
 | a::r=>by
   have ih:=aHh r;simp only[List.map_cons,PyData.canLayAll0,ih,Bool.and_true,uA]
theorem aHj:∀ Y:List (Option (Yw × Nat)),PyData.depthAll (Y.map yD)<=1
 | []=>Nat.zero_le _
 | a::r=>by
   have ih:=aHj r;simp only[List.map_cons,PyData.depthAll];exact Nat.max_le.mpr ⟨aCB a,ih⟩
theorem aSH(Y:List (Option (Yw × Nat))):aX .Eq (.tuple (Y.map yD)) (.tuple (Y.map yD))=some (.bool true):=by
 have h1:(PyData.tuple (Y.map yD)).canLay0=true:=aHh Y;have h2:(PyData.tuple (Y.map yD)).depth<=60:=by
  show PyData.depthAll (Y.map yD)+1<=60;have:=aHj Y;omega
 have h3:PyData.eqv (.tuple (Y.map yD)) (.tuple (Y.map yD))=true:=by
  have:=aHi Y;simp only[PyData.eqv,this]
 unfold aX nL;simp only[];rw[if_pos ⟨h1,h1,h2⟩,h3];rfl
theorem aRw(d:Nat)(ns:List Int)(h1:ns.length<=63):∃ S',cl fns (d+11) 73 [.d (.list (ns.map PyData.int))] []=some (.d (.bool true),S'):=by
 obtain⟨most,hm,et⟩:∃ t:Nat,t<=30/\(1:Int)+(if (24:Int) < ((ns.length:Nat):Int) then 24 else ((ns.length:Nat):Int))=((t:Nat):Int):=by
  refine⟨1+min ns.length 24,by omega,?_⟩
  split<;>omega
 obtain⟨rs,aH,k0,x0,ok,l0,l1,hk0,ho,hol,e0⟩:=aP7 (d+4) most ns hm 0 0 (by omega)
 have mn:iH [.int ((ns.length:Nat):Int),.int 24]=some (.int (if (24:Int) < ((ns.length:Nat):Int) then 24 else ((ns.length:Nat):Int))):=rfl
 have lN:hU [.list (ns.map PyData.int)]=some (.int (ns.length:Nat)):=by
  show some (PyData.int (((ns.map PyData.int).length:Nat):Int))=_;rw[List.length_map]
 have p:=aPL ok (by omega)
 obtain⟨F,k1,x1,hF,hk1,eF⟩:=aLP (ns:=ns) (k:=k0) (x:=x0) d rs (.tuple (aH.map nD)) p (by omega)
 obtain⟨M,k2,x2,hb,hk2,eM'⟩:=aLu (ns:=ns) (k:=k1) (x:=x1) (d+2) p hF aH ho (by omega)
 have eS':=λ S=>aMZ (d+4) p hF hb (.tuple (aH.map nD)) S
 have eW:=aGN (d+7) hF hb.l (aF6 p hF hb) (aGb p hF hb) (.tuple (aH.map nD)) [some (aG ns k2 x2)];have t1:=λ(P:D) (sc:Option W) (j:Nat) (hj:j < rs.length)=>aRv d p hF hb hj P sc none none none none none [some (aG ns k2 x2)]
 have t0:=λ(k:Nat) (x:Int) (hk:k<=80000)=>aPu (ns:=ns) (k:=k) (x:=x) d p hF hb l0 (by omega) (.tuple (aH.map nD)) hk
 have lY:hU [.tuple ((eQ rs F M).map yD)]=some (.int (rs.length:Nat)):=by
  show some (PyData.int ((((eQ rs F M).map yD).length:Nat):Int))=_;rw[List.length_map,aBV hF hb.l]
 have lR:hU [.tuple (rs.map Rw.d)]=some (.int (rs.length:Nat)):=by
  show some (PyData.int (((rs.map Rw.d).length:Nat):Int))=_;rw[List.length_map]
 have nl:aX .NotEq (.int (rs.length:Nat)) (.int (rs.length:Nat))=some (.bool false):=by rw[lQ,beq_self_eq_true];rfl
 have isn:aX .IsNot .none .none=some (.bool false):=rfl;have eqY:=aSH (eQ rs F M);have i0:aO (.tuple [.tuple (rs.map Rw.d),.tuple (aH.map nD)]) (.int 0)=some (.tuple (rs.map Rw.d)):=rfl;obtain⟨P,hP⟩:∃ P:D,P=.tuple [.tuple (rs.map Rw.d),.tuple (aH.map nD)]:=⟨_,rfl⟩;obtain⟨Q,hQ⟩:∃ Q,Q=(eQ rs F M).map yD:=⟨_,rfl⟩;obtain⟨R,hR⟩:∃ R,R=rs.map Rw.d:=⟨_,rfl⟩;simp only[<- hP] at e0 eF eM' eS' eW t0 i0;simp only[<- hQ] at eS' eW t1 t0 lY eqY;simp only[<- hR] at i0 t1 t0 lR;have t1':=t1 P;obtain⟨sc,hsc⟩:∃ sc:Option W,sc=some (.d (.list (ns.map PyData.int))):=⟨_,rfl⟩;have it1:lv (aD fns (d+10)) yJ (eY sc P (.tuple R) F M (.tuple Q) none none none none none none) [some (aG ns k2 x2)]=some ((List.range rs.length).map (λ k=>PyData.int ((k:Nat):Int)),[some (aG ns k2 x2)]):=by
  simp only[yJ,kW,kE,kH,kF,kN,kQ,kG];exact pP (by simp only[evs,eY,lR]) (by omega)
 obtain⟨env1,p1,c7,rfl⟩:=aHM (t:=.one 7) (fb:=xs (aD fns (d+10)) tH) (λ env=>∃ c7:Option W,env=eY sc P (.tuple R) F M (.tuple Q) c7 none none none none none) it1 ⟨none,rfl⟩ (by
  rintro dd hdd env ⟨c7,rfl⟩;obtain⟨j,hj0⟩:=List.getElem?_of_mem hdd;obtain⟨hj,rfl⟩:=aBu hj0;exact⟨_,_,rfl,t1' sc j hj,_,rfl⟩)
 have it0:lv (aD fns (d+10)) xW (eY sc P (.tuple R) F M (.tuple Q) c7 none none none none none) [some (aG ns k2 x2)]=some ((List.range 4).map (λ k=>PyData.int ((k:Nat):Int)),[some (aG ns k2 x2)]):=by
  simp only[xW,kW,kE,kH,kF,kN,kQ,kG];exact pP (w:=4) rfl (by omega)
 obtain⟨env2,S2,p2,k3,x3,b7,b8,b9,b10,b11,b12,hk3,rfl,rfl⟩:=lK (t:=.one 8) (fb:=xs (aD fns (d+10)) oN)
  (λ j env S'=>∃ (k':Nat) (x':Int) (c7 c8 c9 c10 c11 c12:Option W),k'<=k2+5*j/\env=eY sc P (.tuple R) F M (.tuple Q) c7 c8 c9 c10 c11 c12/\S'=[some (aG ns k' x')])
  it0 ⟨k2,x2,c7,none,none,none,none,none,by omega,rfl,rfl⟩ (by
   rintro j dd env S' hd ⟨k',x',c7,c8,c9,c10,c11,c12,hk',rfl,rfl⟩;obtain⟨hj,rfl⟩:=aBu hd;obtain⟨k4,x4,a7,a9,a10,a11,a12,hk4,e⟩:=t0 k' x' (by omega) sc c7 (some (.d (.int (j:Nat)))) c9 c10 c11 c12
   exact⟨eY sc P (.tuple R) F M (.tuple Q) c7 (some (.d (.int (j:Nat)))) c9 c10 c11 c12,eY sc P (.tuple R) F M (.tuple Q) a7 (some (.d (.int (j:Nat)))) a9 a10 a11 a12,[some (aG ns k4 x4)],rfl,e,k4,x4,a7,some (.d (.int (j:Nat))),a9,a10,a11,a12,by omega,rfl,rfl⟩)
 have p1':cJ (.one 7) (lv (aD fns (d+10)) yJ) (xs (aD fns (d+10)) tH) [sc,some (.loc 0),some (.d P),some (.d (.tuple R)),some (.d (.tuple (F.map Ft.d))),some (.d (.tuple (M.map nD))),some (.d (.tuple Q)),none,none,none,none,none,none] [some (aG ns k2 x2)]=some (.nx (eY sc P (.tuple R) F M (.tuple Q) c7 none none none none none),[some (aG ns k2 x2)]):=p1;have p2':cJ (.one 8) (lv (aD fns (d+10)) xW) (xs (aD fns (d+10)) oN) [sc,some (.loc 0),some (.d P),some (.d (.tuple R)),some (.d (.tuple (F.map Ft.d))),some (.d (.tuple (M.map nD))),some (.d (.tuple Q)),c7,none,none,none,none,none] [some (aG ns k2 x2)]=some (.nx (eY sc P (.tuple R) F M (.tuple Q) b7 b8 b9 b10 b11 b12),[some (aG ns k3 x3)]):=p2;have e:iK=.seq (bX iK) (.seq (bX (bC iK)) (bC (bC iK))):=rfl;refine⟨[],?_⟩;rw[aQ rfl (d+10) _ [] rfl];have s0:xs (aD fns (d+10)) (bX iK) [some (.d (.list (ns.map PyData.int))),none,none,none,none,none,none,none,none,none,none,none,none] []=some (.nx [some (.d (.list (ns.map PyData.int))),some (.loc 0),none,none,none,none,none,none,none,none,none,none,none],[some (aG ns 0 0)]):=by
  simp only[gS2,bX,iK,gG]
 have s1:xs (aD fns (d+10)) (bX (bC iK)) [some (.d (.list (ns.map PyData.int))),some (.loc 0),none,none,none,none,none,none,none,none,none,none,none] [some (aG ns 0 0)]=some (.nx [some (.d (.list (ns.map PyData.int))),some (.loc 0),some (.d P),none,none,none,none,none,none,none,none,none,none],[some (aG ns k0 x0)]):=by
  simp only[gS3,bX,bC,iK,lN,mn,cK,et,e0]
 rw[<- hsc] at s1 s0;have tl:xs (aD fns (d+10)) (bC (bC iK)) [sc,some (.loc 0),some (.d P),none,none,none,none,none,none,none,none,none,none] [some (aG ns k0 x0)]=some (.rt (.d (.bool true)),[some (aG ns k3 x3)]):=by
  simp only[gS3,bC,iK,eY,i0,eF,eM',eS',lY,lR,nl,p1',eW,isn,p2',eqY]
 have full:xs (aD fns (d+10)) iK [sc,none,none,none,none,none,none,none,none,none,none,none,none] []=some (.rt (.d (.bool true)),[some (aG ns k3 x3)]):=by
  rw[e,dP s0,dP s1,tl]
 rw[hsc] at full;show((xs (aD fns (d+10)) iK [some (.d (.list (ns.map PyData.int))),none,none,none,none,none,none,none,none,none,none,none,none] []).bind _)=_;rw[full];rfl
theorem main(ns:List Int)(h1:ns.length<=63)(h2:∀ i∈ns,Builtin.Int.intBits i<=1048576):∃ call S',aD fns 12 73=some (1,call)/\call [.d (.list (ns.map PyData.int))] []=some (.d (.bool true),S'):=by
 obtain⟨S',e⟩:=aRw 1 ns h1;exact aOQ (d:=11) rfl rfl e
theorem oks:∀ F∈fns,zW fns tbs F=true:=by decide +kernel
theorem bok:∀ F∈fns,aCH F=true:=by decide +kernel
theorem binds:∀ F∈fns,aB1 F:=λ F hF=>aMM (bok F hF)
end K72
structure PySem.W.Fast:Prop where (tw8913902967414229722 tw5343907932341637791 tw14495776380640981179 tw4490737000895694522 tw14783871141756667591 tw6217779768588778434 tw11289271063612148329 tw13102754739212017469 tw7583424563404257232 tw9689480124790324198 tw4787210652695956947 tw13509570869308148927 tw12601523362177141380 tw6443773388289981570 tw13679759712709475957 tw18011998182346632990 tw17169309714190149159 tw5624104018826995924 tw8097936359976859742 tw17940718397331277202 tw14121652614258858853 tw5242064355129578364 tw18308437235523691789 tw8765472303377098333 tw11775890098841337049 tw4216857031207375188 tw17796056822453648558 tw268068662565464152 tw15302581671558248069 tw10405622791177031855 tw5947812603430836080 tw2768055661076237194 tw17491814003451771054 tw8220030532470751156 tw198774086694921052 tw16602178127166253554 tw7314547095104730048 tw18067053531595658365 tw18366649806560591563 tw5332036668131434398 tw13698023045168822987 tw5185181465816302090 tw10871023011698905002 tw11337418368074279210 tw12328946916483204070 tw1873699833520866149 tw9756035821233795387 tw2732285240780206978 tw5542825214141168831 tw8834992152594034783 tw2814956545727063194 tw2321494604411988454 tw15672319794318634435 tw4620171782836053567 tw2627188886390934188 tw2263749346005602761 tw11978161923018830495 tw3874287569379785027 tw12459372011565876779 tw6459756348076267760 tw14945516104770330865 tw3932715155795124104 tw4107205909216774247 tw908588813306458751 tw1984554554723454495 tw10264185548338674410 tw11098189688871491035 tw17437907752923549701 tw475470933186491474 tw141958347835839066 tw10677282536221658492 tw7899237482681382324 tw17916189483399520291 tw14714387681769468674 tw8322204959757243320 tw3108241637195225387 tw9375570437742913101 tw16508754728856355615 tw13616564136384186591 tw1489908444735539155 tw15859136501190929613 tw10562121997168705189 tw6567865964551298377 tw3577967720529101203 tw3915076120618055181 tw16942452225838188852 tw9339610465253070333 tw7687872704535651943 tw7918284226601306181 tw3926324204249918232 tw17087120383826693011 tw11098822686281525010 tw16339434527427880380 tw2702432912405082929 tw1872107641702518313 tw8441991215287238474 tw8093886401233004850 tw14376437968092436541 tw4197310441764471533 tw1034318200155309216 tw11380071611965756255 tw15776682820436776782 tw1162358906210382615 tw1398676448224071066 tw12654752485860849134 tw1297272635083620830 tw9354450914311932290 tw9719859334393475343 tw9442299107810347001 tw17768926609355469642 tw15565280947576026815 tw13387943574066717545 tw9177995608320951241 tw17700441748116365171 tw5652138035499826920 tw9316265570354015083 tw11191292700952278231 tw11612943627132933473 tw16450989193803988561 tw15005090958777836477 tw15630507977933723138 tw4143131605905691025 tw1441052677040093988 tw8528815367294566724 tw6577746915896657355 tw12932050113667634637 tw13392610769034911695 tw2027881267170804522 tw870962722988474044 tw2510734544742037036 tw12778040343427954719 tw1040097834576518316 tw15768369867867243485 tw471655510204162087 tw12402507339310103267 tw14321765566389046464 tw8026483070499645904 tw13439340489462463774 tw15628035452195747321 tw16564790972300216020 tw13996587459822954108 tw11679553773912178765 tw16162916844409869473 tw6958078151231650234 tw9538811506167386962 tw11662594991317709567 tw8272482812575357410 tw464338096544041547 tw10632247290650304771 tw3856710544274552766 tw12062842811659518509 tw9743314822202576561 tw655378907379868580 tw457354779383009040 tw12363049351514518570 tw1255982571789487354 tw9251503464852099758 tw17527294377058114210 tw4544815725491946761 tw7533116432273933065 tw11415785544137300951 tw5718550895964461267 tw3249304052253364868 tw13632813550882843754 tw16962747858011821976 tw2098134275631288845 tw14702193759320584324 tw13712593176026369999 tw3088497537104810373 tw6358252031589050535 tw6005535208436063428 tw3618206091711204166 tw14486776364629210843 tw360156298686272901 tw3545579062412775876 tw2102214504126573943 tw733877735005698991 tw5886438189260597618 tw6131261617101176319 tw15866950791864534937 tw1260175182943942378 tw7462326595620729814 tw16367707607794086656 tw567952668607556240 tw11244863839815959544 tw694009394615990780 tw9150077762045345802 tw2549534447203502103 tw5067755316092055490 tw17020909648308949689 tw13876711951691506419 tw9025424932896467642 tw423909196122795809 tw16791536589703062501 tw513581309645818042 tw15944459659596387563 tw15809008391189015381 tw11033851212922282372 tw1388537926424071520 tw11600841076983751202 tw1398311597523034834 tw13463940073372395146 tw17968458567916442799 tw6738823697764418273 tw10200344410909368665 tw4362733780446447512 tw11804296561574622804 tw17810276772968567893 tw17803310896613084881 tw8785498230827690238 tw734158901792512593 tw2663911668612819917 tw13689098083604513690 tw11444409898232104012 tw13960674661266177392 tw6711489742865752449 tw11950591977549320803 tw17425399739543214641 tw9021646254245634085 tw17239503852332646349 tw17585240834157316005 tw15867405734656273082 tw16917848491029038492 tw7435422427717964352 tw12699379262738168247 tw8281799861364088595 tw4192703406589913142 tw11689493159032418978 tw9605118226985015733 tw6399008459675702589 tw10027906661911949819 tw5110274678019941707 tw13994779036491297853 tw3377504272412002002 tw1836553128181243107 tw1384379462031974966 tw4926819546796159161 tw12398749399115064835 tw8970005761275817301 tw10091967425110372900 tw3371080046839374572 tw17453167388803146182 tw3473753149654742069 tw6146520616469535132 tw16986451173087170715 tw2566189712806777817 tw2057589731362833043 tw3148623516877250982 tw13003934692368708088 tw16154582323326603945 tw17362440989653921491 tw7771649384733115529 tw9971028023216297922 tw5329639574518256674 tw5811646651960098733 tw15900466862112147811 tw4821438414913130509 tw2912266629167004532 tw9914340544634784874 tw1560511515431317246 tw4502104358485620673 tw5299845951686367924 tw9385055411649063827 tw2268578260809381940 tw10496709373728606679 tw12298622272322959427 tw8742327706166548899 tw11330457825489857602 tw17316976650986006028 tw7571037021347905683 tw17598659349947182288 tw17659848489036089706 tw15008823454349340344 tw1252105284818114096 tw14236038000738684867 tw7736186724530286148 tw6041163463152473750 tw4540764747954003147 tw2965695818135023763 tw3616294481383691742 tw10113229434242282797 tw8670792071054448495 tw7689499773604923443 tw9045214165407164344 tw4778875947186876955 tw12818006232369396600 tw11333980399598150839 tw8316160358613823375 tw5899691523287826826 tw4370370645282724863 tw2845704966167825320 tw2546894835268775392 tw11234269498767912121 tw17641879286616112191 tw2880892022392318214 tw3465136348492509172 tw10279340469498325514 tw6829627464384436898 tw17037354312367415046 tw8579880331300557479 tw3831036314881491980 tw4242714635577202215 tw8537855600448632051 tw18197694982987913763 tw9261925705118774425 tw18077581632425518178 tw18266420826263780695 tw17387879752750142362 tw2021965781966710066 tw8660543045066256248 tw6027798003546803706 tw10564875721538272521 tw3316216269429570184 tw6996093327450292847 tw8251020572211400579 tw6332470882871532703 tw4869219474427170325 tw4947929062389052911 tw3282135891511399687 tw12685509322403292535 tw877547722035063721 tw3975385207763651021 tw12563073279362025097 tw4166249846840659992 tw13696830574781302932 tw5217097542863375057 tw59842991832105055 tw2348787430118680502 tw2804170935061530911 tw9996987453322528459 tw8881390646237909974 tw10421238700503004158 tw6872859560381559450 tw1740871858838879946 tw5922506961568872357 tw12715457561630686140 tw4952456839060716424 tw8005398124055579142 tw11648230849687662348 tw9527709469685196655 tw12160322754256287534 tw8813577381227849947 tw1819979332362886315 tw17162395576083171347 tw18125856429676954770 tw13505189274382101014 tw6796709212042426201 tw15671384800653307098 tw11533460797163298171 tw16148803874331472798 tw9484715904360537847 tw103393513347418821 tw9504095958519626164 tw7564347928442867431 tw6261408207260393639 tw5583592041936869726 tw16461178072551345170 tw5032420422946188546 tw227601220610583306 tw9533407912564741407 tw6075892230126239867 tw12097701458937738601 tw5186730655461486340 tw15966276557610968275 tw16622509241176989903 tw11293661572745547120 tw11932677044426470461 tw1471515782868158404 tw13408143411138380940 tw14751737729915567820 tw7728033652732119946 tw17097589098524617146 tw10539199848114974638 tw6116137095233391435 tw8177862220949207538 tw12915697304299168545 tw11094845392351754207 tw7836033944406249374 tw15127541617321400071 tw1180476492936581482 tw7708878605690507050 tw11016420100103000958 tw3649249931998039791 tw2792785132075378442 tw3392251388594385674 tw11199896001510919787 tw8190494642631163512 tw11974192224948428056 tw8044446118393106499 tw3418047577781395740 tw16881442662575320385 tw186014823876297833 tw13705555262574418606 tw4522885342617139165 tw8456185887418449487 tw3411219830893626483 tw5363038634187081962 tw18168725339683500711 tw13026666746348076229:True)
set_option maxRecDepth 100000 in
set_option maxHeartbeats 0 in
theorem PySem.Challenge.cw_fewbits_k72_least_stays_holds : PySem.Challenge.rw_fewbits_k72_least_stays.Holds := by
 w_on;o_law;k_head;(case hw=>w_witness2)
 k_fill
 refine EV.law_of (l:=PySem.Challenge.rw_fewbits_k72_least_stays) K72.fns K72.tbs 73 12 _ "_law_script" rfl rfl ⟨rfl,by decide,by decide⟩ (λ w h Y=>PySem.W.kIn_of Y) K72.oks K72.binds rfl rfl rfl ?top ?tbl ?cnl ?tbn K72.main
 case top =>
  intro w h KX F hF;simp only[K72.fns,List.mem_cons,List.not_mem_nil,or_false] at hF;rcases hF with rfl | rfl | rfl | rfl | rfl | rfl | rfl | rfl | rfl | rfl | rfl | rfl | rfl | rfl | rfl | rfl | rfl | rfl | rfl | rfl | rfl | rfl | rfl | rfl | rfl | rfl | rfl | rfl | rfl | rfl | rfl | rfl | rfl | rfl | rfl | rfl | rfl | rfl | rfl | rfl | rfl | rfl | rfl | rfl | rfl | rfl | rfl | rfl | rfl | rfl | rfl | rfl | rfl | rfl | rfl | rfl | rfl | rfl | rfl | rfl | rfl | rfl | rfl | rfl | rfl | rfl | rfl | rfl | rfl | rfl | rfl | rfl | rfl | rfl
  all_goals
   refine' EV.top_mk ?a1 ?l1 ?c1 ?k1
   (case a1=>k_is)
   (case l1=>k_is)
   (case c1=>k_is)
   (case k1=>k_is)
 case tbl =>
  intro w h KX t ht;simp only[K72.tbs,List.mem_cons,List.not_mem_nil,or_false] at ht;rcases ht with rfl
  all_goals
   refine' EV.tab_mk ?a1 ?l1 ?c1
   (case a1=>k_is)
   (case l1=>k_is)
   (case c1=>(repeat' (first | exact True.intro | apply And.intro))<;>first | rfl | exact⟨_,rfl⟩)
 case cnl =>
  intro w h KX t ht;simp only[K72.tbs,List.mem_cons,List.not_mem_nil,or_false] at ht;rcases ht with rfl | rfl | rfl | rfl | rfl | rfl | rfl
  all_goals
   refine' EV.con_mk ?a1 ?l1 ?z1 ?c1
   (case a1=>k_is)
   (case l1=>k_is)
   (case z1=>decide)
   (case c1=>(repeat' (first | exact True.intro | apply And.intro))<;>first | rfl | exact⟨_,rfl⟩)
 case tbn =>
  intro w h KX x hx;simp only[EV.bltNames,List.mem_cons,List.not_mem_nil,or_false] at hx;rcases hx with rfl | rfl | rfl | rfl | rfl | rfl | rfl | rfl | rfl | rfl | rfl | rfl | rfl | rfl | rfl | rfl | rfl | rfl
  all_goals k_is
