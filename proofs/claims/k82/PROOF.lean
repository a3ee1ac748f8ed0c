import PyProof.Rows.All
import Wide.All
import OpenK.AllK
import Wide.FinOn
import Lean
import PyProof.EqAt
import PyProof.EqKinds
import PyProof.TupleCall
import PyProof.ListMulRoad
import PyProof.FactsAll.tuple
import PyProof.MaxThree
import PyProof.SeqI3
import PyProof.Draws
import PyProof.ZipIter
import PyProof.NeKinds
import PyProof.Rows.SortShell
import PyProof.ListRange
import PyProof.DictTable
import PyProof.Rows.Range3
import PyProof.FactsAll.range_2
import PyProof.Rows.SeqMore2
import PySem.Challenge.RW_fewbits_k82_all_tries
set_option compiler.extract_closed false
set_option genInjectivity false
set_option genSizeOf false
open List renaming getElem?_append_right->yAa,replicate->yAb,size_toArray->yAd,length_map->yAe,range->yAg,getElem?_eq_getElem->yAi,map_cons->yAj,getElem?_set_ne->yAk,replicate_succ->yAo,getElem?_set_self->yAp,length_set->yAq,mem_singleton->yAr,append_nil->yAs,lookup_cons->yAw,drop_eq_getElem_cons->yBa,not_mem_nil->yBb,mem_cons->yBd,getElem?_cons_zero->yBe,filterMap_cons->yBi,flatten_cons->yBm,append_assoc->yBn,take_length->yBp,foldl_cons->yBs,getElem?_eq_none->yBu,map_append->yBy,length_take->yCd,drop_length->yCf,length_cons->yCg,reverse_cons->yCs,length_range->yCu,take_left->yCx,length_replicate->yCz,length_singleton->yDa,filter_cons->yDb,mem_append_left->yDc,take->yDe,map_congr_left->yDf,map_nil->yDj,drop_zero->yDn,nodup_append->yDp,getElem_inj->yDr,map_map->yDv
open Nat renaming le_refl->yAc,lt_irrefl->yAl,sub_self->yBj,add_sub_cancel_left->yBo,lt_succ_self->yCc,le_of_eq->yCy,le_of_lt->yDh,ne_of_gt->yDi,zero_add->yDk,lt_of_le_of_lt->yDl,lt_or_ge->yDt
open Int renaming toNat_natCast->yAz,natCast_nonneg->yBq,fdiv_eq_ediv_of_nonneg->yBz,le_trans->yDu
open Bool renaming false_ne_true->yAm,false_eq_true->yAu,and_eq_true->yCe,and_true->yDd
open Option renaming bind_some->yAn,bind->yCt
open PySem.Builtin.SmallTypes renaming nextOf->yBk
open PySem.Builtin.Int renaming intBits->yAh
open PyProof.Rows renaming callWith_type1->yBr
open PySem.Heap renaming get?_update_other->yAx,get?_update_self->yBx,SameBut->yCj,size_push->yCw
open PySem.PyData renaming int->yAf,depthAll->yAv,tuple->yBg,canLayAll0->yBh,bool->yCi,eqv->yCm,eqvAll->yCp,list->yDx
open PySem.W renaming keepIn->yAt,emptyDict->yAy,fnOf->yBf,instObj->yBl,nsIn->yBt,kia_one->yBw,InstAt->yCa,codeIn->yCb,findIn->yCv,methodObj->yDo,mg_of->yDq,OpenLaw->yDs,lookIn->yDw
open PySem.F renaming slot_int_rmul->yBv,args_tuple_add_2->yCk,args_tuple_mul_2->yCl,entry_tuple_add->yCn,entry_tuple_mul->yCo,slot_tuple_add->yCq,slot_tuple_mul->yCr
open PySem.Builtin renaming divisionGoesByPylong->yBc,bitAnd->yDm
open PySem.Builtin.Tuple renaming tupleTooMany->yDg
open Array renaming length_toList->yCh
open PySem renaming Value->qz,Shared->qx,Addr->qv,Expr->qw,mainGlobals->qy,sizeLine->qk,wpAny->qu,Program->qo,World->zq,Around->zx,starEach->zj,Scope->zv,bootBuiltins->zw,Stmt->zy,binaryOp->zk,assignEach->zu,wpAny_field->zo,foldedSetIterable->xq,compareOp->xj,rawInt->xw,FuncData->xy,wpAny_truthy_bool->xu,wpAny_Call_Name_kw->jq,behindInMarks->jz,wpAny_holding->jx,wpAny_pyIter_list->jj,wpAny_newObj_type->jv,NameKind->jw,sizeLine_eq->jy,Operator->jk,wpAny_passesOwn->ju,wpAny_pyIter_tuple->jo,CmpOp->vq,codeAny->vz,wpAny_pyNext_list_item->vx,wpAny_pyIter_enum->vj,wpAny_pyNext_list_end->vv,call_meets->vw,letOwnedTupleGo->vy,shortFactorBits->vk,wpAny_letOwnedTupleGo_enum->vo,wpAny_binaryOp_repeat_ref->wq,UnaryOp->wz,wpAny_call_entry->wj,typeIs_int->ww,wpAny_standAt->wu,wpAny_attempt->yq,pyNext->yz
open Option renaming some->qq,none->qj
abbrev wB:=@PySem.wpAny_bind
abbrev wP:=@PySem.wpAny_pure
abbrev hpS:=@PySem.Heap.get?_push_of_some
theorem gIm {α:Type _}{l:List α}{i:Nat}{a:α}:l[i]? = qq a->∃ h,l[i]=a:=List.getElem?_eq_some_iff.mp
abbrev dqF:=@decide_eq_false
abbrev dqT:=@decide_eq_true
abbrev oqT:=@of_decide_eq_true
abbrev FrG:=PySem.W.Frag
abbrev xAa:=@PySem.Heap.lt_size
abbrev xAb:=@List.getElem?_map
abbrev xAc:=@Nat.lt_of_lt_of_le
abbrev xAd:=@List.mem_cons_self
abbrev xAe:=@PySem.Heap.get?_push_size
abbrev xAf:=@List.mem_cons_of_mem
abbrev xAg:=@Nat.le_trans
abbrev xAh:=@Nat.ne_of_lt
abbrev xAi:=@List.mem_of_getElem?
abbrev xAj:=@List.getElem?_append_left
abbrev xAk:=@List.length_append
abbrev xAl:=@List.mem_append_right
set_option Elab.async false
set_option linter.all false
set_option maxRecDepth 100000
namespace L2
open PySem PySem.Spec PyProof.Rows
abbrev cG:=Sum Int Str
noncomputable def aAs:cG->qz->Bool
 | .inl k,v=>Value.isInt k v
 | .inr x,v=>Value.isStrOf x v
noncomputable def aHA(w:zq):cG->Int
 | .inl k=>hashInt k
 | .inr x=>hashStr w x
theorem fM:∀ {k:cG}{v:qz},aAs k v=true->(∃ i t,k=Sum.inl i/\v=Value.int i t)\/(∃ x t,k=Sum.inr x/\v=Value.str x t)
 | .inl i,v,h=>by
   obtain⟨t,e⟩:=Value.isInt_shape (k:=i) (v:=v) h;exact .inl ⟨i,t,rfl,e⟩
 | .inr x,v,h=>by
   obtain⟨t,e⟩:=Value.isStrOf_shape (x:=x) (v:=v) h;exact .inr ⟨x,t,rfl,e⟩
theorem aEN(a b:Int):decide ((Sum.inl a:cG)=Sum.inl b)=(a==b):=by
 by_cases e:a=b
 ·subst e;simp
 ·have h:¬ (Sum.inl a:cG)=Sum.inl b:=λ q=>e (Sum.inl.inj q)
  rw[dqF h];exact(beq_eq_false_iff_ne.mpr e).symm
theorem aE5(a b:Str):decide ((Sum.inr a:cG)=Sum.inr b)=decide (a=b):=by
 by_cases e:a=b
 ·subst e;simp
 ·have h:¬ (Sum.inr a:cG)=Sum.inr b:=λ q=>e (Sum.inr.inj q)
  rw[dqF h,dqF e]
theorem aEm(a:Int)(b:Str):decide ((Sum.inl a:cG)=Sum.inr b)=false:=dqF (λ q=>nomatch q)
theorem aDX(a:Str)(b:Int):decide ((Sum.inr a:cG)=Sum.inl b)=false:=dqF (λ q=>nomatch q)
noncomputable def rB(prog:qo)(w:zq):PySem.KeyKind prog w cG where
 is:=aAs
 hash:=aHA w
 inj:=λ v a b ha hb=>by
  rcases fM ha with ⟨i,t,rfl,rfl⟩ | ⟨x,t,rfl,rfl⟩
  ·rcases fM hb with ⟨j,u,rfl,e⟩ | ⟨y,u,rfl,e⟩
   ·injection e with e1 _;rw[e1]
   ·exact nomatch e
  ·rcases fM hb with ⟨j,u,rfl,e⟩ | ⟨y,u,rfl,e⟩
   ·exact nomatch e
   ·injection e with e1 _;rw[e1]
 byValue:=λ k v h=>by
  rcases fM h with ⟨i,t,rfl,rfl⟩ | ⟨x,t,rfl,rfl⟩<;>rfl
 pyHash:=λ hv h=>by
  rcases fM hv with ⟨i,t,rfl,rfl⟩ | ⟨x,t,rfl,rfl⟩
  ·exact wpAny_pyHash_int h
  ·exact wpAny_pyHash_str h
 eqBool:=λ hu hv h=>by
  rcases fM hu with ⟨i,t,rfl,rfl⟩ | ⟨x,t,rfl,rfl⟩
  ·rcases fM hv with ⟨j,u,rfl,rfl⟩ | ⟨y,u,rfl,rfl⟩
   ·rw[aEN] at h;exact wpAny_eqBool_int h
   ·rw[aEm] at h;exact SeqAt.EqAt.int_str i t y u _ _ _ _ h
  ·rcases fM hv with ⟨j,u,rfl,rfl⟩ | ⟨y,u,rfl,rfl⟩
   ·rw[aDX] at h;exact SeqAt.EqAt.str_int x t j u _ _ _ _ h
   ·rw[aE5] at h;exact wpAny_eqBool_str h
 «strs»:=λ k x t v h=>by
  rcases fM h with ⟨i,u,rfl,e⟩ | ⟨y,u,rfl,e⟩
  ·exact nomatch e
  ·injection e with e1 _
   subst e1;cases v<;>rfl
end L2
namespace L2
open PySem PySem.Spec PyProof.Rows
inductive V where
 | non | bl (b:Bool) | int (i:Int) | str (x:Str) | byt (b:Array UInt8) | flt (b:UInt64) | ref (a:qv) | ty (n:String)
 deriving DecidableEq
noncomputable def aI:V->qz->Prop
 | .non,u=>u=Value.none
 | .bl b,u=>u=Value.bool b
 | .int i,u=>∃ t,u=Value.int i t
 | .str x,u=>∃ t,u=Value.str x t
 | .byt b,u=>∃ t,u=Value.bytes b t
 | .flt b,u=>∃ t,u=Value.float b t
 | .ref a,u=>u=Value.ref a
 | .ty n,u=>u=Value.type n
noncomputable abbrev aH:List V->List qz->Prop:=Paired aI
theorem aH.length{xs:List V}{us:List qz}(r:aH xs us):xs.length=us.length:=Paired.length r
theorem aH.get:∀ {xs:List V}{us:List qz}{i:Nat}{x:V},aH xs us->xs[i]? = qq x->∃ u,us[i]? = qq u/\aI x u
 | _,_,_,_,.nil,e=>by simp at e
 | _,_,0,_,.cons r _,e=>by simp at e;subst e;exact⟨_,rfl,r⟩
 | _,_,i+1,x,.cons _ t,e=>by
   obtain⟨u,h1,h2⟩:=aH.get (i:=i) (x:=x) t (by simpa using e)
   exact⟨u,by simpa using h1,h2⟩
theorem aH.set{x:V}{u:qz}(r:aI x u):∀ {xs:List V}{us:List qz} (i:Nat),aH xs us->aH (xs.set i x) (us.set i u)
 | _,_,_,.nil=>.nil
 | _,_,0,.cons _ t=>.cons r t
 | _,_,i+1,.cons q t=>.cons q (aH.set r i t)
theorem aH.append:∀ {xs ys:List V}{us ws:List qz},aH xs us->aH ys ws->aH (xs++ys) (us++ws)
 | _,_,_,_,.nil,s=>s
 | _,_,_,_,.cons r t,s=>.cons r (aH.append t s)
theorem aH.take:∀ {xs:List V}{us:List qz} (n:Nat),aH xs us->aH (xs.take n) (us.take n)
 | _,_,0,_=>.nil
 | _,_,_+1,.nil=>.nil
 | _,_,n+1,.cons r t=>.cons r (aH.take n t)
theorem aH.drop:∀ {xs:List V}{us:List qz} (n:Nat),aH xs us->aH (xs.drop n) (us.drop n)
 | _,_,0,r=>r
 | _,_,_+1,.nil=>.nil
 | _,_,n+1,.cons _ t=>aH.drop n t
noncomputable def aAF:Option V->Option qz->Prop
 | some v,qq u=>aI v u
 | none,qj=>True
 | _,_=>False
noncomputable def KV{κ:Type}:List (κ×V)->List (κ×qz)->Prop:=Paired λ(p:κ×V) (q:κ×qz)=>p.1=q.1/\aI p.2 q.2
noncomputable def kV:cG->V
 | .inl i=>.int i
 | .inr x=>.str x
inductive HO where
 | lst (xs:List V)
 | tup (xs:List V)
 | dK (aO:List (cG×V)) | dT (aO:List (List cG×V))
 | set (S:Int->Bool) (n:Nat)
 | ins (C dx:qv) (fs:List (Str×V))
 | own (x:qv)
 | xd (fs:List (Str×V))
 | met (f x:qv)
 | rng (lo hi:Int)
 | frz (o:Obj) (u:HO)
 | tbl (ps:Array qz)
 | ext (φ:Heap->Prop)
abbrev Hp:=qv->Option HO
noncomputable def aS(H:Hp)(a:qv)(o:HO):Hp:=λ b=>if b=a then qq o else H b
theorem bP{H:Hp}{a:qv}{o:HO}:aS H a o a=qq o:=by unfold aS;rw[if_pos rfl]
theorem aT{H:Hp}{a b:qv}{o:HO}(h:b≠a):aS H a o b=H b:=by unfold aS;rw[if_neg h]
theorem bV{H:Hp}{a b:qv}{o:HO}(h:H a=qq o)(h':H b=qj):a≠b:=by
 intro e;subst e;rw[h] at h';cases h'
section
variable (P : qo)(w : zq)
noncomputable def cQ(H:Hp)(h:Heap)(a:qv):HO->Prop
 | .lst xs=>xs.length<=qk/\∃ (aC:List qz) (n:Nat),aH xs aC/\h.get? a=qq {cls:=.type "list",data:=.seq aC.toArray n }
 | .tup xs=>xs.length<=qk/\∃ aC:List qz,aH xs aC/\IsTup h a aC.toArray
 | .dK aO=>aO.length<=qk/\(a==sysModules)=false/\∃ vs,KV aO vs/\h.DictOf (rB P w) a vs
 | .dT aO=>aO.length<=qk/\(a==sysModules)=false/\∃ xs:List (List cG×qv×qz),
    Paired (λ(p:List cG×V) (q:List cG×qv×qz)=>p.1=q.1/\H q.2.1=qq (.tup (p.1.map kV))/\aI p.2 q.2.2) aO xs /\
    ∃ o es ep,h.get? a=qq o/\o.ExactDict/\o.data=.dict es ep/\es.toList=xs.map (entryOfKey (tupleKind (rB P w)))/\(xs.map (·.1)).Nodup
 | .set S n=>h.SetOf (intKind P w) a S n
 | .ins C dx fs=>H dx=qq (.own a)/\fs.length<=1000/\dx≠a/\h.get? a=qq (yBl C dx) /\
    ∃ mA,h.Ns1 dx mA/\(∀ f,aAF (fs.lookup f) (mA f))/\PySem.Within mA (fs.map (·.1))
 | .own _=>∃ o,h.get? a=qq o
 | .xd fs=>∃ mA,h.Ns1 a mA/\∀ f,aAF (fs.lookup f) (mA f)
 | .rng lo hi=>∃ t u v,h.get? a=qq {cls:=.type "range",data:=.fields #[.int lo t,.int hi u,.int 1 v] }
 | .frz o u=>h.get? a=qq o/\cQ H h a u
 | .tbl ps=>h.get? a=qq {cls:=.none,data:=.fields ps }
 | .met f x=>h.get? a=qq (yDo (.ref f) (.ref x))
 | .ext φ=>φ h/\(∃ o,h.get? a=qq o)/\∀ h1 h2:Heap,φ h1->(∀ o,h1.get? a=qq o->h2.get? a=qq o)->φ h2
def bN(H:Hp)(h:Heap):Prop:=∀ a o,H a=qq o->cQ P w H h a o
end
section
variable {P : qo}{w : zq}{H H' : Hp}{h h' : Heap}{a : qv}{o : HO}
theorem cQ.lt(x:cQ P w H h a o):a<h.objs.size:=by
 cases o with
 | lst xs=>obtain⟨_,_,_,_,e⟩:=x;exact xAa e
 | tup xs=>obtain⟨_,_,_,p⟩:=x;exact p.lt
 | dK aO=>obtain⟨_,_,_,_,o,_,_,e,_⟩:=x;exact xAa e
 | dT aO=>obtain⟨_,_,_,_,o,_,_,e,_⟩:=x;exact xAa e
 | set S n=>obtain⟨o,_,_,_,e,_⟩:=x;exact xAa e
 | ins C dx fs=>obtain⟨_,_,_,e,_⟩:=x;exact xAa e
 | own y=>obtain⟨_,e⟩:=x;exact xAa e
 | xd fs=>obtain⟨_,⟨_,_,_,e,_⟩,_⟩:=x;exact xAa e
 | rng lo hi=>obtain⟨_,_,_,e⟩:=x;exact xAa e
 | frz ob u=>obtain⟨e,_⟩:=x;exact xAa e
 | tbl ps=>exact xAa (show h.get? a=qq _ from x)
 | met f y=>exact xAa (show h.get? a=qq _ from x)
 | ext φ=>obtain⟨_,⟨_,e⟩,_⟩:=x;exact xAa e
theorem Paired.mapP{α β:Type}{F G:α->β->Prop}:∀ {l₁:List α}{l₂:List β},Paired F l₁ l₂->(∀ a b,F a b->G a b)->Paired G l₁ l₂
 | _,_,.nil,_=>.nil
 | _,_,.cons r t,f=>.cons (f _ _ r) (Paired.mapP t f)
theorem cQ.stay(x:cQ P w H h a o)(k:∀ b u,(b=a\/H b=qq (.own a))->h.get? b=qq u->h'.get? b=qq u)
 (ho:∀ b,H b=qq (.own a)->H' b=qq (.own a)) (ht:∀ b xs,H b=qq (.tup xs)->H' b=qq (.tup xs)):cQ P w H' h' a o:=by
 induction o with
 | lst xs=>obtain⟨z,aC,n,r,e⟩:=x;exact⟨z,aC,n,r,k _ _ (.inl rfl) e⟩
 | tup xs=>obtain⟨z,aC,r,ob,e,c⟩:=x;exact⟨z,aC,r,ob,k _ _ (.inl rfl) e,c⟩
 | dK aO=>obtain⟨z,y,vs,r,ob,es,ep,e,c⟩:=x;exact⟨z,y,vs,r,ob,es,ep,k _ _ (.inl rfl) e,c⟩
 | dT aO =>
   obtain⟨z,y,xs,r,ob,es,ep,e,c⟩:=x;exact⟨z,y,xs,Paired.mapP r λ p q z=>⟨z.1,ht _ _ z.2.1,z.2.2⟩,ob,es,ep,k _ _ (.inl rfl) e,c⟩
 | set S n=>obtain⟨ob,es,ep,t,e,c⟩:=x;exact⟨ob,es,ep,t,k _ _ (.inl rfl) e,c⟩
 | ins C dx fs =>
   obtain⟨d,z,ne,e,mA,⟨od,es,ep,e2,c⟩,r⟩:=x;exact⟨ho _ d,z,ne,k _ _ (.inl rfl) e,mA,⟨od,es,ep,k _ _ (.inr d) e2,c⟩,r⟩
 | own y=>obtain⟨ob,e⟩:=x;exact⟨ob,k _ _ (.inl rfl) e⟩
 | xd fs=>obtain⟨mA,⟨od,es,ep,e,c⟩,r⟩:=x;exact⟨mA,⟨od,es,ep,k _ _ (.inl rfl) e,c⟩,r⟩
 | rng lo hi=>obtain⟨t,u,v,e⟩:=x;exact⟨t,u,v,k _ _ (.inl rfl) e⟩
 | frz ob u ih=>obtain⟨e,q⟩:=x;exact⟨k _ _ (.inl rfl) e,ih q⟩
 | tbl ps =>
   have e:h.get? a=qq {cls:=.none,data:=.fields ps }:=x;show h'.get? a=qq {cls:=.none,data:=.fields ps };exact k a _ (.inl rfl) e
 | met f y =>
   have e:h.get? a=qq (yDo (.ref f) (.ref y)):=x;show h'.get? a=qq (yDo (.ref f) (.ref y));exact k a _ (.inl rfl) e
 | ext φ=>obtain⟨p,⟨o,e⟩,st⟩:=x;exact⟨st _ _ p λ o q=>k _ _ (.inl rfl) q,⟨o,k _ _ (.inl rfl) e⟩,st⟩
theorem bN.lt(x:bN P w H h)(e:H a=qq o):a<h.objs.size:=(x a o e).lt
theorem bN.fresh(x:bN P w H h)(e:h.objs.size<=a):H a=qj:=by
 cases q:H a with
 | none=>rfl
 | some u=>exact absurd (xAc (x.lt q) e) (yAl _)
theorem bN.kept(x:bN P w H h)(k:∀ b u,h.get? b=qq u->h'.get? b=qq u):bN P w H h':=λ a o e =>
 (x a o e).stay (λ b u _ q=>k b u q) (λ _ q=>q) λ _ _ q=>q
theorem bN.laid(x:bN P w H h)(k:∀ b u,h.get? b=qq u->h'.get? b=qq u)(hp:h.objs.size<=a)(new:cQ P w (aS H a o) h' a o):bN P w (aS H a o) h':=λ b u e=>by
 have hn:=x.fresh hp
 by_cases hb:b=a
 ·subst hb;rw[bP] at e;cases e;exact new
 ·rw[aT hb] at e;exact(x b u e).stay (λ c v _ q=>k c v q) (λ c q=>by rw[aT (bV q hn)];exact q) λ c xs q=>by rw[aT (bV q hn)];exact q
end
def Rd(H:Hp)(a:qv)(u:HO):Prop:=H a=qq u\/∃ o,H a=qq (.frz o u)
theorem Rd.of{H:Hp}{a:qv}{u:HO}(h:H a=qq u):Rd H a u:=.inl h
theorem Rd.ok{P:qo}{w:zq}{H:Hp}{h:Heap}{a:qv}{u:HO}(r:Rd H a u)(x:bN P w H h):cQ P w H h a u:=by
 rcases r with r | ⟨o,r⟩
 ·exact x a u r
 ·obtain⟨_,q⟩:=x a _ r;exact q
noncomputable def pP:Option HO->Prop
 | some (.lst _)=>True
 | some (.dK _)=>True
 | some (.dT _)=>True
 | some (.set _ _)=>True
 | some (.ins _ _ _)=>True
 | some (.ext _)=>True
 | _=>False
section
variable {P : qo}{w : zq}{H : Hp}{h h' : Heap}{x e : qv}{o' : HO}
theorem bN.write(ok:bN P w H h)(mu:pP (H x))(he:e=x\/H e=qq (.own x))(k:∀ b u,b≠e->h.get? b=qq u->h'.get? b=qq u)(heo:∃ u,h'.get? e=qq u)
 (new:cQ P w (aS H x o') h' x o'):bN P w (aS H x o') h':=λ b u q=>by
 have nown:∀ c y,H c=qq (.own y)->c≠x:=λ c y r z=>by subst z;rw[r] at mu;exact mu
 have ntup:∀ c xs,H c=qq (.tup xs)->c≠x:=λ c xs r z=>by subst z;rw[r] at mu;exact mu
 by_cases hb:b=x
 ·subst hb;rw[bP] at q;cases q;exact new
 ·rw[aT hb] at q
  by_cases hbe:b=e
  ·have q':H b=qq (.own x):=by
    rcases he with z | z
    ·exact absurd (hbe.trans z) hb
    ·rw[hbe];exact z
   rw[q] at q';cases q';obtain⟨v,hv⟩:=heo;exact⟨v,by rw[hbe];exact hv⟩
  ·refine(ok b u q).stay (λ c v hc r=>k c v ?_ r) (λ c r=>by rw[aT (nown c b r)];exact r) λ c xs r=>by rw[aT (ntup c xs r)];exact r
   rcases hc with rfl | hc
   ·exact hbe
   ·rintro rfl;rcases he with z | z
    ·exact nown c b hc z
    ·rw[hc] at z;cases z;exact hb rfl
end
structure Un(fs ex:List qv)(H H':Hp)(h h':Heap):Prop where
 keep:∀ b o,h.get? b=qq o->H b=qj->b ∉ fs->b ∉ ex->h'.get? b=qq o
 slot:∀ b o,h.get? b=qq o->H b=qj->b∈fs->b ∉ ex->∃ sl,h'.get? b=qq {o with slots:=sl }
 free:∀ b o,h.get? b=qq o->H b=qj->b ∉ ex->H' b=qj
 there:∀ b o,h.get? b=qq o->b ∉ ex->∃ o',h'.get? b=qq o'
 tups:∀ b xs,H b=qq (.tup xs)->H' b=qq (.tup xs)
 frzs:∀ b o u,H b=qq (.frz o u)->H' b=qq (.frz o u)
 tbls:∀ b ps,H b=qq (.tbl ps)->∃ more,H' b=qq (.tbl (ps++more))
section
variable {fs fs' ex ex' : List qv}{H H1 H2 : Hp}{h h1 h2 h' : Heap}{a x e : qv}{o : HO}
theorem Un.any(u:Un fs ex H H1 h h1){b:qv}{ob:Obj}(q:h.get? b=qq ob)(n:H b=qj)(hx:b ∉ ex):∃ sl,h1.get? b=qq {ob with slots:=sl }:=by
 by_cases hb:b∈fs
 ·exact u.slot b ob q n hb hx
 ·exact⟨ob.slots,u.keep b ob q n hb hx⟩
theorem Un.trans(a:Un fs ex H H1 h h1)(b:Un fs ex H1 H2 h1 h2):Un fs ex H H2 h h2 where
 keep:=λ c ob q n hc hx=>b.keep c ob (a.keep c ob q n hc hx) (a.free c ob q n hx) hc hx
 slot:=λ c ob q n hc hx=>by
  obtain⟨sl,e1⟩:=a.slot c ob q n hc hx;obtain⟨sl',e2⟩:=b.slot c _ e1 (a.free c ob q n hx) hc hx;exact⟨sl',e2⟩
 free:=λ c ob q n hx=>by
  obtain⟨o',e1⟩:=a.there c ob q hx;exact b.free c o' e1 (a.free c ob q n hx) hx
 there:=λ c ob q hx=>by
  obtain⟨o',e1⟩:=a.there c ob q hx;exact b.there c o' e1 hx
 tups:=λ c xs q=>b.tups c xs (a.tups c xs q)
 frzs:=λ c ob xs q=>b.frzs c ob xs (a.frzs c ob xs q)
 tbls:=λ c ps q=>by
  obtain⟨m1,e1⟩:=a.tbls c ps q;obtain⟨m2,e2⟩:=b.tbls c _ e1;exact⟨m1++m2,by rw[e2,Array.append_assoc]⟩
theorem Un.kept(k:∀ b u,h.get? b=qq u->h'.get? b=qq u):Un fs ex H H h h':=
 ⟨λ b ob q _ _ _=>k b ob q,λ b ob q _ _ _=>⟨ob.slots,k b ob q⟩,λ _ _ _ n _=>n,λ b ob q _=>⟨ob,k b ob q⟩,λ _ _ q=>q,λ _ _ _ q=>q,λ _ ps q=>⟨#[],by rw[q];simp⟩⟩
theorem Un.refl:Un fs ex H H h h:=Un.kept λ _ _ q=>q
theorem Un.laid(k:∀ b u,h.get? b=qq u->h'.get? b=qq u)(hp:h.objs.size<=a)(hn:H a=qj):Un fs ex H (aS H a o) h h' where
 keep:=λ b u q _ _ _=>k b u q
 slot:=λ b u q _ _ _=>⟨u.slots,k b u q⟩
 free:=λ b u q n _=>by rw[aT (xAh (xAc (xAa q) hp))];exact n
 there:=λ b u q _=>⟨u,k b u q⟩
 tups:=λ b xs q=>by rw[aT (bV q hn)];exact q
 frzs:=λ b u xs q=>by rw[aT (bV q hn)];exact q
 tbls:=λ b ps q=>⟨#[],by rw[aT (bV q hn),q];simp⟩
theorem Un.write(mu:pP (H x))(he:e=x\/H e=qq (.own x))(k:∀ b u,b≠e->h.get? b=qq u->h'.get? b=qq u)(heo:∃ u,h'.get? e=qq u):Un fs ex H (aS H x o) h h':=by
 have hx:∀ b,H b=qj->b≠x:=λ b n z=>by subst z;rw[n] at mu;exact mu
 have hb:∀ b,H b=qj->b≠e:=λ b n z=>by
  subst z;rcases he with r | r
  ·exact hx b n r
  ·rw[n] at r;cases r
 have hm:∀ b u,H b=qq u->¬ pP (qq u)->b≠x:=λ b u q nm z=>by subst z;rw[q] at mu;exact nm mu
 refine⟨λ b u q n _ _=>k b u (hb b n) q,λ b u q n _ _=>⟨u.slots,k b u (hb b n) q⟩,λ b u q n _=>by rw[aT (hx b n)];exact n,λ b u q _=>?_,
  λ b xs q=>by rw[aT (hm b _ q λ z=>z)];exact q,λ b u xs q=>by rw[aT (hm b _ q λ z=>z)];exact q,λ b ps q=>⟨#[],by rw[aT (hm b _ q λ z=>z),q];simp⟩⟩
 by_cases hbe:b=e
 ·subst hbe;exact heo
 ·exact⟨u,k b u hbe q⟩
theorem Un.mono(u:Un fs ex H H1 h h1)(hs:∀ b∈fs,b∈fs')(hx:∀ b∈ex,b∈ex'):Un fs' ex' H H1 h h1:=
 ⟨λ b ob q n hb he=>u.keep b ob q n (λ z=>hb (hs b z)) λ z=>he (hx b z),λ _ _ q n _ he=>u.any q n λ z=>he (hx _ z),λ b ob q n he=>u.free b ob q n λ z=>he (hx b z),λ b ob q he=>u.there b ob q λ z=>he (hx b z),u.tups,u.frzs,u.tbls⟩
end
noncomputable def pO(h:Heap)(H:Hp):List qv:=(yAg h.objs.size).filter λ a=>(H a).isSome
noncomputable def gC(h:Heap)(H:Hp):Heap:=PySem.W.hideAll h (pO h H)
theorem aBR(h:Heap)(H:Hp):(gC h H).objs.size=h.objs.size:=PySem.W.hideAll_size _ _
theorem aCx{h:Heap}{H:Hp}{b:qv}{o:Obj}(e:h.get? b=qq o)(n:H b=qj):(gC h H).get? b=qq o:=
 PySem.W.hideAll_get _ e λ hm=>by
  have q:(H b).isSome=true:=(List.mem_filter.mp hm).2;rw[n] at q;simp at q
theorem aC4{h:Heap}{H:Hp}{b:qv}{o:Obj}(e:(gC h H).get? b=qq o):h.get? b=qq o/\H b=qj:=by
 have e':h.get? b=qq o:=PySem.W.of_hideAll (pO h H) e;refine⟨e',?_⟩;cases q:H b with
 | none=>rfl
 | some x =>
   have hm:b∈pO h H:=List.mem_filter.mpr ⟨List.mem_range.mpr (xAa e'),by simp[q]⟩
   have z:(gC h H).get? b=qj:=PySem.W.hideAll_none (pO h H) hm;rw[z] at e;cases e
noncomputable def aDB(g h:Heap)(L:qv):List (qv×Obj):=(yAg h.objs.size).filterMap λ a=>if a=L\/(g.get? a).isSome=true then qj else (h.get? a).map λ o=>(a,o)
noncomputable def bJ(g h:Heap)(L d:qv):List (qv×Obj):=(aDB g h L).filter λ p=>decide (p.1≠d)
end L2
namespace L2
open PySem PySem.Spec PyProof.Rows
structure Mod(K:FrG)(mg:Str->Option qz)(base:Heap):Prop where
 kin:K.In base
 glob:base.Ns qy mg
 blt:∃ mb,base.Ns builtinsNs mb/\∀ x:Str,x ≠ "__name__" -> mb x=zw x
 nolimit:base.NoLimit
structure Cx where
 prog:qo
 w:zq
 K:FrG
 mg:Str->Option qz
 base:Heap
 A:zx
 N:List Str
 s₀:qx
 H₀:Hp
 env:Env
 outer:List Env
 stack:List Env
 ex:List qv
 fn:Str->Bool
 calm:Bool
 pn:List (qv×Obj)
 xe:qz->qx->Prop
noncomputable def bT(l:List Env):List qv:=l.filterMap (·.frame)
noncomputable abbrev Cx.fs(X:Cx):List qv:=bT X.outer
def lZ(sc:zv)(x:Str):Prop:=sc.names.lookup x=qq .local\/sc.names.lookup x=qq .cell\/sc.names.lookup x=qq .free
def Loc(sc:zv)(x:Str):Prop:=sc.names.lookup x=qq .local\/sc.names.lookup x=qq .cell
def aG4(env:Env)(h:Heap)(m:Str->Option qz)(x:Str)(u:qz):Prop:=
 (env.kindOf x=qq .local/\m x=qq u)\/((env.kindOf x=qq .cell\/env.kindOf x=qq .free)/\∃ c,env.cells.lookup x=qq c/\h.IsCell c (qq u))
structure Cx.Ok(X:Cx):Prop where
 mod:Mod X.K X.mg X.base
 kind:X.env.scope.kind=.function
 glob:X.env.globals=qy
 blt:X.env.builtins=builtinsNs
 above:X.s₀.heap.objs.size<=X.env.locals
 inj:∀ x y c,X.env.cells.lookup x=qq c->X.env.cells.lookup y=qq c->x=y
 has:∀ x,(X.env.kindOf x=qq .cell\/X.env.kindOf x=qq .free)->∃ c,X.env.cells.lookup x=qq c
 cab:∀ x c,X.fn x=true->X.env.cells.lookup x=qq c->X.s₀.heap.objs.size<=c
 hd:X.calm=true->X.A.handled=qj
 frames:X.A.frames=qq X.stack
 stk:X.stack=X.outer\/(X.stack=X.env::X.outer/\X.env.frame=qq X.env.locals)
 exf:∀ b∈X.ex,b≠X.env.locals/\∀ x c,X.env.cells.lookup x=qq c->c≠b
 bs:∀ b o,X.base.get? b=qq o->X.s₀.heap.get? b=qq o/\X.H₀ b=qj
 bsz:X.base.objs.size<=X.s₀.heap.objs.size
 noex:∀ b o,X.base.get? b=qq o->b ∉ X.ex
 exfs:∀ b∈X.ex,b ∉ X.fs
 funs:X.s₀.heap.FunFrames X.base X.outer
 frf:∀ b∈X.fs,X.H₀ b=qj
structure Inv(X:Cx)(aA:List (qv×Obj))(σ:List (Option V))(H:Hp)(s:qx):Prop where
 ok:X.Ok
 os:s.os=X.s₀.os
 bare:AllBare s.gens
 base:Un X.fs X.ex X.H₀ H X.s₀.heap s.heap
 loc:∃ m,s.heap.Ns X.env.locals m/\∀ (i:Nat) (x:Str) (v:V),X.N[i]? = qq x->σ[i]? = qq (qq v)->lZ X.env.scope x->∃ u,aI v u/\aG4 X.env s.heap m x u
 cell:∀ x c,X.env.cells.lookup x=qq c->∃ v,s.heap.IsCell c v
 free:H X.env.locals=qj
 freeC:∀ x c,X.env.cells.lookup x=qq c->H c=qj
 pin:∀ p∈X.pn++aA,s.heap.get? p.1=qq p.2/\H p.1=qj/\p.1≠X.env.locals/\p.1 ∉ X.fs/\∀ v,p.2.data≠.cell v
 hok:bN X.prog X.w H s.heap
 len:σ.length=X.N.length
section
variable {X : Cx}{aA : List (qv×Obj)}{σ : List (Option V)}{H H' : Hp}{s : qx}{h' : Heap}
theorem Cx.Ok.nofr(ok:X.Ok){b:qv}{o:Obj}(e:X.base.get? b=qq o):b ∉ X.fs:=λ hb=>by
 have:=(ok.funs.mem hb).1;rw[e] at this;cases this
theorem Inv.bs(I:Inv X aA σ H s):∀ b o,X.base.get? b=qq o->s.heap.get? b=qq o/\H b=qj:=λ b o e =>
 ⟨I.base.keep b o (I.ok.bs b o e).1 (I.ok.bs b o e).2 (I.ok.nofr e) (I.ok.noex b o e),I.base.free b o (I.ok.bs b o e).1 (I.ok.bs b o e).2 (I.ok.noex b o e)⟩
theorem Inv.bk(I:Inv X aA σ H s):∀ b o,X.base.get? b=qq o->s.heap.get? b=qq o:=λ b o e=>(I.bs b o e).1
theorem Inv.mod(I:Inv X aA σ H s):Mod X.K X.mg X.base:=I.ok.mod
theorem Inv.kIn(I:Inv X aA σ H s):X.K.In s.heap:=I.ok.mod.kin.keeps I.bk
theorem Inv.nolimit(I:Inv X aA σ H s):s.heap.NoLimit:=I.ok.mod.nolimit.keeps I.bk
theorem Inv.fr(I:Inv X aA σ H s):∃ m,Fr X.base X.env.locals s.heap m:=
 let ⟨m,hn,_⟩:=I.loc
 ⟨m,hn,I.bk,xAg I.ok.bsz I.ok.above⟩
theorem Inv.lt(I:Inv X aA σ H s):X.env.locals<s.heap.objs.size:=let ⟨_,hn,_⟩:=I.loc;hn.lt
theorem Inv.sz(I:Inv X aA σ H s):X.s₀.heap.objs.size<=s.heap.objs.size:=xAg I.ok.above (yDh I.lt)
theorem Inv.nofs(I:Inv X aA σ H s){a:qv}(h:s.heap.objs.size<=a):a ∉ X.fs:=λ hb=>by
 obtain⟨_,o,ho,_⟩:=I.ok.funs.mem hb;exact absurd (xAc (xAa ho) (xAg I.sz h)) (yAl _)
theorem Inv.cne(I:Inv X aA σ H s):∀ x c,X.env.cells.lookup x=qq c->c≠X.env.locals:=λ x c e z=>by
 obtain⟨v,o,ho,hd⟩:=I.cell x c e;obtain⟨m,⟨o',es,ep,ho',hd',_⟩,_⟩:=I.loc;rw[z,ho'] at ho;cases ho;rw[hd'] at hd;cases hd
theorem Inv.funs(I:Inv X aA σ H s):s.heap.FunFrames X.base X.outer:=by
 have all:∀ (l:List Env),(∀ b∈bT l,b∈X.fs)->X.s₀.heap.FunFrames X.base l->s.heap.FunFrames X.base l:=by
  intro l
  induction l with
  | nil=>intro _ _;trivial
  | cons env r ih =>
    intro hs hl;obtain⟨hk,⟨L,o,hf,hn,ho,hd⟩,hr⟩:=hl;have hL:L∈X.fs:=hs L (by unfold bT;rw[yBi,hf];exact xAd)
    obtain⟨sl,e⟩:=I.base.slot L o ho (I.ok.frf L hL) hL λ z=>I.ok.exfs L z hL
    exact⟨hk,⟨L,_,hf,hn,e,hd⟩,ih (λ b hb=>hs b (by unfold bT;rw[yBi,hf];exact xAf _ hb)) hr⟩
 exact all X.outer (λ _ hb=>hb) I.ok.funs
theorem Inv.stack(I:Inv X aA σ H s):s.heap.FunFrames X.base X.stack:=by
 rcases I.ok.stk with e | ⟨e,hf⟩
 ·rw[e];exact I.funs
 ·rw[e];obtain⟨m,hn,_⟩:=I.loc;refine .cons (by rw[I.ok.kind];decide) hf hn ?_ I.funs
  exact Heap.get?_none_of_le (xAg I.ok.bsz I.ok.above)
theorem Inv.stkSub(I:Inv X aA σ H s):∀ b∈bT X.stack,b∈X.env.locals::X.fs:=λ b hb=>by
 rcases I.ok.stk with e | ⟨e,hf⟩
 ·rw[e] at hb;exact xAf _ hb
 ·rw[e] at hb;unfold bT at hb;rw[yBi,hf] at hb;exact hb
theorem Inv.stkFree(I:Inv X aA σ H s):∀ b∈bT X.stack,H b=qj:=λ b hb=>by
 rcases List.mem_cons.mp (I.stkSub b hb) with e | hb
 ·rw[e];exact I.free
 ·obtain⟨_,o,ho,_⟩:=I.ok.funs.mem hb;exact I.base.free b o ho (I.ok.frf b hb) λ z=>I.ok.exfs b z hb
theorem Inv.step{g':Array GenState}{t':Nat}{d':Drawn}{ch:List qv}(I:Inv X aA σ H s)
 (hch:∀ b∈ch,(b∈X.ex\/X.s₀.heap.objs.size<=b)/\b≠X.env.locals/\(∀ x c,X.env.cells.lookup x=qq c->c≠b)/\∀ p∈X.pn++aA,p.1≠b)
 (keep:∀ b o,b≠X.env.locals->b ∉ X.fs->b ∉ ch->s.heap.get? b=qq o->H b=qj->h'.get? b=qq o)
 (slot:∀ b o,b≠X.env.locals->b∈X.fs->b ∉ ch->s.heap.get? b=qq o->H b=qj->∃ sl,h'.get? b=qq {o with slots:=sl }) (free:∀ b o,b ∉ ch->s.heap.get? b=qq o->H b=qj->H' b=qj)
 (there:∀ b o,b ∉ ch->s.heap.get? b=qq o->∃ o',h'.get? b=qq o')
 (tups:∀ b xs,H b=qq (.tup xs)->H' b=qq (.tup xs)) (frzs:∀ b o u,H b=qq (.frz o u)->H' b=qq (.frz o u)) (tbls:∀ b ps,H b=qq (.tbl ps)->∃ more,H' b=qq (.tbl (ps++more)))
 (ns:∀ m,s.heap.Ns X.env.locals m->h'.Ns X.env.locals m) (hok:bN X.prog X.w H' h') (hg:AllBare g') :
 Inv X aA σ H' {s with heap:=h',gens:=g',drawn:=d',toks:=t' }:=by
 have neL:∀ b o,X.s₀.heap.get? b=qq o->b≠X.env.locals:=λ b o e=>xAh (xAc (xAa e) I.ok.above)
 have neC:∀ b o,X.s₀.heap.get? b=qq o->b ∉ X.ex->b ∉ ch:=λ b o e hx hb=>by
  rcases (hch b hb).1 with z | z
  ·exact hx z
  ·exact absurd (xAc (xAa e) z) (yAl _)
 have cellK:∀ x c,X.env.cells.lookup x=qq c->∀ v,s.heap.IsCell c v->h'.IsCell c v:=λ x c e v aF=>by
  obtain⟨o,ho,hd⟩:=aF;have nch:c ∉ ch:=λ z=>(hch c z).2.2.1 x c e rfl
  by_cases hc:c∈X.fs
  ·obtain⟨sl,q⟩:=slot c o (I.cne x c e) hc nch ho (I.freeC x c e);exact⟨_,q,hd⟩
  ·exact⟨o,keep c o (I.cne x c e) hc nch ho (I.freeC x c e),hd⟩
 refine⟨I.ok,I.os,hg,⟨λ b o e n hb hx=>?_,λ b o e n hb hx=>?_,λ b o e n hx=>?_,λ b o e hx=>?_,λ b xs e=>tups b xs (I.base.tups b xs e),λ b o xs e=>frzs b o xs (I.base.frzs b o xs e),λ b ps e=>?_⟩,?_,λ x c e=>?_,?_,λ x c e=>?_,λ p hp=>?_,hok,I.len⟩
 ·exact keep b o (neL b o e) hb (neC b o e hx) (I.base.keep b o e n hb hx) (I.base.free b o e n hx)
 ·obtain⟨sl,e1⟩:=I.base.slot b o e n hb hx;obtain⟨sl',e2⟩:=slot b _ (neL b o e) hb (neC b o e hx) e1 (I.base.free b o e n hx);exact⟨sl',e2⟩
 ·obtain⟨o',e1⟩:=I.base.there b o e hx;exact free b o' (neC b o e hx) e1 (I.base.free b o e n hx)
 ·obtain⟨o',e1⟩:=I.base.there b o e hx;exact there b o' (neC b o e hx) e1
 ·obtain⟨m1,e1⟩:=I.base.tbls b ps e;obtain⟨m2,e2⟩:=tbls b _ e1;exact⟨m1++m2,by rw[e2,Array.append_assoc]⟩
 ·obtain⟨m,hn,hl⟩:=I.loc;refine⟨m,ns m hn,λ i x v e1 e2 e3=>?_⟩
  obtain⟨u,r,l⟩:=hl i x v e1 e2 e3;refine⟨u,r,?_⟩;rcases l with l | ⟨k,c,e,z⟩
  ·exact .inl l
  ·exact .inr ⟨k,c,e,cellK x c e _ z⟩
 ·obtain⟨v,z⟩:=I.cell x c e;exact⟨v,cellK x c e v z⟩
 ·obtain⟨m,⟨o,_,_,ho,_⟩,_⟩:=I.loc;exact free _ o (λ z=>(hch _ z).2.1 rfl) ho I.free
 ·obtain⟨v,o,ho,hd⟩:=I.cell x c e;exact free c o (λ z=>(hch c z).2.2.1 x c e rfl) ho (I.freeC x c e)
 ·obtain⟨e,n,ne,nf,d⟩:=I.pin p hp;have nch:p.1 ∉ ch:=λ z=>(hch p.1 z).2.2.2 p hp rfl
  exact⟨keep p.1 p.2 ne nf nch e n,free p.1 p.2 nch e n,ne,nf,d⟩
theorem Inv.un{t':Nat}(I:Inv X aA σ H s)(u:Un X.fs [] H H' s.heap h')(hok:bN X.prog X.w H' h'):Inv X aA σ H' {s with heap:=h',toks:=t' }:=by
 obtain⟨m,⟨o,es,ep,ho,r⟩,_⟩:=id I.loc;obtain⟨sl,hL⟩:=u.any ho I.free (by simp)
 exact I.step (g':=s.gens) (d':=s.drawn) (ch:=[]) (λ _ z=>nomatch z) (λ b o _ hb _ e n=>u.keep b o e n hb (by simp)) (λ b o _ hb _ e n=>u.slot b o e n hb (by simp)) (λ b o _ e n=>u.free b o e n (by simp)) (λ b o _ e=>u.there b o e (by simp)) u.tups u.frzs u.tbls (λ m' hm=>by
  obtain⟨o',es',ep',ho',r'⟩:=hm;rw[ho] at ho';cases ho';exact⟨_,es',ep',hL,r'⟩) hok I.bare
theorem Inv.call{g':Array GenState}{t':Nat}{d':Drawn}{ch:List qv}(I:Inv X aA σ H s)(u:Un (bT X.stack) ch H H' s.heap h')(hok:bN X.prog X.w H' h')(hg:AllBare g')
 (hch:∀ b∈ch,(b∈X.ex\/X.s₀.heap.objs.size<=b)/\b≠X.env.locals/\(∀ x c,X.env.cells.lookup x=qq c->c≠b)/\∀ p∈X.pn++aA,p.1≠b) :
 Inv X aA σ H' {s with heap:=h',gens:=g',drawn:=d',toks:=t' }:=by
 obtain⟨m,⟨o,es,ep,ho,r⟩,_⟩:=id I.loc;obtain⟨sl,hL⟩:=u.any ho I.free λ z=>(hch _ z).2.1 rfl
 exact I.step (ch:=ch) hch (λ b o hL hb hc e n=>u.keep b o e n (λ z=>(List.mem_cons.mp (I.stkSub b z)).elim hL hb) hc) (λ b o _ _ hc e n=>u.any e n hc) (λ b o hc e n=>u.free b o e n hc) (λ b o hc e=>u.there b o e hc) u.tups u.frzs u.tbls (λ m' hm=>by
  obtain⟨o',es',ep',ho',r'⟩:=hm;rw[ho] at ho';cases ho';exact⟨_,es',ep',hL,r'⟩) hok hg
theorem Inv.turned{t':Nat}{it:qv}(I:Inv X aA σ H s)(k:∀ b o,b≠it->s.heap.get? b=qq o->h'.get? b=qq o)(hn:H it=qj)(hL:it≠X.env.locals)
 (h1:it∈X.ex\/X.s₀.heap.objs.size<=it) (h2:∀ x c,X.env.cells.lookup x=qq c->c≠it) (h3:∀ p∈X.pn++aA,p.1≠it):Inv X aA σ H {s with heap:=h',toks:=t' }:=by
 have nit:∀ b u,H b=qq u->b≠it:=λ b u e z=>by rw[z,hn] at e;cases e
 refine I.step (g':=s.gens) (d':=s.drawn) (ch:=[it]) (λ b hb=>?_) (λ b o _ _ hc e _=>k b o (λ z=>hc (by simp[z])) e) (λ b o _ _ hc e _=>⟨o.slots,k b o (λ z=>hc (by simp[z])) e⟩) (λ _ _ _ _ n=>n)
  (λ b o hc e=>⟨o,k b o (λ z=>hc (by simp[z])) e⟩) (λ _ _ e=>e) (λ _ _ _ e=>e) (λ b ps e=>⟨#[],by rw[e];simp⟩) (λ m hm=>?_) (λ b u e=>?_) I.bare
 ·have e:b=it:=by simpa using hb
  subst e;exact⟨h1,hL,h2,h3⟩
 ·obtain⟨o,es,ep,ho,r⟩:=hm;exact⟨o,es,ep,k _ o (Ne.symm hL) ho,r⟩
 ·refine(I.hok b u e).stay (λ c v hc q=>k c v ?_ q) (λ _ q=>q) λ _ _ q=>q
  rcases hc with z | z
  ·rw[z];exact nit b u e
  ·exact nit c _ z
theorem Inv.tok(I:Inv X aA σ H s)(t:Nat):Inv X aA σ H {s with toks:=t }:=I.un (h':=s.heap) (t':=t) Un.refl I.hok
theorem Inv.kept{t':Nat}(I:Inv X aA σ H s)(k:∀ b u,s.heap.get? b=qq u->h'.get? b=qq u):Inv X aA σ H {s with heap:=h',toks:=t' }:=I.un (Un.kept k) (I.hok.kept k)
theorem Inv.laid{a:qv}{o:HO}{t':Nat}(I:Inv X aA σ H s)(k:∀ b u,s.heap.get? b=qq u->h'.get? b=qq u)(hp:s.heap.objs.size<=a)(new:cQ X.prog X.w (aS H a o) h' a o) :
 Inv X aA σ (aS H a o) {s with heap:=h',toks:=t' }:=I.un (Un.laid k hp (I.hok.fresh hp)) (I.hok.laid k hp new)
theorem Inv.write{x e:qv}{o:HO}{t':Nat}(I:Inv X aA σ H s)(mu:pP (H x))(he:e=x\/H e=qq (.own x))(k:∀ b u,b≠e->s.heap.get? b=qq u->h'.get? b=qq u)(heo:∃ u,h'.get? e=qq u)
 (new:cQ X.prog X.w (aS H x o) h' x o):Inv X aA σ (aS H x o) {s with heap:=h',toks:=t' }:=I.un (Un.write mu he k heo) (I.hok.write mu he k heo new)
theorem Inv.weak{σ':List (Option V)}(I:Inv X aA σ H s)(hl:σ'.length=σ.length)(w:∀ (i:Nat) v,σ'[i]? = qq (qq v)->σ[i]? = qq (qq v)):Inv X aA σ' H s:=
 ⟨I.ok,I.os,I.bare,I.base,let ⟨m,hn,hl'⟩:=I.loc;⟨m,hn,λ i x v e1 e2 e3=>hl' i x v e1 (w i v e2) e3⟩,I.cell,I.free,I.freeC,I.pin,I.hok,hl.trans I.len⟩
theorem Inv.pins_of{pins':List (qv×Obj)}(I:Inv X aA σ H s)(h:∀ p∈pins',s.heap.get? p.1=qq p.2/\H p.1=qj/\p.1≠X.env.locals/\p.1 ∉ X.fs/\∀ v,p.2.data≠.cell v):Inv X pins' σ H s:=
 ⟨I.ok,I.os,I.bare,I.base,I.loc,I.cell,I.free,I.freeC,λ p hp=>(List.mem_append.mp hp).elim (λ z=>I.pin p (yDc _ z)) (h p),I.hok,I.len⟩
theorem qN{N:List Str}(hN:N.Nodup){i j:Nat}{x:Str}(a:N[i]? = qq x)(b:N[j]? = qq x):i=j:=by
 obtain⟨h1,e1⟩:=gIm a;obtain⟨h2,e2⟩:=gIm b;exact(yDr hN).mp (e1.trans e2.symm)
theorem aBV{M:Model}{A:zx}{E:qz->qx->Prop}{i:Nat}{x:Str}{v:V}{u:qz}{Q:Unit->qx->Prop}(I:Inv X aA σ H s)(hN:X.N.Nodup)(hi:X.N[i]? = qq x)(hx:Loc X.env.scope x)(r:aI v u)
 (h:∀ s',Inv X aA (σ.set i (qq v)) H s'->(∃ a,yCj a s.heap s'.heap/\(a=X.env.locals\/X.env.cells.lookup x=qq a))->Q () s') (hf:X.fn x=true\/X.env.scope.names.lookup x=qq .local:=by first | exact .inl rfl | exact .inr rfl | assumption):qu M A (storeName X.env x u) Q E s:=by
 obtain⟨m,hn,hl⟩:=id I.loc;have hcls:(X.env.scope.kind==.class||(X.env.scope.kind==.module&&X.env.locals != X.env.globals))=false:=by rw[I.ok.kind];rfl
 have hiσ:i<σ.length:=by rw[I.len];exact(gIm hi).1
 have cne:=I.cne;have tracked:∀ {a:qv}{h':Heap},(∃ o,s.heap.get? a=qq o/\H a=qj)->yCj a s.heap h'->bN X.prog X.w H h':=λ {a h'} ha hs b ob e=>by
  obtain⟨_,_,hfree⟩:=ha;refine(I.hok b ob e).stay (λ c w' hc q=>(hs.2 c ?_).trans q) (λ _ q=>q) λ _ _ q=>q
  rintro rfl;rcases hc with rfl | hc
  ·rw[hfree] at e;cases e
  ·rw[hfree] at hc;cases hc
 rcases hx with hk | hk
 ·refine wpAny_storeName_local hk hn (λ h' hn' hs=>?_) hcls
  obtain⟨oL,_,_,hoL,_⟩:=id hn;refine h _ ⟨I.ok,I.os,I.bare,⟨λ b o e n hb hx=>?_,λ b o e n hb hx=>?_,I.base.free,λ b o e hx=>?_,I.base.tups,I.base.frzs,I.base.tbls⟩,⟨_,hn',λ j y v' e1 e2 e3=>?_⟩,λ y c e=>?_,I.free,I.freeC,λ p hp=>?_,tracked ⟨oL,hoL,I.free⟩ hs,by simpa using I.len⟩ ⟨_,hs,.inl rfl⟩
  ·exact(hs.2 b (xAh (xAc (xAa e) I.ok.above))).trans (I.base.keep b o e n hb hx)
  ·obtain⟨sl,e1⟩:=I.base.slot b o e n hb hx;exact⟨sl,(hs.2 b (xAh (xAc (xAa e) I.ok.above))).trans e1⟩
  ·obtain⟨o',e1⟩:=I.base.there b o e hx;exact⟨o',(hs.2 b (xAh (xAc (xAa e) I.ok.above))).trans e1⟩
  ·by_cases hj:j=i
   ·subst hj;rw[hi] at e1;cases e1;rw[yAp hiσ] at e2;cases e2;exact⟨u,r,.inl ⟨hk,by simp⟩⟩
   ·rw[yAk (Ne.symm hj)] at e2;obtain⟨u',r',q⟩:=hl j y v' e1 e2 e3;refine⟨u',r',?_⟩;rcases q with ⟨k,e⟩ | ⟨k,c,e,z⟩
    ·refine .inl ⟨k,?_⟩;have:y≠x:=λ e=>hj (qN hN e1 (e▸hi))
     simp[this,e]
    ·exact .inr ⟨k,c,e,z.sameBut hs (cne y c e)⟩
  ·obtain⟨w',z⟩:=I.cell y c e;exact⟨w',z.sameBut hs (cne y c e)⟩
  ·obtain⟨e,n,ne,nf,d⟩:=I.pin p hp;exact⟨(hs.2 p.1 ne).trans e,n,ne,nf,d⟩
 ·have hfn:X.fn x=true:=by
   rcases hf with z | z
   ·exact z
   ·rw[z] at hk;cases hk
  obtain⟨c,hc⟩:=I.ok.has x (.inl hk);obtain⟨w',z⟩:=I.cell x c hc;refine wpAny_storeName_cell I.ok.kind hk hc z (λ h' hc' hs=>?_)
  obtain⟨oc,hoc,hocd⟩:=id z;refine h {s with heap:=h' } ⟨I.ok,I.os,I.bare,⟨λ b o e n hb hx=>?_,λ b o e n hb hx=>?_,I.base.free,λ b o e hx=>?_,I.base.tups,I.base.frzs,I.base.tbls⟩,⟨m,hn.sameBut hs (Ne.symm (cne x c hc)),λ j y v' e1 e2 e3=>?_⟩,λ y c' e=>?_,I.free,I.freeC,λ p hp=>?_,tracked ⟨oc,hoc,I.freeC x c hc⟩ hs,by simpa using I.len⟩ ⟨c,hs,.inr hc⟩
  ·exact(hs.2 b (xAh (xAc (xAa e) (I.ok.cab x c hfn hc)))).trans (I.base.keep b o e n hb hx)
  ·obtain⟨sl,e1⟩:=I.base.slot b o e n hb hx;exact⟨sl,(hs.2 b (xAh (xAc (xAa e) (I.ok.cab x c hfn hc)))).trans e1⟩
  ·obtain⟨o',e1⟩:=I.base.there b o e hx;exact⟨o',(hs.2 b (xAh (xAc (xAa e) (I.ok.cab x c hfn hc)))).trans e1⟩
  ·by_cases hj:j=i
   ·subst hj;rw[hi] at e1;cases e1;rw[yAp hiσ] at e2;cases e2;exact⟨u,r,.inr ⟨.inl hk,c,hc,hc'⟩⟩
   ·rw[yAk (Ne.symm hj)] at e2;obtain⟨u',r',q⟩:=hl j y v' e1 e2 e3;refine⟨u',r',?_⟩;rcases q with q | ⟨k,c',e,z'⟩
    ·exact .inl q
    ·refine .inr ⟨k,c',e,z'.sameBut hs ?_⟩;rintro rfl;exact hj (qN hN e1 (I.ok.inj _ _ _ e hc▸hi))
  ·by_cases hcc:c'=c
   ·subst hcc;exact⟨_,hc'⟩
   ·obtain⟨w2,z2⟩:=I.cell y c' e;exact⟨w2,z2.sameBut hs hcc⟩
  ·obtain⟨e,n,ne,nf,d⟩:=I.pin p hp;refine⟨(hs.2 p.1 ?_).trans e,n,ne,nf,d⟩;intro q;rw[q,hoc] at e;have q':oc=p.2:=Option.some.inj e;exact d w' (by rw[<- q'];exact hocd)
theorem qR{M:Model}{A:zx}{E:qz->qx->Prop}{i:Nat}{x:Str}{v:V}{u:qz}{Q:Unit->qx->Prop}(I:Inv X aA σ H s)(hN:X.N.Nodup)(hi:X.N[i]? = qq x)(hx:Loc X.env.scope x)(r:aI v u)
 (h:∀ s',Inv X aA (σ.set i (qq v)) H s'->Q () s') (hf:X.fn x=true\/X.env.scope.names.lookup x=qq .local:=by first | exact .inl rfl | exact .inr rfl | assumption):qu M A (storeName X.env x u) Q E s:=
 aBV I hN hi hx r (λ s' I' _=>h s' I') hf
theorem Inv.call'{s':qx}{ch:List qv}(I:Inv X aA σ H s)(ho:s'.os=s.os)(u:Un (bT X.stack) ch H H' s.heap s'.heap)(hok:bN X.prog X.w H' s'.heap)(hg:AllBare s'.gens)
 (hch:∀ b∈ch,(b∈X.ex\/X.s₀.heap.objs.size<=b)/\b≠X.env.locals/\(∀ x c,X.env.cells.lookup x=qq c->c≠b)/\∀ p∈X.pn++aA,p.1≠b):Inv X aA σ H' s':=by
 obtain⟨h',g',d',t',o'⟩:=s';have e:o'=s.os:=ho;subst e;exact I.call (g':=g') (t':=t') (d':=d') u hok hg hch
end
abbrev XK:=qz->Option qv->Hp->Prop
abbrev St:=List (Option V)
abbrev VK:=V->Hp->Prop
abbrev TE:=St->Hp->VK->Prop
abbrev TT:=St->Hp->(Bool->Hp->Prop)->Prop
abbrev TA:=St->Hp->(List V->Hp->Prop)->Prop
structure Ends where
 nx:St->Hp->Prop
 rt:VK
 bk:St->Hp->Prop:=λ _ _=>False
 ct:St->Hp->Prop:=λ _ _=>False
abbrev TS:=Ends->St->Hp->Prop
def EP(X:Cx)(aA:List (qv×Obj))(σ:St)(Q:VK)(u:qz)(s':qx):Prop:=∃ v H',Inv X aA σ H' s'/\aI v u/\Q v H'
def TP(X:Cx)(aA:List (qv×Obj))(σ:St)(Q:Bool->Hp->Prop)(b:Bool)(s':qx):Prop:=∃ H',Inv X aA σ H' s'/\Q b H'
def AP(X:Cx)(aA:List (qv×Obj))(σ:St)(Q:List V->Hp->Prop)(us:List qz)(s':qx):Prop:=∃ vs H',Inv X aA σ H' s'/\aH vs us/\Q vs H'
def SP(X:Cx)(aA:List (qv×Obj))(D:Ends)(f:Flow)(s':qx):Prop:=
 match f with
 | .next=>∃ σ' H',Inv X aA σ' H' s'/\D.nx σ' H'
 | .brk=>∃ σ' H',Inv X aA σ' H' s'/\D.bk σ' H'
 | .cont=>∃ σ' H',Inv X aA σ' H' s'/\D.ct σ' H'
 | .ret u=>∃ v σ' H',Inv X aA σ' H' s'/\aI v u/\D.rt v H'
def PE(X:Cx)(e:qw)(t:TE):Prop:=
 ∀ (aA:List (qv×Obj)) (s:qx) (σ:St) (H:Hp) (Q:VK),Inv X aA σ H s->t σ H Q->qu (model X.prog X.w) X.A (eval e X.env) (EP X aA σ Q) X.xe s
def PT(X:Cx)(e:qw)(t:TT):Prop:=
 ∀ (aA:List (qv×Obj)) (s:qx) (σ:St) (H:Hp) (Q:Bool->Hp->Prop),Inv X aA σ H s->t σ H Q->qu (model X.prog X.w) X.A (isTrue e X.env (eval e X.env)) (TP X aA σ Q) X.xe s
def PW(X:Cx)(e:qw)(t:TT):Prop:=
 ∀ (eA:Sem qz) (aA:List (qv×Obj)) (s:qx) (σ:St) (H:Hp) (Q:Bool->Hp->Prop),Inv X aA σ H s->t σ H Q->qu (model X.prog X.w) X.A (isTrue e X.env eA) (TP X aA σ Q) X.xe s
theorem PW.pt{X:Cx}{e:qw}{t:TT}(h:PW X e t):PT X e t:=h _
def PA(X:Cx)(es:List qw)(t:TA):Prop:=
 ∀ (pos:Pos) (aA:List (qv×Obj)) (s:qx) (σ:St) (H:Hp) (Q:List V->Hp->Prop),Inv X aA σ H s->t σ H Q->qu (model X.prog X.w) X.A (spliced (backTo pos (zj es X.env))) (AP X aA σ Q) X.xe s
def PS(X:Cx)(st:zy)(t:TS):Prop:=
 ∀ (aA:List (qv×Obj)) (s:qx) (σ:St) (H:Hp) (D:Ends),Inv X aA σ H s->t D σ H->qu (model X.prog X.w) X.A (exec st X.env) (SP X aA D) X.xe s
def aW(X:Cx)(st:List zy)(t:TS):Prop:=
 ∀ (aA:List (qv×Obj)) (s:qx) (σ:St) (H:Hp) (D:Ends),Inv X aA σ H s->t D σ H->qu (model X.prog X.w) X.A (execs st X.env) (SP X aA D) X.xe s
theorem aQ{α:Type}{t:Sem α}{Q Q':α->qx->Prop}{M:Model}{A:zx}{E:qz->qx->Prop}{s:qx}(h:qu M A t Q E s)(hQ:∀ a s,Q a s->Q' a s):qu M A t Q' E s:=wpAny_mono h hQ λ _ _ x=>x
end L2
namespace L2
open PySem PySem.Spec PyProof.Rows
section
variable {X : Cx}
theorem bin{a b:qw}{ta tb:TE}(ha:PE X a ta)(hb:PE X b tb){aA:List (qv×Obj)}{s:qx}{σ:St}{H:Hp}{R:V->V->Hp->Prop}(I:Inv X aA σ H s)(h:ta σ H λ x H1=>tb σ H1 λ y H2=>R x y H2)
 {α:Type}{Q:α->qx->Prop}{f:qz->qz->Sem α}
 (hf:∀ v u s2 x y H2,Inv X aA σ H2 s2->aI x v->aI y u->R x y H2->qu (model X.prog X.w) X.A (f v u) Q X.xe s2) :
 qu (model X.prog X.w) X.A (eval a X.env) (λ v s₁=>qu (model X.prog X.w) X.A (eval b X.env) (λ u s₂=>qu (model X.prog X.w) X.A (f v u) Q X.xe s₂) X.xe s₁) X.xe s:=by
 refine aQ (ha aA s σ H _ I h) λ v s1 hPq0=>?_
 obtain⟨x,H1,I1,r1,q1⟩:=hPq0;refine aQ (hb aA s1 σ H1 _ I1 q1) λ u s2 hPq1=>?_
 obtain⟨y,H2,I2,r2,q2⟩:=hPq1;exact hf v u s2 x y H2 I2 r1 r2 q2
def aHt(i:Nat):TE:=λ σ H Q=>∃ v,σ[i]? = qq (qq v)/\Q v H
def tC(v:V):TE:=λ _ H Q=>Q v H
theorem aEQ{i:Nat}{x:Str}{pos:Pos}(hN:X.N[i]? = qq x)(hv:lZ X.env.scope x)(hd:(x==("__debug__" : Str))=false:=by decide)(hcd:(x==("__classdict__" : Str))=false:=by decide):PE X (.Name x pos) (aHt i):=by
 intro aA s σ H Q I h;obtain⟨v,e,h⟩:=h;obtain⟨m,hn,hl⟩:=I.loc;obtain⟨u,r,l⟩:=hl i x v hN e hv;have bO:EP X aA σ Q u s:=⟨v,H,I,r,h⟩;rcases l with ⟨hk,hm⟩ | ⟨hk,c,hc,hcell⟩
 ·exact wpAny_Name (wpAny_loadName_local I.ok.kind hk hn hm bO) hd
 ·rcases hk with hk | hk
  ·exact wpAny_Name (wpAny_loadName_cell I.ok.kind hk hc hcell bO) hd
  ·exact wpAny_Name (wpAny_loadName_free I.ok.kind hk hc hcell bO hcd) hd
theorem aEs{i j pos}:PE X (.Constant (.int i) j pos) (tC (.int i)):=λ _ _ _ H _ I h=>wpAny_Constant_int ⟨.int i,H,I.tok _,⟨_,rfl⟩,h⟩
theorem aF6{b j pos}:PE X (.Constant (.bool b) j pos) (tC (.bl b)):=λ _ _ _ H _ I h=>Constant_bool ⟨.bl b,H,I,rfl,h⟩
theorem aFr{j pos}:PE X (.Constant .none j pos) (tC .non):=λ _ _ _ H _ I h=>Constant_none ⟨.non,H,I,rfl,h⟩
theorem zK{x j pos}:PE X (.Constant (.str x) j pos) (tC (.str x)):=λ _ _ _ H _ I h=>Calls.Constant_str ⟨.str x,H,I.tok _,⟨_,rfl⟩,h⟩
def Gl(X:Cx)(x:Str):Prop:=X.env.kindOf x=qq .globalImplicit
theorem iW{E:qz->qx->Prop}{aA:List (qv×Obj)}{s:qx}{σ:St}{H:Hp}{x:Str}{u:qz}{pos:Pos}{Q:qz->qx->Prop}(I:Inv X aA σ H s)(hg:Gl X x)(hm:X.mg x=qq u)(h:Q u s)
 (hd:(x==("__debug__" : Str))=false:=by decide):qu (model X.prog X.w) X.A (eval (.Name x pos) X.env) Q E s:=
 Calls.Name_function_global I.ok.kind hg (Calls.loadGlobal_global (by rw[I.ok.glob];exact I.mod.glob.keeps I.bk) hm h) hd
theorem kL{E:qz->qx->Prop}{aA:List (qv×Obj)}{s:qx}{σ:St}{H:Hp}{x:Str}{u:qz}{pos:Pos}{Q:qz->qx->Prop}(I:Inv X aA σ H s)(hg:Gl X x)(hm:X.mg x=qj)(hv:zw x=qq u)(h:Q u s)
 (hn:x ≠ "__name__":=by decide) (hd:(x==("__debug__" : Str))=false:=by decide):qu (model X.prog X.w) X.A (eval (.Name x pos) X.env) Q E s:=by
 obtain⟨mb,h1,h2⟩:=I.mod.blt;exact Calls.Name_function_global I.ok.kind hg (Calls.loadGlobal_builtin (by rw[I.ok.glob];exact I.mod.glob.keeps I.bk) hm (by rw[I.ok.blt];exact h1.keeps I.bk) ((h2 x hn).trans hv) h) hd
theorem aCN{x:Str}{v:V}{u:qz}{pos:Pos}(hg:Gl X x)(hm:X.mg x=qq u)(r:aI v u)(hd:(x==("__debug__" : Str))=false:=by decide):PE X (.Name x pos) (tC v):=
 λ _ _ _ H _ I h=>iW I hg hm ⟨v,H,I,r,h⟩ hd
theorem xM{x:Str}{v:V}{u:qz}{pos:Pos}(hg:Gl X x)(hm:X.mg x=qj)(hv:zw x=qq u)(r:aI v u)(hn:x ≠ "__name__":=by decide)(hd:(x==("__debug__" : Str))=false:=by decide):PE X (.Name x pos) (tC v):=
 λ _ _ _ H _ I h=>kL I hg hm hv ⟨v,H,I,r,h⟩ hn hd
variable {a b : qw}{ta tb : TE}{pos : Pos}
variable {tA tB' : TT}{bJ : List qw}
def aAN(t u:TT):TT:=λ σ H Q=>t σ H λ c H1=>if c=true then u σ H1 Q else Q false H1
def tOr(t u:TT):TT:=λ σ H Q=>t σ H λ c H1=>if c=true then Q true H1 else u σ H1 Q
def aHB(t:TT):TT:=λ σ H Q=>t σ H λ c H1=>Q (!c) H1
theorem aDy(ha:PT X a tA):PW X (.BoolOp .And [a] pos) tA:=by
 intro wh aA s σ H Q I h;refine isTrue_and (aQ (ha aA s σ H Q I h) λ c s1 e=>?_)
 cases c with
 | true=>exact isTrue_and_nil e
 | false=>exact e
theorem aE6(ha:PT X a tA):PW X (.BoolOp .Or [a] pos) tA:=by
 intro wh aA s σ H Q I h;refine isTrue_or (aQ (ha aA s σ H Q I h) λ c s1 e=>?_)
 cases c with
 | false=>exact isTrue_or_nil e
 | true=>exact e
theorem zA(ha:PT X a tA)(hb:PW X (.BoolOp .And (b::bJ) pos) tB'):PW X (.BoolOp .And (a::b::bJ) pos) (aAN tA tB'):=by
 intro wh aA s σ H Q I h;refine isTrue_and (aQ (ha aA s σ H _ I h) λ c s1 hPq2=>?_)
 obtain⟨H1,I1,q1⟩:=hPq2;cases c with
 | true=>exact hb wh aA s1 σ H1 Q I1 q1
 | false=>exact⟨H1,I1,q1⟩
theorem zY(ha:PT X a tA)(hb:PW X (.BoolOp .Or (b::bJ) pos) tB'):PW X (.BoolOp .Or (a::b::bJ) pos) (tOr tA tB'):=by
 intro wh aA s σ H Q I h;refine isTrue_or (aQ (ha aA s σ H _ I h) λ c s1 hPq3=>?_)
 obtain⟨H1,I1,q1⟩:=hPq3;cases c with
 | true=>exact⟨H1,I1,q1⟩
 | false=>exact hb wh aA s1 σ H1 Q I1 q1
theorem aEz(ha:PT X a tA):PT X (.UnaryOp .Not a pos) (aHB tA):=by
 intro aA s σ H Q I h;exact isTrue_not (ha aA s σ H (λ c H1=>Q (!c) H1) I h)
def aAr(ta tb:TE):TE:=λ σ H Q=>ta σ H λ x H1=>∃ c,x=.bl c/\if c=true then tb σ H1 Q else Q (.bl false) H1
def aAZ(ta tb:TE):TE:=λ σ H Q=>ta σ H λ x H1=>∃ c,x=.bl c/\if c=true then Q (.bl true) H1 else tb σ H1 Q
def aGK(ta:TE):TE:=λ σ H Q=>ta σ H λ x H1=>∃ c,x=.bl c/\Q (.bl (!c)) H1
theorem zL{op}{t:TE}(h:PE X a t):PE X (.BoolOp op [a] pos) t:=λ aA s σ H Q I hw=>BoolOp_one (h aA s σ H Q I hw)
theorem zH(ha:PE X a ta)(hb:PE X (.BoolOp .And (b::bJ) pos) tb):PE X (.BoolOp .And (a::b::bJ) pos) (aAr ta tb):=by
 intro aA s σ H Q I h;refine BoolOp_and (aQ (ha aA s σ H _ I h) λ v s1 hPq4=>?_)
 obtain⟨x,H1,I1,r1,q1⟩:=hPq4;obtain⟨c,rfl,q1⟩:=q1;cases r1;refine xu ?_;cases c with
 | true=>exact hb aA s1 σ H1 Q I1 q1
 | false=>exact⟨.bl false,H1,I1,rfl,q1⟩
theorem aAc(ha:PE X a ta)(hb:PE X (.BoolOp .Or (b::bJ) pos) tb):PE X (.BoolOp .Or (a::b::bJ) pos) (aAZ ta tb):=by
 intro aA s σ H Q I h;refine BoolOp_or (aQ (ha aA s σ H _ I h) λ v s1 hPq5=>?_)
 obtain⟨x,H1,I1,r1,q1⟩:=hPq5;obtain⟨c,rfl,q1⟩:=q1;cases r1;refine xu ?_;cases c with
 | false=>exact hb aA s1 σ H1 Q I1 q1
 | true=>exact⟨.bl true,H1,I1,rfl,q1⟩
theorem aEc(ha:PE X a ta):PE X (.UnaryOp .Not a pos) (aGK ta):=by
 intro aA s σ H Q I h;refine UnaryOp_ (aQ (ha aA s σ H _ I h) λ v s1 hPq6=>?_)
 obtain⟨x,H1,I1,r1,q1⟩:=hPq6;obtain⟨c,rfl,q1⟩:=q1;cases r1;exact not_of (xu ⟨.bl (!c),H1,I1,rfl,q1⟩)
end
end L2
namespace L2
open PySem PySem.Spec PyProof.Rows
def aX(K:FrG)(H:Hp)(a:qv)(xs:List V):Prop:=
 Rd H a (.lst xs) \/
  ∃ (o:Obj) (aC:Array qz) (n:Nat),K.lookup a=qq o/\o.cls=.type "list" /\ o.dict=qj/\o.data=.seq aC n/\aC.size<=qk/\aH xs aC.toList
def bC(K:FrG)(H:Hp)(a:qv)(xs:List V):Prop:=
 Rd H a (.tup xs) \/
  ∃ (o:Obj) (aC:Array qz) (n:Nat),K.lookup a=qq o/\o.cls=.type "tuple" /\ o.data=.seq aC n/\aC.size<=qk/\aH xs aC.toList
noncomputable def aGY:qz->Option V
 | .none=>qq .non
 | .bool b=>qq (.bl b)
 | .int i _=>qq (.int i)
 | .str x _=>qq (.str x)
 | .bytes b _=>qq (.byt b)
 | .float b _=>qq (.flt b)
 | .ref a=>qq (.ref a)
 | .type n=>qq (.ty n)
 | _=>qj
theorem aI.abs{x:V}{u:qz}(r:aI x u):aGY u=qq x:=by
 cases x with
 | non=>cases r;rfl
 | bl _=>cases r;rfl
 | int _=>obtain⟨t,rfl⟩:=r;rfl
 | str _=>obtain⟨t,rfl⟩:=r;rfl
 | byt _=>obtain⟨t,rfl⟩:=r;rfl
 | flt _=>obtain⟨t,rfl⟩:=r;rfl
 | ref _=>cases r;rfl
 | ty _=>cases r;rfl
theorem aI.inj{x y:V}{u:qz}(r:aI x u)(q:aI y u):x=y:=Option.some.inj (r.abs.symm.trans q.abs)
theorem aH.inj:∀ {xs ys:List V}{us:List qz},aH xs us->aH ys us->xs=ys
 | _,_,_,.nil,.nil=>rfl
 | _,_,_,.cons r t,.cons r' t'=>by rw[r.inj r',aH.inj t t']
section
variable {X : Cx}{aA : List (qv×Obj)}{σ : St}{H : Hp}{s : qx}{a : qv}{xs ys : List V}
theorem aX.of{K:FrG}(h:H a=qq (.lst xs)):aX K H a xs:=.inl (.inl h)
theorem bC.of{K:FrG}(h:H a=qq (.tup xs)):bC K H a xs:=.inl (.inl h)
theorem Inv.list(I:Inv X aA σ H s)(h:aX X.K H a xs):∃ aC:List qz,aH xs aC/\PlainL s.heap a aC.toArray/\xs.length<=qk:=by
 rcases h with h | ⟨o,aC,n,hk,hc,hd,hs,hz,r⟩
 ·obtain⟨z,aC,n,r,e⟩:=h.ok I.hok;exact⟨aC,r,⟨_,n,e,rfl,rfl,rfl⟩,z⟩
 ·refine⟨aC.toList,r,⟨o,n,I.kIn a o hk,hc,hd,by simpa using hs⟩,?_⟩
  have e:=r.length;simp only[yCh] at e;omega
theorem Inv.tuple(I:Inv X aA σ H s)(h:bC X.K H a xs):∃ aC:List qz,aH xs aC/\IsTup s.heap a aC.toArray/\xs.length<=qk:=by
 rcases h with h | ⟨o,aC,n,hk,hc,hs,hz,r⟩
 ·obtain⟨z,aC,r,p⟩:=h.ok I.hok;exact⟨aC,r,p,z⟩
 ·refine⟨aC.toList,r,⟨o,I.kIn a o hk,hc,n,by simpa using hs⟩,?_⟩
  have e:=r.length;simp only[yCh] at e;omega
theorem Inv.list_inj(I:Inv X aA σ H s)(h:aX X.K H a xs)(h':aX X.K H a ys):xs=ys:=by
 obtain⟨aC,r,⟨o,n,e,_,_,d⟩,_⟩:=I.list h;obtain⟨its',r',⟨o',n',e',_,_,d'⟩,_⟩:=I.list h';rw[e] at e';cases e';rw[d] at d';injection d' with d1 _
 have:aC=its':=by simpa using congrArg Array.toList d1
 subst this;exact r.inj r'
theorem Inv.tuple_inj(I:Inv X aA σ H s)(h:bC X.K H a xs)(h':bC X.K H a ys):xs=ys:=by
 obtain⟨aC,r,⟨o,e,_,n,d⟩,_⟩:=I.tuple h;obtain⟨its',r',⟨o',e',_,n',d'⟩,_⟩:=I.tuple h';rw[e] at e';cases e';rw[d] at d';injection d' with d1 _
 have:aC=its':=by simpa using congrArg Array.toList d1
 subst this;exact r.inj r'
end
noncomputable abbrev Cx.wish(X:Cx)(E:qz->qx->Prop):Cx:={X with xe:=E }
noncomputable abbrev Cx.nox(X:Cx):Cx:=X.wish λ _ _=>False
theorem Cx.Ok.wish{X:Cx}(ok:X.Ok)(E:qz->qx->Prop):(X.wish E).Ok:=
 ⟨ok.mod,ok.kind,ok.glob,ok.blt,ok.above,ok.inj,ok.has,ok.cab,ok.hd,ok.frames,ok.stk,ok.exf,ok.bs,ok.bsz,ok.noex,ok.exfs,ok.funs,ok.frf⟩
theorem Cx.Ok.unwish{X:Cx}{E:qz->qx->Prop}(ok:(X.wish E).Ok):X.Ok:=
 ⟨ok.mod,ok.kind,ok.glob,ok.blt,ok.above,ok.inj,ok.has,ok.cab,ok.hd,ok.frames,ok.stk,ok.exf,ok.bs,ok.bsz,ok.noex,ok.exfs,ok.funs,ok.frf⟩
section
variable {X : Cx}{aA : List (qv×Obj)}{σ : St}{H : Hp}{s : qx}{E : qz -> qx -> Prop}
theorem Inv.wish(I:Inv X aA σ H s)(E:qz->qx->Prop):Inv (X.wish E) aA σ H s:=⟨I.ok.wish E,I.os,I.bare,I.base,I.loc,I.cell,I.free,I.freeC,I.pin,I.hok,I.len⟩
theorem Inv.unwish(I:Inv (X.wish E) aA σ H s):Inv X aA σ H s:=⟨I.ok.unwish,I.os,I.bare,I.base,I.loc,I.cell,I.free,I.freeC,I.pin,I.hok,I.len⟩
theorem SP.unwish{D:Ends}{f:Flow}{s':qx}(h:SP (X.wish E) aA D f s'):SP X aA D f s':=by
 cases f with
 | next=>obtain⟨σ',H',I,q⟩:=h;exact⟨σ',H',I.unwish,q⟩
 | brk=>obtain⟨σ',H',I,q⟩:=h;exact⟨σ',H',I.unwish,q⟩
 | cont=>obtain⟨σ',H',I,q⟩:=h;exact⟨σ',H',I.unwish,q⟩
 | ret u=>obtain⟨v,σ',H',I,r,q⟩:=h;exact⟨v,σ',H',I.unwish,r,q⟩
theorem PE.nox{e:qw}{t:TE}(h:PE X.nox e t):PE X e t:=λ aA s σ H Q I hw =>
 wpAny_mono (h aA s σ H Q (I.wish _) hw) (λ _ _ hPr0=>by obtain⟨v,H',I',r,q⟩:=hPr0;exact⟨v,H',I'.unwish,r,q⟩) λ _ _ z=>False.elim z
theorem PT.nox{e:qw}{t:TT}(h:PT X.nox e t):PT X e t:=λ aA s σ H Q I hw =>
 wpAny_mono (h aA s σ H Q (I.wish _) hw) (λ _ _ hPr1=>by obtain⟨H',I',q⟩:=hPr1;exact⟨H',I'.unwish,q⟩) λ _ _ z=>False.elim z
theorem aW.nox{st:List zy}{t:TS}(h:aW X.nox st t):aW X st t:=λ aA s σ H D I hw =>
 wpAny_mono (h aA s σ H D (I.wish _) hw) (λ _ _ q=>q.unwish) λ _ _ z=>False.elim z
end
section
variable {X : Cx}{st : zy}{bJ : List zy}{t u : TS}{e : qw}{te : TE}{pos : Pos}
def aGv:TS:=λ D σ H=>D.nx σ H
def aHf(t u:TS):TS:=λ D σ H=>t {D with nx:=u D } σ H
theorem xK:aW X [] aGv:=λ _ _ σ H _ I h=>wpAny_execs_nil ⟨σ,H,I,h⟩
theorem wG(h1:PS X st t)(h2:aW X bJ u):aW X (st::bJ) (aHf t u):=by
 intro aA s σ H D I h;refine wpAny_execs_cons (aQ (h1 aA s σ H {D with nx:=u D } I h) λ f s1 q=>?_)
 cases f with
 | next =>
   obtain⟨σ',H',I',q⟩:=q;exact h2 aA s1 σ' H' D I' q
 | ret v=>exact q
 | brk=>exact q
 | cont=>exact q
theorem Inv.quiet{aA:List (qv×Obj)}{σ:St}{H:Hp}{s:qx}(I:Inv X aA σ H s):interactive X.env=false:=by simp[interactive,I.ok.kind]
def aGF(te:TE):TS:=λ D σ H=>te σ H λ _ H1=>D.nx σ H1
theorem xG(he:PE X e te)(hs:swapsWith e qj pos.line X.env=pure false:=by rfl):PS X (.Expr e pos) (aGF te):=by
 intro aA s σ H D I h;exact wpAny_Expr_any (aQ (he aA s σ H _ I h) λ v s1 ⟨x,H1,I1,r1,q1⟩=>⟨σ,H1,I1,q1⟩) I.quiet hs
def aHC(te:TE):TS:=λ D σ H=>te σ H D.rt
theorem aE2(he:PE X e te):PS X (.Return (qq e) pos) (aHC te):=by
 intro aA s σ H D I h;exact wpAny_Return_some (aQ (he aA s σ H _ I h) λ v s1 ⟨x,H1,I1,r1,q1⟩=>⟨x,σ,H1,I1,r1,q1⟩)
def aHg(c:TT)(t u:TS):TS:=λ D σ H=>c σ H λ b H1=>if b=true then t D σ H1 else u D σ H1
theorem aAn{c:qw}{a b:List zy}{tc:TT}(hc:PT X c tc)(ha:aW X a t)(hb:aW X b u):PS X (.If c a b pos) (aHg tc t u):=by
 intro aA s σ H D I h;refine wpAny_If (aQ (hc aA s σ H _ I h) λ d s1 hPq7=>?_)
 obtain⟨H1,I1,q1⟩:=hPq7;cases d with
 | true=>exact ha aA s1 σ H1 D I1 q1
 | false=>exact hb aA s1 σ H1 D I1 q1
end
abbrev TG:=V->St->Hp->(St->Hp->Prop)->Prop
abbrev dI:=List V->St->Hp->(St->Hp->Prop)->Prop
def PG(X:Cx)(target:qw)(t:TG):Prop:=
 ∀ (aA:List (qv×Obj)) (s:qx) (σ:St) (H:Hp) (v:V) (u:qz) (Q:St->Hp->Prop),Inv X aA σ H s->aI v u->t v σ H Q ->
  qu (model X.prog X.w) X.A (assign target X.env u) (λ _ s'=>∃ σ' H',Inv X aA σ' H' s'/\Q σ' H') X.xe s
def iN(X:Cx)(ts:List qw)(t:dI):Prop:=
 ∀ (aA:List (qv×Obj)) (s:qx) (σ:St) (H:Hp) (vs:List V) (us:List qz) (Q:St->Hp->Prop),Inv X aA σ H s->aH vs us->t vs σ H Q ->
  qu (model X.prog X.w) X.A (assignInOrder ((zu ts X.env).map (·.2)) us) (λ _ s'=>∃ σ' H',Inv X aA σ' H' s'/\Q σ' H') X.xe s
section
variable {X : Cx}{pos : Pos}
def gL(i:Nat):TG:=λ v σ H Q=>Q (σ.set i (qq v)) H
theorem rA{i:Nat}{x:Str}(hN:X.N.Nodup)(hi:X.N[i]? = qq x)(hx:Loc X.env.scope x)(hf:X.fn x=true\/X.env.scope.names.lookup x=qq .local:=by first | exact .inl rfl | exact .inr rfl | assumption):PG X (.Name x pos) (gL i):=by
 intro aA s σ H v u Q I r h;exact wpAny_assign_Name (qR I hN hi hx r (λ s' I'=>⟨_,H,I',h⟩) hf)
noncomputable def sY:dI:=λ vs σ H Q=>vs=[]/\Q σ H
noncomputable def sD(t:TG)(u:dI):dI:=λ vs σ H Q=>∃ v r,vs=v::r/\t v σ H λ σ' H'=>u r σ' H' Q
theorem aC1:iN X [] sY:=by
 intro aA s σ H vs us Q I r h;obtain⟨e,h⟩:=h;subst e;cases r;exact assignInOrder_nil ⟨σ,H,I,h⟩
theorem aCv{e:qw}{es:List qw}{t:TG}{u:dI}(h1:PG X e t)(h2:iN X es u)
 (hs:(zu (e::es) X.env).map (·.2)=assign e X.env::(zu es X.env).map (·.2):=by rfl):iN X (e::es) (sD t u):=by
 intro aA s σ H vs us Q I r h;obtain⟨v,vr,e1,h⟩:=h;subst e1;cases r with
 | cons r rr =>
   rw[hs];refine assignInOrder_cons (aQ (h1 aA s σ H _ _ _ I r h) λ _ s1 hPq8=>?_)
   obtain⟨σ1,H1,I1,q1⟩:=hPq8;exact h2 aA s1 σ1 H1 _ _ Q I1 rr q1
def aHu(K:FrG)(n:Nat)(t:dI):TG:=λ v σ H Q=>∃ a xs,v=.ref a/\bC K H a xs/\xs.length=n/\t xs σ H Q
theorem aEl{es:List qw}{k:Nat}{t:dI}{n:Nat}(hc:X.calm=true)(h:iN X es t)
 (hn:(zu es X.env).length=n:=by rfl) (dX:(zu es X.env).findIdx? (·.1)=qj:=by rfl):PG X (.Tuple es k pos) (aHu X.K n t):=by
 intro aA s σ H v u Q I r hw;obtain⟨a,xs,e1,hq,hl,hw⟩:=hw;subst e1;cases r;obtain⟨aC,rv,ht,hz⟩:=I.tuple hq;refine assign_Tuple_tuple (I.ok.hd hc) ht (by simp[hn,<- hl,rv.length]) dX λ h' hx=>?_
 have I1:Inv X aA σ H {s with heap:=h' }:=I.kept (t':=s.toks) λ b o e=>hx b o (xAh (xAa e)) e
 exact h aA _ σ H xs _ Q I1 (by simpa using rv) hw
def aAH(te:TE)(g:TG):TS:=λ D σ H=>te σ H λ x H1=>g x σ H1 D.nx
theorem zO{i:Nat}{x:Str}{e:qw}{te:TE}{pos':Pos}(hN:X.N.Nodup)(hi:X.N[i]? = qq x)(hx:Loc X.env.scope x)(he:PE X e te)(hs:swapsWith e (qq (.Name x pos')) pos.line X.env=pure false:=by rfl)(hf:X.fn x=true\/X.env.scope.names.lookup x=qq .local:=by first | exact .inl rfl | exact .inr rfl | assumption) :
 PS X (.Assign [.Name x pos'] e pos) (aAH te (gL i)):=by
 intro aA s σ H D I h;refine wpAny_Assign_Name (aQ (he aA s σ H _ I h) λ v s1 hPq9=>?_) hs
 obtain⟨y,H1,I1,r1,q1⟩:=hPq9;exact qR I1 hN hi hx r1 (λ s2 I2=>⟨_,H1,I2,q1⟩) hf
end
section
variable {X : Cx}{pos : Pos}
end
structure It where
 go:Nat->Hp->Prop
 yld:Nat->Hp->V->Hp->Prop
 stop:Nat->Hp->Prop
def cW(X:Cx)(aA:List (qv×Obj))(H:Hp)(b:qv):Prop:=
 H b=qj/\b≠X.env.locals/\b ∉ X.fs/\(b∈X.ex\/X.s₀.heap.objs.size<=b)/\(∀ x c,X.env.cells.lookup x=qq c->c≠b)/\∀ p∈X.pn++aA,p.1≠b
theorem Inv.fpOk{X:Cx}{aA:List (qv×Obj)}{σ:St}{H H':Hp}{s:qx}{b:qv}(I:Inv X aA σ H s)(hb:s.heap.objs.size<=b)(hn:H' b=qj):cW X aA H' b:=by
 refine⟨hn,yDi (xAc I.lt hb),I.nofs hb,.inr (xAg I.sz hb),λ x c e z=>?_,λ p hp z=>?_⟩
 ·obtain⟨v,q⟩:=I.cell x c e;exact absurd (xAc q.lt (by rw[z];exact hb)) (yAl _)
 ·exact absurd (xAc (xAa (I.pin p hp).1) (by rw[z];exact hb)) (yAl _)
structure Turn(P:qo)(w:zq)(K:FrG)(tg:qw)(J:It)(fp:List qv)(it:qv)(tn:Nat->Heap->Prop):Prop where
 mem:it∈fp
 obj:∀ i h,tn i h->∀ b∈fp,∃ o,h.get? b=qq o/\∀ v,o.data≠.cell v
 keep:∀ i h h',tn i h->(∀ b∈fp,∀ o,h.get? b=qq o->h'.get? b=qq o)->tn i h'
 item:∀ (X:Cx),X.prog=P->X.w=w->X.K=K->X.calm=true->∀ (i:Nat) (aA:List (qv×Obj)) (s:qx) (σ:St) (H:Hp) (E:qz->qx->Prop),Inv X aA σ H s->(∀ b∈fp,cW X aA H b)->tn i s.heap->J.go i H ->
  qu (model P w) X.A (yz (.ref it)) (λ r s1=>∃ u,r=qq u /\
   qu (model P w) X.A (vy tg (.ref it) u) (λ _ s2=>∃ x H',Inv X aA σ H' s2/\aI x u/\J.yld i H x H'/\tn (i+1) s2.heap/\∀ b∈fp,H' b=qj) E s1) E s
 done:∀ (X:Cx),X.prog=P->X.w=w->X.K=K->X.calm=true->∀ (i:Nat) (aA:List (qv×Obj)) (s:qx) (σ:St) (H:Hp) (E:qz->qx->Prop),Inv X aA σ H s->(∀ b∈fp,cW X aA H b)->tn i s.heap->J.stop i H ->
  qu (model P w) X.A (yz (.ref it)) (λ r s1=>r=qj/\Inv X aA σ H s1) E s
 self:∀ (A:zx) (i:Nat) (s:qx) (Q:qz->qx->Prop) (E:qz->qx->Prop),tn i s.heap->Q (.ref it) s->qu (model P w) A (pyIter (.ref it)) Q E s
abbrev TI:=St->Hp->(It->Hp->Prop)->Prop
def PIE(X:Cx)(aA:List (qv×Obj))(σ:St)(tg:qw)(R:It->Hp->Prop)(itv:qz)(s2:qx):Prop:=
 ∃ (it:qv) (fp:List qv) (tn:Nat->Heap->Prop) (J:It) (H':Hp),itv=.ref it/\Inv X aA σ H' s2/\Turn X.prog X.w X.K tg J fp it tn/\tn 0 s2.heap/\(∀ b∈fp,cW X aA H' b)/\R J H'
def PI(X:Cx)(tg iter:qw)(wi:TI):Prop:=
 ∀ (aA:List (qv×Obj)) (s:qx) (σ:St) (H:Hp) (R:It->Hp->Prop),Inv X aA σ H s->wi σ H R ->
  qu (model X.prog X.w) X.A (eval iter X.env) (λ v s1=>qu (model X.prog X.w) X.A (pyIter v) (PIE X aA σ tg R) X.xe s1) X.xe s
theorem sE{M:Model}{A:zx}{E:qz->qx->Prop}{s:qx}{tg:qw}{it:qv}{u:qz}{o:Obj}{n:String}{vs:Array qz}{Q:Unit->qx->Prop}(ho:s.heap.get? it=qq o)(hc:o.cls=.type n)(hd:o.data=.fields vs)
 (hn:["enumerate", "zip", "dict_itemiterator", "dict_reverseitemiterator", "odict_iterator", "itertools.zip_longest", "itertools.pairwise"].contains n=false) (hQ:Q () s):qu M A (vy tg (.ref it) u) Q E s:=by
 unfold vy;cases tg<;>first
  | exact wP hQ
  | (cases u<;>first
      | exact wP hQ
      | (refine wB (wpAny_load ho ?_)
         rw[hc,hd];show qu M A (if (["enumerate", "zip", "dict_itemiterator", "dict_reverseitemiterator", "odict_iterator", "itertools.zip_longest", "itertools.pairwise"].contains n&&vs[0]?==qq (xw _))=true then _ else _) Q E s
         rw[if_neg (by intro h;rw[hn,Bool.false_and] at h;cases h)]
         exact wP hQ))
noncomputable def tZ(K:FrG)(a:qv):It:=
 ⟨λ i H=>∃ xs x,aX K H a xs/\xs[i]? = qq x,λ i H x H'=>H'=H/\∀ xs,aX K H a xs->xs[i]? = qq x,λ i H=>∃ xs,aX K H a xs/\xs.length<=i⟩
noncomputable def tP(K:FrG)(a:qv):It:=
 ⟨λ i H=>∃ xs x,bC K H a xs/\xs[i]? = qq x,λ i H x H'=>H'=H/\∀ xs,bC K H a xs->xs[i]? = qq x,λ i H=>∃ xs,bC K H a xs/\xs.length<=i⟩
noncomputable def pQ(lo:Int)(n:Nat):It:=⟨λ i _=>i<n,λ i H x H'=>H'=H/\x=.int (lo+i),λ i _=>n<=i⟩
theorem aBW{P:qo}{w:zq}{K:FrG}{tg:qw}(a it:qv):Turn P w K tg (tZ K a) [it] it (λ i h=>h.IsListIter it a i) where
 mem:=by simp
 obj:=λ i h st b hb=>by
  have e:b=it:=by simpa using hb
  subst e;obtain⟨o,e,c,d⟩:=st;exact⟨o,e,λ v z=>by rw[d] at z;cases z⟩
 keep:=λ i h h' st k=>st.at λ o e=>k it (by simp) o e
 item:=by
  intro X hP hw hK hc i aA s σ H E I hf st hg;subst hP hw hK;obtain⟨xs,x,hq,hx⟩:=hg;obtain⟨aC,rv,p,hz⟩:=I.list hq;obtain⟨u,hu,ru⟩:=rv.get hx;obtain⟨f0,f1,f2,f3,f4,f5⟩:=hf it (by simp)
  refine vx st p.isList (x:=u) (by simpa using hu) λ h' st' sb=>?_
  have I1:Inv X aA σ H {s with heap:=h' }:=I.turned (t':=s.toks) (λ b o hb e=>(sb.2 b hb).trans e) f0 f1 f3 f4 f5
  obtain⟨o,e,c,d⟩:=id st';exact⟨u,rfl,sE (s:={s with heap:=h' }) e c d (by decide) ⟨x,H,I1,ru,⟨rfl,λ ys hy=>by rw[I.list_inj hy hq];exact hx⟩,st',λ b hb=>(hf b hb).1⟩⟩
 done:=by
  intro X hP hw hK hc i aA s σ H E I hf st hg;subst hP hw hK;obtain⟨xs,hq,hx⟩:=hg;obtain⟨aC,rv,p,hz⟩:=I.list hq;obtain⟨f0,f1,f2,f3,f4,f5⟩:=hf it (by simp)
  have hl:=rv.length;exact vv (I.ok.hd hc) st p.isList (by simp;omega) λ h' eb=>⟨rfl,I.turned (t':=s.toks) (λ b o hb e=>eb b o hb e) f0 f1 f3 f4 f5⟩
 self:=λ _ _ _ _ _ st h=>wpAny_pyIter_listiter st h
theorem aBB{P:qo}{w:zq}{K:FrG}{tg:qw}(a it:qv):Turn P w K tg (tP K a) [it] it (λ i h=>h.IsTupleIter it a i) where
 mem:=by simp
 obj:=λ i h st b hb=>by
  have e:b=it:=by simpa using hb
  subst e;obtain⟨o,e,c,d⟩:=st;exact⟨o,e,λ v z=>by rw[d] at z;cases z⟩
 keep:=λ i h h' st k=>st.at λ o e=>k it (by simp) o e
 item:=by
  intro X hP hw hK hc i aA s σ H E I hf st hg;subst hP hw hK;obtain⟨xs,x,hq,hx⟩:=hg;obtain⟨aC,rv,p,hz⟩:=I.tuple hq;obtain⟨u,hu,ru⟩:=rv.get hx;obtain⟨f0,f1,f2,f3,f4,f5⟩:=hf it (by simp)
  refine wpAny_pyNext_tuple_item st (show s.heap.IsTuple a aC.toArray from p) (x:=u) (by simpa using hu) λ h' st' sb=>?_
  have I1:Inv X aA σ H {s with heap:=h' }:=I.turned (t':=s.toks) (λ b o hb e=>(sb.2 b hb).trans e) f0 f1 f3 f4 f5
  obtain⟨o,e,c,d⟩:=id st';exact⟨u,rfl,sE (s:={s with heap:=h' }) e c d (by decide) ⟨x,H,I1,ru,⟨rfl,λ ys hy=>by rw[I.tuple_inj hy hq];exact hx⟩,st',λ b hb=>(hf b hb).1⟩⟩
 done:=by
  intro X hP hw hK hc i aA s σ H E I hf st hg;subst hP hw hK;obtain⟨xs,hq,hx⟩:=hg;obtain⟨aC,rv,p,hz⟩:=I.tuple hq;obtain⟨f0,f1,f2,f3,f4,f5⟩:=hf it (by simp)
  have hl:=rv.length;exact wpAny_pyNext_tuple_end (I.ok.hd hc) st (show s.heap.IsTuple a aC.toArray from p) (by simp;omega) λ h' eb=>⟨rfl,I.turned (t':=s.toks) (λ b o hb e=>eb b o hb e) f0 f1 f3 f4 f5⟩
 self:=λ _ _ _ _ _ st h=>wpAny_pyIter_tupleiter st h
theorem aBH{P:qo}{w:zq}{K:FrG}{tg:qw}(it:qv)(lo:Int)(n:Nat):Turn P w K tg (pQ lo n) [it] it (λ i h=>IsRangeIter h it (lo+(i:Nat)*1) ((n:Int)-(i:Nat)) 1) where
 mem:=by simp
 obj:=λ i h st b hb=>by
  have e:b=it:=by simpa using hb
  subst e;exact⟨_,st,λ v z=>by
   have z':Data.fields _=Data.cell v:=z;cases z'⟩
 keep:=λ i h h' st k=>k it (by simp) _ st
 item:=by
  intro X hP hw hK hc i aA s σ H E I hf st hg;subst hP hw hK;obtain⟨f0,f1,f2,f3,f4,f5⟩:=hf it (by simp)
  have W:=Walks.range (prog:=X.prog) (w:=X.w) (I.ok.hd hc) it lo 1 n;refine W.item i s _ _ hg st λ v h' tk hv st' kk=>?_
  obtain⟨t,rfl⟩:=hv;have I1:Inv X aA σ H {s with heap:=h',toks:=tk }:=I.turned (λ b o hb e=>kk b o (by simpa using hb) e) f0 f1 f3 f4 f5
  refine⟨_,rfl,sE (s:={s with heap:=h',toks:=tk }) (n:="range_iterator") st' rfl rfl (by decide) ⟨.int (lo+i),H,I1,⟨t,?_⟩,⟨rfl,rfl⟩,st',λ b hb=>(hf b hb).1⟩⟩
  rw[Int.mul_one]
 done:=by
  intro X hP hw hK hc i aA s σ H E I hf st hg;subst hP hw hK;obtain⟨f0,f1,f2,f3,f4,f5⟩:=hf it (by simp)
  exact wpAny_pyNext_range_end (I.ok.hd hc) st (by have:n<=i:=hg;omega) λ h' eb=>⟨rfl,I.turned (t':=s.toks) (λ b o hb e=>eb b o hb e) f0 f1 f3 f4 f5⟩
 self:=λ _ _ _ _ _ st h=>wpAny_pyIter_rangeiter st h
end L2
namespace L2
open PySem PySem.Spec PyProof.Rows
section
variable {X : Cx}{tg : qw}
def aGt(K:FrG)(tl:TE):TI:=λ σ H R=>tl σ H λ x H1=>∃ a,x=.ref a/\(∃ xs,aX K H1 a xs)/\R (tZ K a) H1
def aGS(K:FrG)(tl:TE):TI:=λ σ H R=>tl σ H λ x H1=>∃ a,x=.ref a/\(∃ xs,bC K H1 a xs)/\R (tP K a) H1
theorem aC3{l:qw}{tl:TE}(hl:PE X l tl):PI X tg l (aGt X.K tl):=by
 intro aA s σ H R I h;refine aQ (hl aA s σ H _ I h) λ v s1 hPq10=>?_
 obtain⟨x,H1,I1,r1,q1⟩:=hPq10;obtain⟨a,e,⟨xs,hq⟩,q⟩:=q1;subst e;cases r1;obtain⟨aC,rv,p,hz⟩:=I1.list hq;refine jj p.isList ?_;refine⟨s1.heap.objs.size,[s1.heap.objs.size],_,_,H1,rfl,I1.kept (t':=s1.toks) λ b o e=>hpS _ e,aBW a _,⟨_,xAe _ rfl,rfl,rfl⟩,λ b hb=>?_,q⟩
 have e:b=s1.heap.objs.size:=by simpa using hb
 subst e;exact I1.fpOk (yAc _) (I1.hok.fresh (yAc _))
theorem aFl{l:qw}{tl:TE}(hl:PE X l tl):PI X tg l (aGS X.K tl):=by
 intro aA s σ H R I h;refine aQ (hl aA s σ H _ I h) λ v s1 hPq11=>?_
 obtain⟨x,H1,I1,r1,q1⟩:=hPq11;obtain⟨a,e,⟨xs,hq⟩,q⟩:=q1;subst e;cases r1;obtain⟨aC,rv,p,hz⟩:=I1.tuple hq;refine jo (show s1.heap.IsTuple a aC.toArray from p) ?_
 refine⟨s1.heap.objs.size,[s1.heap.objs.size],_,_,H1,rfl,I1.kept (t':=s1.toks) λ b o e=>hpS _ e,aBB a _,⟨_,xAe _ rfl,rfl,rfl⟩,λ b hb=>?_,q⟩
 have e:b=s1.heap.objs.size:=by simpa using hb
 subst e;exact I1.fpOk (yAc _) (I1.hok.fresh (yAc _))
theorem aCo{aA:List (qv×Obj)}{σ:St}{H:Hp}{s:qx}{R:It->Hp->Prop}{E:qz->qx->Prop}{lo hi:Int}{t u v:Tok}{tk:Nat}(I:Inv X aA σ H s)(h1 : -(2^62)<=lo)(h2:lo<2^62)(h3 : -(2^62)<=hi)(h4:hi<2^62)
 (q:R (pQ lo (hi-lo).toNat) H):qu (model X.prog X.w) X.A (pyIter (.ref s.heap.objs.size)) (PIE X aA σ tg R) E {s with heap:=s.heap.push {cls:=.type "range",data:=.fields #[.int lo t,.int hi u,.int 1 v] },toks:=tk }:=by
 refine wpAny_pyIter_range (IsRange.new ..) (small_one h1 h2 h3 h4) ?_;have I1:Inv X aA σ H {s with heap:=s.heap.push {cls:=.type "range",data:=.fields #[.int lo t,.int hi u,.int 1 v] },toks:=tk }:=I.kept λ b o e=>hpS _ e
 refine⟨(s.heap.push {cls:=.type "range",data:=.fields #[.int lo t,.int hi u,.int 1 v] }).objs.size,[(s.heap.push {cls:=.type "range",data:=.fields #[.int lo t,.int hi u,.int 1 v] }).objs.size],_,_,H,rfl,
  I1.kept (t':=tk) λ b o e=>hpS _ e,aBH _ lo (hi-lo).toNat,?_,λ b hb=>?_,q⟩
 ·have e1:lo+((0:Nat):Int)*1=lo:=by simp
  have e2:(((hi-lo).toNat:Nat):Int)-((0:Nat):Int)=Builtin.Range.rangeSize lo hi 1:=by rw[rangeSize_one];split<;>omega
  show IsRangeIter _ _ (lo+((0:Nat):Int)*1) ((((hi-lo).toNat:Nat):Int)-((0:Nat):Int)) 1;rw[e1,e2];exact xAe _ rfl
 ·have e:b=(s.heap.push {cls:=.type "range",data:=.fields #[.int lo t,.int hi u,.int 1 v] }).objs.size:=by simpa using hb
  subst e;exact I1.fpOk (yAc _) (I1.hok.fresh (yAc _))
def zQ(ta:TA):TI:=λ σ H R=>ta σ H λ vs H1=>∃ j:Int,vs=[.int j] /\ -(2^62)<=j/\j<2^62/\R (pQ 0 j.toNat) H1
theorem aB9{a:qw}{ta:TA}{p pos:Pos}(hg:Gl X "range")(hm:X.mg "range" = qj)(ha:PA X [a] ta)(hs:zj [a] X.env=[(false,eval a X.env)]:=by rfl):PI X tg (.Call (.Name "range" p) [a] [] pos) (zQ ta):=by
 intro aA s σ H R I h;refine Call_ (kL I hg hm boot_range (yBr (aQ (ha pos aA s σ H _ I h) λ us s1 hPq12=>?_) hs rfl))
 obtain⟨vs,H1,I1,r1,q1⟩:=hPq12;obtain⟨j,e,q1,q2,q⟩:=q1;subst e;cases r1 with
 | cons r rr =>
   cases rr;obtain⟨t,rfl⟩:=r;exact call_range_1 (aCo I1 (by omega) (by omega) q1 q2 (by simpa using q))
def aHx(wi:TI)(g:TG)(tb:TS):TS:=λ D σ H=>wi σ H λ J H1=>∃ W:Nat->Nat->St->Hp->Prop,(∃ m,W 0 m σ H1)/\∀ i m σ H,W i m σ H ->
 (J.stop i H/\D.nx σ H)\/(J.go i H/\∃ N:St->Hp->Prop,(∀ σ' H',N σ' H'->∃ m',m'<m/\W (i+1) m' σ' H')/\∀ x H',J.yld i H x H'->g x σ H' λ σ2 H2=>tb {D with nx:=N,ct:=N,bk:=D.nx } σ2 H2)
noncomputable def kI(fp:List qv)(h:Heap):List (qv×Obj):=fp.filterMap λ b=>(h.get? b).map λ o=>(b,o)
theorem jQ{fp:List qv}{h:Heap}{b:qv}{o:Obj}(hb:b∈fp)(e:h.get? b=qq o):(b,o)∈kI fp h:=List.mem_filterMap.mpr ⟨b,hb,by rw[e];rfl⟩
theorem aCg{fp:List qv}{h:Heap}{p:qv×Obj}(hp:p∈kI fp h):p.1∈fp/\h.get? p.1=qq p.2:=by
 obtain⟨b,hb,e⟩:=List.mem_filterMap.mp hp;cases q:h.get? b with
 | none=>rw[q] at e;cases e
 | some o =>
   rw[q] at e;have e':(b,o)=p:=Option.some.inj e;subst e';exact⟨hb,q⟩
theorem Inv.pinned{aA:List (qv×Obj)}{σ:St}{H:Hp}{s:qx}{fp:List qv}(I:Inv X aA σ H s)(hf:∀ b∈fp,cW X aA H b)(ho:∀ b∈fp,∃ o,s.heap.get? b=qq o/\∀ v,o.data≠.cell v):Inv X (aA++kI fp s.heap) σ H s:=
 I.pins_of λ p hp=>(List.mem_append.mp hp).elim (λ z=>I.pin p (xAl _ z)) λ z=>by
  obtain⟨hb,e⟩:=aCg z;obtain⟨f0,f1,f2,_⟩:=hf p.1 hb;obtain⟨o,e',d⟩:=ho p.1 hb;rw[e] at e';cases e';exact⟨e,f0,f1,f2,d⟩
theorem Inv.unpinned{aA pl:List (qv×Obj)}{σ:St}{H:Hp}{s:qx}(I:Inv X (aA++pl) σ H s):Inv X aA σ H s:=I.pins_of λ p hp=>I.pin p (xAl _ (yDc _ hp))
theorem yQ{iter:qw}{body:List zy}{wi:TI}{g:TG}{tb:TS}{pos:Pos}(hp:PassesOwn (model X.prog X.w) X.A X.env X.xe)(hc:X.calm=true)(hi:PI X tg iter wi)(hg:PG X tg g)(hb:aW X body tb)
 (hs:∀ x,xq iter X.env x=pure x:=by intro _;rfl):PS X (.For tg iter body [] pos) (aHx wi g tb):=by
 intro aA s σ H D I h;refine wpAny_For (aQ (hi aA s σ H _ I h) λ v s1 h1=>aQ h1 λ itv s2 h2=>?_) hs
 obtain⟨it,fp,tn,J,H2,e,I2,T,st2,f2,W,⟨m0,w0⟩,turn⟩:=h2;subst e;have stat:∀ {H':Hp},(∀ b∈fp,H' b=qj)->∀ b∈fp,cW X aA H' b:=λ hn b hb=>⟨hn b hb,(f2 b hb).2⟩
 refine codeAny_forLoop_any (λ n s'=>∃ i σ' H',Inv X aA σ' H' s'/\tn i s'.heap/\(∀ b∈fp,H' b=qj)/\W i n σ' H') ?_ m0 ⟨0,σ,H2,I2,st2,λ b hb=>(f2 b hb).1,w0⟩
 rintro n s3 ⟨i,σ3,H3,I3,st3,fr3,w3⟩;rcases turn i n σ3 H3 w3 with ⟨stop,qn⟩ | ⟨go,N,hN,step⟩
 ·refine ju hp (aQ (T.done X rfl rfl rfl hc i aA s3 σ3 H3 X.xe I3 (stat fr3) st3 stop) λ r s4 hPq13=>?_)
  obtain⟨hr,I4⟩:=hPq13;subst hr;exact wpAny_execs_nil ⟨σ3,H3,I4,qn⟩
 ·refine ju hp (aQ (T.item X rfl rfl rfl hc i aA s3 σ3 H3 X.xe I3 (stat fr3) st3 go) λ r s4 hPq14=>?_)
  obtain⟨u,hr,h4⟩:=hPq14;subst hr;refine ju hp (aQ h4 λ _ s5 hPq15=>?_)
  obtain⟨x,H5,I5,r5,y5,st5,fr5⟩:=hPq15;have I5':=I5.pinned (stat fr5) (T.obj _ _ st5);refine ju hp (aQ (hg _ s5 σ3 H5 x u _ I5' r5 (step x H5 y5)) λ _ s6 hPq16=>?_)
  obtain⟨σ6,H6,I6,q6⟩:=hPq16;refine ju hp (aQ (hb _ s6 σ6 H6 _ I6 q6) λ f s7 q7=>?_)
  have again:∀ {σ7:St}{H7:Hp},Inv X (aA++kI fp s5.heap) σ7 H7 s7->N σ7 H7->∃ m,m<n/\∃ i σ' H',Inv X aA σ' H' s7/\tn i s7.heap/\(∀ b∈fp,H' b=qj)/\W i m σ' H':=λ {σ7 H7} I7 n7=>by
   obtain⟨m',hm,w7⟩:=hN σ7 H7 n7;refine⟨m',hm,i+1,σ7,H7,I7.unpinned,T.keep _ _ _ st5 λ b hb o e=>(I7.pin (b,o) (xAl _ (xAl _ (jQ hb e)))).1,λ b hb=>?_,w7⟩
   obtain⟨o,e,d⟩:=T.obj _ _ st5 b hb;exact(I7.pin (b,o) (xAl _ (xAl _ (jQ hb e)))).2.1
  cases f with
  | next=>obtain⟨σ7,H7,I7,n7⟩:=q7;exact again I7 n7
  | cont=>obtain⟨σ7,H7,I7,n7⟩:=q7;exact again I7 n7
  | brk=>obtain⟨σ7,H7,I7,q7⟩:=q7;exact⟨σ7,H7,I7.unpinned,q7⟩
  | ret v=>obtain⟨x7,σ7,H7,I7,r7,q7⟩:=q7;exact⟨x7,σ7,H7,I7.unpinned,r7,q7⟩
end
end L2
namespace L2
open PySem PySem.Spec PyProof.Rows
abbrev R2:=V->V->Hp->VK->Prop
def bH(X:Cx)(f:qz->qz->Sem qz)(r:R2):Prop:=
 ∀ (aA:List (qv×Obj)) (s:qx) (σ:St) (H:Hp) (x y:V) (v u:qz) (Q:VK),Inv X aA σ H s->aI x v->aI y u->r x y H Q ->
  qu (model X.prog X.w) X.A (f v u) (EP X aA σ Q) X.xe s
def pM(X:Cx)(f:qz->Sem qz)(r:V->Hp->VK->Prop):Prop:=
 ∀ (aA:List (qv×Obj)) (s:qx) (σ:St) (H:Hp) (x:V) (v:qz) (Q:VK),Inv X aA σ H s->aI x v->r x H Q ->
  qu (model X.prog X.w) X.A (f v) (EP X aA σ Q) X.xe s
def bK(X:Cx)(f:qz)(r:List V->Hp->VK->Prop):Prop:=
 ∀ (aA:List (qv×Obj)) (s:qx) (σ:St) (H:Hp) (xs:List V) (us:List qz) (Q:VK),Inv X aA σ H s->aH xs us->r xs H Q ->
  qu (model X.prog X.w) X.A (call f us) (EP X aA σ Q) X.xe s
def aHk(X:Cx)(r:V->Hp->(Bool->Hp->Prop)->Prop):Prop:=
 ∀ (aA:List (qv×Obj)) (s:qx) (σ:St) (H:Hp) (x:V) (v:qz) (Q:Bool->Hp->Prop),Inv X aA σ H s->aI x v->r x H Q ->
  qu (model X.prog X.w) X.A (truthy v) (TP X aA σ Q) X.xe s
def mE(r:R2)(ta tb:TE):TE:=λ σ H Q=>ta σ H λ x H1=>tb σ H1 λ y H2=>r x y H2 Q
def tUn(r:V->Hp->VK->Prop)(ta:TE):TE:=λ σ H Q=>ta σ H λ x H1=>r x H1 Q
noncomputable def rI(C:Int->Int->Prop)(g:Int->Int->V):R2:=λ x y H Q=>∃ i j,x=.int i/\y=.int j/\C i j/\Q (g i j) H
noncomputable def dU(g:Int->Int->V):R2:=λ x y H Q=>∃ i j,x=.int i/\y=.int j/\Q (g i j) H
noncomputable def rU(g:Int->V):V->Hp->VK->Prop:=λ x H Q=>∃ i,x=.int i/\Q (g i) H
section
variable {X : Cx}{a b c : qw}{ta tb tc : TE}{pos : Pos}
theorem sG(ha:PE X a ta)(hb:PE X b tb){aA:List (qv×Obj)}{s:qx}{σ:St}{H:Hp}{R:V->V->Hp->Prop}(I:Inv X aA σ H s)
 (h:ta σ H λ x H1=>tb σ H1 λ y H2=>R x y H2) {Q:qz->qx->Prop}{f:qz->qz->Sem qz}
 (hf:∀ v u s2 x y H2,Inv X aA σ H2 s2->aI x v->aI y u->R x y H2->qu (model X.prog X.w) X.A (f v u) Q X.xe s2) :
 qu (model X.prog X.w) X.A (eval a X.env) (λ v s₁=>qu (model X.prog X.w) X.A (eval b X.env) (λ u s₂=>qu (model X.prog X.w) X.A (f v u) Q X.xe s₂) X.xe s₁) X.xe s:=by
 refine aQ (ha aA s σ H _ I h) λ v s1 hPq17=>?_
 obtain⟨x,H1,I1,r1,q1⟩:=hPq17;refine aQ (hb aA s1 σ H1 _ I1 q1) λ u s2 hPq18=>?_
 obtain⟨y,H2,I2,r2,q2⟩:=hPq18;exact hf v u s2 x y H2 I2 r1 r2 q2
theorem aGz{op:jk}{r:R2}(ho:bH X (zk op) r)(ha:PE X a ta)(hb:PE X b tb):PE X (.BinOp a op b pos) (mE r ta tb):=by
 intro aA s σ H Q I h;exact wpAny_BinOp (sG ha hb I h λ v u s2 x y H2 I2 rx ry q=>ho aA s2 σ H2 x y v u Q I2 rx ry q)
theorem aF7{op:wz}{r:V->Hp->VK->Prop}(ho:pM X (unaryOp op) r)(ha:PE X a ta):PE X (.UnaryOp op a pos) (tUn r ta):=by
 intro aA s σ H Q I h;exact UnaryOp_ (aQ (ha aA s σ H _ I h) λ v s1 ⟨x,H1,I1,r1,q1⟩=>ho aA s1 σ H1 x v Q I1 r1 q1)
theorem mB{f:qz->qz->Sem qz}{C:Int->Int->Prop}{g:Int->Int->Int}
 (rule:∀ (i j:Int) (t u:Tok) (s:qx) (Q:qz->qx->Prop) (E:qz->qx->Prop),C i j->Q (.int (g i j) s.toks) {s with toks:=s.toks+1 }->qu (model X.prog X.w) X.A (f (.int i t) (.int j u)) Q E s) :
 bH X f (rI C λ i j=>.int (g i j)):=by
 intro aA s σ H x y v u Q I rx ry h;obtain⟨i,j,rfl,rfl,hc,q⟩:=h;obtain⟨t,rfl⟩:=rx;obtain⟨t',rfl⟩:=ry;exact rule i j t t' s _ _ hc ⟨.int (g i j),H,I.tok _,⟨_,rfl⟩,q⟩
theorem lP{f:qz->qz->Sem qz}{g:Int->Int->Int}
 (rule:∀ (i j:Int) (t u:Tok) (s:qx) (Q:qz->qx->Prop) (E:qz->qx->Prop),Q (.int (g i j) s.toks) {s with toks:=s.toks+1 }->qu (model X.prog X.w) X.A (f (.int i t) (.int j u)) Q E s) :
 bH X f (dU λ i j=>.int (g i j)):=by
 intro aA s σ H x y v u Q I rx ry h;obtain⟨i,j,rfl,rfl,q⟩:=h;obtain⟨t,rfl⟩:=rx;obtain⟨t',rfl⟩:=ry;exact rule i j t t' s _ _ ⟨.int (g i j),H,I.tok _,⟨_,rfl⟩,q⟩
theorem oY{f:qz->qz->Sem qz}{g:Int->Int->Bool}
 (rule:∀ (i j:Int) (t u:Tok) (s:qx) (Q:qz->qx->Prop) (E:qz->qx->Prop),Q (.bool (g i j)) s->qu (model X.prog X.w) X.A (f (.int i t) (.int j u)) Q E s) :
 bH X f (dU λ i j=>.bl (g i j)):=by
 intro aA s σ H x y v u Q I rx ry h;obtain⟨i,j,rfl,rfl,q⟩:=h;obtain⟨t,rfl⟩:=rx;obtain⟨t',rfl⟩:=ry;exact rule i j t t' s _ _ ⟨.bl (g i j),H,I,rfl,q⟩
def aG6(i j:Int):Prop:=0<=j/\j<=1000000/\i.natAbs<2^64
def aAV(i j:Int):Prop:=(-(2^64)<i/\i<2^64)\/(-(2^64)<j/\j<2^64)
theorem aAV.ok{i j:Int}(h:aAV i j):IntMulOk i j:=by
 rcases h with ⟨h1,h2⟩ | ⟨h1,h2⟩
 ·exact .of_left (intBits_le_64 h1 h2)
 ·exact .of_right (intBits_le_64 h1 h2)
theorem aBD(k:Nat):(0:Int)<=2^k:=by
 rw[two_pow_cast];exact yBq _
theorem aEo:bH X (zk .Add) (dU λ i j=>.int (i+j)):=lP λ _ _ _ _ _ _ _ q=>add_int q
theorem aEH:bH X (zk .Sub) (dU λ i j=>.int (i-j)):=lP λ _ _ _ _ _ _ _ q=>sub_int q
theorem aDd:bH X (zk .Mod) (rI (λ _ j=>j≠0) λ i j=>.int (i.fmod j)):=mB λ _ _ _ _ _ _ _ hc q=>mod_int' hc q
theorem aEr:bH X (zk .Pow) (rI aG6 λ i j=>.int (i^j.toNat)):=mB λ _ _ _ _ _ _ _ hc q=>pow_int_small hc.1 hc.2.1 hc.2.2 q
theorem aEG:bH X (zk .RShift) (rI (λ _ j=>0<=j) λ i j=>.int (i/2^j.toNat)):=mB λ i j _ _ _ _ _ hc q =>
 rshift_int hc (by rw[yBz i (aBD _)];exact q)
theorem aEO:bH X (zk .BitAnd) (dU λ i j=>.int (yDm i j)):=lP λ _ _ _ _ _ _ _ q=>and_int q
theorem aGw:bH X (zk .BitOr) (dU λ i j=>.int (Builtin.bitOr i j)):=lP λ _ _ _ _ _ _ _ q=>or_int q
theorem aEJ:bH X (zk .BitXor) (dU λ i j=>.int (Builtin.bitXor i j)):=lP λ _ _ _ _ _ _ _ q=>xor_int q
theorem unI{f:qz->Sem qz}{g:Int->Int}
 (rule:∀ (i:Int) (t:Tok) (s:qx) (Q:qz->qx->Prop) (E:qz->qx->Prop),Q (.int (g i) s.toks) {s with toks:=s.toks+1 }->qu (model X.prog X.w) X.A (f (.int i t)) Q E s) :
 pM X f (rU λ i=>.int (g i)):=by
 intro aA s σ H x v Q I rx h;obtain⟨i,rfl,q⟩:=h;obtain⟨t,rfl⟩:=rx;exact rule i t s _ _ ⟨.int (g i),H,I.tok _,⟨_,rfl⟩,q⟩
theorem aFg:pM X (unaryOp .USub) (rU λ i=>.int (-i)):=unI λ _ _ _ _ _ q=>neg_int q
theorem aEd:pM X (unaryOp .Invert) (rU λ i=>.int (Builtin.bitNot i)):=unI λ _ _ _ _ _ q=>invert_int q
end
section
variable {X : Cx}{a b c : qw}{ta tb tc : TE}{pos : Pos}
theorem nR{aA:List (qv×Obj)}{σ:St}{H:Hp}{s:qx}{Q:VK}{k k':Bool}(I:Inv X aA σ H s)(q:Q (.bl k) H)(e:k=k'):EP X aA σ Q (.bool k') s:=by
 subst e;exact⟨.bl k,H,I,rfl,q⟩
theorem aGo:bH X (xj .Lt) (dU λ i j=>.bl (decide (i<j))):=oY λ _ _ _ _ _ _ _ q=>lt_int q
theorem aFN:bH X (xj .LtE) (dU λ i j=>.bl (decide (i<=j))):=oY λ _ _ _ _ _ _ _ q=>le_int q
theorem aGk:bH X (xj .Gt) (dU λ i j=>.bl (decide (j<i))):=oY λ _ _ _ _ _ _ _ q=>gt_int q
theorem aFB:bH X (xj .GtE) (dU λ i j=>.bl (decide (j<=i))):=oY λ _ _ _ _ _ _ _ q=>ge_int q
theorem aFp:bH X (xj .Is) (λ x y H Q=>y=.non/\Q (.bl (decide (x=.non))) H):=by
 intro aA s σ H x y v u Q I rx ry h;obtain⟨rfl,q⟩:=h;cases ry;refine is_none_gen (nR I q ?_);cases x<;>first
  | (cases rx;rfl)
  | (obtain⟨t,rfl⟩:=rx;rfl)
theorem aCS:bH X (xj .IsNot) (λ x y H Q=>y=.non/\Q (.bl (!decide (x=.non))) H):=by
 intro aA s σ H x y v u Q I rx ry h;obtain⟨rfl,q⟩:=h;cases ry;refine isnot_none_gen (nR I q ?_);cases x<;>first
  | (cases rx;rfl)
  | (obtain⟨t,rfl⟩:=rx;rfl)
theorem bH.or{f:qz->qz->Sem qz}{r r':R2}(h:bH X f r)(h':bH X f r'):bH X f (λ x y H Q=>r x y H Q\/r' x y H Q):=by
 intro aA s σ H x y v u Q I rx ry q;rcases q with q | q
 ·exact h aA s σ H x y v u Q I rx ry q
 ·exact h' aA s σ H x y v u Q I rx ry q
theorem aHY(b:qw){op:vq}(h:op≠.In:=by decide)(h2:op≠.NotIn:=by decide):jz op b=false:=by
 have e1:(op==CmpOp.In)=false:=by cases op<;>first | rfl | exact absurd rfl h
 have e2:(op==CmpOp.NotIn)=false:=by cases op<;>first | rfl | exact absurd rfl h2
 cases b<;>simp[jz,e1,e2]
theorem aDc{op:vq}{r:R2}(ho:bH X (xj op) r)(ha:PE X a ta)(hb:PE X b tb)(hm:jz op b=false):PE X (.Compare a [op] [b] pos) (mE r ta tb):=by
 intro aA s σ H Q I h;exact wpAny_Compare1 (sG ha hb I h λ v u s2 x y H2 I2 rx ry q=>ho aA s2 σ H2 x y v u Q I2 rx ry q) hm
def aFF(t:TE):TT:=λ σ H Q=>t σ H λ x H'=>∃ k,x=.bl k/\Q k H'
theorem aDH{op:vq}{r:R2}(ho:bH X (xj op) r)(ha:PE X a ta)(hb:PE X b tb)(hm:jz op b=false):PT X (.Compare a [op] [b] pos) (aFF (mE r ta tb)):=by
 intro aA s σ H Q I h;refine wpAny_isTrue_Compare1 (aQ (ha aA s σ H _ I h) λ v s1 ⟨x,H1,I1,r1,q1⟩=>aQ (hb aA s1 σ H1 _ I1 q1) λ u s2 ⟨y,H2,I2,r2,q2⟩ =>
  aQ (ho aA s2 σ H2 x y v u _ I2 r1 r2 q2) λ c s3 ⟨z,H3,I3,r3,k,e,q3⟩=>?_) hm
 subst e;cases r3;exact xu ⟨H3,I3,q3⟩
def sW(K:FrG)(x:V)(H:Hp)(k:Bool):Prop:=
 match x with
 | .non=>k=false
 | .bl b=>k=b
 | .int i=>k=(i != 0)
 | .str y=>y.length<=qk/\k=((y.length:Int) != 0)
 | .byt y=>y.size<=qk/\k=((y.size:Int) != 0)
 | .ref p=>(∃ xs,aX K H p xs/\k = !xs.isEmpty)\/(∃ xs,bC K H p xs/\k = !xs.isEmpty)\/∃ aO,H p=qq (.dK aO)/\k = !aO.isEmpty
 | _=>False
theorem aBM{κ:Type}{aO:List (κ×V)}{vs:List (κ×qz)}(r:KV aO vs):(!vs.isEmpty) = !aO.isEmpty:=by
 cases r<;>rfl
theorem uU{xs:List V}{aC:List qz}(r:aH xs aC):(!aC.toArray.isEmpty) = !xs.isEmpty:=by
 cases r<;>simp
theorem jB:(qk:Nat)<2^63:=by rw[jy];decide
theorem aEw:aHk X (λ x H Q=>∃ k,sW X.K x H k/\Q k H):=by
 intro aA s σ H x v Q I rx h;obtain⟨k,e,q⟩:=h;have hl:=jB;have hs:qk=16777216:=jy;cases x with
 | non =>
   cases rx;have e':k=false:=e;subst e';exact truthy_none ⟨H,I,q⟩
 | bl b =>
   cases rx;have e':k=b:=e;subst e';exact xu ⟨H,I,q⟩
 | int i =>
   obtain⟨t,rfl⟩:=rx;have e':k=(i != 0):=e;subst e';exact PySem.P.truthy_int ⟨H,I,q⟩
 | str y =>
   obtain⟨t,rfl⟩:=rx;obtain⟨hy,e'⟩:y.length<=qk/\k=((y.length:Int) != 0):=e;subst e';exact PySem.P.truthy_str (by omega) ⟨H,I.tok _,q⟩
 | byt y =>
   obtain⟨t,rfl⟩:=rx;obtain⟨hy,e'⟩:y.size<=qk/\k=((y.size:Int) != 0):=e;subst e';exact PySem.W.truthy_bytes (by omega) ⟨H,I.tok _,q⟩
 | ref p =>
   cases rx;have e':(∃ xs,aX X.K H p xs/\k = !xs.isEmpty)\/(∃ xs,bC X.K H p xs/\k = !xs.isEmpty)\/∃ aO,H p=qq (.dK aO)/\k = !aO.isEmpty:=e;rcases e' with ⟨xs,hx,e'⟩ | ⟨xs,hx,e'⟩ | ⟨aO,hx,e'⟩
   ·subst e';obtain⟨aC,r,pl,hz⟩:=I.list hx;have bL:=r.length;exact wpAny_truthy_list pl.isList (by simp only[yAd];omega) ⟨H,I.tok _,by rw[uU r];exact q⟩
   ·subst e';obtain⟨aC,r,pl,hz⟩:=I.tuple hx;have bL:=r.length;exact truthy_tuple pl (by simp only[yAd];omega) ⟨H,I.tok _,by rw[uU r];exact q⟩
   ·subst e';obtain⟨hz,hS,vs,r,m⟩:aO.length<=qk/\(p==sysModules)=false/\∃ vs,KV aO vs/\s.heap.DictOf (rB X.prog X.w) p vs:=I.hok p _ hx;have bL:aO.length=vs.length:=Paired.length r;exact wpAny_truthy_dict hS m (by omega) ⟨H,I.tok _,by rw[aBM r];exact q⟩
 | _=>exact(show False from e).elim
theorem aCp(ha:PE X a ta)(he:∀ eA,isTrue a X.env eA=(do let v <- eA;standAt a.pos;holding [v] (truthy v))) :
 PT X a (λ σ H Q=>ta σ H λ x H'=>∃ k,sW X.K x H' k/\Q k H'):=by
 intro aA s σ H Q I h;exact isTrue_plain (aQ (ha aA s σ H _ I h) λ v s1 ⟨x,H1,I1,r1,q1⟩=>aEw aA s1 σ H1 x v Q I1 r1 q1) (he _)
theorem aBC:bH X (zk .Add) (λ x y H Q=>∃ i j,x=.str i/\y=.str j/\i.length+j.length<=qk/\Q (.str (i++j)) H):=by
 intro aA s σ H x y v u Q I rx ry h;obtain⟨i,j,rfl,rfl,hz,q⟩:=h;obtain⟨t,rfl⟩:=rx;obtain⟨t',rfl⟩:=ry;exact add_str (λ t' tk=>⟨.str (i++j),H,I.tok _,⟨_,rfl⟩,q⟩) hz
theorem dM{x:V}{us:List qz}(r:aH [x] us):∃ u,us=[u]/\aI x u:=by
 cases r with
 | cons r1 r2=>cases r2;exact⟨_,rfl,r1⟩
theorem kQ{x y:V}{us:List qz}(r:aH [x,y] us):∃ u w',us=[u,w']/\aI x u/\aI y w':=by
 cases r with
 | cons r1 r2 =>
   cases r2 with
   | cons r3 r4=>cases r4;exact⟨_,_,rfl,r1,r3⟩
theorem aCr:bK X (.builtin "abs") (λ xs H Q=>∃ i,xs=[.int i]/\Q (.int (if i<0 then -i else i)) H):=by
 intro aA s σ H xs us Q I r h;obtain⟨i,rfl,q⟩:=h;obtain⟨u,rfl,t,rfl⟩:=dM r;exact call_abs_int λ u tk=>⟨.int (if i<0 then -i else i),H,I.tok _,⟨_,rfl⟩,q⟩
theorem aBP(hc:X.calm=true):bK X (.builtin "max") (λ xs H Q=>∃ i j,xs=[.int i,.int j]/\Q (.int (if j>i then j else i)) H):=by
 intro aA s σ H xs us Q I r h;obtain⟨i,j,rfl,q⟩:=h;obtain⟨u,w',rfl,⟨t,rfl⟩,⟨t',rfl⟩⟩:=kQ r;refine max_two_ints (I.ok.hd hc) λ h' tk k=>⟨_,H,I.kept k,?_,q⟩
 by_cases hj:j>i
 ·rw[if_pos hj,if_pos hj];exact⟨_,rfl⟩
 ·rw[if_neg hj,if_neg hj];exact⟨_,rfl⟩
theorem aCa(hc:X.calm=true):bK X (.builtin "min") (λ xs H Q=>∃ i j,xs=[.int i,.int j]/\Q (.int (if j<i then j else i)) H):=by
 intro aA s σ H xs us Q I r h;obtain⟨i,j,rfl,q⟩:=h;obtain⟨u,w',rfl,⟨t,rfl⟩,⟨t',rfl⟩⟩:=kQ r;refine min_two_ints (I.ok.hd hc) λ h' tk k=>⟨_,H,I.kept k,?_,q⟩
 by_cases hj:j<i
 ·rw[if_pos hj,if_pos hj];exact⟨_,rfl⟩
 ·rw[if_neg hj,if_neg hj];exact⟨_,rfl⟩
theorem vQ:bK X (.type "int") (λ xs H Q=>(∃ i,xs=[.int i]/\Q (.int i) H)\/∃ k,xs=[.bl k]/\Q (.int (if k then 1 else 0)) H):=by
 intro aA s σ H xs us Q I r h;rcases h with ⟨i,rfl,q⟩ | ⟨k,rfl,q⟩
 ·obtain⟨u,rfl,t,rfl⟩:=dM r;exact call_int_int ⟨.int i,H,I,⟨_,rfl⟩,q⟩
 ·obtain⟨u,rfl,r1⟩:=dM r;cases r1;exact call_int_bool ⟨.int (if k then 1 else 0),H,I.tok _,⟨_,rfl⟩,q⟩
end
end L2
namespace L2
open PySem PySem.Spec PyProof.Rows
structure ObjM(h:Heap)(x dx C:qv)(mA:Str->Option qz):Prop where
 obj:h.get? x=qq (yBl C dx)
 ns:h.Ns1 dx mA
 ne:dx≠x
theorem aB8{h:Heap}{dx:qv}{mA:Str->Option qz}(n:h.Ns1 dx mA):∃ od,h.get? dx=qq od/\∀ name,yDw name od=qq (mA name):=by
 obtain⟨o,es,ep,ho,hd,hk,_,hm⟩:=n;refine⟨o,ho,λ name=>?_⟩
 have e:=hm name;unfold nsFind findBy at e;rw[<- Array.find?_toList] at e;unfold yDw;rw[hd];dsimp only
 split
 ·rename_i y q;rw[q] at e;exact congrArg qq e
 ·rename_i q;rw[q] at e;have a:es.toList.any (·.refKey)=false:=by
   rw[List.any_eq_false];intro y hy;obtain⟨z,t,hkey⟩:=hk y (Array.mem_toList_iff.mp hy);simp[DictEntry.refKey,hkey]
  have a':¬ es.toList.any (·.refKey)=true:=by rw[a];exact yAm
  rw[if_neg a'];exact congrArg qq e
theorem ObjM.look{h:Heap}{x dx C:qv}{mA:Str->Option qz}(I:ObjM h x dx C mA):∃ od,yCa h x (yBl C dx) C (qq od)/\∀ name,yDw name od=qq (mA name):=
 let ⟨od,ho,hl⟩:=aB8 I.ns
 ⟨od,⟨I.obj,rfl,rfl,ho⟩,hl⟩
section
variable {prog : qo}{w : zq}{A : zx}{E : qz -> qx -> Prop}{s : qx}{K : FrG}{x dx C f : qv}{mA : Str -> Option qz}{name : Str}{v : qz}
end
section
variable {P : qo}{w : zq}{H H' : Hp}{h h' : Heap}{a C dx : qv}{fs fs' : List (Str×V)}
end
structure Cls(K:FrG)(C:qv):Prop where
 pg:PySem.W.plainGet K C Str.empty=true
 hd:PySem.W.hasDictIn K C=true
 po:PySem.W.plainOver K C=true
 sa:yCv K (.ref C) "__setattr__" = qq (qq (.builtin "object.__setattr__"))
theorem Cls.get{K:FrG}{C:qv}(c:Cls K C)(f:Str):PySem.W.plainGet K C f=true:=c.pg
structure Con(K:FrG)(C:qv)(f:Str)(v:V)(u:qz):Prop where
 at_:yCv K (.ref C) f=qq (qq u)
 rel:aI v u
 get:PySem.W.specialIn K u "__get__" = qq qj
 cp:PySem.W.copiedNames.contains f=false
structure Meth(K:FrG)(C:qv)(m:Str)(f:qv):Prop where
 at_:yCv K (.ref C) m=qq (qq (.ref f))
 fn:PySem.W.isFn K (.ref f)=true
 kp:yAt K (.ref f)=true
section
variable {X : Cx}{aA : List (qv×Obj)}{σ : St}{H : Hp}{s : qx}{a C dx : qv}{fs : List (Str×V)}{f : Str}{v : V}{A : zx}{E : qz -> qx -> Prop}
theorem Inv.made(I:Inv X aA σ H s):Inv X aA σ (aS (aS H s.heap.objs.size (.own (s.heap.objs.size+1))) (s.heap.objs.size+1) (.ins C s.heap.objs.size []))
 {s with heap:=(s.heap.push yAy).push (yBl C s.heap.objs.size) }:=by
 have e1:(s.heap.push yAy).get? s.heap.objs.size=qq yAy:=xAe s.heap rfl;have e2:((s.heap.push yAy).push (yBl C s.heap.objs.size)).get? (s.heap.objs.size+1)=qq (yBl C s.heap.objs.size):=by
  have:=xAe (s.heap.push yAy) (o:=yBl C s.heap.objs.size) rfl;rwa [yCw] at this
 have e3:(s.heap.push yAy).Ns s.heap.objs.size (λ _=>qj):=⟨yAy,#[],_,e1,rfl,(λ e he=>absurd he (by simp)),λ _=>rfl⟩
 have I1:=I.laid (a:=s.heap.objs.size) (o:=.own (s.heap.objs.size+1)) (h':=s.heap.push yAy) (t':=s.toks) (λ b u q=>hpS _ q) (yAc _) ⟨_,e1⟩
 refine I1.laid (a:=s.heap.objs.size+1) (o:=.ins C s.heap.objs.size []) (t':=s.toks) (λ b u q=>hpS _ q) (yCy (yCw _ _)) ?_
 have ne:s.heap.objs.size≠s.heap.objs.size+1:=xAh (yCc _);refine⟨by rw[aT ne,bP],Nat.zero_le _,ne,e2,λ _=>qj,(Heap.Ns1.of_empty e3).at λ o q=>hpS _ q,λ _=>True.intro,λ y hy=>absurd rfl hy⟩
end
section
variable {X : Cx}{o e value : qw}{f : Str}{pos pos' tpos : Pos}{ta tv : TE}
end
section
variable {X : Cx}{aA : List (qv×Obj)}{σ : St}{H : Hp}{s : qx}{A : zx}{E : qz -> qx -> Prop}{Q : qz -> qx -> Prop}{c : qz}{b : Bool}
inductive TyOf (K:FrG) (H:Hp):V->qz->Prop where
 | non:TyOf K H .non (.type "NoneType")
 | bl (x:Bool):TyOf K H (.bl x) (.type "bool")
 | int (i:Int):TyOf K H (.int i) (.type "int")
 | str (x:Str):TyOf K H (.str x) (.type "str")
 | flt (x:UInt64):TyOf K H (.flt x) (.type "float")
 | lst {a:qv}{xs:List V} (e:H a=qq (.lst xs)):TyOf K H (.ref a) (.type "list")
 | frz {a:qv}{o:Obj}{xs:List V} (e:H a=qq (.frz o (.lst xs))):TyOf K H (.ref a) (.type "list")
 | tup {a:qv}{xs:List V} (e:H a=qq (.tup xs)):TyOf K H (.ref a) (.type "tuple")
 | dK {a:qv}{aO:List (cG×V)} (e:H a=qq (.dK aO)):TyOf K H (.ref a) (.type "dict")
 | dT {a:qv}{aO:List (List cG×V)} (e:H a=qq (.dT aO)):TyOf K H (.ref a) (.type "dict")
 | ins {a C dx:qv}{fs:List (Str×V)} (e:H a=qq (.ins C dx fs)) (cl:Cls K C) (ha:yCv K (.ref C) "__class__" = qq (qq (.builtin "object.__class__")))
    (hn:PySem.W.specialIn K (.builtin "object.__class__") "__get__" = qq (qq (.builtin "getset_descriptor.__get__"))) (htk:PySem.W.takesIn K (.builtin "object.__class__")=qq true)
    (hm:PySem.W.mroIn K C (.type "object")=qq true):TyOf K H (.ref a) (.ref C)
end
end L2
namespace L2
open PySem PySem.Spec PyProof.Rows
structure Room(k:Nat)(A:zx):Prop where
 hd:A.handled=qj
 dp:A.depth+3*k+5<recursionLimit
 un:A.units+16*k+200<cLine
theorem Room.mono{j k:Nat}{A:zx}(r:Room k A)(h:j<=k):Room j A:=⟨r.hd,by have:=r.dp;omega,by have:=r.un;omega⟩
theorem Room.deeper{k:Nat}{A:zx}(r:Room (k+1) A)(env:Env):Room k (A.deeper env):=
 ⟨r.hd,by have:=r.dp;show A.depth+1+3*k+5<_;omega,by have:=r.un;show A.units+3+16*k+200<_;omega⟩
theorem Room.in1{k:Nat}{A:zx}(r:Room (k+1) A):Room k A.in1:=
 ⟨r.hd,by have:=r.dp;show A.depth+3*k+5<_;omega,by have:=r.un;show A.units+1+16*k+200<_;omega⟩
theorem aBI{A:zx}{C:qv}{us:List qz}{kw:List (Str×qz)}:(A.under (.builtin "type.__call__" ⟨.ref C::us,kw⟩)).depth=A.depth+1:=by
 first | rfl | simp[Around.under,Code.weight,Code.isCreation,Code.isGuard,Code.isCaller,Code.frames,Code.isFrame,guardIds]
theorem aBF{A:zx}{C:qv}{us:List qz}{kw:List (Str×qz)}:(A.under (.builtin "type.__call__" ⟨.ref C::us,kw⟩)).units=A.units+1:=by
 first | rfl | simp[Around.under,Code.cUnits,Code.frames,Code.isFrame]
theorem Room.make{k:Nat}{A:zx}(r:Room (k+1) A)(C:qv)(us:List qz)(kw:List (Str×qz)):Room k (A.under (.builtin "type.__call__" ⟨.ref C::us,kw⟩)):=
 ⟨r.hd,by have:=r.dp;rw[aBI];omega,by have:=r.un;rw[aBF];omega⟩
theorem Room.depth{k:Nat}{A:zx}(r:Room k A):A.depth<recursionLimit:=by have:=r.dp;omega
theorem Room.units{k:Nat}{A:zx}(r:Room k A):A.units+64<cLine:=by have:=r.un;omega
def aAO:TA:=λ _ H Q=>Q [] H
def aFC(ta:TE)(tr:TA):TA:=λ σ H Q=>ta σ H λ x H1=>tr σ H1 λ xs H2=>Q (x::xs) H2
section
variable {X : Cx}{e : qw}{es : List qw}{te : TE}{t : TA}{pos : Pos}
theorem iY:PA X [] aAO:=λ _ _ _ _ H Q I h=>Calls.spliced_nil ⟨[],H,I,.nil,h⟩
theorem eT(ha:PE X e te)(hr:PA X es t)(hs:zj (e::es) X.env=(false,eval e X.env)::zj es X.env:=by rfl):PA X (e::es) (aFC te t):=by
 intro pos aA s σ H Q I h;rw[hs];show qu _ _ (spliced ((false,eval e X.env)::backTo pos (zj es X.env))) _ _ s;refine Calls.spliced_cons (aQ (ha aA s σ H _ I h) λ u s1 hPq19=>?_)
 obtain⟨x,H1,I1,r1,q1⟩:=hPq19;exact aQ (hr pos aA s1 σ H1 _ I1 q1) λ us s2 ⟨xs,H2,I2,r2,q2⟩=>⟨x::xs,H2,I2,.cons r1 r2,q2⟩
def aHj(t:TA):TE:=λ σ H Q=>t σ H λ xs H1=>xs.length<=qk/\∀ p,H1 p=qj->Q (.ref p) (aS H1 p (.tup xs))
def aHb(t:TA):TE:=λ σ H Q=>t σ H λ xs H1=>xs.length<=qk/\∀ p,H1 p=qj->Q (.ref p) (aS H1 p (.lst xs))
theorem rN{x1}(h:PA X es t):PE X (.Tuple es x1 pos) (aHj t):=by
 intro aA s σ H Q I hq;refine wpAny_Tuple_spliced (aQ (h pos aA s σ H _ I hq) λ us s1 ⟨xs,H1,I1,r,z,q⟩=>⟨by rw[<- r.length];exact z,?_⟩)
 have hf:H1 s1.heap.objs.size=qj:=I1.hok.fresh (yAc _);refine⟨.ref s1.heap.objs.size,aS H1 s1.heap.objs.size (.tup xs),I1.laid (t':=s1.toks) (λ b u e=>hpS _ e) (yAc _) ?_,rfl,q _ hf⟩
 exact⟨z,us,r,⟨_,xAe _ rfl,rfl,_,rfl⟩⟩
theorem aEy(h:PA X es t):PE X (.List es pos) (aHb t):=by
 intro aA s σ H Q I hq;refine wpAny_List_spliced (aQ (h pos aA s σ H _ I hq) λ us s1 ⟨xs,H1,I1,r,z,q⟩=>⟨by rw[<- r.length];exact z,?_⟩)
 have hf:H1 s1.heap.objs.size=qj:=I1.hok.fresh (yAc _);refine⟨.ref s1.heap.objs.size,aS H1 s1.heap.objs.size (.lst xs),I1.laid (t':=s1.toks) (λ b u e=>hpS _ e) (yAc _) ?_,rfl,q _ hf⟩
 exact⟨z,us,0,r,xAe _ rfl⟩
end
abbrev Sp:=List V->Hp->VK->XK->Prop
abbrev dH:=List Env->Hp->qx->XK->qz->qx->Prop
structure Env0(P:qo)(w:zq)(K:FrG)(mg:Str->Option qz)(base:Heap)(A:zx)(outer:List Env)(s:qx)(H:Hp):Prop where
 frames:A.frames=qq outer
 mod:Mod K mg base
 bs:∀ b o,base.get? b=qq o->s.heap.get? b=qq o/\H b=qj
 bsz:base.objs.size<=s.heap.objs.size
 funs:s.heap.FunFrames base outer
 frf:∀ b∈bT outer,H b=qj
 hok:bN P w H s.heap
 bare:AllBare s.gens
def CE(outer:List Env)(P:qo)(w:zq)(H:Hp)(s:qx)(Q:VK)(u:qz)(s':qx):Prop:=
 ∃ v H',s'.os=s.os/\AllBare s'.gens/\Un (bT outer) [] H H' s.heap s'.heap/\bN P w H' s'.heap/\aI v u/\Q v H'
def CR(CX:dH)(outer:List Env)(P:qo)(w:zq)(H:Hp)(s:qx)(Q:VK)(E:XK)(r:Result)(s':qx):Prop:=
 match r with
 | .ok (.ret u)=>CE outer P w H s Q u s'
 | .ok _=>False
 | .error e=>CX outer H s E e s'
structure FnOk(P:qo)(w:zq)(K:FrG)(mg:Str->Option qz)(base:Heap)(CX:dH)(k:Nat)(f:qv)(fd:xy)(ps:List Str)(sp:Sp):Prop where
 len:∀ vs H Q E,sp vs H Q E->vs.length=ps.length
 run:∀ (A:zx) (outer:List Env) (s:qx) (H:Hp) (args:Args) (us:List qz) (vs:List V) (Q:VK) (E:XK),Room k A->Env0 P w K mg base A outer s H->BindsTo s fd args (ps.zip us)->aH vs us->sp vs H Q E ->
  vz (model P w) A (.call (.ref f) args) (CR CX outer P w H s Q E) s
theorem FnOk.mono{P:qo}{w:zq}{K:FrG}{mg:Str->Option qz}{base:Heap}{CX:dH}{j k:Nat}{f:qv}{fd:xy}{ps:List Str}{sp:Sp}(F:FnOk P w K mg base CX j f fd ps sp)(h:j<=k) :
 FnOk P w K mg base CX k f fd ps sp:=⟨F.len,λ A outer s H args us vs Q E hr=>F.run A outer s H args us vs Q E (hr.mono h)⟩
theorem Env0.make{P:qo}{w:zq}{K:FrG}{mg:Str->Option qz}{base:Heap}{A:zx}{outer:List Env}{s:qx}{H:Hp}(e:Env0 P w K mg base A outer s H)(C:qv)(us:List qz)(kw:List (Str×qz)) :
 Env0 P w K mg base (A.under (.builtin "type.__call__" ⟨.ref C::us,kw⟩)) outer s H:=⟨by first | exact e.frames | (simpa [Around.under,Code.envs,Code.isFrame,pushEnvs] using e.frames),e.mod,e.bs,e.bsz,e.funs,e.frf,e.hok,e.bare⟩
theorem Env0.in1{P:qo}{w:zq}{K:FrG}{mg:Str->Option qz}{base:Heap}{A:zx}{outer:List Env}{s:qx}{H:Hp}(e:Env0 P w K mg base A outer s H) :
 Env0 P w K mg base A.in1 outer s H:=⟨e.frames,e.mod,e.bs,e.bsz,e.funs,e.frf,e.hok,e.bare⟩
section
variable {X : Cx}{aA : List (qv×Obj)}{σ : St}{H : Hp}{s s' : qx}
theorem Inv.env0(I:Inv X aA σ H s):Env0 X.prog X.w X.K X.mg X.base X.A X.stack s H:=
 ⟨I.ok.frames,I.ok.mod,I.bs,xAg I.ok.bsz I.sz,I.stack,I.stkFree,I.hok,I.bare⟩
theorem Inv.after{Q:VK}{u:qz}(I:Inv X aA σ H s)(h:CE X.stack X.prog X.w H s Q u s'):EP X aA σ Q u s':=by
 obtain⟨v,H',os,bare,un,hok,r,q⟩:=h;obtain⟨hh,g,d,t,os'⟩:=s';obtain rfl:os'=s.os:=os;exact⟨v,H',I.call (h':=hh) (g':=g) (d':=d) (t':=t) (ch:=[]) un hok bare (λ b z=>absurd z (by simp)),r,q⟩
end
def oE(sp:Sp)(dvs:List V)(E:XK)(t:TA):TE:=λ σ H Q=>t σ H λ vs H1=>sp (vs++dvs) H1 Q E
def cR(K:FrG)(fd:xy)(ps:List Str)(ds:List qz):Prop:=
 ∀ (s:qx) (us:List qz),K.In s.heap->(us++ds).length=ps.length->BindsTo s fd ⟨us,[]⟩ (ps.zip (us++ds))
theorem cR.all{K:FrG}{fd:xy}{ps:List Str}(h:∀ us:List qz,us.length=ps.length->bindArgs fd ⟨us,[]⟩=pure (ps.zip us)):cR K fd ps []:=λ s us _ hl=>by
 rw[yAs] at hl ⊢;exact .of_eq (h us hl)
def nP(CX:dH)(X:Cx)(E:XK):Prop:=∀ (aA:List (qv×Obj)) (σ:St) (H:Hp) (s:qx) (e:qz) (s':qx),Inv X aA σ H s->CX X.stack H s E e s'->X.xe e s'
section
variable {X : Cx}{CX : dH}{k : Nat}{f C : qv}{fd : xy}{ps : List Str}{sp : Sp}{dvs : List V}{ds : List qz}{E : XK}{x m : Str}{p pos apos : Pos}{e o : qw}{es : List qw}{ta : TE}{t : TA}
theorem yL{aA:List (qv×Obj)}{σ:St}{H:Hp}{s:qx}{Q:VK}{us:List qz}{vs:List V}(F:FnOk X.prog X.w X.K X.mg X.base CX k f fd ps sp)(hr:Room k X.A)(hb:cR X.K fd ps ds)(hd:aH dvs ds)(hx:nP CX X E)
 (I:Inv X aA σ H s) (r:aH vs us) (h:sp (vs++dvs) H Q E):qu (model X.prog X.w) X.A (call (.ref f) us) (EP X aA σ Q) X.xe s:=by
 have r2:aH (vs++dvs) (us++ds):=r.append hd;have hl:(us++ds).length=ps.length:=by rw[<- r2.length];exact F.len _ _ _ _ h
 refine wpAny_call (codeAny_mono (F.run X.A X.stack s H ⟨us,[]⟩ (us++ds) (vs++dvs) Q E hr I.env0 (hb s us I.kIn hl) r2 h) λ r s' hq=>?_)
 cases r with
 | error e=>exact hx aA σ H s e s' I hq
 | ok fl =>
   cases fl with
   | ret u=>exact I.after hq
   | next=>exact False.elim hq
   | brk=>exact False.elim hq
   | cont=>exact False.elim hq
theorem aDF(F:FnOk X.prog X.w X.K X.mg X.base CX k f fd ps sp)(hr:Room k X.A)(hg:Gl X x)(hm:X.mg x=qq (.ref f))(hk:yAt X.K (.ref f)=true)(hb:cR X.K fd ps ds)(hd:aH dvs ds)(hx:nP CX X E)
 (ha:PA X (e::es) t) (hdb:(x==("__debug__" : Str))=false:=by decide) (he:zj (e::es) X.env=(false,eval e X.env)::zj es X.env:=by rfl) (hpl:(backTo pos (zj es X.env)).any (·.1)=false:=by rfl) :
 PE X (.Call (.Name x p) (e::es) [] pos) (oE sp dvs E t):=by
 intro aA s σ H Q I h;refine jq (iW I hg hm ?_ hdb);refine PySem.W.callWith_K (h₀:=X.base) I.ok.mod.kin hk (aQ (ha pos aA s σ H _ I h) λ us s1 ⟨vs,H1,I1,r,q⟩=>⟨I1.kIn,?_⟩) he hpl
 exact yL F hr hb hd hx I1 r q
theorem aCJ(F:FnOk X.prog X.w X.K X.mg X.base CX k f fd ps sp)(hr:Room k X.A)(hg:Gl X x)(hm:X.mg x=qq (.ref f))(hk:yAt X.K (.ref f)=true)(hb:cR X.K fd ps ds)(hd:aH dvs ds)(hx:nP CX X E)
 (hdb:(x==("__debug__" : Str))=false:=by decide):PE X (.Call (.Name x p) [] [] pos) (oE sp dvs E aAO):=by
 intro aA s σ H Q I h;refine jq (iW I hg hm ?_ hdb);exact PySem.W.callWith_K0 I.kIn hk (yL (us:=[]) F hr hb hd hx I .nil h)
structure Mk(K:FrG)(C f:qv):Prop where
 makes:PySem.W.makesIn K C=true
 init:yCv K (.ref C) "__init__" = qq (qq (.ref f))
 fn:PySem.W.isFn K (.ref f)=true
 kp:yAt K (.ref C)=true
end
section
variable {X : Cx}{CX : dH}{k : Nat}{f C : qv}{fd : xy}{ps ks : List Str}{sp : Sp}{E : XK}{x m : Str}{p pos apos kpos : Pos}{e o : qw}{es : List qw}{kws : List Keyword}{te ta : TE}{t tk : TA}{nm : Option Str}
structure KBinds(K:FrG)(fd:xy)(ps ks:List Str)(g:List qz->List qz->List qz)(gV:List V->List V->List V):Prop where
 to:∀ (s:qx) (us ws:List qz),K.In s.heap->(g us ws).length=ps.length->BindsTo s fd ⟨us,ks.zip ws⟩ (ps.zip (g us ws))
 rel:∀ {vs:List V}{us:List qz}{zs:List V}{ws:List qz},aH vs us->aH zs ws->aH (gV vs zs) (g us ws)
variable {g : List qz -> List qz -> List qz}{gV : List V -> List V -> List V}
end
structure FnScope(N P:List Str)(sc:zv):Prop where
 kind:sc.kind=.function
 co:sc.isCoroutine=false
 gen:sc.isGenerator=false
 nd:N.Nodup
 pre:N.take P.length=P
 par:∀ x∈P,sc.names.lookup x=qq .local\/sc.names.lookup x=qq .cell
 nofree:∀ y∈sc.names,y.2≠.free
theorem vR{kindOf:Str->Option jw}{x:Str}:∀ {binds:List (Str×qz)}{m:Str->Option qz},(∀ v,(x,v) ∉ binds)->bindL kindOf binds m x=m x
 | [],_,_=>rfl
 | (n,v)::r,m,h=>by
   unfold bindL;rw[vR λ w hw=>h w (xAf _ hw)]
   split
   ·have:x≠n:=by rintro rfl;exact h v xAd
    simp[this]
   ·rfl
theorem vK{kindOf:Str->Option jw}{x:Str}:∀ {binds:List (Str×qz)}{m:Str->Option qz},(∀ v,(x,v) ∉ binds)->bindC kindOf binds m x=m x
 | [],_,_=>rfl
 | (n,v)::r,m,h=>by
   unfold bindC;rw[vK λ w hw=>h w (xAf _ hw)]
   split
   ·rfl
   ·have:x≠n:=by rintro rfl;exact h v xAd
    simp[this]
theorem vA{kindOf:Str->Option jw}{x:Str}{v:qz}:∀ {P:List Str}{vs:List qz}{i:Nat}{m:Str->Option qz},P.Nodup->P[i]? = qq x->vs[i]? = qq v->kindOf x=qq .local ->
 bindL kindOf (P.zip vs) m x=qq v
 | [],_,_,_,_,h,_,_=>by simp at h
 | _::_,[],_,_,_,_,h,_=>by simp at h
 | p::P,w::vs,0,m,nd,h1,h2,hk=>by
   simp at h1 h2;subst h1;subst h2;show bindL kindOf ((p,w)::P.zip vs) m p=_;unfold bindL;rw[vR λ v hv=>(List.nodup_cons.mp nd).1 (List.of_mem_zip hv).1,if_pos hk]
   simp
 | p::P,w::vs,i+1,m,nd,h1,h2,hk=>by
   show bindL kindOf ((p,w)::P.zip vs) m x=_;unfold bindL;exact vA (i:=i) (List.nodup_cons.mp nd).2 (by simpa using h1) (by simpa using h2) hk
theorem vV{kindOf:Str->Option jw}{x:Str}{v:qz}:∀ {P:List Str}{vs:List qz}{i:Nat}{m:Str->Option qz},P.Nodup->P[i]? = qq x->vs[i]? = qq v->kindOf x≠qq .local ->
 bindC kindOf (P.zip vs) m x=qq v
 | [],_,_,_,_,h,_,_=>by simp at h
 | _::_,[],_,_,_,_,h,_=>by simp at h
 | p::P,w::vs,0,m,nd,h1,h2,hk=>by
   simp at h1 h2;subst h1;subst h2;show bindC kindOf ((p,w)::P.zip vs) m p=_;unfold bindC;rw[vK λ v hv=>(List.nodup_cons.mp nd).1 (List.of_mem_zip hv).1,if_neg hk]
   simp
 | p::P,w::vs,i+1,m,nd,h1,h2,hk=>by
   show bindC kindOf ((p,w)::P.zip vs) m x=_;unfold bindC;exact vV (i:=i) (List.nodup_cons.mp nd).2 (by simpa using h1) (by simpa using h2) hk
noncomputable def start(N:List Str)(vs:List V):St:=vs.map qq++yAb (N.length-vs.length) qj
noncomputable def dS(CX:dH)(P:qo)(w:zq)(K:FrG)(mg:Str->Option qz)(base:Heap)(N:List Str)(aY:Str)(scope:zv)(f:qv)(cd:qz)(A:zx)(outer:List Env)(s:qx)(H:Hp)(E:XK):Cx where
 prog:=P
 w:=w
 K:=K
 mg:=mg
 base:=base
 A:=A.deeper (envOfC aY scope s.heap.objs.size f cd)
 N:=N
 s₀:=s
 H₀:=H
 env:=envOfC aY scope s.heap.objs.size f cd
 outer:=outer
 stack:=envOfC aY scope s.heap.objs.size f cd::outer
 ex:=[]
 calm:=true
 fn:=λ _=>true
 pn:=[]
 xe:=λ e s'=>qu (model P w) (A.deeper (envOfC aY scope s.heap.objs.size f cd)) (leaving (envOfC aY scope s.heap.objs.size f cd) e) (λ _ s''=>CX outer H s E e s'') (λ e' s''=>CX outer H s E e' s'') s'
theorem wE{sc:zv}{n:Nat}{x:Str}(h:sc.names.lookup x=qq .cell):∃ c,(cellsFrom n sc.names []).lookup x=qq c:=by
 have q:=PySem.W.cellsFrom_some sc.names n [] (.inl h);exact Option.isSome_iff_exists.mp q
theorem aCd{CX:dH}{P:qo}{w:zq}{K:FrG}{mg:Str->Option qz}{base:Heap}{N ps:List Str}{aY:Str}{scope:zv}{f:qv}{cd:qz}{A:zx}{outer:List Env}{s s1:qx}{H:Hp}{E:XK}{us:List qz}{vs:List V}
 (S:FnScope N ps scope) (hd:A.handled=qj) (e0:Env0 P w K mg base A outer s H) (hl:vs.length=ps.length) (r:aH vs us)
 (x:InCallC s s.heap.objs.size (bindL (envOfC aY scope s.heap.objs.size f cd).kindOf (ps.zip us) λ _=>qj) (cellsFrom (s.heap.objs.size+1) scope.names []) (bindC (envOfC aY scope s.heap.objs.size f cd).kindOf (ps.zip us) λ _=>qj) s1) :
 Inv (dS CX P w K mg base N aY scope f cd A outer s H E) [] (start N vs) H s1:=by
 have hpl:ps.length<=N.length:=by have:=congrArg List.length S.pre;rw[yCd] at this;omega
 obtain⟨h1,tk,rfl,hk⟩:=x.done;have noA:∀ b:qv,b ∉ (dS CX P w K mg base N aY scope f cd A outer s H E).ex:=λ b z=>absurd (show b∈([]:List qv) from z) (by simp)
 refine⟨⟨e0.mod,S.kind,rfl,rfl,yAc _,λ y z c h1 h2=>?_,λ y hy=>?_,λ y c _ h=>?_,λ _=>hd,Around.frames_deeper e0.frames,.inr ⟨rfl,rfl⟩,λ b z=>absurd z (noA b),e0.bs,e0.bsz,λ b _ _=>noA b,λ b z=>absurd z (noA b),e0.funs,e0.frf⟩,
  rfl,e0.bare,Un.kept hk,⟨_,x.toInCall.ns,λ i y v h1 h2 h3=>?_⟩,λ y c h=>⟨_,x.cell y c h⟩,e0.hok.fresh (yAc _),λ y c h=>?_,λ p hp=>absurd (show p∈([]:List (qv×Obj)) from hp) (by simp),e0.hok.kept hk,?_⟩
 ·exact name_of_addr x.apart (PySem.mem_of_lookup h1) (PySem.mem_of_lookup h2)
 ·have hy:scope.names.lookup y=qq .cell\/scope.names.lookup y=qq .free:=hy;rcases hy with hy | hy
  ·exact wE hy
  ·exact absurd rfl (S.nofree _ (PySem.mem_of_lookup hy))
 ·exact yDh (x.above y c (PySem.mem_of_lookup h))
 ·have hi:i<vs.length:=by
   unfold start at h2
   by_cases hi:i<vs.length
   ·exact hi
   ·rw[yAa (by simpa using hi)] at h2
    rw[List.getElem?_replicate] at h2
    split at h2<;>cases h2
  have ha:vs[i]? = qq v:=by
   unfold start at h2;rw[xAj (by simpa using hi),xAb] at h2
   cases e:vs[i]? with
   | none=>rw[e] at h2;cases h2
   | some a=>rw[e] at h2;cases h2;rfl
  obtain⟨u,hu,rv⟩:=r.get ha;have hp:ps[i]? = qq y:=by
   rw[<- S.pre,List.getElem?_take_of_lt (by omega)];exact h1
  have ndP:ps.Nodup:=by rw[<- S.pre];exact S.nd.sublist (List.take_sublist _ _)
  refine⟨u,rv,?_⟩;rcases S.par y (xAi hp) with k | k
  ·exact .inl ⟨k,vA ndP hp hu k⟩
  ·obtain⟨c,e⟩:=wE (n:=s.heap.objs.size+1) k;refine .inr ⟨.inl k,c,e,?_⟩;have q:=x.cell y c e;rw[vV ndP hp hu (by show scope.names.lookup y≠_;rw[k];decide)] at q
   exact q
 ·exact e0.hok.fresh (yDh (x.above y c (PySem.mem_of_lookup h)))
 ·unfold start;show _=N.length;rw[xAk,yAe,yCz];omega
theorem aAx{CX:dH}{P:qo}{w:zq}{K:FrG}{mg:Str->Option qz}{base:Heap}{k:Nat}{f:qv}{name aY:Str}{params:Arguments}{body:List zy}{scope:zv}{dV kV doc pm cdv ct oc:qz}{an od:Option qv}
 {osl:Array (Option qz)}{N ps:List Str}{sp:Sp} (lk:K.lookup f=qq ⟨oc,od,.func (yBf name aY params body scope dV kV doc pm an cdv ct),osl⟩) (hcd:yCb K cdv aY=true) (S:FnScope N ps scope)
 (len:∀ vs H Q E,sp vs H Q E->vs.length=ps.length)
 (hbody:∀ (A:zx) (outer:List Env) (s:qx) (H:Hp) (vs:List V) (Q:VK) (E:XK),Room k (A.deeper (envOfC aY scope s.heap.objs.size f cdv))->sp vs H Q E ->
   ∃ t,aW (dS CX P w K mg base N aY scope f cdv A outer s H E) body t/\t {nx:=λ _ H'=>Q .non H',rt:=Q } (start N vs) H) :
 FnOk P w K mg base CX (k+1) f (yBf name aY params body scope dV kV doc pm an cdv ct) ps sp:=by
 refine⟨len,λ A outer s H args us vs Q E hr e0 hb r hsp=>?_⟩
 have hl:=len _ _ _ _ hsp;have KX:K.In s.heap:=e0.mod.kin.keeps λ b o e=>(e0.bs b o e).1
 have lim:s.heap.NoLimit:=e0.mod.nolimit.keeps λ b o e=>(e0.bs b o e).1
 have hkind:∀ y∈ps.zip us,scope.names.lookup y.1=qq .local\/(scope.names.lookup y.1=qq .cell/\((cellsFrom (s.heap.objs.size+1) scope.names []).lookup y.1).isSome=true):=λ aF hy=>by
  obtain⟨n,v⟩:=aF;rcases S.par n (List.of_mem_zip hy).1 with q | q
  ·exact .inl q
  ·exact .inr ⟨q,PySem.W.cellsFrom_some _ _ _ (.inl q)⟩
 refine codeAny_call_function hr.depth (KX _ _ lk) rfl S.co S.gen rfl (PySem.W.codeRec_of KX hcd) (hb _ _ _ _ ?_);refine wpAny_newFunctionEnv_cells S.kind hkind λ env he s1 x=>?_
 subst he;refine⟨lim.keeps x.toInCall.keep,codeAny_func ?_⟩;obtain⟨t,ht,hq⟩:=hbody A outer s H vs Q E (hr.deeper _) hsp;have I:Inv (dS CX P w K mg base N aY scope f cdv A outer s H E) [] (start N vs) H s1:=aCd S hr.hd e0 hl r x;refine wpAny_mono (ht [] s1 (start N vs) H _ I hq) (λ fl s' hs=>?_) λ e s' hs=>hs
 have bO:∀ {σ':St}{H':Hp}{v:V}{u:qz},Inv (dS CX P w K mg base N aY scope f cdv A outer s H E) [] σ' H' s'->aI v u->Q v H'->CE outer P w H s Q u s':=
  λ {σ' H' v u} J rv q=>⟨v,H',J.os,J.bare,J.base,J.hok,rv,q⟩
 cases fl with
 | ret u =>
   obtain⟨v,σ',H',J,rv,q⟩:=hs;exact bO J rv q
 | next =>
   obtain⟨σ',H',J,q⟩:=hs;exact bO (v:=V.non) (u:=Value.none) J rfl q
 | brk =>
   obtain⟨_,_,_,q⟩:=hs;exact False.elim q
 | cont =>
   obtain⟨_,_,_,q⟩:=hs;exact False.elim q
end L2
namespace L2
open PySem PySem.Spec PyProof.Rows
section
variable {X : Cx}{x : Str}{p pos : Pos}{e : qw}{es : List qw}{t : TA}{id T : String}{r : List V -> Hp -> VK -> Prop}
def tU(r:List V->Hp->VK->Prop)(t:TA):TE:=λ σ H Q=>t σ H λ vs H1=>r vs H1 Q
theorem eS(hc:bK X (.builtin id) r)(hg:Gl X x)(hm:X.mg x=qj)(hv:zw x=qq (.builtin id))(ha:PA X (e::es) t)(hn:x ≠ "__name__":=by decide)(hdb:(x==("__debug__" : Str))=false:=by decide)
 (he:zj (e::es) X.env=(false,eval e X.env)::zj es X.env:=by rfl) (hpl:(backTo pos (zj es X.env)).any (·.1)=false:=by rfl):PE X (.Call (.Name x p) (e::es) [] pos) (tU r t):=by
 intro aA s σ H Q I h;refine jq (kL I hg hm hv ?_ hn hdb);exact PyProof.Rows.callWith_builtin1 (aQ (ha pos aA s σ H _ I h) λ us s1 ⟨vs,H1,I1,r1,q1⟩=>hc aA s1 σ H1 vs us Q I1 r1 q1) he hpl
theorem uW(hc:bK X (.type T) r)(hg:Gl X x)(hm:X.mg x=qj)(hv:zw x=qq (.type T))(ha:PA X (e::es) t)(hn:x ≠ "__name__":=by decide)(hdb:(x==("__debug__" : Str))=false:=by decide)
 (he:zj (e::es) X.env=(false,eval e X.env)::zj es X.env:=by rfl) (hpl:(backTo pos (zj es X.env)).any (·.1)=false:=by rfl):PE X (.Call (.Name x p) (e::es) [] pos) (tU r t):=by
 intro aA s σ H Q I h;refine jq (kL I hg hm hv ?_ hn hdb);exact yBr (aQ (ha pos aA s σ H _ I h) λ us s1 ⟨vs,H1,I1,r1,q1⟩=>hc aA s1 σ H1 vs us Q I1 r1 q1) he hpl
end
end L2
namespace HT
open PySem PyProof.Rows
section
open PySem.SeqAt
open PySem.AutoSeq1 (wpAny_loadPart')
open PySem.MeetsSeq PySem.MeetsSeq2 PySem.MeetsSeq3
end
section
variable {prog : qo}{w : zq}{A : zx}{E : qz -> qx -> Prop}{s : qx}
theorem cat_tup{t b:qv}{vs ws:List qz}{Q:qz->qx->Prop}(ht:IsTup s.heap t vs.toArray)(hb:IsTup s.heap b ws.toArray)(hv:vs≠[])
 (h1:ws=[]->Q (.ref t) s) (h2:ws≠[]->Q (.ref s.heap.objs.size) {s with heap:=s.heap.push {cls:=.type "tuple",data:=.seq (vs++ws).toArray } })
 (hsz:vs.length+ws.length<=qk):qu (model prog w) A (zk .Add (.ref t) (.ref b)) Q E s:=by
 obtain⟨⟨cls,dd,data,sl⟩,ho,hc,n,hd⟩:=id ht;obtain⟨⟨cls2,dd2,data2,sl2⟩,ho2,hc2,n2,hd2⟩:=id hb;simp only at hc hd hc2 hd2;subst hc hd hc2 hd2;have e:vs.toArray++ws.toArray=(vs++ws).toArray:=by simp
 by_cases hw:ws=[]
 ·exact concat_meets ⟨_,ho,rfl⟩ ⟨_,ho2,rfl⟩ noFill_tuple_add seq_tuple_add yCq yCn (yCk _ _)
   (tuple_addW1 t b vs.toArray ws.toArray n n2 dd dd2 sl sl2 (by simpa using hv) (by simp[hw])) ⟨ho,ho2,h1 hw⟩
 ·refine concat_meets ⟨_,ho,rfl⟩ ⟨_,ho2,rfl⟩ noFill_tuple_add seq_tuple_add yCq yCn (yCk _ _)
   (tuple_addW2 t b vs.toArray ws.toArray n n2 dd dd2 sl sl2 (by simpa using hv) (by simpa using hw) (by rw[yAd,yAd];exact hsz)) ⟨ho,ho2,?_⟩
  rw[e];exact h2 hw
noncomputable def sIx(n d:Nat):Option Int->Nat
 | none=>d
 | some v=>if v<0 then (v+(n:Int)).toNat else min v.toNat n
end
end HT
namespace L2
open PySem PySem.Spec PyProof.Rows
abbrev TO:=St->Hp->(Option Int->Hp->Prop)->Prop
def PO(X:Cx)(e:Option qw)(t:TO):Prop:=
 ∀ (aA:List (qv×Obj)) (s:qx) (σ:St) (H:Hp) (Q:Option Int->Hp->Prop),Inv X aA σ H s->t σ H Q ->
  qu (model X.prog X.w) X.A (evalPart e X.env) (λ u s'=>∃ o H',Inv X aA σ H' s'/\IsPart u o/\Q o H') X.xe s
def aDC:TO:=λ _ H Q=>Q qj H
def aGd(t:TE):TO:=λ σ H Q=>t σ H λ x H1=>∃ i,x=.int i/\Q (qq i) H1
section
variable {X : Cx}{e : qw}{te : TE}{lo hi : Option qw}{tl th : TO}{pos p2 : Pos}
theorem aDe:PO X qj aDC:=by
 intro aA s σ H Q I h;rw[evalPart_none];exact wP ⟨qj,H,I,.none,h⟩
theorem aDf(h:PE X e te):PO X (qq e) (aGd te):=by
 intro aA s σ H Q I hw;rw[evalPart_some];refine aQ (h aA s σ H _ I hw) λ u s1 hPq20=>?_
 obtain⟨x,H1,I1,r1,q1⟩:=hPq20;obtain⟨i,rfl,q⟩:=q1;obtain⟨t,rfl⟩:=r1;exact⟨qq i,H1,I1,.int i t,q⟩
def pT(X:Cx)(r:V->Option Int->Option Int->Hp->VK->Prop):Prop:=
 ∀ (aA:List (qv×Obj)) (s:qx) (σ:St) (H:Hp) (x:V) (v vl vu:qz) (lo hi:Option Int) (sl:qv) (Q:VK),Inv X aA σ H s->aI x v->s.heap.IsSliceOf sl vl vu .none->IsPart vl lo->IsPart vu hi->r x lo hi H Q ->
  ∃ T id,typeLookup (.type T) "__getitem__" = pure (qq (.builtin id))/\s.TypeIs v T/\qu (model X.prog X.w) X.A (getItem v (.ref sl)) (EP X aA σ Q) X.xe s
theorem pT.or{r r':V->Option Int->Option Int->Hp->VK->Prop}(h:pT X r)(h':pT X r'):pT X (λ x lo hi H Q=>r x lo hi H Q\/r' x lo hi H Q):=by
 intro aA s σ H x v vl vu lo hi sl Q I rx hs pl pu q;rcases q with q | q
 ·exact h aA s σ H x v vl vu lo hi sl Q I rx hs pl pu q
 ·exact h' aA s σ H x v vl vu lo hi sl Q I rx hs pl pu q
noncomputable def aGs(K:FrG):R2:=λ x y H Q=>∃ a b xs ys,x=.ref a/\y=.ref b/\bC K H a xs/\bC K H b ys/\xs≠[]/\xs.length+ys.length<=qk /\
 (ys=[]->Q (.ref a) H)/\(ys≠[]->∀ p,H p=qj->Q (.ref p) (aS H p (.tup (xs++ys))))
theorem aH.nil_iff{xs:List V}{us:List qz}(r:aH xs us):us=[] ↔ xs=[]:=by
 cases r with
 | nil=>simp
 | cons _ _=>simp
theorem aDm:bH X (zk .Add) (aGs X.K):=by
 intro aA s σ H x y v u Q I rx ry h;obtain⟨a,b,xs,ys,rfl,rfl,ha,hb,hx,hz,q1,q2⟩:=h;cases rx;cases ry;obtain⟨aC,r1,p1,_⟩:=I.tuple ha;obtain⟨jO,r2,p2,_⟩:=I.tuple hb;refine HT.cat_tup p1 p2 (λ z=>hx (r1.nil_iff.mp z)) (λ z=>⟨.ref a,H,I,rfl,q1 (r2.nil_iff.mp z)⟩) (λ z=>?_) (by rw[<- r1.length,<- r2.length];exact hz)
 refine⟨.ref s.heap.objs.size,_,I.laid (t':=s.toks) (o:=.tup (xs++ys)) (λ b ob q=>hpS _ q) (yAc _) ?_,rfl,q2 (λ w=>z (r2.nil_iff.mpr w)) _ (I.hok.fresh (yAc _))⟩
 exact⟨by rw[xAk];exact hz,_,r1.append r2,IsTup.new _ _⟩
end
end L2
namespace L2
open PySem PySem.Spec PyProof.Rows
noncomputable def gZ(n:Nat)(i:Int):Option Nat:=if 0<=i then (if i<n then qq i.toNat else qj) else if -(n:Int)<=i then qq (i+n).toNat else qj
noncomputable def eQ{α:Type}(xs:List α)(i:Int):Option α:=(gZ xs.length i).bind λ j=>xs[j]?
theorem aDq{n:Nat}{i:Int}{j:Nat}(h:gZ n i=qq j):seqIndex? i n=qq j/\j<n /\ -(n:Int)<=i/\i<n:=by
 unfold gZ at h
 by_cases h0:0<=i
 ·rw[if_pos h0] at h
  by_cases h1:i<n
  ·rw[if_pos h1] at h;have e:i.toNat=j:=Option.some.inj h;exact⟨by rw[seqIndex_of h0 h1,e],by omega,by omega,h1⟩
  ·rw[if_neg h1] at h;cases h
 ·rw[if_neg h0] at h
  by_cases h1 : -(n:Int)<=i
  ·rw[if_pos h1] at h;have e:(i+n).toNat=j:=Option.some.inj h;exact⟨by rw[seqIndex_neg (by omega) h1,e],by omega,h1,by omega⟩
  ·rw[if_neg h1] at h;cases h
theorem rF{α:Type}{xs:List α}{i:Int}{v:α}(h:eQ xs i=qq v):∃ j,seqIndex? i xs.length=qq j/\xs[j]? = qq v/\j<xs.length /\ -(xs.length:Int)<=i/\i<xs.length:=by
 unfold eQ at h;cases e:gZ xs.length i with
 | none=>rw[e] at h;cases h
 | some j =>
   rw[e] at h;obtain⟨h1,h2,h3,h4⟩:=aDq e;exact⟨j,h1,h,h2,h3,h4⟩
def rG(b:qw):Prop:=∀ o i,subscripted b false o i=operate [o,i] (getItem o i)
def gH(X:Cx)(r:R2):Prop:=
 ∀ (value eB:qw) (aA:List (qv×Obj)) (s:qx) (σ:St) (H:Hp) (x y:V) (v u:qz) (Q:VK),Inv X aA σ H s->aI x v->aI y u->r x y H Q ->
  subscripted eB false v u=operate [v,u] (getItem v u)->qu (model X.prog X.w) X.A (subscriptTail value eB v u) (EP X aA σ Q) X.xe s
def lY(X:Cx)(id:String)(r:V->List V->Hp->VK->Prop):Prop:=
 ∀ (aA:List (qv×Obj)) (s:qx) (σ:St) (H:Hp) (x:V) (xs:List V) (v:qz) (us:List qz) (Q:VK),Inv X aA σ H s->aI x v->aH xs us->r x xs H Q ->
  qu (model X.prog X.w) X.A (call (.builtin id) (v::us)) (EP X aA σ Q) X.xe s
section
variable {X : Cx}{a b : qw}{ta tb : TE}{pos : Pos}
theorem gH.or{r r':R2}(h:gH X r)(h':gH X r'):gH X (λ x y H Q=>r x y H Q\/r' x y H Q):=by
 intro value eB aA s σ H x y v u Q I rx ry q hs;rcases q with q | q
 ·exact h value eB aA s σ H x y v u Q I rx ry q hs
 ·exact h' value eB aA s σ H x y v u Q I rx ry q hs
theorem lY.or{id:String}{r r':V->List V->Hp->VK->Prop}(h:lY X id r)(h':lY X id r'):lY X id (λ x xs H Q=>r x xs H Q\/r' x xs H Q):=by
 intro aA s σ H x xs v us Q I rx rs q;rcases q with q | q
 ·exact h aA s σ H x xs v us Q I rx rs q
 ·exact h' aA s σ H x xs v us Q I rx rs q
theorem aGe{r:R2}(hr:gH X r)(ha:PE X a ta)(hb:PE X b tb)(hs:rG b):PE X (.Subscript a b pos) (mE r ta tb):=by
 intro aA s σ H Q I h;exact Subscript_ (sG ha hb I h λ v u s2 x y H2 I2 rx ry q=>hr a b aA s2 σ H2 x y v u Q I2 rx ry q (hs _ _))
noncomputable def aHr(K:FrG):R2:=λ x y H Q=>∃ p xs i v,x=.ref p/\y=.int i/\aX K H p xs/\eQ xs i=qq v/\Q v H
noncomputable def aHe(K:FrG):R2:=λ x y H Q=>∃ p xs i v,x=.ref p/\y=.int i/\bC K H p xs/\eQ xs i=qq v/\Q v H
noncomputable def aG9:R2:=λ x y H Q=>∃ z i c,x=.str z/\y=.int i/\z.length<=qk/\eQ z.cps.toList i=qq c/\Q (.str ⟨#[c]⟩) H
theorem aDv:gH X (aHr X.K):=by
 intro value eB aA s σ H x y v u Q I rx ry h hs;obtain⟨p,xs,i,z,rfl,rfl,hq,he,q⟩:=h;cases rx;obtain⟨t,rfl⟩:=ry;obtain⟨aC,r,pl,hz⟩:=I.list hq;obtain⟨j,h1,h2,h3,h4,h5⟩:=rF he;obtain⟨w,ew,rw'⟩:=r.get h2;have hl:=r.length;have hn:=jB;have bO:EP X aA σ Q w s:=⟨z,H,I,rw',q⟩
 by_cases h0:0<=i
 ·have hj:i.toNat=j:=by
   rw[seqIndex_of h0 h5] at h1;exact Option.some.inj h1
  exact item_listR pl.isList h0 (by omega) (by rw[hj];simpa using ew) bO hs
 ·have hj:(i+(aC.toArray.size:Int)).toNat=j:=by
   rw[seqIndex_neg (by omega) h4] at h1
   rw[yAd,<- hl];exact Option.some.inj h1
  exact subscriptTail_builtinR (x:=w) pl.isList.typeIs slot_list_getitem.lookup
   (wpAny_getItem_list_neg (Q:=λ r s'=>r=w/\EP X aA σ Q r s') pl.isList (by omega) (by rw[yAd]<;>omega) (by omega) (by rw[hj];simpa using ew) ⟨rfl,bO⟩) hs
theorem aFa:gH X (aHe X.K):=by
 intro value eB aA s σ H x y v u Q I rx ry h hs;obtain⟨p,xs,i,z,rfl,rfl,hq,he,q⟩:=h;cases rx;obtain⟨t,rfl⟩:=ry;obtain⟨aC,r,pl,hz⟩:=I.tuple hq;obtain⟨j,h1,h2,h3,h4,h5⟩:=rF he;obtain⟨w,ew,rw'⟩:=r.get h2;have hl:=r.length;have hn:=jB;have bO:EP X aA σ Q w s:=⟨z,H,I,rw',q⟩;exact subscriptTail_builtinR (x:=w) pl.typeIs slot_tuple_getitem.lookup
  (getItem_tuple (j:=j) (Q:=λ r s'=>r=w/\EP X aA σ Q r s') pl (by omega) (by omega) (by rw[yAd,<- hl];exact h1) (by simpa using ew) ⟨rfl,bO⟩) hs
theorem aD4:gH X aG9:=by
 intro value eB aA s σ H x y v u Q I rx ry h hs;obtain⟨z,i,c,rfl,rfl,hz,he,q⟩:=h;obtain⟨t,rfl⟩:=rx;obtain⟨t',rfl⟩:=ry;obtain⟨j,h1,h2,h3,h4,h5⟩:=rF he;have hl:z.cps.toList.length=z.length:=by simp[Str.length]
 rw[hl] at h1 h4 h5;have hn:=jB;exact tail_any (typeIs_str s z t) slot_str_getitem.lookup (getItem_str (c:=c) (by
  have e1:decide (i < -(2^63:Int))=false:=dqF (by omega)
  have e2:decide (i ≥ 2^63)=false:=dqF (by omega)
  rw[e1,e2,Bool.or_false]) (by rw[h1];simpa using h2) ⟨.str ⟨#[c]⟩,H,I.tok _,⟨_,rfl⟩,q⟩) hs
theorem Inv.lst{aA:List (qv×Obj)}{σ:St}{H:Hp}{s:qx}{p:qv}{xs:List V}(I:Inv X aA σ H s)(h:H p=qq (.lst xs)) :
 ∃ (aC:List qz) (n:Nat),aH xs aC/\s.heap.get? p=qq {cls:=.type "list",data:=.seq aC.toArray n }/\xs.length<=qk:=by
 obtain⟨z,aC,n,r,e⟩:=I.hok p _ h;exact⟨aC,n,r,e,z⟩
noncomputable def eX:V->Bool
 | .non=>true
 | .bl _=>true
 | .int _=>true
 | .str _=>true
 | _=>false
noncomputable def gG:V->V->Bool
 | .non,.non=>true
 | .bl a,.bl b=>a==b
 | .bl a,.int b=>(if a then 1 else 0)==b
 | .int a,.bl b=>a==(if b then 1 else 0)
 | .int a,.int b=>a==b
 | .str a,.str b=>a==b
 | _,_=>false
theorem aD5{A:zx}{s:qx}{y x:V}{u v:qz}(ry:aI y u)(rx:aI x v)(fy:eX y=true)(fx:eX x=true):SeqAt.EqAt A s u v (gG y x):=by
 cases y with
 | non =>
   cases ry;cases x with
   | non=>cases rx;exact SeqAt.EqAt.same _
   | bl b=>cases rx;exact SeqAt.EqAt.none_bool b
   | int b=>obtain⟨t,rfl⟩:=rx;exact SeqAt.EqAt.none_int b t
   | str b=>obtain⟨t,rfl⟩:=rx;exact SeqAt.EqAt.none_str b t
   | _=>exact absurd (show false=true from fx) yAm
 | bl a =>
   cases ry;cases x with
   | non=>cases rx;exact SeqAt.EqAt.bool_none a
   | bl b=>cases rx;exact SeqAt.EqAt.bool_bool a b
   | int b=>obtain⟨t,rfl⟩:=rx;exact SeqAt.EqAt.bool_int a b t
   | str b=>obtain⟨t,rfl⟩:=rx;exact SeqAt.EqAt.bool_str a b t
   | _=>exact absurd (show false=true from fx) yAm
 | int a =>
   obtain⟨t',rfl⟩:=ry;cases x with
   | non=>cases rx;exact SeqAt.EqAt.int_none a t'
   | bl b=>cases rx;exact SeqAt.EqAt.int_bool a t' b
   | int b=>obtain⟨t,rfl⟩:=rx;exact SeqAt.EqAt.int_int a t' b t
   | str b=>obtain⟨t,rfl⟩:=rx;exact SeqAt.EqAt.int_str a t' b t
   | _=>exact absurd (show false=true from fx) yAm
 | str a =>
   obtain⟨t',rfl⟩:=ry;cases x with
   | non=>cases rx;exact SeqAt.EqAt.str_none a t'
   | bl b=>cases rx;exact SeqAt.EqAt.str_bool a t' b
   | int b=>obtain⟨t,rfl⟩:=rx;exact SeqAt.EqAt.str_int a t' b t
   | str b=>obtain⟨t,rfl⟩:=rx;exact SeqAt.EqAt.str_str a t' b t
   | _=>exact absurd (show false=true from fx) yAm
 | _=>exact absurd (show false=true from fy) yAm
noncomputable def cU(x:V)(u:qz):Bool:=match u with
 | .none=>gG .non x
 | .bool b=>gG (.bl b) x
 | .int i _=>gG (.int i) x
 | .str z _=>gG (.str z) x
 | _=>false
theorem yZ{x y:V}{u:qz}(r:aI y u)(f:eX y=true):cU x u=gG y x:=by
 cases y with
 | non=>cases r;rfl
 | bl b=>cases r;rfl
 | int i=>obtain⟨t,rfl⟩:=r;rfl
 | str z=>obtain⟨t,rfl⟩:=r;rfl
 | _=>exact absurd (show false=true from f) yAm
theorem jX{x:V}:∀ {xs:List V}{us:List qz},aH xs us->xs.all eX=true->us.any (cU x)=xs.any λ y=>gG y x
 | _,_,.nil,_=>rfl
 | y::xs,u::us,.cons r t,f=>by
   rw[List.all_cons,yCe] at f;rw[List.any_cons,List.any_cons,yZ r f.1,jX t f.2]
theorem jT{A:zx}{s:qx}{x:V}{v:qz}(rx:aI x v)(fx:eX x=true):∀ {xs:List V}{us:List qz},aH xs us->xs.all eX=true->∀ u∈us,SeqAt.EqAt A s u v (cU x u)
 | _,_,.nil,_=>λ u hu=>by cases hu
 | y::xs,u::us,.cons r t,f=>λ u' hu=>by
   rw[List.all_cons,yCe] at f;rcases List.mem_cons.mp hu with rfl | hu
   ·rw[yZ r f.1];exact aD5 r rx f.1 fx
   ·exact jT rx fx t f.2 u' hu
noncomputable def jL(x:V)(xs:List V):Bool:=xs.any λ y=>gG y x
noncomputable def rIn(K:FrG)(neg:Bool):R2:=λ x y H Q=>∃ p xs,y=.ref p/\(aX K H p xs\/bC K H p xs)/\eX x=true/\xs.all eX=true/\Q (.bl (if neg then !jL x xs else jL x xs)) H
theorem aCc:bH X (xj .In) (rIn X.K false):=by
 intro aA s σ H x y v u Q I rx ry h;obtain⟨p,xs,rfl,hq,fx,fs,q⟩:=h;cases ry;rcases hq with hq | hq
 ·obtain⟨aC,r,pl,hz⟩:=I.list hq;refine SeqAt.in_listAt (cU x) pl.isList (λ w hw=>jT rx fx r fs w (by simpa using hw)) ⟨.bl _,H,I,rfl,?_⟩
  rw[show aC.toArray.any (cU x)=aC.any (cU x) by simp,jX r fs]
  exact q
 ·obtain⟨aC,r,pl,hz⟩:=I.tuple hq;refine SeqAt.in_tupleAt (cU x) pl (λ w hw=>jT rx fx r fs w (by simpa using hw)) ⟨.bl _,H,I,rfl,?_⟩
  rw[show aC.toArray.any (cU x)=aC.any (cU x) by simp,jX r fs]
  exact q
theorem aBq:bH X (xj .NotIn) (rIn X.K true):=by
 intro aA s σ H x y v u Q I rx ry h;obtain⟨p,xs,rfl,hq,fx,fs,q⟩:=h;cases ry;rcases hq with hq | hq
 ·obtain⟨aC,r,pl,hz⟩:=I.list hq;refine SeqAt.notIn_listAt (cU x) pl.isList (λ w hw=>jT rx fx r fs w (by simpa using hw)) ⟨.bl _,H,I,rfl,?_⟩
  rw[show aC.toArray.any (cU x)=aC.any (cU x) by simp,jX r fs]
  exact q
 ·obtain⟨aC,r,pl,hz⟩:=I.tuple hq;refine SeqAt.notIn_tupleAt (cU x) pl (λ w hw=>jT rx fx r fs w (by simpa using hw)) ⟨.bl _,H,I,rfl,?_⟩
  rw[show aC.toArray.any (cU x)=aC.any (cU x) by simp,jX r fs]
  exact q
theorem uK:bK X (.builtin "len") (λ xs H Q=>∃ p ys,xs=[.ref p]/\(aX X.K H p ys\/bC X.K H p ys)/\Q (.int ys.length) H):=by
 intro aA s σ H xs us Q I r h;obtain⟨p,ys,rfl,hq,q⟩:=h;obtain⟨u,rfl,rx⟩:=dM r;cases rx;have hn:=jB;rcases hq with hq | hq
 ·obtain⟨aC,r',pl,hz⟩:=I.list hq;have bL:=r'.length;exact Calls.call_len_list pl.isList (by simp only[yAd]<;>omega) ⟨.int ys.length,H,I.tok _,⟨s.toks+1,by rw[yAd,bL]⟩,q⟩
 ·obtain⟨aC,r',pl,hz⟩:=I.tuple hq;have bL:=r'.length;exact len_tuple pl (by simp only[yAd]<;>omega) ⟨.int ys.length,H,I.tok _,⟨s.toks+1,by rw[yAd,bL]⟩,q⟩
theorem aBt:bK X (.builtin "len") (λ xs H Q=>∃ z,xs=[.str z]/\z.length<=qk/\Q (.int z.length) H):=by
 intro aA s σ H xs us Q I r h;obtain⟨z,rfl,hz,q⟩:=h;obtain⟨u,rfl,t,rfl⟩:=dM r;have hn:=jB;exact len_str (by omega) ⟨.int z.length,H,I.tok _,⟨_,rfl⟩,q⟩
theorem bK.or{f:qz}{r r':List V->Hp->VK->Prop}(h:bK X f r)(h':bK X f r'):bK X f (λ xs H Q=>r xs H Q\/r' xs H Q):=by
 intro aA s σ H xs us Q I rs q;rcases q with q | q
 ·exact h aA s σ H xs us Q I rs q
 ·exact h' aA s σ H xs us Q I rs q
theorem uH:bK X (.type "tuple") (λ xs H Q=>∃ p ys,xs=[.ref p]/\((aX X.K H p ys/\∀ l,H l=qj->Q (.ref l) (aS H l (.tup ys)))\/(bC X.K H p ys/\Q (.ref p) H))):=by
 intro aA s σ H xs us Q I r h;obtain⟨p,ys,rfl,h⟩:=h;obtain⟨u,rfl,rx⟩:=dM r;cases rx;rcases h with ⟨hq,q⟩ | ⟨hq,q⟩
 ·obtain⟨aC,r',pl,hz⟩:=I.list hq;have bL:=r'.length;refine call_tuple_list pl.isList (λ h' kp=>?_) (by simp only[yAd]<;>omega)
  have I1:Inv X aA σ H {s with heap:=h' }:=I.kept (t':=s.toks) kp
  have I2:Inv X aA σ (aS H h'.objs.size (.tup ys)) {s with heap:=h'.push {cls:=.type "tuple",data:=.seq aC.toArray } }:=
   I1.laid (t':=s.toks) (λ b o e=>hpS _ e) (yAc _) (show cQ X.prog X.w _ _ _ (.tup ys) from ⟨hz,aC,r',IsTup.new _ _⟩)
  exact⟨.ref h'.objs.size,_,I2,rfl,q _ (I1.hok.fresh (yAc _))⟩
 ·obtain⟨aC,r',pl,hz⟩:=I.tuple hq;exact call_tuple_same pl ⟨.ref p,H,I,rfl,q⟩
def tyV(K:FrG)(T:String)(x:V)(H:Hp):Prop:=match x with
 | .str _=>T = "str"
 | .int _=>T = "int"
 | .ref p=>(T = "list" /\ ∃ xs,aX K H p xs)\/(T = "tuple" /\ ∃ o,K.lookup p=qq o/\o.cls=.type "tuple" /\ o.dict=qj) \/
    (T = "dict" /\ ((∃ aO,H p=qq (.dK aO))\/∃ aO,H p=qq (.dT aO)))\/(T = "set" /\ ∃ S n,H p=qq (.set S n))
 | _=>False
theorem aE4{aA:List (qv×Obj)}{σ:St}{H:Hp}{s:qx}{T:String}{x:V}{v:qz}(I:Inv X aA σ H s)(r:aI x v)(ty:tyV X.K T x H) :
 s.TypeIs v T/\∀ a,v=.ref a->∃ ob,s.heap.get? a=qq ob/\ob.dict=qj:=by
 cases x with
 | str z =>
   obtain⟨t,rfl⟩:=r;cases (show T = "str" from ty)
   exact⟨typeIs_str s z t,λ _ e=>nomatch e⟩
 | int i =>
   obtain⟨t,rfl⟩:=r;cases (show T = "int" from ty)
   exact⟨ww s i t,λ _ e=>nomatch e⟩
 | ref p =>
   cases r;rcases ty with ⟨rfl,xs,hq⟩ | ⟨rfl,o,hk,hc,hd⟩ | ⟨rfl,hk⟩ | ⟨rfl,S,n,hk⟩
   ·obtain⟨aC,_,pl,_⟩:=I.list hq;refine⟨pl.isList.typeIs,λ a e=>?_⟩
    cases e;obtain⟨o,n,e,c,hd,_⟩:=pl;exact⟨o,e,hd⟩
   ·refine⟨⟨o,I.kIn p o hk,hc⟩,λ a e=>?_⟩
    cases e;exact⟨o,I.kIn _ o hk,hd⟩
   ·have z:∃ o,s.heap.get? p=qq o/\o.ExactDict:=by
     rcases hk with ⟨aO,hk⟩ | ⟨aO,hk⟩
     ·obtain⟨_,_,_,_,o,_,_,e,ex,_⟩:=I.hok p _ hk;exact⟨o,e,ex⟩
     ·obtain⟨_,_,_,_,o,_,_,e,ex,_⟩:=I.hok p _ hk;exact⟨o,e,ex⟩
    obtain⟨o,e,ex⟩:=z;refine⟨⟨o,e,ex.1⟩,λ a e2=>?_⟩
    cases e2;exact⟨o,e,ex.2.1⟩
   ·obtain⟨o,_,_,_,e,ex,_⟩:=I.hok p _ hk;refine⟨⟨o,e,ex.1⟩,λ a e2=>?_⟩
    cases e2;exact⟨o,e,ex.2.1⟩
 | _=>exact False.elim ty
def tBM(K:FrG)(T:String)(r:V->List V->Hp->VK->Prop)(to:TE)(t:TA):TE:=λ σ H Q=>to σ H λ x H1=>tyV K T x H1/\t σ H1 λ xs H2=>r x xs H2 Q
variable {o e : qw}{es : List qw}{to : TE}{t : TA}{name : Str}{apos cpos : Pos}{T id : String}{r : V -> List V -> Hp -> VK -> Prop}
theorem aAh(pa:PlainAttrs T)(slot:Slot T name id)(hty:typeOf (.builtin id)=pure (.type "method_descriptor"))(hm:lY X id r)(ho:PE X o to)(ha:PA X (e::es) t)
 (hbase:attributeBase o name X.env (eval o X.env)=eval o X.env:=by rfl)
 (hfew:((backTo cpos (zj (e::es) X.env)).all (λ x=>!x.1)&&(backToKw cpos (keywordEach [] X.env)).all (λ x=>x.1.isSome)
   && decide ((e::es).length+([]:List Keyword).length+(if ([]:List Keyword).isEmpty then 0 else 1)<30))=true:=by rfl)
 (hline:(apos.endLine==cpos.line)=true:=by rfl) (hs:zj (e::es) X.env=(false,eval e X.env)::zj es X.env:=by rfl) (hplain:(backTo cpos (zj es X.env)).any (·.1)=false:=by rfl) :
 PE X (.Call (.Attribute o name apos) (e::es) [] cpos) (tBM X.K T r to t):=by
 intro aA s σ H Q I h;refine wpAny_Call_method_late hbase hfew hline rfl (aQ (ho aA s σ H _ I h) λ v s1 hPq21=>?_)
 obtain⟨x,H1,I1,r1,ty,q1⟩:=hPq21;obtain⟨h1,h2⟩:=aE4 I1 r1 ty;refine⟨T,id,pa,slot,hty,h1,h2,?_⟩;have hA:=ha cpos aA s1 σ H1 _ I1 q1;rw[hs] at hA ⊢;refine Calls.callWith_builtin (by show(false||(backTo cpos (zj es X.env)).any (·.1))=false;rw[hplain]<;>rfl) (Calls.evalArgs_plain ?_)
 exact aQ hA λ us s2 ⟨vs,H2,I2,r2,q2⟩=>hm aA s2 σ H2 x vs v us Q I2 r1 r2 q2
end
end L2
namespace L2
open PySem PySem.Spec PyProof.Rows
def MtM(X:Cx)(id:String)(r:V->List V->Hp->VK->Prop):Prop:=
 ∀ (aA:List (qv×Obj)) (s:qx) (σ:St) (H:Hp) (x:V) (xs:List V) (v:qz) (us:List qz) (Q:VK),Inv X aA σ H s->aI x v->aH xs us->r x xs H Q ->
  qu (model X.prog X.w) X.A (call (.builtin id) (v::us)) (EP X aA σ Q) X.xe s
theorem aH.one:∀ {x:V}{us:List qz},aH [x] us->∃ u,us=[u]/\aI x u
 | _,_,.cons r .nil=>⟨_,rfl,r⟩
theorem aH.two:∀ {x y:V}{us:List qz},aH [x,y] us->∃ u v,us=[u,v]/\aI x u/\aI y v
 | _,_,_,.cons r (.cons q .nil)=>⟨_,_,rfl,r,q⟩
theorem aH.zero:∀ {us:List qz},aH [] us->us=[]
 | _,.nil=>rfl
theorem aH.reverse{xs:List V}{us:List qz}(h:aH xs us):aH xs.reverse us.reverse:=by
 induction h with
 | nil=>exact .nil
 | cons r t ih=>rw[yCs,yCs];exact aH.append ih (.cons r .nil)
theorem aH.rep{xs:List V}{us:List qz}(h:aH xs us):∀ k:Nat,aH (yAb k xs).flatten (yAb k us).flatten
 | 0=>.nil
 | k+1=>by
   rw[yAo,yAo,yBm,yBm];exact aH.append h (aH.rep h k)
theorem mW(aC:List qz):∀ (k:Nat) (aD:List qz),
 List.foldl (λ x1 x2=>x1++x2) aD.toArray (yAb k aC.toArray)=(aD++(yAb k aC).flatten).toArray
 | 0,aD=>by simp
 | k+1,aD=>by
   have e:aD.toArray++aC.toArray=(aD++aC).toArray:=by simp
   have e2:(aD++aC)++(yAb k aC).flatten=aD++(yAb (k+1) aC).flatten:=by
    rw[yAo,yBm,yBn]
   rw[<- e2,<- mW aC k (aD++aC),<- e,yAo,yBs]
section
variable {X : Cx}{aA : List (qv×Obj)}{σ : St}{H : Hp}{s : qx}{l b : qv}{xs ys zs : List V}
theorem Inv.lset{aC its':List qz}{n:Nat}{f:Array qz->Array qz}{t':Nat}(I:Inv X aA σ H s)(hH:H l=qq (.lst xs))
 (e:s.heap.get? l=qq {cls:=.type "list",data:=.seq aC.toArray n }) (hf:f aC.toArray=its'.toArray) (hv:aH ys its') (hz:ys.length<=qk) :
 Inv X aA σ (aS H l (.lst ys)) {s with heap:=s.heap.update l (Obj.mapSeq f),toks:=t' }:=by
 have q:=PySem.IsL.update e f;rw[hf] at q;refine I.write (x:=l) (e:=l) (by rw[hH];exact trivial) (.inl rfl) (λ b' u hb hu=>(yAx s.heap (Obj.mapSeq f) (Ne.symm hb)).trans hu) ⟨_,q⟩ ?_
 exact⟨hz,its',_,hv,q⟩
theorem Inv.lnew{aC:List qz}{t':Nat}(I:Inv X aA σ H s)(hv:aH ys aC)(hz:ys.length<=qk) :
 Inv X aA σ (aS H s.heap.objs.size (.lst ys)) {s with heap:=s.heap.push {cls:=.type "list",data:=.seq aC.toArray },toks:=t' }:=
 I.laid (λ _ _ q=>hpS _ q) (yAc _) ⟨hz,aC,0,hv,xAe _ rfl⟩
theorem Inv.fresh(I:Inv X aA σ H s):H s.heap.objs.size=qj:=I.hok.fresh (yAc _)
theorem Inv.lstM(I:Inv X aA σ H s)(hH:H l=qq (.lst xs)):xs.length<=qk/\∃ (aC:List qz) (n:Nat),aH xs aC/\xs.length=aC.length/\s.heap.get? l=qq {cls:=.type "list",data:=.seq aC.toArray n }:=by
 obtain⟨z,aC,n,r,e⟩:=I.hok l _ hH;exact⟨z,aC,n,r,r.length,e⟩
end
section
variable {X : Cx}
noncomputable def wT:V->List V->Hp->VK->Prop:=λ x vs H Q=>∃ l xs y,x=.ref l/\vs=[y]/\H l=qq (.lst xs)/\xs.length<qk/\Q .non (aS H l (.lst (xs++[y])))
theorem qK:MtM X "list.append" wT:=by
 intro aA s σ H x vs v us Q I rx rv h;obtain⟨l,xs,y,rfl,rfl,hH,hz,q⟩:=h;cases rx;obtain⟨u,rfl,ru⟩:=rv.one;obtain⟨z,aC,n,r,hl,e⟩:=I.lstM hH;refine vw F.slot_list_append ⟨_,e,rfl⟩ F.entry_list_append (F.args_list_append_2 _ _) (PySem.list_append l aC.toArray n u (by rw[yAd];omega)) ⟨e,?_⟩
 refine⟨.non,_,I.lset (its':=aC++[u]) hH e (by simp) (r.append (.cons ru .nil)) ?_,rfl,q⟩
 rw[xAk,yDa];omega
theorem aDp{α:Type}(xs:List α)(k:Nat):(yAb k xs).flatten.length=k*xs.length:=by
 induction k with
 | zero=>simp
 | succ k ih=>rw[yAo,yBm,xAk,ih,Nat.succ_mul,Nat.add_comm]
end
section
variable {prog : qo}{w : zq}{A : zx}{E : qz -> qx -> Prop}{s : qx}
end
section
variable {X : Cx}
end
end L2
namespace Att
open PySem PySem.W PySem.Calls PyProof.Rows
theorem aBh{P:Params}{h:Heap}:∀ (ns:List Int) (vs:List qz),WellAll P h vs (ns.map WData.int)->IntsAre vs ns:=by
 intro ns
 induction ns with
 | nil =>
   intro vs w;rw[yDj] at w;cases w;exact .nil
 | cons n ns ih =>
   intro vs w;rw[yAj] at w;cases w with
   | cons a b =>
     cases a;exact .cons _ _ (ih _ b)
theorem script_of{l:OpenLaw}{n:Nat}(hn:l.most=qq n){P:Params}{h:Heap}{args:List WData}{vals:List qz}
 (hpre:l.row.toRowW.claim.pre args=true) (hwl:WellAll P h vals args) :
 ∃ a vs ns,vals=[Value.ref a]/\args=[WData.list (ns.map WData.int)]/\h.get? a=qq {cls:=.type "list",data:=.seq vs.toArray }/\IntsAre vs ns/\ns.length<=n:=by
 have hsh:WShape.hasAll [] args [.list .int]=true:=(pre_splitW hpre).1;have hc:l.pre.holds [] {args:=args }=true:=(pre_splitW hpre).2;obtain⟨d,r,rfl,h1,h2⟩:=hasAllW_cons hsh;obtain rfl:=hasAllW_nil h2;obtain⟨xs,rfl,h3⟩:=hasW_list h1;obtain⟨ns,rfl⟩:=items_int h3;have bL:ns.length<=n:=by
  unfold OpenLaw.pre at hc;have h4:(WTm.not (.lt (.lit (.int (n:Int))) (.len (.arg 0)))).holds [] {args:=[.list (ns.map .int)] }=true:=by
   have h4:=(holds_andW hc).1;rw[hn] at h4;exact h4
  have h5:=condW_of h4 (w_not (w_lt w_lit (w_len_list (w_arg rfl))));rw[yAe] at h5;refine Nat.le_of_not_lt λ q=>?_
  have q':(n:Int)<((ns.length:Nat):Int):=by omega
  first
   | (rw[dqT q'] at h5;exact absurd h5 (by decide))
   | (simp at h5;omega)
 cases hwl with
 | cons w1 w2 =>
   cases w2;cases w1 with
   | list ho hall=>exact⟨_,_,ns,rfl,rfl,ho,aBh ns _ hall,bL⟩
theorem post_true(l:OpenLaw)(args:List WData):l.row.toRowW.claim.post args (.bool true) args=true:=
 postW_of (r:=l.row.toRowW) (X:=(true==true))
  (show WShape.has [] (.bool true) .bool=true by first | rfl | decide | simp[WShape.has,WShape.arms,WShape.armsAll])
  (show(WTm.eq .res (.lit (.bool true))).value [] {args:=args,res:=qq (.bool true),after:=args }=qq (.bool (true==true)) from w_eq_bool (w_res rfl) w_lit) rfl
theorem attach_call{l:OpenLaw}{n:Nat}{q:qo}{loose:List Str}{XP:(Str->Option qz)->Heap->Prop}{YP:zq->Heap->Prop}{d:DefRec}
 (hn:l.most=qq n) (hdf:d.params.defaults=[])
 (call:∀ (w:zq) (s₀ s₁:qx) (mg mb:Str->Option qz) (fa:qv) (o:Obj) (pm cd doc:qz) (a:qv) (vs:List qz) (ns:List Int),
   Ground q loose [] XP w s₀ mg mb s₁.heap->YP w s₁.heap ->
   s₁.heap.get? fa=qq o->o.data=.func (docDef d.name d.params d.body d.scope pm cd doc)->s₁.heap.CodeRec cd d.name->mg d.name=qq (.ref fa) ->
   s₁.heap.get? a=qq {cls:=.type "list",data:=.seq vs.toArray }->IntsAre vs ns->ns.length<=n->s₁.gens = #[] ->
   vz (model l.prog w) callerA (.call (.ref fa) ⟨[.ref a],[]⟩) (λ r s'=>r=.ok (.ret (.bool true))/\OldK s₁.heap s'.heap/\s'.os=s₁.os/\AllBare s'.gens) s₁) :
 WalkO q loose XP YP l.row.toRowW d [] (λ f vs=>PySem.call f vs):=by
 intro w s₀ s₁ mg mb G Y fa o pm cd doc dV kV ho hd hcd hD hmg hg args vals as hpre hlay hrd hwl hlo;obtain rfl:dV=.none:=Dflts.none hD hdf;obtain rfl:kV=.none:=Dflts.noKw hD;obtain⟨a,vs,ns,rfl,rfl,hobj,hints,bL⟩:=script_of hn hpre hwl;refine enter_call (codeAny_mono (call w s₀ s₁ mg mb fa o pm cd doc a vs ns G Y ho (fd_plain hd) hcd hmg hobj hints bL hg) λ r s' hq=>?_)
 obtain⟨rfl,h2,h3,h4⟩:=hq;exact⟨.inl ⟨.bool true,.bool true,[],rfl,λ _=>rfl,.bool true,post_true l _,λ _=>⟨List.Pairwise.nil,λ _ hm=>(nomatch hm)⟩⟩,h2,h3,h4⟩
section
variable {prog : qo}{w : zq}{A : zx}{E : qz -> qx -> Prop}{s : qx}{K : Frag}
noncomputable def aHX(h:Heap)(L d:qv):List (qv×Obj):=(yAg h.objs.size).filterMap λ a=>if a=L\/a=d then qj else (h.get? a).map λ o=>(a,o)
end
end Att
namespace L2
open PySem PySem.Spec PyProof.Rows
theorem vO:∀ {vs:List qz}{ns:List Int},IntsAre vs ns->aH (ns.map V.int) vs
 | _,_,.nil=>.nil
 | _,_,.cons n t h=>.cons ⟨t,rfl⟩ (vO h)
def tE(H:Hp):Prop:=∀ b,H b=qj\/∃ o xs,H b=qq (.frz o (.lst xs))
theorem law_call{P:qo}{w:zq}{K:FrG}{mg mb:Str->Option qz}{CX:dH}{k:Nat}{fa a:qv}{fd:xy}{x:Str}{sp:Sp}{s₁:qx}{vs:List qz}{ns:List Int}
 (KX:K.In s₁.heap) (hns:s₁.heap.Ns qy mg) (hb:s₁.heap.Ns builtinsNs mb) (hbb:∀ x:Str,x ≠ "__name__" -> mb x=zw x) (hlim:s₁.heap.NoLimit) (hg:s₁.gens = #[])
 (ha:s₁.heap.get? a=qq {cls:=.type "list",data:=.seq vs.toArray }) (hi:IntsAre vs ns) (hl:ns.length<=qk) (hr:Room k callerA)
 (F:∀ base:Heap,K.In base->base.Ns qy mg->FnOk P w K mg base CX k fa fd [x] sp) (hbind:∀ (s:qx) (u:qz),BindsTo s fd ⟨[u],[]⟩ [(x,u)])
 (hsp:∀ H:Hp,tE H->aX K H a (ns.map V.int)->sp [.ref a] H (λ v _=>v=.bl true) λ _ _ _=>False)
 (hCX:∀ H e s',CX [] H s₁ (λ _ _ _=>False) e s'->False) :
 vz (model P w) callerA (.call (.ref fa) ⟨[.ref a],[]⟩) (λ r s'=>r=.ok (.ret (.bool true))/\OldK s₁.heap s'.heap/\s'.os=s₁.os/\AllBare s'.gens) s₁:=by
 have rv:=vO hi;have lenV:=hi.length;have core:∀ H:Hp,tE H->aX K H a (ns.map V.int)->bN P w H s₁.heap->(∀ b,H b≠qj->b=a)->(H a≠qj->K.lookup a=qj) ->
  vz (model P w) callerA (.call (.ref fa) ⟨[.ref a],[]⟩) (λ r s'=>r=.ok (.ret (.bool true))/\OldK s₁.heap s'.heap/\s'.os=s₁.os/\AllBare s'.gens) s₁:=by
  intro H hO hS hok hA hK;have jZ:∀ {b:qv}{o:Obj},s₁.heap.get? b=qq o->H b=qj->(gC s₁.heap H).get? b=qq o:=λ e n=>aCx e n
  have noA:∀ {b:qv}{o:Obj}{es:Array DictEntry}{ep:Nat},s₁.heap.get? b=qq o->o.data=.dict es ep->H b=qj:=λ {b o es ep} e d=>by
   cases q:H b with
   | none=>rfl
   | some u =>
     have e':b=a:=hA b (by rw[q];simp)
     subst e';rw[ha] at e;cases e;have d':Data.seq vs.toArray _=Data.dict es ep:=d;cases d'
  have nsK:∀ {b:qv}{m:Str->Option qz},s₁.heap.Ns b m->(gC s₁.heap H).Ns b m:=λ {b m} ⟨o,es,ep,e,d,r⟩=>⟨o,es,ep,jZ e (noA e d),d,r⟩
  have hKb:K.In (gC s₁.heap H):=λ b o e=>jZ (KX b o e) (by
   cases q:H b with
   | none=>rfl
   | some u =>
     have e':b=a:=hA b (by rw[q];simp)
     subst e';rw[hK (by rw[q];simp)] at e;cases e)
  have hM:Mod K mg (gC s₁.heap H):=⟨hKb,nsK hns,⟨mb,nsK hb,hbb⟩,let ⟨mc,h1,h2⟩:=hlim;⟨mc,nsK h1,h2⟩⟩;have e0:Env0 P w K mg (gC s₁.heap H) callerA [] s₁ H:=⟨rfl,hM,λ b o e=>aC4 e,yCy (aBR _ _),trivial,λ b hb=>absurd (show b∈([]:List qv) from hb) (by simp),hok,.of_eq hg⟩
  refine codeAny_mono ((F _ hKb (nsK hns)).run callerA [] s₁ H ⟨[.ref a],[]⟩ [.ref a] [.ref a] _ _ hr e0 (hbind s₁ (.ref a)) (.cons rfl .nil) (hsp H hO hS)) λ r s' h=>?_
  cases r with
  | error e=>exact(hCX H e s' h).elim
  | ok fl =>
    cases fl with
    | next=>exact False.elim h
    | brk=>exact False.elim h
    | cont=>exact False.elim h
    | ret u =>
      obtain⟨v,H',os,bare,un,hok',r',q⟩:=h;have q':v=.bl true:=q;subst q';obtain rfl:u=Value.bool true:=r';refine⟨rfl,OldK.of_keep λ b o e=>?_,os,bare⟩
      cases q:H b with
      | none=>exact un.keep b o e q (by intro z;exact absurd (show b∈([]:List qv) from z) (by simp)) (by simp)
      | some u =>
        rcases hO b with z | ⟨ob,xs,z⟩
        ·rw[q] at z;cases z
        ·have z2:=un.frzs b ob _ z;obtain⟨e1,_⟩:=hok b _ z;obtain⟨e2,_⟩:=hok' b _ z2;rw[e] at e1;cases e1;exact e2
 cases hk:K.lookup a with
 | some o =>
   have e:=KX a o hk;rw[ha] at e;cases e;refine core (λ _=>qj) (λ _=>.inl rfl) (.inr ⟨_,vs.toArray,_,hk,rfl,rfl,rfl,by rw[yAd,lenV];exact hl,by simpa using rv⟩) (λ b u z=>by have z':(qj:Option HO)=qq u:=z;cases z') (λ b z=>absurd rfl z) λ z=>absurd rfl z
 | none =>
   refine core (λ b=>if b=a then qq (.frz {cls:=.type "list",data:=.seq vs.toArray } (.lst (ns.map V.int))) else qj) (λ b=>?_) (.inl (.inr ⟨{cls:=.type "list",data:=.seq vs.toArray },if_pos rfl⟩)) (λ b u z=>?_) (λ b z=>?_) λ _=>hk
   ·by_cases hb:b=a
    ·exact .inr ⟨_,_,if_pos hb⟩
    ·exact .inl (if_neg hb)
   ·by_cases hb:b=a
    ·have z':=(if_pos hb).symm.trans z;cases z';subst hb;exact⟨ha,by rw[yAe];exact hl,vs,_,rv,ha⟩
    ·have z':=(if_neg hb).symm.trans z;cases z'
   ·by_cases hb:b=a
    ·exact hb
    ·exact absurd (if_neg hb) z
end L2
namespace L2
open PySem PySem.Spec PyProof.Rows
noncomputable abbrev KOf{K:FrG}{h:Heap}(_:K.In h):FrG:=K
theorem aHW{l:yDs}{n k:Nat}{q:qo}{loose:List Str}{XP:(Str->Option qz)->Heap->Prop}{YP:zq->Heap->Prop}{d:DefRec}{K:Params->FrG}{CX:zq->dH}{sp:zq->Sp}{x:Str}
 (hn:l.most=qq n) (hn2:n<=qk) (hdf:d.params.defaults=[]) (hr:Room k callerA)
 (hY:∀ (w:zq) (h:Heap),YP w h->(K w.params).In h)
 (F:∀ (w:zq) (mg:Str->Option qz) (fa:qv) (h:Heap),(K w.params).In h->h.Ns qy mg->mg d.name=qq (.ref fa) ->
   ∃ fd:xy,(∀ (s:qx) (u:qz),BindsTo s fd ⟨[u],[]⟩ [(x,u)]) /\
    ∀ base:Heap,(K w.params).In base->base.Ns qy mg->FnOk l.prog w (K w.params) mg base (CX w) k fa fd [x] (sp w))
 (hsp:∀ (w:zq) (H:Hp) (a:qv) (ns:List Int),ns.length<=n->tE H->aX (K w.params) H a (ns.map V.int)->sp w [.ref a] H (λ v _=>v=.bl true) λ _ _ _=>False)
 (hCX:∀ (w:zq) (H:Hp) (s:qx) (e:qz) (s':qx),CX w [] H s (λ _ _ _=>False) e s'->False) :
 PySem.W.WalkO q loose XP YP l.row.toRowW d [] (λ f vs=>PySem.call f vs):=by
 refine Att.attach_call hn hdf λ w s₀ s₁ mg mb fa o pm cd doc a vs ns G Y ho hd hcd hmg hobj hints bL hg=>?_
 have KX:=hY w _ Y;obtain⟨fd,hb,hF⟩:=F w mg fa _ KX G.T.g hmg;exact law_call KX G.T.g G.T.b G.T.builtins G.T.nolimit hg hobj hints (xAg bL hn2) hr hF hb (λ H hO hS=>hsp w H a ns bL hO hS) λ H e s'=>hCX w H s₁ e s'
end L2
namespace L2
open PySem PySem.Spec PyProof.Rows
noncomputable def fR(s:zy):Arguments:=match s with
 | .FunctionDef _ a _ _ _ _ _ _ _ _=>a
 | _=>{posonlyargs:=[],args:=[],vararg:=qj,kwonlyargs:=[],kw_defaults:=[],kwarg:=qj,defaults:=[] }
noncomputable def cN(s:zy):List zy:=match s with
 | .FunctionDef _ _ b _ _ _ _ _ _ _=>b
 | _=>[]
noncomputable def bE(s:zy):zv:=match s with
 | .FunctionDef _ _ _ _ _ _ sc _ _ _=>sc
 | _=>{kind:=.function,names:=[],isGenerator:=false,isCoroutine:=false }
noncomputable abbrev fH:dH:=λ _ _ _ _ _ _=>False
noncomputable abbrev E0:XK:=λ _ _ _=>False
theorem zR{X:Cx}:nP fH X E0:=λ _ _ _ _ _ _ _ h=>h.elim
structure Fun(K:FrG)(x aY:Str)(st:zy)(f:qv)(fd:xy):Prop where
 ex:∃ (oc:qz) (od:Option qv) (kV doc pm:qz) (an:Option qv) (cdv ct:qz) (osl:Array (Option qz)),
  fd=yBf x aY (fR st) (cN st) (bE st) .none kV doc pm an cdv ct/\K.lookup f=qq ⟨oc,od,.func fd,osl⟩/\yCb K cdv aY=true
 kp:yAt K (.ref f)=true
section
variable {P : qo}{w : zq}{K : FrG}{mg : Str -> Option qz}{base : Heap}
theorem Fun.ok{x aY:Str}{st:zy}{f:qv}{fd:xy}{N ps:List Str}{k:Nat}{sp:Sp}(F:Fun K x aY st f fd)(S:FnScope N ps (bE st))(len:∀ vs H Q E,sp vs H Q E->vs.length=ps.length)
 (hbody:∀ (cdv:qz) (A:zx) (outer:List Env) (s:qx) (H:Hp) (vs:List V) (Q:VK) (E:XK),Room k (A.deeper (envOfC aY (bE st) s.heap.objs.size f cdv))->sp vs H Q E ->
   ∃ t,aW (dS fH P w K mg base N aY (bE st) f cdv A outer s H E).nox (cN st) t/\t {nx:=λ _ H'=>Q .non H',rt:=Q } (start N vs) H):FnOk P w K mg base fH (k+1) f fd ps sp:=by
 obtain⟨oc,od,kV,doc,pm,an,cdv,ct,osl,rfl,lk,hcd⟩:=F.ex;refine aAx lk hcd S len λ A outer s H vs Q E hr hsp=>?_
 obtain⟨t,h,q⟩:=hbody cdv A outer s H vs Q E hr hsp;exact⟨t,h.nox,q⟩
theorem Fun.binds{x aY:Str}{st:zy}{f:qv}{fd:xy}{ps:List Str}(F:Fun K x aY st f fd)
 (h:∀ (kV doc pm:qz) (an:Option qv) (cdv ct:qz) (us:List qz),us.length=ps.length->bindArgs (yBf x aY (fR st) (cN st) (bE st) .none kV doc pm an cdv ct) ⟨us,[]⟩=pure (ps.zip us)):cR K fd ps []:=by
 obtain⟨oc,od,kV,doc,pm,an,cdv,ct,osl,rfl,lk,hcd⟩:=F.ex;exact .all (h kV doc pm an cdv ct)
theorem aDZ{x aY:Str}{st:zy}{f:qv}{oc:qz}{od an:Option qv}{osl:Array (Option qz)}{kV doc pm cdv ct:qz}(l:K.lookup f=qq ⟨oc,od,.func (yBf x aY (fR st) (cN st) (bE st) .none kV doc pm an cdv ct),osl⟩)
 (c:yCb K cdv aY=true) (k:yAt K (.ref f)=true):Fun K x aY st f (yBf x aY (fR st) (cN st) (bE st) .none kV doc pm an cdv ct):=⟨⟨oc,od,kV,doc,pm,an,cdv,ct,osl,rfl,l,c⟩,k⟩
end
section
variable {X : Cx}
end
theorem jK{A B:Prop}(h:B):if false=true then A else B:=by
 rw[if_neg yAm];exact h
theorem jJ{A B:Prop}(h:A):if true=true then A else B:=by
 rw[if_pos rfl];exact h
def aZ(H H':Hp):Prop:=∀ b o,H b=qq o->H' b=qq o
theorem aZ.refl(H:Hp):aZ H H:=λ _ _ h=>h
theorem aZ.trans{H H1 H2:Hp}(a:aZ H H1)(b:aZ H1 H2):aZ H H2:=λ c o h=>b c o (a c o h)
theorem aZ.free{H H':Hp}(e:aZ H H'){l:qv}(h:H' l=Option.none):H l=Option.none:=by
 cases q:H l with
 | none=>rfl
 | some o =>
   rw[e l o q] at h;cases h
theorem aZ.seq{K:FrG}{H H':Hp}{a:qv}{xs:List V}(e:aZ H H')(h:aX K H a xs):aX K H' a xs:=by
 rcases h with (h | ⟨o,h⟩) | h
 ·exact .inl (.inl (e _ _ h))
 ·exact .inl (.inr ⟨o,e _ _ h⟩)
 ·exact .inr h
end L2
set_option maxHeartbeats 4000000
namespace EV
open PySem L2 PySem.Spec PyProof.Rows
abbrev D:=PyData
inductive W where
 | d (x:D) | loc (n:Nat) | exc (c:Str) (r:D)
abbrev aB:=List (Option (List D))
abbrev aM:=List (Option W)
abbrev St:=L2.St
section
variable (K : FrG)(F : Hp)
mutual
inductive Den:D->V->Prop
 | non:Den .none .non
 | bl (b:Bool):Den (.bool b) (.bl b)
 | int (i:Int):Den (.int i) (.int i)
 | str (x:Str):Den (.str x) (.str x)
 | lst {a:qv}{xs:List V}{ds:List D}:aX K F a xs->DenL ds xs->Den (.list ds) (.ref a)
 | tup {a:qv}{xs:List V}{ds:List D}:bC K F a xs->DenL ds xs->Den (.tuple ds) (.ref a)
inductive DenL:List D->List V->Prop
 | nil:DenL [] []
 | cons {d:D}{ds:List D}{x:V}{xs:List V}:Den d x->DenL ds xs->DenL (d::ds) (x::xs)
end
end
theorem dN{K:FrG}{H H':Hp}{a:qv}{xs:List V}(e:aZ H H')(h:bC K H a xs):bC K H' a xs:=by
 rcases h with (h | ⟨o,h⟩) | h
 ·exact .inl (.inl (e _ _ h))
 ·exact .inl (.inr ⟨o,e _ _ h⟩)
 ·exact .inr h
section
variable {K : FrG}{F F' : Hp}
mutual
theorem Den.mono(e:aZ F F'):∀ {d:D}{v:V},Den K F d v->Den K F' d v
 | _,_,.non=>.non
 | _,_,.bl b=>.bl b
 | _,_,.int i=>.int i
 | _,_,.str x=>.str x
 | _,_,.lst h r=>.lst (e.seq h) (DenL.mono e r)
 | _,_,.tup h r=>.tup (dN e h) (DenL.mono e r)
theorem DenL.mono(e:aZ F F'):∀ {ds:List D}{xs:List V},DenL K F ds xs->DenL K F' ds xs
 | _,_,.nil=>.nil
 | _,_,.cons h r=>.cons (Den.mono e h) (DenL.mono e r)
end
theorem DenL.length:∀ {ds:List D}{xs:List V},DenL K F ds xs->ds.length=xs.length
 | _,_,.nil=>rfl
 | _,_,.cons _ r=>congrArg (· + 1) (DenL.length r)
theorem DenL.get:∀ {ds:List D}{xs:List V}{i:Nat}{d:D},DenL K F ds xs->ds[i]? = qq d->∃ x,xs[i]? = qq x/\Den K F d x
 | _,_,_,_,.nil,e=>by simp at e
 | _,_,0,_,.cons h _,e=>by simp at e;subst e;exact⟨_,rfl,h⟩
 | _,_,i+1,d,.cons _ r,e=>by
   obtain⟨x,h1,h2⟩:=DenL.get (i:=i) (d:=d) r (by simpa using e)
   exact⟨x,by simpa using h1,h2⟩
theorem DenL.append:∀ {ds es:List D}{xs ys:List V},DenL K F ds xs->DenL K F es ys->DenL K F (ds++es) (xs++ys)
 | _,_,_,_,.nil,s=>s
 | _,_,_,_,.cons h r,s=>.cons h (DenL.append r s)
theorem DenL.take:∀ {ds:List D}{xs:List V} (n:Nat),DenL K F ds xs->DenL K F (ds.take n) (xs.take n)
 | _,_,0,_=>.nil
 | _,_,_+1,.nil=>.nil
 | _,_,n+1,.cons h r=>.cons h (DenL.take n r)
theorem DenL.drop:∀ {ds:List D}{xs:List V} (n:Nat),DenL K F ds xs->DenL K F (ds.drop n) (xs.drop n)
 | _,_,0,r=>r
 | _,_,_+1,.nil=>.nil
 | _,_,n+1,.cons _ r=>DenL.drop n r
theorem DenL.set:∀ {ds:List D}{xs:List V} (i:Nat) {d:D}{x:V},DenL K F ds xs->Den K F d x->DenL K F (ds.set i d) (xs.set i x)
 | _,_,_,_,_,.nil,_=>.nil
 | _,_,0,_,_,.cons _ r,h=>.cons h r
 | _,_,i+1,_,_,.cons q r,h=>.cons q (DenL.set i r h)
theorem DenL.reverse:∀ {ds:List D}{xs:List V},DenL K F ds xs->DenL K F ds.reverse xs.reverse
 | _,_,.nil=>.nil
 | _,_,.cons h r=>by
   rw[yCs,yCs];exact DenL.append (DenL.reverse r) (.cons h .nil)
theorem DenL.rep{ds:List D}{xs:List V}(h:DenL K F ds xs):∀ n:Nat,DenL K F (yAb n ds).flatten (yAb n xs).flatten
 | 0=>.nil
 | n+1=>by
   rw[yAo,yAo,yBm,yBm];exact h.append (DenL.rep h n)
theorem DenL.of_ints:∀ (ns:List Int),DenL K F (ns.map yAf) (ns.map V.int)
 | []=>.nil
 | n::r=>.cons (.int n) (DenL.of_ints r)
end
structure Rel(K:FrG)(F:Hp)(L:List qv)(S:aB)(H:Hp):Prop where
 sub:aZ F H
 nd:L.Nodup
 len:L.length=S.length
 loc:∀ (n:Nat) (a:qv) (ds:List D),L[n]? = qq a->S[n]? = qq (qq ds)->F a=qj/\∃ xs,H a=qq (.lst xs)/\DenL K F ds xs
 tr:∀ (n:Nat) (a:qv),L[n]? = qq a->∃ xs,H a=qq (.lst xs)
noncomputable def lO(F:Hp)(d:Option qv):D->Prop
 | .none=>d=qj
 | .int i=>∃ dx,d=qq dx/\F dx=qq (.xd [("row",.int i)])
 | _=>False
def gS(K:FrG)(F:Hp)(a:qv)(c:Str)(r:D):Prop:=∃ C oe,F a=qq (.ext λ h=>h.get? a=qq oe)/\oe.cls=.ref C/\PySem.W.notCls oe=true/\yBt K qy c=qq (qq (.ref C))/\lO F oe.dict r
theorem lO.mono{F F':Hp}(e:aZ F F'){d:Option qv}{r:D}(h:lO F d r):lO F' d r:=by
 cases r with
 | none=>exact h
 | int i=>obtain⟨dx,h1,h2⟩:=h;exact⟨dx,h1,e _ _ h2⟩
 | _=>exact h
theorem gS.mono{K:FrG}{F F':Hp}(e:aZ F F'){a:qv}{c:Str}{r:D}(h:gS K F a c r):gS K F' a c r:=by
 obtain⟨C,oe,h1,h2,h3,h4,h5⟩:=h;exact⟨C,oe,e _ _ h1,h2,h3,h4,h5.mono e⟩
noncomputable def cD(K:FrG)(F:Hp)(L:List qv):W->V->Prop
 | .d x,v=>Den K F x v
 | .loc n,v=>∃ a,L[n]? = qq a/\v=.ref a
 | .exc c r,v=>∃ a,v=.ref a/\gS K F a c r
structure EnvR(K:FrG)(F:Hp)(L:List qv)(env:aM)(σ:St):Prop where
 len:env.length=σ.length
 get:∀ (i:Nat) (w:W),env[i]? = qq (qq w)->∃ v,σ[i]? = qq (qq v)/\cD K F L w v
structure Gr(F:Hp)(L:List qv)(F':Hp)(L':List qv):Prop where
 f:aZ F F'
 l:∃ M,L'=L++M
section
variable {K : FrG}{F F' F'' H H' : Hp}{L L' L'' : List qv}{S S' : aB}
theorem Gr.refl:Gr F L F L:=⟨aZ.refl _,[],by simp⟩
theorem Gr.trans(a:Gr F L F' L')(b:Gr F' L' F'' L''):Gr F L F'' L'':=by
 obtain⟨f1,M,rfl⟩:=a;obtain⟨f2,N,rfl⟩:=b;exact⟨f1.trans f2,M++N,by rw[yBn]⟩
theorem Gr.get(g:Gr F L F' L'){n:Nat}{a:qv}(h:L[n]? = qq a):L'[n]? = qq a:=by
 obtain⟨_,M,rfl⟩:=g;rw[xAj (gIm h).1];exact h
theorem cD.mono(g:Gr F L F' L'){w:W}{v:V}(h:cD K F L w v):cD K F' L' w v:=by
 cases w with
 | d x=>exact Den.mono g.f h
 | loc n=>obtain⟨a,e,r⟩:=h;exact⟨a,g.get e,r⟩
 | exc c r=>obtain⟨a,e,h⟩:=h;exact⟨a,e,h.mono g.f⟩
theorem EnvR.mono(g:Gr F L F' L'){env:aM}{σ:St}(h:EnvR K F L env σ):EnvR K F' L' env σ:=
 ⟨h.len,λ i w e=>let ⟨v,e1,r⟩:=h.get i w e;⟨v,e1,r.mono g⟩⟩
theorem EnvR.set{env:aM}{σ:St}(h:EnvR K F L env σ)(i:Nat){w:W}{v:V}(r:cD K F L w v):EnvR K F L (env.set i (qq w)) (σ.set i (qq v)):=by
 refine⟨by rw[yAq,yAq];exact h.len,λ j u e=>?_⟩
 by_cases hj:i=j
 ·subst hj;have hl:i<env.length:=by
   rcases yDt i env.length with q | q
   ·exact q
   ·rw[yBu (by rw[yAq];exact q)] at e;cases e
  rw[yAp hl] at e;cases e;exact⟨v,yAp (by rw[<- h.len];exact hl),r⟩
 ·rw[yAk hj] at e;obtain⟨x,e1,r1⟩:=h.get j u e;exact⟨x,by rw[yAk hj];exact e1,r1⟩
theorem cK{p:qv}{o:HO}(h:H p=qj):aZ H (aS H p o):=λ b u q=>by rw[aT (bV q h)];exact q
theorem Rel.new(r:Rel K F L S H){p:qv}{o:HO}(h:H p=qj):Rel K (aS F p o) L S (aS H p o):=by
 have hF:F p=qj:=r.sub.free h;refine⟨λ b u q=>?_,r.nd,r.len,λ n a ds e1 e2=>?_,λ n a e=>?_⟩
 ·by_cases hb:b=p
  ·subst hb;rw[bP] at q ⊢;exact q
  ·rw[aT hb] at q ⊢;exact r.sub _ _ q
 ·obtain⟨f,xs,e3,dl⟩:=r.loc n a ds e1 e2;have ne:a≠p:=bV e3 h;exact⟨by rw[aT ne];exact f,xs,by rw[aT ne];exact e3,DenL.mono (cK hF) dl⟩
 ·obtain⟨xs,hx⟩:=r.tr n a e;exact⟨xs,by rw[aT (bV hx h)];exact hx⟩
theorem Gr.new{p:qv}{o:HO}(h:F p=qj):Gr F L (aS F p o) L:=⟨cK h,[],by simp⟩
theorem Rel.newLoc(r:Rel K F L S H){p:qv}{xs:List V}{ds:List D}(h:H p=qj)(dl:DenL K F ds xs):Rel K F (L++[p]) (S++[qq ds]) (aS H p (.lst xs)):=by
 have hF:F p=qj:=r.sub.free h;refine⟨λ b u q=>?_,?_,by rw[xAk,xAk,r.len]<;>rfl,λ n a es e1 e2=>?_,λ n a e=>?_⟩
 ·rw[aT (bV q hF)];exact r.sub _ _ q
 ·rw[yDp];refine⟨r.nd,by simp,λ a ha b hb=>?_⟩
  rw[yAr] at hb;subst hb;obtain⟨n,hn⟩:=List.getElem?_of_mem ha;obtain⟨xs,hx⟩:=r.tr n a hn;exact bV hx h
 ·by_cases hn:n<L.length
  ·rw[xAj hn] at e1;rw[xAj (by rw[<- r.len];exact hn)] at e2
   obtain⟨f,ys,e3,dl'⟩:=r.loc n a es e1 e2;exact⟨f,ys,by rw[aT (bV e3 h)];exact e3,dl'⟩
  ·rw[yAa (by omega)] at e1
   rw[yAa (by rw[<- r.len];omega)] at e2
   have z:n-L.length=0:=by
    have:=(gIm e1).1;simp at this;omega
   rw[<- r.len] at e2;rw[z] at e1 e2;simp at e1 e2;subst e1 e2;exact⟨hF,xs,bP,dl⟩
 ·by_cases hn:n<L.length
  ·rw[xAj hn] at e;obtain⟨ys,hy⟩:=r.tr n a e;exact⟨ys,by rw[aT (bV hy h)];exact hy⟩
  ·rw[yAa (by omega)] at e
   have z:a=p:=by
    have h1:=xAi e;simpa using h1
   exact⟨xs,by rw[z];exact bP⟩
theorem Rel.lay(r:Rel K F L S H){p:qv}{o:HO}(h:H p=qj):Rel K F L S (aS H p o):=by
 refine⟨λ b u q=>by rw[aT (bV q (r.sub.free h))];exact r.sub _ _ q,r.nd,r.len,λ n a ds e1 e2=>?_,λ n a e=>?_⟩
 ·obtain⟨f,xs,e3,dl⟩:=r.loc n a ds e1 e2;exact⟨f,xs,by rw[aT (bV e3 h)];exact e3,dl⟩
 ·obtain⟨xs,hx⟩:=r.tr n a e;exact⟨xs,by rw[aT (bV hx h)];exact hx⟩
theorem Rel.notin(r:Rel K F L S H){p:qv}(h:H p=qj):p ∉ L:=λ hp=>by
 obtain⟨n,hn⟩:=List.getElem?_of_mem hp;obtain⟨xs,hx⟩:=r.tr n p hn;rw[h] at hx;cases hx
theorem Rel.adopt(r:Rel K F L S H){p:qv}{xs:List V}(hF:F p=qj)(hL:p ∉ L)(hH:H p=qq (.lst xs)):Rel K (aS F p (.lst xs)) L S H:=by
 refine⟨λ b u q=>?_,r.nd,r.len,λ n a ds e1 e2=>?_,r.tr⟩
 ·by_cases hb:b=p
  ·subst hb;rw[bP] at q;rw[hH];exact q
  ·rw[aT hb] at q;exact r.sub _ _ q
 ·obtain⟨f,ys,e3,dl⟩:=r.loc n a ds e1 e2;have ne:a≠p:=λ z=>hL (by rw[<- z];exact xAi e1)
  exact⟨by rw[aT ne];exact f,ys,e3,dl.mono (cK hF)⟩
theorem Rel.adoptLoc(r:Rel K F L S H){p:qv}{xs:List V}{ds:List D}(hF:F p=qj)(hL:p ∉ L)(hH:H p=qq (.lst xs))(dl:DenL K F ds xs):Rel K F (L++[p]) (S++[qq ds]) H:=by
 refine⟨r.sub,?_,by rw[xAk,xAk,r.len]<;>rfl,λ n a es e1 e2=>?_,λ n a e=>?_⟩
 ·rw[yDp];refine⟨r.nd,by simp,λ a ha b hb=>?_⟩
  rw[yAr] at hb;subst hb;exact λ z=>hL (z▸ha)
 ·by_cases hn:n<L.length
  ·rw[xAj hn] at e1;rw[xAj (by rw[<- r.len];exact hn)] at e2
   exact r.loc n a es e1 e2
  ·rw[yAa (by omega)] at e1
   rw[yAa (by rw[<- r.len];omega)] at e2
   have z:n-L.length=0:=by
    have:=(gIm e1).1;simp at this;omega
   rw[<- r.len] at e2;rw[z] at e1 e2;simp at e1 e2;subst e1 e2;exact⟨hF,xs,hH,dl⟩
 ·by_cases hn:n<L.length
  ·rw[xAj hn] at e;exact r.tr n a e
  ·rw[yAa (by omega)] at e
   have z:a=p:=by
    have h1:=xAi e;simpa using h1
   exact⟨xs,by rw[z];exact hH⟩
theorem Gr.newLoc{p:qv}:Gr F L F (L++[p]):=⟨aZ.refl _,[p],rfl⟩
theorem Rel.put(r:Rel K F L S H){n:Nat}{a:qv}{ys:List V}{es:List D}(e:L[n]? = qq a)(hF:F a=qj)(dl:DenL K F es ys):Rel K F L (S.set n (qq es)) (aS H a (.lst ys)):=by
 refine⟨λ b u q=>by rw[aT (bV q hF)];exact r.sub _ _ q,r.nd,by rw[yAq];exact r.len,λ m b fs e1 e2=>?_,λ m b e1=>?_⟩
 ·by_cases hm:n=m
  ·subst hm;rw[e] at e1;cases e1;have hl:n<S.length:=by rw[<- r.len];exact(gIm e).1
   rw[yAp hl] at e2;cases e2;exact⟨hF,ys,bP,dl⟩
  ·rw[yAk hm] at e2;have ne:b≠a:=λ z=>by
    subst z;have h1:=(gIm e);have h2:=(gIm e1);obtain⟨l1,g1⟩:=h1;obtain⟨l2,g2⟩:=h2;exact hm ((yDr r.nd).mp (g1.trans g2.symm))
   obtain⟨f,xs,e3,d3⟩:=r.loc m b fs e1 e2;exact⟨f,xs,by rw[aT ne];exact e3,d3⟩
 ·by_cases hb:b=a
  ·exact⟨ys,by rw[hb];exact bP⟩
  ·obtain⟨zs,hz⟩:=r.tr m b e1;exact⟨zs,by rw[aT hb];exact hz⟩
theorem Rel.freeze(r:Rel K F L S H){n:Nat}{a:qv}{ds:List D}(e:L[n]? = qq a)(es:S[n]? = qq (qq ds)) :
 ∃ F',Gr F L F' L/\Rel K F' L (S.set n qj) H/\Den K F' (.list ds) (.ref a):=by
 obtain⟨hF,xs,e3,dl⟩:=r.loc n a ds e es;refine⟨aS F a (.lst xs),Gr.new hF,⟨λ b u q=>?_,r.nd,by rw[yAq];exact r.len,λ m b fs e1 e2=>?_,r.tr⟩,.lst (aX.of bP) (dl.mono (cK hF))⟩
 ·by_cases hb:b=a
  ·subst hb;rw[bP] at q;rw[e3];exact q
  ·rw[aT hb] at q;exact r.sub _ _ q
 ·by_cases hm:n=m
  ·subst hm;have hl:n<S.length:=(gIm es).1;rw[yAp hl] at e2;cases e2
  ·rw[yAk hm] at e2;have ne:b≠a:=λ z=>by
    subst z;obtain⟨l1,g1⟩:=gIm e;obtain⟨l2,g2⟩:=gIm e1;exact hm ((yDr r.nd).mp (g1.trans g2.symm))
   obtain⟨f,ys,e4,d4⟩:=r.loc m b fs e1 e2;exact⟨by rw[aT ne];exact f,ys,e4,d4.mono (cK hF)⟩
theorem Rel.cut{M:List qv}(r:Rel K F (L++M) S H):Rel K F L (S.take L.length) H:=by
 have hl:L.length<=S.length:=by have:=r.len;rw[xAk] at this;omega
 refine⟨r.sub,(List.nodup_append.mp r.nd).1,by rw[yCd];omega,λ n a ds e1 e2=>?_,λ n a e1=>?_⟩
 ·have hn:n<L.length:=(gIm e1).1;rw[List.getElem?_take_of_lt hn] at e2;exact r.loc n a ds (by rw[xAj hn];exact e1) e2
 ·have hn:n<L.length:=(gIm e1).1;exact r.tr n a (by rw[xAj hn];exact e1)
end
def aU(K:FrG)(F H:Hp)(x:D)(v:V):Prop:=Den K F x v\/∃ ds a xs,x=.list ds/\v=.ref a/\H a=qq (.lst xs)/\DenL K F ds xs
noncomputable def dr(S:aB):W->Option D
 | .d x=>qq x
 | .loc n=>match S[n]? with
   | some (qq ds)=>qq (.list ds)
   | _=>qj
 | .exc _ _=>qj
theorem iX{K:FrG}{F H:Hp}{L:List qv}{S:aB}{w:W}{x:D}{v:V}(r:Rel K F L S H)(h:cD K F L w v)(e:dr S w=qq x):aU K F H x v:=by
 cases w with
 | d y=>cases e;exact .inl h
 | exc c r=>cases e
 | loc n =>
   obtain⟨a,e1,rfl⟩:=h;cases e2:S[n]? with
   | none=>simp[dr,e2] at e
   | some o =>
     cases o with
     | none=>simp[dr,e2] at e
     | some ds =>
       simp[dr,e2] at e;subst e;obtain⟨f,xs,e3,dl⟩:=r.loc n a ds e1 e2;exact .inr ⟨ds,a,xs,rfl,rfl,e3,dl⟩
section
variable {K : FrG}{F H : Hp}{v : V}
theorem aU.non(h:aU K F H .none v):v=.non:=by
 rcases h with h | ⟨_,_,_,e,_⟩
 ·cases h;rfl
 ·cases e
theorem aU.bl{b:Bool}(h:aU K F H (.bool b) v):v=.bl b:=by
 rcases h with h | ⟨_,_,_,e,_⟩
 ·cases h;rfl
 ·cases e
theorem aU.int{i:Int}(h:aU K F H (.int i) v):v=.int i:=by
 rcases h with h | ⟨_,_,_,e,_⟩
 ·cases h;rfl
 ·cases e
theorem aU.str{x:Str}(h:aU K F H (.str x) v):v=.str x:=by
 rcases h with h | ⟨_,_,_,e,_⟩
 ·cases h;rfl
 ·cases e
theorem aU.lst{ds:List D}(s:aZ F H)(h:aU K F H (.list ds) v):∃ a xs,v=.ref a/\aX K H a xs/\DenL K F ds xs:=by
 rcases h with h | ⟨_,a,xs,e,e2,e3,dl⟩
 ·cases h with
  | lst q r=>exact⟨_,_,rfl,s.seq q,r⟩
 ·cases e;exact⟨a,xs,e2,aX.of e3,dl⟩
theorem aU.tup{ds:List D}(s:aZ F H)(h:aU K F H (.tuple ds) v):∃ a xs,v=.ref a/\bC K H a xs/\DenL K F ds xs:=by
 rcases h with h | ⟨_,_,_,e,_⟩
 ·cases h with
  | tup q r=>exact⟨_,_,rfl,dN s q,r⟩
 ·cases e
theorem aU.dict{aO:List (D×D)}(h:aU K F H (.dict aO) v):False:=by
 rcases h with h | ⟨_,_,_,e,_⟩
 ·cases h
 ·cases e
end
theorem aBf:fillsNumberSlot (.type "tuple") "mul" = pure false:=
 PySem.fillsNumberSlot_seq (id:="tuple.__mul__") (r:=qq (.builtin "tuple.__rmul__")) PySem.F.slot_tuple_mul.lookup (by decide +kernel) PySem.F.slot_tuple_rmul.lookup (by decide +kernel)
theorem aBp:seqRepeat? (.type "tuple")=pure (qq (.builtin "tuple.__mul__")):=by
 unfold seqRepeat?;rw[PySem.seqSlot_of (T:="tuple") (name:="__mul__") (id:="tuple.__mul__") PySem.F.slot_tuple_mul.lookup (by decide +kernel),PySem.seqSlot_of (T:="tuple") (name:="__rmul__") (id:="tuple.__rmul__") PySem.F.slot_tuple_rmul.lookup (by decide +kernel)]
 rfl
theorem aBk(a:Int)(t:Tok)(l:qv)(aV:Array qz)(n:Nat)(d:Option qv)(sl:Array (Option qz)) :
 Meets (Builtin.«int.__rmul__» ⟨[.int a t,.ref l],[]⟩) (λ _ R s=>s.heap.get? l=qq {cls:=.type "tuple",dict:=d,data:=.seq aV n,slots:=sl }/\R (.ok (.ret Value.notImplemented)) s):=
 .of_wp λ prog w A R s h=>by obtain⟨hp,g,d,tk,os⟩:=s;obtain⟨hl,h⟩:=h;wp_walk;exact⟨_,rfl,h⟩
theorem aBl(l:qv)(aV:Array qz)(n:Nat)(d:Option qv)(sl:Array (Option qz))(t:Tok) :
 Meets (Builtin.«tuple.__mul__» ⟨[.ref l,.int 1 t],[]⟩) (λ _ R s=>s.heap.get? l=qq {cls:=.type "tuple",dict:=d,data:=.seq aV n,slots:=sl }/\R (.ok (.ret (.ref l))) s):=
 .of_wp λ prog w A R s h=>by
  obtain⟨hp,g,d,tk,os⟩:=s;obtain⟨hl,h⟩:=h
  wp_walk
  exact⟨_,rfl,h⟩
theorem aBi(l:qv)(x:qz)(n:Nat)(d:Option qv)(sl:Array (Option qz))(t:Tok) :
 Meets (Builtin.«tuple.__mul__» ⟨[.ref l,.int 0 t],[]⟩) (λ _ R s=>s.heap.get? l=qq {cls:=.type "tuple",dict:=d,data:=.seq #[x] n,slots:=sl }/\R (.ok (.ret (.ref s.heap.objs.size))) {s with heap:=s.heap.push {cls:=.type "tuple",data:=.seq #[] } }):=
 .of_wp λ prog w A R s h=>by
  obtain⟨hp,g,d,tk,os⟩:=s;obtain⟨hl,h⟩:=h
  wp_walk
  exact⟨_,rfl,h⟩
theorem mW(x:qz):∀ (k:Nat) (aD:Array qz),(yAb k #[x]).foldl (· ++ ·) aD=aD++(yAb k x).toArray
 | 0,aD=>by simp
 | k+1,aD=>by
   rw[yAo,yBs,mW x k];apply Array.ext';simp[yAo]
theorem aBm(l:qv)(x:qz)(n:Nat)(d:Option qv)(sl:Array (Option qz))(k:Nat)(hk:2<=k)(hk2:k<=1000)(t:Tok) :
 Meets (Builtin.«tuple.__mul__» ⟨[.ref l,.int k t],[]⟩) (λ _ R s=>s.heap.get? l=qq {cls:=.type "tuple",dict:=d,data:=.seq #[x] n,slots:=sl }/\R (.ok (.ret (.ref s.heap.objs.size))) {s with heap:=s.heap.push {cls:=.type "tuple",data:=.seq (yAb k x).toArray } }):=
 .of_wp λ prog w A R s h=>by
  obtain⟨hp,g,d,tk,os⟩:=s;obtain⟨hl,h⟩:=h;have c1:(decide (((k:Nat):Int) < -(2^63))||decide (((k:Nat):Int) ≥ 2^63))=false:=by simp;omega
  have c2:(((k:Nat):Int)==1)=false:=by rw[beq_eq_false_iff_ne];omega
  have c3:decide (((k:Nat):Int)<=0)=false:=dqF (by omega)
  have c4:((#[x]:Array qz).isEmpty||(((k:Nat):Int)==1))=false:=by rw[c2];rfl
  have c5:(decide (((k:Nat):Int)<=0)||(#[x]:Array qz).isEmpty)=false:=by rw[c3];rfl
  have c6:¬ (((#[x]:Array qz).size:Int)*((k:Nat):Int)>(2^63-1)/8):=by
   show ¬ (((1:Nat):Int)*((k:Nat):Int)>(2^63-1)/8);omega
  have hsz:qk=16777216:=by decide
  have c7:yDg (((#[x]:Array qz).size:Int)*((k:Nat):Int))=false:=by
   unfold yDg;refine dqF ?_;show ¬ (((1:Nat):Int)*((k:Nat):Int)>((qk:Nat):Int));omega
  wp_walk
  rw[if_neg (by rw[c1];exact yAm)]
  refine wB (wpAny_tupleItemsOf hl rfl ?_);simp only[c4,c5,c6,c7,yAu,if_false];rw[yAz,mW,show(#[]:Array qz)++(yAb k x).toArray=(yAb k x).toArray by simp]
  refine wB (m:=Builtin.Tuple.tupleExact _) (jv (wP ⟨_,rfl,h⟩) ?_);show(yAb k x).toArray.size<=qk;rw[yAd,yCz,hsz];omega
section
variable {X : Cx}{aA : List (qv×Obj)}{σ : L2.St}{H : Hp}{s : qx}{Q : VK}
theorem wC{x:V}{u:qz}(r:aI x u):∀ k:Nat,aH (yAb k x) (yAb k u)
 | 0=>.nil
 | k+1=>.cons r (wC r k)
theorem aGV{a:qv}{x:V}{k:Nat}{t:Tok}(I:Inv X aA σ H s)(ha:bC X.K H a [x])(hk:k<=1000)
 (q1:k=1->Q (.ref a) H) (q:∀ p,H p=qj->Q (.ref p) (aS H p (.tup (yAb k x)))):qu (model X.prog X.w) X.A (zk .Mult (.ref a) (.int k t)) (EP X aA σ Q) X.xe s:=by
 obtain⟨aC,r1,p1,_⟩:=I.tuple ha;obtain⟨u,rfl,ru⟩:∃ u,aC=[u]/\aI x u:=by
  cases r1 with
  | cons r r'=>cases r';exact⟨_,rfl,r⟩
 obtain⟨⟨cls,d,data,sl⟩,ho,hcl,n,hd⟩:=p1;simp only at hcl hd;subst hcl hd;have hsz:qk=16777216:=by decide
 have bO:∀ (aC:List qz),aC=yAb k u->EP X aA σ Q (.ref s.heap.objs.size) {s with heap:=s.heap.push {cls:=.type "tuple",data:=.seq aC.toArray } }:=λ aC e=>by
  subst e;exact⟨.ref _,_,I.laid (t':=s.toks) (o:=.tup (yAb k x)) (λ b ob q=>hpS _ q) (yAc _) ⟨by rw[yCz,hsz];omega,_,wC ru k,⟨_,xAe _ rfl,rfl,0,rfl⟩⟩,rfl,q _ (I.hok.fresh (yAc _))⟩
 refine wq (T:="tuple") (U:="int") (by decide) ⟨_,ho,rfl⟩ (λ s'=>ww s' k t) aBf PySem.F.fills_int_mul yBv aBp PySem.F.slot_int_index.lookup
  (vw yBv (ww s k t) PySem.F.entry_int_rmul (PySem.F.args_int_rmul_2 _ _) (aBk k t a _ n d sl)
    ⟨ho,rfl,⟨_,ho,rfl⟩,?_⟩)
 by_cases h1:k=1
 ·subst h1;exact vw yCr ⟨_,ho,rfl⟩ yCo (yCl _ _) (aBl a _ n d sl t) ⟨ho,.ref a,H,I,rfl,q1 rfl⟩
 ·by_cases h0:k=0
  ·subst h0;exact vw yCr ⟨_,ho,rfl⟩ yCo (yCl _ _) (aBi a u n d sl t) ⟨ho,bO [] rfl⟩
  ·exact vw yCr ⟨_,ho,rfl⟩ yCo (yCl _ _) (aBm a u n d sl k (by omega) hk t) ⟨ho,bO _ rfl⟩
end
noncomputable def gK(i j:Int):Bool:=!(decide (yAh i>vk)&&decide (yAh j>vk)&&Builtin.Int.intTooBig (yAh i+yAh j))
noncomputable def aGN{α:Type}(n:Nat)(xs:List α):List α:=(yAb n xs).flatten
noncomputable def sO:D->D->Option D
 | .int i,.int j=>qq (.int (i+j))
 | .str x,.str y=>if x.length+y.length<=qk then qq (.str (x++y)) else qj
 | .tuple [],.tuple ys=>qq (.tuple ys)
 | .tuple xs,.tuple ys=>if xs.isEmpty=false/\xs.length+ys.length<=qk then qq (.tuple (xs++ys)) else qj
 | .list xs,.list ys=>if xs.length+ys.length<=qk then qq (.list (xs++ys)) else qj
 | _,_=>qj
noncomputable def tD:D->D->Option D
 | .int i,.int j=>if gK i j=true then qq (.int (i*j)) else qj
 | .list xs,.int k=>if k<2^63 /\ -(2^63)<=k/\xs.length*k.toNat<=qk then qq (.list (aGN k.toNat xs)) else qj
 | .tuple [x],.int k=>if 0<=k/\k<=1000 then qq (.tuple (yAb k.toNat x)) else qj
 | _,_=>qj
noncomputable def i2{α:Type}(f:Int->Int->Option α):D->D->Option α
 | .int i,.int j=>f i j
 | _,_=>qj
theorem iA{α:Type}{f:Int->Int->Option α}{i j:Int}:i2 f (.int i) (.int j)=f i j:=rfl
theorem cZ{α:Type}{f:Int->Int->Option α}{x y:D}{z:α}(h:i2 f x y=qq z):∃ i j,x=.int i/\y=.int j/\f i j=qq z:=by
 cases x<;>first | (cases h;done) | skip
 cases y<;>first | (cases h;done) | exact⟨_,_,rfl,rfl,h⟩
noncomputable def dQ:D->Bool
 | .none=>true
 | _=>false
theorem vW{x:D}(h:dQ x=true):x=.none:=by cases x<;>first | rfl | cases h
noncomputable def bD(op:jk)(x y:D):Option D:=match op with
 | .Add=>sO x y
 | .Sub=>i2 (λ i j=>qq (.int (i-j))) x y
 | .Mult=>tD x y
 | .MatMult=>qj
 | .Div=>qj
 | .Mod=>i2 (λ i j=>if j≠0 then qq (.int (i.fmod j)) else qj) x y
 | .Pow=>i2 (λ i j=>if 0<=j/\j<=1000000/\i.natAbs<2^64 then qq (.int (i^j.toNat)) else qj) x y
 | .LShift=>i2 (λ i j=>if 0<=j/\(yAh i:Int)+j<=2^27 then qq (.int (i*2^j.toNat)) else qj) x y
 | .RShift=>i2 (λ i j=>if 0<=j then qq (.int (i/2^j.toNat)) else qj) x y
 | .BitOr=>i2 (λ i j=>qq (.int (Builtin.bitOr i j))) x y
 | .BitXor=>i2 (λ i j=>qq (.int (Builtin.bitXor i j))) x y
 | .BitAnd=>i2 (λ i j=>qq (.int (yDm i j))) x y
 | .FloorDiv=>i2 (λ i j=>if j≠0/\yBc i j=false then qq (.int (i.fdiv j)) else qj) x y
noncomputable def mJ:wz->D->Option D
 | .USub,.int i=>qq (.int (-i))
 | .Invert,.int i=>qq (.int (Builtin.bitNot i))
 | _,_=>qj
noncomputable def dP:D->Bool
 | .none | .bool _ | .int _ | .str _=>true
 | _=>false
noncomputable def hR:List D->Bool
 | []=>true
 | d::r=>dP d&&hR r
noncomputable def pN(x:D):List D->Bool
 | []=>false
 | y::r=>yCm y x||pN x r
noncomputable def rW:D->Option (List D)
 | .list xs=>qq xs
 | .tuple xs=>qq xs
 | _=>qj
noncomputable def jG:D->D->Option Bool
 | .bool a,.bool b=>qq (a==b)
 | _,_=>qj
theorem vN{x y:D}{b:Bool}(h:jG x y=qq b):∃ p q,x=.bool p/\y=.bool q/\b=(p==q):=by
 unfold jG at h
 split at h
 ·rename_i p q;exact⟨p,q,rfl,rfl,(Option.some.inj h).symm⟩
 ·cases h
noncomputable def iI(op:vq)(x y:D):Option Bool:=match op with
 | .Eq=>if x.canLay0=true/\y.canLay0=true/\x.depth<=60 then qq (yCm x y) else qj
 | .NotEq=>if x.canLay0=true/\y.canLay0=true/\x.depth<=60 then qq (!yCm x y) else qj
 | .Lt=>i2 (λ i j=>qq (decide (i<j))) x y
 | .LtE=>i2 (λ i j=>qq (decide (i<=j))) x y
 | .Gt=>i2 (λ i j=>qq (decide (j<i))) x y
 | .GtE=>i2 (λ i j=>qq (decide (j<=i))) x y
 | .Is=>if dQ y=true then qq (dQ x) else jG x y
 | .IsNot=>if dQ y=true then qq (!dQ x) else (jG x y).bind λ b=>qq (!b)
 | .In=>(rW y).bind λ ys=>if dP x=true/\hR ys=true then qq (pN x ys) else qj
 | .NotIn=>(rW y).bind λ ys=>if dP x=true/\hR ys=true then qq (!pN x ys) else qj
noncomputable def lH:D->Option Bool
 | .none=>qq false
 | .bool b=>qq b
 | .int i=>qq (i != 0)
 | .str x=>if x.length<=qk then qq ((x.length:Int) != 0) else qj
 | .list xs=>qq (!xs.isEmpty)
 | .tuple xs=>qq (!xs.isEmpty)
 | .dict _=>qj
section
variable {X : Cx}{aA : List (qv×Obj)}{s : qx}{σ : L2.St}{H : Hp}{x y : V}{v u : qz}{Q : VK}{F : Hp}{L : List qv}{S : aB}{dx dy z : D}
abbrev cH(X:Cx)(F:Hp)(L:List qv)(S:aB)(z:D)(Q:VK):Prop:=∀ F' H' r,aZ F F'->Rel X.K F' L S H'->Den X.K F' z r->Q r H'
abbrev pG(X:Cx)(F:Hp)(H:Hp)(zs:List D)(Q:VK):Prop:=∀ p xs,H p=qj->DenL X.K F zs xs->Q (.ref p) (aS H p (.lst xs))
theorem cH.here(R:Rel X.K F L S H)(q:cH X F L S z Q){r:V}(h:Den X.K F z r):Q r H:=q F H r (aZ.refl _) R h
theorem pG.out{zs:List D}(R:Rel X.K F L S H)(q:cH X F L S (.list zs) Q):pG X F H zs Q:=λ p xs hp dl =>
 q _ _ _ (cK (R.sub.free hp)) (R.new hp) (.lst (aX.of bP) (dl.mono (cK (R.sub.free hp))))
theorem cH.tup{zs:List D}(R:Rel X.K F L S H)(q:cH X F L S (.tuple zs) Q){p:qv}{xs:List V}(hp:H p=qj)(dl:DenL X.K F zs xs):Q (.ref p) (aS H p (.tup xs)):=
 q _ _ _ (cK (R.sub.free hp)) (R.new hp) (.tup (bC.of bP) (dl.mono (cK (R.sub.free hp))))
theorem aGO{a b:qv}{xs ys:List V}(I:Inv X aA σ H s)(ha:aX X.K H a xs)(hb:aX X.K H b ys)(hz:xs.length+ys.length<=qk)
 (q:∀ p,H p=qj->Q (.ref p) (aS H p (.lst (xs++ys)))):qu (model X.prog X.w) X.A (zk .Add (.ref a) (.ref b)) (EP X aA σ Q) X.xe s:=by
 obtain⟨aC,r1,p1,_⟩:=I.list ha;obtain⟨jO,r2,p2,_⟩:=I.list hb;obtain⟨⟨cls,dd,data,sl⟩,ho,hc,n,hd⟩:=p1.isList;obtain⟨⟨cls2,dd2,data2,sl2⟩,ho2,hc2,n2,hd2⟩:=p2.isList;simp only at hc hd hc2 hd2;subst hc hd hc2 hd2;have e:aC.toArray++jO.toArray=(aC++jO).toArray:=by simp
 refine concat_meets ⟨_,ho,rfl⟩ ⟨_,ho2,rfl⟩ noFill_list_add seq_list_add PySem.F.slot_list_add PySem.F.entry_list_add (PySem.F.args_list_add_2 _ _) (list_addW a b aC.toArray jO.toArray n n2 dd dd2 sl sl2 (by rw[yAd,yAd,<- r1.length,<- r2.length];exact hz)) ⟨ho,ho2,?_⟩
 rw[e];exact⟨.ref _,_,I.lnew (t':=s.toks) (r1.append r2) (by rw[xAk];omega),rfl,q _ I.fresh⟩
theorem aHF{a:qv}{xs:List V}{k:Int}{t:Tok}(I:Inv X aA σ H s)(ha:aX X.K H a xs)(h1 : -(2^63)<=k)(h2:k<2^63)(hz:xs.length*k.toNat<=qk)
 (q:∀ p,H p=qj->Q (.ref p) (aS H p (.lst (yAb k.toNat xs).flatten))):qu (model X.prog X.w) X.A (zk .Mult (.ref a) (.int k t)) (EP X aA σ Q) X.xe s:=by
 obtain⟨aC,r1,p1,_⟩:=I.list ha;obtain⟨⟨cls,d,data,sl⟩,ho,hcl,n,hd⟩:=p1.isList;simp only at hcl hd;subst hcl hd;have hsz:aC.toArray.size*k.toNat<=2^24:=by
  rw[yAd,<- r1.length];have:qk=2^24:=rfl;rw[<- this];exact hz
 refine wq (T:="list") (U:="int") (by decide) ⟨_,ho,rfl⟩ (λ s'=>ww s' k t) noFill_list_mul PySem.F.fills_int_mul yBv repeat_list PySem.F.slot_int_index.lookup
  (vw yBv (ww s k t) PySem.F.entry_int_rmul (PySem.F.args_int_rmul_2 _ _) (lm_int_rmul_list_any k t a aC.toArray n d sl)
    ⟨ho,rfl,⟨_,ho,rfl⟩,vw PySem.F.slot_list_mul ⟨_,ho,rfl⟩ PySem.F.entry_list_mul (PySem.F.args_list_mul_2 _ _)
     (lm_list_mul_any a aC.toArray n d sl k t (by simp[Builtin.List.listFitsIndex];omega) (by omega) (by simp[Builtin.List.listTooLong,qk];simpa using hsz))
     ⟨ho,?_⟩⟩)
 rw[listMul_foldl_if];exact⟨.ref _,_,I.lnew (t':=s.toks) (r1.rep k.toNat) (by rw[aDp,Nat.mul_comm];exact hz),rfl,q _ I.fresh⟩
theorem aFG{a b:qv}{ys:List V}(I:Inv X aA σ H s)(ha:bC X.K H a [])(hb:bC X.K H b ys)(q:Q (.ref b) H):qu (model X.prog X.w) X.A (zk .Add (.ref a) (.ref b)) (EP X aA σ Q) X.xe s:=by
 obtain⟨aC,r1,p1,_⟩:=I.tuple ha;obtain⟨jO,r2,p2,_⟩:=I.tuple hb;cases r1;obtain⟨⟨cls,dd,data,sl⟩,ho,hc,n,hd⟩:=p1;obtain⟨⟨cls2,dd2,data2,sl2⟩,ho2,hc2,n2,hd2⟩:=p2;simp only at hc hd hc2 hd2;subst hc hd hc2 hd2;exact concat_meets ⟨_,ho,rfl⟩ ⟨_,ho2,rfl⟩ noFill_tuple_add seq_tuple_add yCq yCn (yCk _ _) (tuple_addW0 a b _ jO.toArray n n2 dd dd2 sl sl2 rfl) ⟨ho,ho2,⟨.ref b,H,I,rfl,q⟩⟩
theorem aFj(I:Inv X aA σ H s)(rx:aI x v)(ry:aI y u)(R:Rel X.K F L S H)(nx:aU X.K F H dx x)(ny:aU X.K F H dy y)(e:sO dx dy=qq z)(q:cH X F L S z Q) :
 qu (model X.prog X.w) X.A (zk .Add v u) (EP X aA σ Q) X.xe s:=by
 unfold sO at e
 split at e
 ·rename_i i j;cases e;exact aEo aA s σ H x y v u Q I rx ry ⟨i,j,nx.int,ny.int,q.here R (.int _)⟩
 ·rename_i a b
  split at e
  ·rename_i c;cases e;exact aBC aA s σ H x y v u Q I rx ry ⟨a,b,nx.str,ny.str,c,q.here R (.str _)⟩
  ·cases e
 ·rename_i ys;cases e;obtain⟨a,vs,rfl,h1,d1⟩:=nx.tup R.sub;obtain⟨b,ws,rfl,h2,d2⟩:=ny.tup R.sub;cases d1;cases rx;cases ry;refine aFG I h1 h2 (q F H _ (aZ.refl _) R ?_);rcases ny with ny | ⟨_,_,_,e,_⟩
  ·exact ny
  ·cases e
 ·rename_i xs ys _
  split at e
  ·rename_i c;cases e;obtain⟨a,vs,rfl,h1,d1⟩:=nx.tup R.sub;obtain⟨b,ws,rfl,h2,d2⟩:=ny.tup R.sub;have hne:vs≠[]:=λ z=>by
    have:=d1.length;rw[z] at this;cases xs with
    | nil=>simp at c
    | cons _ _=>simp at this
   refine aDm aA s σ H _ _ v u Q I rx ry ⟨a,b,vs,ws,rfl,rfl,h1,h2,hne,by rw[<- d1.length,<- d2.length];exact c.2,λ z=>?_,λ z p hp=>?_⟩
   ·have:ys=[]:=by
     have h:=d2.length;rw[z] at h;exact List.eq_nil_of_length_eq_zero h
    subst this;refine q F H _ (aZ.refl _) R ?_;rw[yAs];rcases nx with nx | ⟨_,_,_,e,_⟩
    ·exact nx
    ·cases e
   ·exact q.tup R hp (d1.append d2)
  ·cases e
 ·rename_i xs ys
  split at e
  ·rename_i c;cases e;obtain⟨a,vs,rfl,h1,d1⟩:=nx.lst R.sub;obtain⟨b,ws,rfl,h2,d2⟩:=ny.lst R.sub;cases rx;cases ry;exact aGO I h1 h2 (by rw[<- d1.length,<- d2.length];exact c) λ p hp=>pG.out R q p _ hp (d1.append d2)
  ·cases e
 ·cases e
theorem xU{K:FrG}{F:Hp}{x:D}{v:V}(h:Den K F x v):∀ k:Nat,DenL K F (yAb k x) (yAb k v)
 | 0=>.nil
 | k+1=>.cons h (xU h k)
theorem aDU(I:Inv X aA σ H s)(rx:aI x v)(ry:aI y u)(R:Rel X.K F L S H)(nx:aU X.K F H dx x)(ny:aU X.K F H dy y)(e:tD dx dy=qq z)(q:cH X F L S z Q) :
 qu (model X.prog X.w) X.A (zk .Mult v u) (EP X aA σ Q) X.xe s:=by
 unfold tD at e
 split at e
 ·rename_i i j
  split at e
  ·rename_i c;cases e;obtain rfl:=nx.int;obtain rfl:=ny.int;obtain⟨t,rfl⟩:=rx;obtain⟨t',rfl⟩:=ry;refine PyProof.Rows.mul_int ⟨.int (i*j),H,I.tok _,⟨_,rfl⟩,q.here R (.int _)⟩ ?_;unfold IntMulOk;unfold gK at c;intro z;rw[z] at c;cases c
  ·cases e
 ·rename_i xs k
  split at e
  ·rename_i c;cases e;obtain⟨a,vs,rfl,h1,d1⟩:=nx.lst R.sub;obtain rfl:=ny.int;cases rx;obtain⟨t',rfl⟩:=ry;exact aHF I h1 c.2.1 c.1 (by rw[<- d1.length];exact c.2.2) λ p hp=>pG.out R q p _ hp (d1.rep _)
  ·cases e
 ·rename_i xd k
  split at e
  ·rename_i c;cases e;obtain⟨a,vs,rfl,h1,d1⟩:=nx.tup R.sub;obtain rfl:=ny.int;cases rx;obtain⟨t',rfl⟩:=ry;obtain⟨kk,rfl⟩:∃ kk:Nat,k=(kk:Nat):=⟨k.toNat,by omega⟩
   rw[yAz] at q;cases d1 with
   | cons dx dn =>
     cases dn;refine aGV I h1 (by omega) (λ hk=>?_) λ p hp=>cH.tup R q hp (xU dx kk)
     subst hk;refine q F H _ (aZ.refl _) R ?_;rcases nx with nx | ⟨_,_,_,z,_⟩
     ·exact nx
     ·cases z
  ·cases e
 ·cases e
theorem kH{op:jk}{C:Int->Int->Prop}{g:Int->Int->Int}(rule:bH X (zk op) (rI C λ i j=>.int (g i j))){i j:Int}(c:C i j)(I:Inv X aA σ H s)(rx:aI x v)(ry:aI y u)(R:Rel X.K F L S H)
 (nx:aU X.K F H (.int i) x) (ny:aU X.K F H (.int j) y) (q:cH X F L S (.int (g i j)) Q) :
 qu (model X.prog X.w) X.A (zk op v u) (EP X aA σ Q) X.xe s:=
 rule aA s σ H x y v u Q I rx ry ⟨i,j,nx.int,ny.int,c,q.here R (.int _)⟩
theorem nE{op:jk}{g:Int->Int->Int}(rule:bH X (zk op) (dU λ i j=>.int (g i j))){i j:Int}(I:Inv X aA σ H s)(rx:aI x v)(ry:aI y u)(R:Rel X.K F L S H)
 (nx:aU X.K F H (.int i) x) (ny:aU X.K F H (.int j) y) (q:cH X F L S (.int (g i j)) Q) :
 qu (model X.prog X.w) X.A (zk op v u) (EP X aA σ Q) X.xe s:=
 rule aA s σ H x y v u Q I rx ry ⟨i,j,nx.int,ny.int,q.here R (.int _)⟩
theorem aCR:bH X (zk .FloorDiv) (rI (λ i j=>j≠0/\yBc i j=false) λ i j=>.int (i.fdiv j)):=mB λ _ _ _ _ _ _ _ hc q=>floordiv_int hc.1 q (.inl hc.2)
theorem aFH:bH X (zk .LShift) (rI (λ i j=>0<=j/\(yAh i:Int)+j<=2^27) λ i j=>.int (i*2^j.toNat)):=mB λ _ _ _ _ _ _ _ hc q=>lshift_int hc.1 hc.2 q
theorem bind_some{α β:Type}{o:Option α}{f:α->Option β}{b:β}(h:o.bind f=qq b):∃ a,o=qq a/\f a=qq b:=by
 cases o with
 | none=>cases h
 | some a=>exact⟨a,rfl,h⟩
theorem fY{α:Type}{p:Prop} [Decidable p]{a z:α}(h:(if p then qq a else qj)=qq z):p/\a=z:=by
 split at h
 ·rename_i c;cases h;exact⟨c,rfl⟩
 ·cases h
theorem aE0{op:jk}(I:Inv X aA σ H s)(rx:aI x v)(ry:aI y u)(R:Rel X.K F L S H)(nx:aU X.K F H dx x)(ny:aU X.K F H dy y)(e:bD op dx dy=qq z)(q:cH X F L S z Q) :
 qu (model X.prog X.w) X.A (zk op v u) (EP X aA σ Q) X.xe s:=by
 cases op with
 | Add=>exact aFj I rx ry R nx ny e q
 | Mult=>exact aDU I rx ry R nx ny e q
 | MatMult=>cases e
 | Div=>cases e
 | Sub=>obtain⟨i,j,rfl,rfl,e⟩:=cZ e;cases e;exact nE aEH I rx ry R nx ny q
 | BitAnd=>obtain⟨i,j,rfl,rfl,e⟩:=cZ e;cases e;exact nE aEO I rx ry R nx ny q
 | BitOr=>obtain⟨i,j,rfl,rfl,e⟩:=cZ e;cases e;exact nE aGw I rx ry R nx ny q
 | BitXor=>obtain⟨i,j,rfl,rfl,e⟩:=cZ e;cases e;exact nE aEJ I rx ry R nx ny q
 | FloorDiv=>obtain⟨i,j,rfl,rfl,e⟩:=cZ e;obtain⟨c,rfl⟩:=fY e;exact kH aCR c I rx ry R nx ny q
 | Mod=>obtain⟨i,j,rfl,rfl,e⟩:=cZ e;obtain⟨c,rfl⟩:=fY e;exact kH aDd c I rx ry R nx ny q
 | Pow=>obtain⟨i,j,rfl,rfl,e⟩:=cZ e;obtain⟨c,rfl⟩:=fY e;exact kH aEr c I rx ry R nx ny q
 | LShift=>obtain⟨i,j,rfl,rfl,e⟩:=cZ e;obtain⟨c,rfl⟩:=fY e;exact kH aFH c I rx ry R nx ny q
 | RShift=>obtain⟨i,j,rfl,rfl,e⟩:=cZ e;obtain⟨c,rfl⟩:=fY e;exact kH aEG c I rx ry R nx ny q
theorem aF8{op:wz}(I:Inv X aA σ H s)(rx:aI x v)(R:Rel X.K F L S H)(nx:aU X.K F H dx x)(e:mJ op dx=qq z)(q:cH X F L S z Q) :
 qu (model X.prog X.w) X.A (unaryOp op v) (EP X aA σ Q) X.xe s:=by
 unfold mJ at e
 split at e
 ·cases e;exact aFg aA s σ H x v Q I rx ⟨_,nx.int,q.here R (.int _)⟩
 ·cases e;exact aEd aA s σ H x v Q I rx ⟨_,nx.int,q.here R (.int _)⟩
 ·cases e
mutual
theorem vD(I:Inv X aA σ H s)(sb:aZ F H):∀ {d:D}{x:V}{v:qz},Den X.K F d x->aI x v->∃ as,Reads s.heap v d as
 | _,_,v,.non,r=>by cases (show v=Value.none from r);exact⟨_,.none⟩
 | _,_,v,.bl b,r=>by cases (show v=Value.bool b from r);exact⟨_,.bool b⟩
 | _,_,v,.int i,r=>by obtain⟨t,rfl⟩:=(show ∃ t,v=Value.int i t from r);exact⟨_,.int i t⟩
 | _,_,v,.str y,r=>by obtain⟨t,rfl⟩:=(show ∃ t,v=Value.str y t from r);exact⟨_,.str y t⟩
 | _,_,v,.lst (a:=a) h dl,r=>by
   cases (show v=Value.ref a from r)
   obtain⟨aC,rv,p1,_⟩:=I.list (sb.seq h);obtain⟨o,ho,hc,n,hd⟩:=p1.isList;obtain⟨as,ra⟩:=mV I sb dl rv;exact⟨_,.list ho hc hd (by simpa using ra)⟩
 | _,_,v,.tup (a:=a) h dl,r=>by
   cases (show v=Value.ref a from r)
   obtain⟨aC,rv,p1,_⟩:=I.tuple (dN sb h);obtain⟨o,ho,hc,n,hd⟩:=p1;obtain⟨as,ra⟩:=mV I sb dl rv;exact⟨_,.tuple ho hc hd (by simpa using ra)⟩
theorem mV(I:Inv X aA σ H s)(sb:aZ F H):∀ {ds:List D}{xs:List V}{us:List qz},DenL X.K F ds xs->aH xs us->∃ as,ReadsAll s.heap us ds as
 | _,_,_,.nil,r=>by cases r;exact⟨_,.nil⟩
 | _,_,_,.cons h dl,.cons r rs=>by
   obtain⟨as,ra⟩:=vD I sb h r;obtain⟨bs,rb⟩:=mV I sb dl rs;exact⟨_,.cons ra rb⟩
end
theorem mY(I:Inv X aA σ H s)(R:Rel X.K F L S H)(rx:aI x v)(nx:aU X.K F H dx x):∃ as,Reads s.heap v dx as:=by
 rcases nx with nx | ⟨ds,a,xs,rfl,rfl,e,dl⟩
 ·exact vD I R.sub nx rx
 ·cases rx;obtain⟨aC,rv,p1,_⟩:=I.list (aX.of e);obtain⟨o,ho,hc,n,hd⟩:=p1.isList;obtain⟨as,ra⟩:=mV I R.sub dl rv;exact⟨_,.list ho hc hd (by simpa using ra)⟩
theorem aGA(hu:X.A.units+64<cLine)(I:Inv X aA σ H s)(rx:aI x v)(ry:aI y u)(R:Rel X.K F L S H)(nx:aU X.K F H dx x)(ny:aU X.K F H dy y)
 (c1:dx.canLay0=true) (c2:dy.canLay0=true) (c3:dx.depth<=60) (q:Q (.bl (yCm dx dy)) H):qu (model X.prog X.w) X.A (xj .Eq v u) (EP X aA σ Q) X.xe s:=by
 obtain⟨as,ra⟩:=mY I R rx nx;obtain⟨bs,rb⟩:=mY I R ry ny;refine SeqAt.compareEq_reads ra rb c1 c2 ?_ ⟨.bl _,H,I,rfl,q⟩;have:min dx.depth dy.depth<=dx.depth:=Nat.min_le_left _ _;omega
theorem aGy(hu:X.A.units+64<cLine)(I:Inv X aA σ H s)(rx:aI x v)(ry:aI y u)(R:Rel X.K F L S H)(nx:aU X.K F H dx x)(ny:aU X.K F H dy y)
 (c1:dx.canLay0=true) (c2:dy.canLay0=true) (c3:dx.depth<=60) (q:Q (.bl (!yCm dx dy)) H):qu (model X.prog X.w) X.A (xj .NotEq v u) (EP X aA σ Q) X.xe s:=by
 obtain⟨as,ra⟩:=mY I R rx nx;obtain⟨bs,rb⟩:=mY I R ry ny;refine SeqAt.compareNe_reads ra rb c1 c2 ?_ ⟨.bl _,H,I,rfl,q⟩;have:min dx.depth dy.depth<=dx.depth:=Nat.min_le_left _ _;omega
end
theorem aCE{K:FrG}{F:Hp}{d e:D}{x y:V}(h1:Den K F d x)(h2:Den K F e y)(f1:dP d=true)(f2:dP e=true):gG x y=yCm d e:=by
 cases h1<;>first | (simp[dP] at f1;done) | skip
 all_goals cases h2<;>first | (simp[dP] at f2;done) | rfl | skip
theorem qO{K:FrG}{F:Hp}{d:D}{x:V}(h1:Den K F d x)(f1:dP d=true):eX x=true:=by
 cases h1<;>first | rfl | (simp[dP] at f1;done)
theorem qL{K:FrG}{F:Hp}:∀ {ds:List D}{xs:List V},DenL K F ds xs->hR ds=true->xs.all eX=true
 | _,_,.nil,_=>rfl
 | _,_,.cons h r,f=>by
   simp only[hR,yCe] at f;rw[List.all_cons,qO h f.1,qL r f.2];rfl
theorem qZ{K:FrG}{F:Hp}{e:D}{y:V}(h2:Den K F e y)(f2:dP e=true):∀ {ds:List D}{xs:List V},DenL K F ds xs->hR ds=true->jL y xs=pN e ds
 | _,_,.nil,_=>rfl
 | _,_,.cons h r,f=>by
   simp only[hR,yCe] at f;have ih:=qZ h2 f2 r f.2;unfold jL at ih ⊢;rw[List.any_cons,ih,aCE h h2 f.1 f2];rfl
section
variable {X : Cx}{aA : List (qv×Obj)}{s : qx}{σ : L2.St}{H : Hp}{x y : V}{v u : qz}{Q : VK}{F : Hp}{L : List qv}{S : aB}{dx dy : D}{b : Bool}
theorem aU.flat{d:D}{z:V}(h:aU X.K F H d z)(f:dP d=true):Den X.K F d z:=by
 rcases h with h | ⟨ds,_,_,rfl,_⟩
 ·exact h
 ·simp[dP] at f
theorem xS{d:D}{ys:List D}{z:V}(sb:aZ F H)(h:aU X.K F H d z)(e:rW d=qq ys):∃ p xs,z=.ref p/\(aX X.K H p xs\/bC X.K H p xs)/\DenL X.K F ys xs:=by
 cases d with
 | list l=>cases e;obtain⟨a,xs,e1,q,dl⟩:=h.lst sb;exact⟨a,xs,e1,.inl q,dl⟩
 | tuple l=>cases e;obtain⟨a,xs,e1,q,dl⟩:=h.tup sb;exact⟨a,xs,e1,.inr q,dl⟩
 | _=>cases e
theorem xR(R:Rel X.K F L S H)(nx:aU X.K F H dx x):decide (x=.non)=dQ dx:=by
 cases dx with
 | none=>rw[nx.non];rfl
 | bool c=>rw[nx.bl];rfl
 | int c=>rw[nx.int];rfl
 | str c=>rw[nx.str];rfl
 | list c=>obtain⟨a,xs,rfl,_⟩:=nx.lst R.sub;rfl
 | tuple c=>obtain⟨a,xs,rfl,_⟩:=nx.tup R.sub;rfl
 | dict c=>exact nx.dict.elim
theorem aES{op:vq}(hu:X.A.units+64<cLine)(I:Inv X aA σ H s)(rx:aI x v)(ry:aI y u)(R:Rel X.K F L S H)(nx:aU X.K F H dx x)(ny:aU X.K F H dy y)(e:iI op dx dy=qq b)(q:Q (.bl b) H) :
 qu (model X.prog X.w) X.A (xj op v u) (EP X aA σ Q) X.xe s:=by
 cases op with
 | Lt=>obtain⟨i,j,rfl,rfl,e⟩:=cZ e;cases e;exact aGo aA s σ H x y v u Q I rx ry ⟨_,_,nx.int,ny.int,q⟩
 | LtE=>obtain⟨i,j,rfl,rfl,e⟩:=cZ e;cases e;exact aFN aA s σ H x y v u Q I rx ry ⟨_,_,nx.int,ny.int,q⟩
 | Gt=>obtain⟨i,j,rfl,rfl,e⟩:=cZ e;cases e;exact aGk aA s σ H x y v u Q I rx ry ⟨_,_,nx.int,ny.int,q⟩
 | GtE=>obtain⟨i,j,rfl,rfl,e⟩:=cZ e;cases e;exact aFB aA s σ H x y v u Q I rx ry ⟨_,_,nx.int,ny.int,q⟩
 | Eq=>obtain⟨c,rfl⟩:=fY e;exact aGA hu I rx ry R nx ny c.1 c.2.1 c.2.2 q
 | NotEq=>obtain⟨c,rfl⟩:=fY e;exact aGy hu I rx ry R nx ny c.1 c.2.1 c.2.2 q
 | Is =>
   have e':(if dQ dy=true then qq (dQ dx) else jG dx dy)=qq b:=e
   by_cases c:dQ dy=true
   ·rw[if_pos c] at e';cases e';cases vW c;exact aFp aA s σ H x y v u Q I rx ry ⟨ny.non,by rw[xR R nx];exact q⟩
   ·rw[if_neg c] at e';obtain⟨p1,p2,rfl,rfl,rfl⟩:=vN e';obtain rfl:=nx.bl;obtain rfl:=ny.bl;cases rx;cases ry;exact wpAny_is_plain rfl (nR I q (by cases p1<;>cases p2<;>rfl))
 | IsNot =>
   have e':(if dQ dy=true then qq (!dQ dx) else (jG dx dy).bind λ b=>qq (!b))=qq b:=e
   by_cases c:dQ dy=true
   ·rw[if_pos c] at e';cases e';cases vW c;exact aCS aA s σ H x y v u Q I rx ry ⟨ny.non,by rw[xR R nx];exact q⟩
   ·rw[if_neg c] at e';obtain⟨b0,e1,e2⟩:=bind_some e';cases e2;obtain⟨p1,p2,rfl,rfl,rfl⟩:=vN e1;obtain rfl:=nx.bl;obtain rfl:=ny.bl;cases rx;cases ry;exact wpAny_isNot_plain rfl (nR I q (by cases p1<;>cases p2<;>rfl))
 | In =>
   obtain⟨ys,hs,e⟩:=bind_some e;obtain⟨c,rfl⟩:=fY e;obtain⟨p,xs,e1,sq,dl⟩:=xS R.sub ny hs;refine aCc aA s σ H x y v u Q I rx ry ⟨p,xs,e1,sq,qO (nx.flat c.1) c.1,qL dl c.2,?_⟩;show Q (.bl (jL x xs)) H;rw[qZ (nx.flat c.1) c.1 dl c.2];exact q
 | NotIn =>
   obtain⟨ys,hs,e⟩:=bind_some e;obtain⟨c,rfl⟩:=fY e;obtain⟨p,xs,e1,sq,dl⟩:=xS R.sub ny hs;refine aBq aA s σ H x y v u Q I rx ry ⟨p,xs,e1,sq,qO (nx.flat c.1) c.1,qL dl c.2,?_⟩;show Q (.bl (!jL x xs)) H;rw[qZ (nx.flat c.1) c.1 dl c.2];exact q
theorem uR{K:FrG}{ds:List D}{xs:List V}(h:DenL K F ds xs):xs.isEmpty=ds.isEmpty:=by cases h<;>rfl
theorem aDg{b:Bool}(R:Rel X.K F L S H)(nx:aU X.K F H dx x)(e:lH dx=qq b):sW X.K x H b:=by
 cases dx with
 | none=>cases e;rw[nx.non];exact rfl
 | bool c=>cases e;rw[nx.bl];exact rfl
 | int c=>cases e;rw[nx.int];exact rfl
 | str c =>
   rw[nx.str];have e':(if c.length<=qk then qq ((c.length:Int) != 0) else qj)=qq b:=e
   split at e'
   ·rename_i h;cases e';exact⟨h,rfl⟩
   ·cases e'
 | list c=>cases e;obtain⟨a,xs,rfl,sq,dl⟩:=nx.lst R.sub;exact .inl ⟨xs,sq,by rw[uR dl]⟩
 | tuple c=>cases e;obtain⟨a,xs,rfl,sq,dl⟩:=nx.tup R.sub;exact .inr (.inl ⟨xs,sq,by rw[uR dl]⟩)
 | dict c=>cases e
end
abbrev FE:=aM->aB->Option (W×aB)
abbrev FT:=aM->aB->Option (Bool×aB)
abbrev FA:=aM->aB->Option (List W×aB)
abbrev FL:=aM->aB->Option (List D×aB)
inductive Fl where
 | nx (env:aM) | rt (w:W) | bk (env:aM) | ct (env:aM)
abbrev FS:=aM->aB->Option (Fl×aB)
inductive WDenL (K:FrG) (F:Hp) (L:List qv):List W->List V->Prop
 | nil:WDenL K F L [] []
 | cons {w:W}{ws:List W}{x:V}{xs:List V}:cD K F L w x->WDenL K F L ws xs->WDenL K F L (w::ws) (x::xs)
theorem WDenL.mono{K:FrG}{F F':Hp}{L L':List qv}(g:Gr F L F' L'):∀ {ws:List W}{xs:List V},WDenL K F L ws xs->WDenL K F' L' ws xs
 | _,_,.nil=>.nil
 | _,_,.cons h r=>.cons (h.mono g) (r.mono g)
theorem WDenL.length{K:FrG}{F:Hp}{L:List qv}:∀ {ws:List W}{xs:List V},WDenL K F L ws xs->ws.length=xs.length
 | _,_,.nil=>rfl
 | _,_,.cons _ r=>congrArg (· + 1) r.length
section
variable (K : FrG)
def aK(f:FE):TE:=λ σ H Q=>∃ F L S env w S',Rel K F L S H/\EnvR K F L env σ/\f env S=qq (w,S')/\∀ F' L' H' v,Gr F L F' L'->Rel K F' L' S' H'->cD K F' L' w v->Q v H'
def cJ(f:FT):TT:=λ σ H Q=>∃ F L S env b S',Rel K F L S H/\EnvR K F L env σ/\f env S=qq (b,S')/\∀ F' L' H',Gr F L F' L'->Rel K F' L' S' H'->Q b H'
def cT(f:FA):TA:=λ σ H Q=>∃ F L S env ws S',Rel K F L S H/\EnvR K F L env σ/\f env S=qq (ws,S')/\∀ F' L' H' vs,Gr F L F' L'->Rel K F' L' S' H'->WDenL K F' L' ws vs->Q vs H'
def eP(f:FL):TE:=λ σ H Q=>∃ F L S env ds S',Rel K F L S H/\EnvR K F L env σ/\f env S=qq (ds,S')/\∀ F' L' H' p xs,Gr F L F' L'->Rel K F' L' S' H'->F' p=qj->p ∉ L'->H' p=qq (.lst xs)->DenL K F' ds xs->Q (.ref p) H'
def bM(f:FS):TS:=λ D σ H=>∃ F L S env fl S',Rel K F L S H/\EnvR K F L env σ/\f env S=qq (fl,S')/\∀ F' L' H',Gr F L F' L'->Rel K F' L' S' H'->match fl with
 | .nx aE=>∀ σ',EnvR K F' L' aE σ'->D.nx σ' H'
 | .rt w=>∀ v,cD K F' L' w v->D.rt v H'
 | .bk aE=>∀ σ',EnvR K F' L' aE σ'->D.bk σ' H'
 | .ct aE=>∀ σ',EnvR K F' L' aE σ'->D.ct σ' H'
end
section
variable {X : Cx}
theorem PE.weak{e:qw}{t t':TE}(h:PE X e t)(w:∀ σ H Q,t' σ H Q->t σ H Q):PE X e t':=λ aA s σ H Q I q=>h aA s σ H Q I (w σ H Q q)
theorem PT.weak{e:qw}{t t':TT}(h:PT X e t)(w:∀ σ H Q,t' σ H Q->t σ H Q):PT X e t':=λ aA s σ H Q I q=>h aA s σ H Q I (w σ H Q q)
theorem PW.weak{e:qw}{t t':TT}(h:PW X e t)(w:∀ σ H Q,t' σ H Q->t σ H Q):PW X e t':=λ wh aA s σ H Q I q=>h wh aA s σ H Q I (w σ H Q q)
theorem PA.weak{e:List qw}{t t':TA}(h:PA X e t)(w:∀ σ H Q,t' σ H Q->t σ H Q):PA X e t':=λ pos aA s σ H Q I q=>h pos aA s σ H Q I (w σ H Q q)
theorem PS.weak{e:zy}{t t':TS}(h:PS X e t)(w:∀ D σ H,t' D σ H->t D σ H):PS X e t':=λ aA s σ H D I q=>h aA s σ H D I (w D σ H q)
theorem aW.weak{e:List zy}{t t':TS}(h:aW X e t)(w:∀ D σ H,t' D σ H->t D σ H):aW X e t':=λ aA s σ H D I q=>h aA s σ H D I (w D σ H q)
abbrev iJ(K:FrG)(F:Hp)(L:List qv)(S':aB)(w:W)(Q:VK):Prop:=∀ F' L' H' v,Gr F L F' L'->Rel K F' L' S' H'->cD K F' L' w v->Q v H'
noncomputable def f2(fa fb:FE)(g:aB->W->W->Option (W×aB)):FE:=λ env S=>(fa env S).bind λ p=>(fb env p.2).bind λ q=>g q.2 p.1 q.1
noncomputable def f1(fa:FE)(g:aB->W->Option (W×aB)):FE:=λ env S=>(fa env S).bind λ p=>g p.2 p.1
theorem pD{K:FrG}{fa fb:FE}{g:aB->W->W->Option (W×aB)}{r:R2}
 (hr:∀ F L S H x y wx wy w S' Q,Rel K F L S H->cD K F L wx x->cD K F L wy y->g S wx wy=qq (w,S')->iJ K F L S' w Q->r x y H Q)
 (σ:St) (H:Hp) (Q:VK) (h:aK K (f2 fa fb g) σ H Q):mE r (aK K fa) (aK K fb) σ H Q:=by
 obtain⟨F,L,S,env,w,S',R,E,e,q⟩:=h;unfold f2 at e;cases ea:fa env S with
 | none=>rw[ea] at e;cases e
 | some p =>
   obtain⟨wx,S1⟩:=p;rw[ea] at e;dsimp only[yCt] at e;cases eb:fb env S1 with
   | none=>rw[eb] at e;cases e
   | some p2 =>
     obtain⟨wy,S2⟩:=p2;rw[eb] at e;dsimp only at e;refine⟨F,L,S,env,wx,S1,R,E,ea,λ F1 L1 H1 x g1 R1 d1=>⟨F1,L1,S1,env,wy,S2,R1,E.mono g1,eb,λ F2 L2 H2 y g2 R2 d2=>?_⟩⟩
     exact hr F2 L2 S2 H2 x y wx wy w S' Q R2 (d1.mono g2) d2 e λ F3 L3 H3 v g3 R3 d3=>q F3 L3 H3 v ((g1.trans g2).trans g3) R3 d3
theorem aG8{K:FrG}{fa:FE}{g:aB->W->Option (W×aB)}{r:V->Hp->VK->Prop}
 (hr:∀ F L S H x wx w S' Q,Rel K F L S H->cD K F L wx x->g S wx=qq (w,S')->iJ K F L S' w Q->r x H Q)
 (σ:St) (H:Hp) (Q:VK) (h:aK K (f1 fa g) σ H Q):tUn r (aK K fa) σ H Q:=by
 obtain⟨F,L,S,env,w,S',R,E,e,q⟩:=h;unfold f1 at e;cases ea:fa env S with
 | none=>rw[ea] at e;cases e
 | some p =>
   obtain⟨wx,S1⟩:=p;rw[ea] at e;dsimp only[yCt] at e;refine⟨F,L,S,env,wx,S1,R,E,ea,λ F1 L1 H1 x g1 R1 d1=>?_⟩
   exact hr F1 L1 S1 H1 x wx w S' Q R1 d1 e λ F3 L3 H3 v g3 R3 d3=>q F3 L3 H3 v (g1.trans g3) R3 d3
noncomputable def cV(i:Nat):FE:=λ env S=>match env[i]? with
 | some (qq w)=>qq (w,S)
 | _=>qj
theorem aB6{i:Nat}{env:aM}{S S':aB}{w:W}(h:cV i env S=qq (w,S')):env[i]? = qq (qq w)/\S'=S:=by
 unfold cV at h
 split at h
 ·rename_i w' e;cases h;exact⟨e,rfl⟩
 ·cases h
theorem aAd{i:Nat}{x:Str}{pos:Pos}(hN:X.N[i]? = qq x)(hv:lZ X.env.scope x)(hd:(x==("__debug__" : Str))=false)(hcd:(x==("__classdict__" : Str))=false):PE X (.Name x pos) (aK X.K (cV i)):=
 PE.weak (aEQ hN hv hd hcd) λ σ H Q aF=>by
  obtain⟨F,L,S,env,w,S',R,E,e,q⟩:=aF;obtain⟨e1,rfl⟩:=aB6 e;obtain⟨v,e2,d⟩:=E.get i w e1;exact⟨v,e2,q F L H v Gr.refl R d⟩
noncomputable def fC(d:D):FE:=λ _ S=>qq (.d d,S)
theorem aGg{i j pos}:PE X (.Constant (.int i) j pos) (aK X.K (fC (.int i))):=
 PE.weak aEs λ σ H Q aF=>by obtain⟨F,L,S,env,w,S',R,E,e,q⟩:=aF;cases e;exact q F L H _ Gr.refl R (.int i)
theorem aAJ{b j pos}:PE X (.Constant (.bool b) j pos) (aK X.K (fC (.bool b))):=
 PE.weak aF6 λ σ H Q aF=>by obtain⟨F,L,S,env,w,S',R,E,e,q⟩:=aF;cases e;exact q F L H _ Gr.refl R (.bl b)
theorem aF0{j pos}:PE X (.Constant .none j pos) (aK X.K (fC .none)):=
 PE.weak aFr λ σ H Q aF=>by obtain⟨F,L,S,env,w,S',R,E,e,q⟩:=aF;cases e;exact q F L H _ Gr.refl R .non
theorem aAf{x j pos}:PE X (.Constant (.str x) j pos) (aK X.K (fC (.str x))):=
 PE.weak zK λ σ H Q aF=>by obtain⟨F,L,S,env,w,S',R,E,e,q⟩:=aF;cases e;exact q F L H _ Gr.refl R (.str x)
noncomputable def eO(g:D->D->Option D)(S:aB)(x y:W):Option (W×aB):=(dr S x).bind λ a=>(dr S y).bind λ b=>(g a b).bind λ z=>qq (.d z,S)
noncomputable def eJ(g:D->Option D)(S:aB)(x:W):Option (W×aB):=(dr S x).bind λ a=>(g a).bind λ z=>qq (.d z,S)
theorem wQ{g:D->D->Option D}{S S':aB}{x y w:W}(h:eO g S x y=qq (w,S')):∃ a b z,dr S x=qq a/\dr S y=qq b/\g a b=qq z/\w=.d z/\S'=S:=by
 unfold eO at h;cases e1:dr S x with
 | none=>rw[e1] at h;cases h
 | some a =>
   cases e2:dr S y with
   | none=>rw[e1,e2] at h;cases h
   | some b =>
     rw[e1,e2] at h;dsimp only[yCt] at h;cases e3:g a b with
     | none=>rw[e3] at h;cases h
     | some z=>rw[e3] at h;cases h;exact⟨a,b,z,rfl,rfl,e3,rfl,rfl⟩
theorem qU{g:D->Option D}{S S':aB}{x w:W}(h:eJ g S x=qq (w,S')):∃ a z,dr S x=qq a/\g a=qq z/\w=.d z/\S'=S:=by
 unfold eJ at h;cases e1:dr S x with
 | none=>rw[e1] at h;cases h
 | some a =>
   rw[e1] at h;dsimp only[yCt] at h;cases e3:g a with
   | none=>rw[e3] at h;cases h
   | some z=>rw[e3] at h;cases h;exact⟨a,z,rfl,e3,rfl,rfl⟩
theorem nI{K:FrG}{F:Hp}{L:List qv}{S:aB}{z:D}{Q:VK}(X:Cx)(hK:X.K=K)(q:iJ K F L S (.d z) Q):cH X F L S z Q:=λ F' H' r sf R d=>by
 subst hK;exact q F' L H' r ⟨sf,[],by simp⟩ R d
noncomputable def pW(X:Cx)(g:D->D->Option D):R2:=λ x y H Q=>∃ F L S dx dy z,Rel X.K F L S H/\aU X.K F H dx x/\aU X.K F H dy y/\g dx dy=qq z/\cH X F L S z Q
theorem nK{g:D->D->Option D}(F:Hp)(L:List qv)(S:aB)(H:Hp)(x y:V)(wx wy w:W)(S':aB)(Q:VK)(R:Rel X.K F L S H)(h1:cD X.K F L wx x)(h2:cD X.K F L wy y)(e:eO g S wx wy=qq (w,S'))(q:iJ X.K F L S' w Q):pW X g x y H Q:=by
 obtain⟨a,b,z,e1,e2,e3,rfl,rfl⟩:=wQ e;exact⟨F,L,S',a,b,z,R,iX R h1 e1,iX R h2 e2,e3,nI X rfl q⟩
noncomputable def iH(op:jk)(fa fb:FE):FE:=f2 fa fb (eO (bD op))
theorem aAt{a b:qw}{op:jk}{pos:Pos}{fa fb:FE}(ha:PE X a (aK X.K fa))(hb:PE X b (aK X.K fb)):PE X (.BinOp a op b pos) (aK X.K (iH op fa fb)):=
 PE.weak (aGz (r:=pW X (bD op)) (λ aA s σ H x y v u Q I rx ry hPr2=>by obtain⟨F,L,S,dx,dy,z,R,nx,ny,e,q⟩:=hPr2;exact aE0 I rx ry R nx ny e q) ha hb) (pD nK)
noncomputable def pL(op:wz)(fa:FE):FE:=f1 fa (eJ (mJ op))
theorem aHz{a:qw}{op:wz}{pos:Pos}{fa:FE}(ha:PE X a (aK X.K fa)):PE X (.UnaryOp op a pos) (aK X.K (pL op fa)):=
 PE.weak (aF7 (r:=λ x H Q=>∃ F L S dx z,Rel X.K F L S H/\aU X.K F H dx x/\mJ op dx=qq z/\cH X F L S z Q) (λ aA s σ H x v Q I rx hPr3=>by obtain⟨F,L,S,dx,z,R,nx,e,q⟩:=hPr3;exact aF8 I rx R nx e q) ha)
  (aG8 λ F L S H x wx w S' Q R d e q=>by
    obtain⟨a,z,e1,e3,rfl,rfl⟩:=qU e;exact⟨F,L,S',a,z,R,iX R d e1,e3,nI X rfl q⟩)
noncomputable def bS(op:vq)(x y:D):Option D:=(iI op x y).map yCi
theorem vX{op:vq}(hu:X.A.units+64<cLine):bH X (xj op) (pW X (bS op)):=λ aA s σ H x y v u Q I rx ry aF=>by
 obtain⟨F,L,S,dx,dy,z,R,nx,ny,e,q⟩:=aF;unfold bS at e;cases ec:iI op dx dy with
 | none=>rw[ec] at e;cases e
 | some b=>rw[ec] at e;cases e;exact aES hu I rx ry R nx ny ec (q.here R (.bl b))
noncomputable def gM(op:vq)(fa fb:FE):FE:=f2 fa fb (eO (bS op))
theorem aGl{a b:qw}{op:vq}{pos:Pos}{fa fb:FE}(hu:X.A.units+64<cLine)(ha:PE X a (aK X.K fa))(hb:PE X b (aK X.K fb))(hm:jz op b=false):PE X (.Compare a [op] [b] pos) (aK X.K (gM op fa fb)):=
 PE.weak (aDc (vX hu) ha hb hm) (pD nK)
noncomputable def bQ(fa:FE):FT:=λ env S=>(fa env S).bind λ p=>(dr p.2 p.1).bind λ d=>(lH d).bind λ b=>qq (b,p.2)
theorem uY{fa:FE}{env:aM}{S S':aB}{b:Bool}(h:bQ fa env S=qq (b,S')):∃ w d,fa env S=qq (w,S')/\dr S' w=qq d/\lH d=qq b:=by
 unfold bQ at h;cases ea:fa env S with
 | none=>rw[ea] at h;cases h
 | some p =>
   obtain⟨w,S1⟩:=p;rw[ea] at h;dsimp only[yCt] at h;cases e1:dr S1 w with
   | none=>rw[e1] at h;cases h
   | some d =>
     rw[e1] at h;dsimp only at h;cases e2:lH d with
     | none=>rw[e2] at h;cases h
     | some c=>rw[e2] at h;cases h;exact⟨w,d,rfl,e1,e2⟩
theorem aFw{a:qw}{fa:FE}(ha:PE X a (aK X.K fa))(he:∀ eA,isTrue a X.env eA=(do let v <- eA;standAt a.pos;holding [v] (truthy v))):PT X a (cJ X.K (bQ fa)):=
 PT.weak (aCp ha he) λ σ H Q aF=>by
  obtain⟨F,L,S,env,b,S',R,E,e,q⟩:=aF;obtain⟨w,d,e1,e2,e3⟩:=uY e;exact⟨F,L,S,env,w,S',R,E,e1,λ F1 L1 H1 v g1 R1 d1=>⟨b,aDg R1 (iX R1 d1 e2) e3,q F1 L1 H1 g1 R1⟩⟩
theorem aEE{a b:qw}{op:vq}{pos:Pos}{fa fb:FE}(hu:X.A.units+64<cLine)(ha:PE X a (aK X.K fa))(hb:PE X b (aK X.K fb))(hm:jz op b=false):PT X (.Compare a [op] [b] pos) (cJ X.K (bQ (gM op fa fb))):=
 PT.weak (aDH (vX hu) ha hb hm) λ σ H Q aF=>by
  obtain⟨F,L,S,env,b,S',R,E,e,q⟩:=aF;obtain⟨w,d,e1,e2,e3⟩:=uY e;refine pD (fa:=fa) (fb:=fb) (g:=eO (bS op)) nK σ H _ ⟨F,L,S,env,w,S',R,E,e1,λ F1 L1 H1 v g1 R1 d1=>?_⟩
  have hc:∃ c,w=.d (.bool c):=by
   unfold gM f2 at e1;cases ea:fa env S with
   | none=>rw[ea] at e1;cases e1
   | some p =>
     rw[ea] at e1;dsimp only[yCt] at e1;cases eb:fb env p.2 with
     | none=>rw[eb] at e1;cases e1
     | some p2 =>
       rw[eb] at e1;dsimp only at e1;obtain⟨_,_,z,_,_,e6,rfl,_⟩:=wQ e1;unfold bS at e6;cases e7:iI op _ _ with
       | none=>rw[e7] at e6;cases e6
       | some c=>rw[e7] at e6;cases e6;exact⟨c,rfl⟩
  obtain⟨c,rfl⟩:=hc;cases e2;cases e3;have hv:v=.bl b:=by cases (show Den X.K F1 (.bool b) v from d1);rfl
  exact⟨b,hv,q F1 L1 H1 g1 R1⟩
end
section
variable {X : Cx}{pos : Pos}
noncomputable def oU(fa fb:FT):FT:=λ env S=>(fa env S).bind λ p=>if p.1=true then fb env p.2 else qq (false,p.2)
noncomputable def pJ(fa fb:FT):FT:=λ env S=>(fa env S).bind λ p=>if p.1=true then qq (true,p.2) else fb env p.2
noncomputable def oW(fa:FT):FT:=λ env S=>(fa env S).bind λ p=>qq (!p.1,p.2)
theorem aAa{K:FrG}{fa fb:FT}(σ:St)(H:Hp)(Q:Bool->Hp->Prop)(h:cJ K (oU fa fb) σ H Q):aAN (cJ K fa) (cJ K fb) σ H Q:=by
 obtain⟨F,L,S,env,b,S',R,E,e,q⟩:=h;obtain⟨⟨c,S1⟩,e1,e2⟩:=bind_some e;refine⟨F,L,S,env,c,S1,R,E,e1,λ F1 L1 H1 g1 R1=>?_⟩
 dsimp only at e2;cases c with
 | true=>exact jJ ⟨F1,L1,S1,env,b,S',R1,E.mono g1,by simpa using e2,λ F2 L2 H2 g2 R2=>q F2 L2 H2 (g1.trans g2) R2⟩
 | false =>
   have e3:qq (false,S1)=qq (b,S'):=by simpa using e2
   cases e3;exact jK (q F1 L1 H1 g1 R1)
theorem aAW{K:FrG}{fa fb:FT}(σ:St)(H:Hp)(Q:Bool->Hp->Prop)(h:cJ K (pJ fa fb) σ H Q):tOr (cJ K fa) (cJ K fb) σ H Q:=by
 obtain⟨F,L,S,env,b,S',R,E,e,q⟩:=h;obtain⟨⟨c,S1⟩,e1,e2⟩:=bind_some e;refine⟨F,L,S,env,c,S1,R,E,e1,λ F1 L1 H1 g1 R1=>?_⟩
 dsimp only at e2;cases c with
 | false=>exact jK ⟨F1,L1,S1,env,b,S',R1,E.mono g1,by simpa using e2,λ F2 L2 H2 g2 R2=>q F2 L2 H2 (g1.trans g2) R2⟩
 | true =>
   have e3:qq (true,S1)=qq (b,S'):=by simpa using e2
   cases e3;exact jJ (q F1 L1 H1 g1 R1)
theorem aGj{a:qw}{fa:FT}(ha:PT X a (cJ X.K fa)):PT X (.UnaryOp .Not a pos) (cJ X.K (oW fa)):=
 PT.weak (aEz ha) λ σ H Q aF=>by
  obtain⟨F,L,S,env,b,S',R,E,e,q⟩:=aF;obtain⟨⟨c,S1⟩,e1,e2⟩:=bind_some e;cases e2;exact⟨F,L,S,env,c,S1,R,E,e1,q⟩
noncomputable def nY(fa fb:FE):FE:=λ env S=>(fa env S).bind λ p=>match p.1 with
 | .d (.bool true)=>fb env p.2
 | .d (.bool false)=>qq (.d (.bool false),p.2)
 | _=>qj
noncomputable def oP(fa fb:FE):FE:=λ env S=>(fa env S).bind λ p=>match p.1 with
 | .d (.bool false)=>fb env p.2
 | .d (.bool true)=>qq (.d (.bool true),p.2)
 | _=>qj
noncomputable def oK(fa:FE):FE:=λ env S=>(fa env S).bind λ p=>match p.1 with
 | .d (.bool b)=>qq (.d (.bool (!b)),p.2)
 | _=>qj
theorem kW{K:FrG}{F:Hp}{L:List qv}{b:Bool}{v:V}(h:cD K F L (.d (.bool b)) v):v=.bl b:=by cases (show Den K F (.bool b) v from h);rfl
theorem yR{K:FrG}{fa fb:FE}(σ:St)(H:Hp)(Q:VK)(h:aK K (nY fa fb) σ H Q):aAr (aK K fa) (aK K fb) σ H Q:=by
 obtain⟨F,L,S,env,w,S',R,E,e,q⟩:=h;obtain⟨⟨c,S1⟩,e1,e2⟩:=bind_some e;dsimp only at e2
 split at e2
 ·exact⟨F,L,S,env,_,S1,R,E,e1,λ F1 L1 H1 v g1 R1 d1=>⟨true,kW d1,jJ ⟨F1,L1,S1,env,w,S',R1,E.mono g1,e2,λ F2 L2 H2 v2 g2 R2 d2=>q F2 L2 H2 v2 (g1.trans g2) R2 d2⟩⟩⟩
 ·cases e2;exact⟨F,L,S,env,_,_,R,E,e1,λ F1 L1 H1 v g1 R1 d1=>⟨false,kW d1,jK (q F1 L1 H1 _ g1 R1 (Den.bl false))⟩⟩
 ·cases e2
theorem aAw{K:FrG}{fa fb:FE}(σ:St)(H:Hp)(Q:VK)(h:aK K (oP fa fb) σ H Q):aAZ (aK K fa) (aK K fb) σ H Q:=by
 obtain⟨F,L,S,env,w,S',R,E,e,q⟩:=h;obtain⟨⟨c,S1⟩,e1,e2⟩:=bind_some e;dsimp only at e2
 split at e2
 ·exact⟨F,L,S,env,_,S1,R,E,e1,λ F1 L1 H1 v g1 R1 d1=>⟨false,kW d1,jK ⟨F1,L1,S1,env,w,S',R1,E.mono g1,e2,λ F2 L2 H2 v2 g2 R2 d2=>q F2 L2 H2 v2 (g1.trans g2) R2 d2⟩⟩⟩
 ·cases e2;exact⟨F,L,S,env,_,_,R,E,e1,λ F1 L1 H1 v g1 R1 d1=>⟨true,kW d1,jJ (q F1 L1 H1 _ g1 R1 (Den.bl true))⟩⟩
 ·cases e2
theorem aEK{a:qw}{fa:FE}(ha:PE X a (aK X.K fa)):PE X (.UnaryOp .Not a pos) (aK X.K (oK fa)):=
 PE.weak (aEc ha) λ σ H Q aF=>by
  obtain⟨F,L,S,env,w,S',R,E,e,q⟩:=aF;obtain⟨⟨c,S1⟩,e1,e2⟩:=bind_some e;dsimp only at e2
  split at e2
  ·cases e2;exact⟨F,L,S,env,_,_,R,E,e1,λ F1 L1 H1 v g1 R1 d1=>⟨_,kW d1,q F1 L1 H1 _ g1 R1 (Den.bl _)⟩⟩
  ·cases e2
noncomputable def aHs(fc:FT)(fa fb:FE):FE:=λ env S=>(fc env S).bind λ p=>if p.1=true then fa env p.2 else fb env p.2
noncomputable def gD:FA:=λ _ S=>qq ([],S)
noncomputable def dC(fa:FE)(fr:FA):FA:=λ env S=>(fa env S).bind λ p=>(fr env p.2).bind λ q=>qq (p.1::q.1,q.2)
theorem oJ:PA X [] (cT X.K gD):=PA.weak iY λ σ H Q aF=>by obtain⟨F,L,S,env,ws,S',R,E,e,q⟩:=aF;cases e;exact q F L H [] Gr.refl R .nil
theorem nS{e:qw}{es:List qw}{fa:FE}{fr:FA}(ha:PE X e (aK X.K fa))(hr:PA X es (cT X.K fr))(hs:zj (e::es) X.env=(false,eval e X.env)::zj es X.env):PA X (e::es) (cT X.K (dC fa fr)):=
 PA.weak (eT ha hr hs) λ σ H Q aF=>by
  obtain⟨F,L,S,env,ws,S',R,E,e,q⟩:=aF;obtain⟨⟨w,S1⟩,e1,e2⟩:=bind_some e;obtain⟨⟨wr,S2⟩,e3,e4⟩:=bind_some e2;cases e4;exact⟨F,L,S,env,w,S1,R,E,e1,λ F1 L1 H1 v g1 R1 d1=>⟨F1,L1,S1,env,wr,S2,R1,E.mono g1,e3,λ F2 L2 H2 vs g2 R2 d2=>q F2 L2 H2 _ (g1.trans g2) R2 (.cons (d1.mono g2) d2)⟩⟩
noncomputable def lE:List W->Option (List D)
 | []=>qq []
 | .d x::r=>(lE r).bind λ l=>qq (x::l)
 | .loc _::_=>qj
 | .exc _ _::_=>qj
theorem qX{K:FrG}{F:Hp}{L:List qv}:∀ {ws:List W}{xs:List V}{ds:List D},WDenL K F L ws xs->lE ws=qq ds->DenL K F ds xs
 | _,_,_,.nil,e=>by cases e;exact .nil
 | .d x::r,_,_,.cons h t,e=>by
   obtain⟨l,e1,e2⟩:=bind_some e;cases e2;exact .cons h (qX t e1)
 | .loc _::_,_,_,.cons _ _,e=>by cases e
 | .exc _ _::_,_,_,.cons _ _,e=>by cases e
noncomputable def lG(fs:FA):FE:=λ env S=>(fs env S).bind λ p=>(lE p.1).bind λ ds=>if ds.length<=qk then qq (.d (.tuple ds),p.2) else qj
theorem aAj{es:List qw}{k:Nat}{fs:FA}(h:PA X es (cT X.K fs)):PE X (.Tuple es k pos) (aK X.K (lG fs)):=
 PE.weak (rN h) λ σ H Q aF=>by
  obtain⟨F,L,S,env,w,S',R,E,e,q⟩:=aF;obtain⟨⟨ws,S1⟩,e1,e2⟩:=bind_some e;obtain⟨ds,e3,e4⟩:=bind_some e2
  split at e4
  ·rename_i hz;cases e4;refine⟨F,L,S,env,ws,_,R,E,e1,λ F1 L1 H1 vs g1 R1 d1=>?_⟩
   have dl:=qX d1 e3;refine⟨by rw[<- dl.length];exact hz,λ p hp=>?_⟩
   exact q _ L1 _ _ (g1.trans (Gr.new (R1.sub.free hp))) (R1.new hp) (Den.tup (bC.of bP) (dl.mono (cK (R1.sub.free hp))))
  ·cases e4
noncomputable def gO(fs:FA):FL:=λ env S=>(fs env S).bind λ p=>(lE p.1).bind λ ds=>if ds.length<=qk then qq (ds,p.2) else qj
theorem rX{es:List qw}{fs:FA}(h:PA X es (cT X.K fs)):PE X (.List es pos) (eP X.K (gO fs)):=
 PE.weak (aEy h) λ σ H Q aF=>by
  obtain⟨F,L,S,env,ds,S',R,E,e,q⟩:=aF;obtain⟨⟨ws,S1⟩,e1,e2⟩:=bind_some e;obtain⟨ds',e3,e4⟩:=bind_some e2
  split at e4
  ·rename_i hz;cases e4;refine⟨F,L,S,env,ws,_,R,E,e1,λ F1 L1 H1 vs g1 R1 d1=>?_⟩
   have dl:=qX d1 e3;exact⟨by rw[<- dl.length];exact hz,λ p hp=>q F1 L1 _ p vs g1 (R1.lay hp) (R1.sub.free hp) (R1.notin hp) bP dl⟩
  ·cases e4
noncomputable def dW(f:FL):FE:=λ env S=>(f env S).bind λ p=>qq (.d (.list p.1),p.2)
theorem sQ{e:qw}{f:FL}(h:PE X e (eP X.K f)):PE X e (aK X.K (dW f)):=
 PE.weak h λ σ H Q aF=>by
  obtain⟨F,L,S,env,w,S',R,E,e,q⟩:=aF;obtain⟨⟨ds,S1⟩,e1,e2⟩:=bind_some e;cases e2;exact⟨F,L,S,env,ds,_,R,E,e1,λ F1 L1 H1 p xs g1 R1 hF hL hH dl=>q _ L1 _ _ (g1.trans (Gr.new hF)) (R1.adopt hF hL hH) (Den.lst (aX.of bP) (dl.mono (cK hF)))⟩
noncomputable def cB(f:FL):FE:=λ env S=>(f env S).bind λ p=>qq (.loc p.2.length,p.2++[qq p.1])
theorem aAp{e:qw}{f:FL}(h:PE X e (eP X.K f)):PE X e (aK X.K (cB f)):=
 PE.weak h λ σ H Q aF=>by
  obtain⟨F,L,S,env,w,S',R,E,e,q⟩:=aF;obtain⟨⟨ds,S1⟩,e1,e2⟩:=bind_some e;cases e2;refine⟨F,L,S,env,ds,_,R,E,e1,λ F1 L1 H1 p xs g1 R1 hF hL hH dl=>q _ _ _ _ (g1.trans Gr.newLoc) (R1.adoptLoc hF hL hH dl) ⟨p,?_,rfl⟩⟩
  dsimp only;rw[<- R1.len,yAa (yAc _)];simp
noncomputable def dZ:D->D->Option D
 | .list xs,.int i=>eQ xs i
 | .tuple xs,.int i=>eQ xs i
 | .str z,.int i=>if z.length<=qk then (eQ z.cps.toList i).bind λ c=>qq (.str ⟨#[c]⟩) else qj
 | _,_=>qj
theorem wU{K:FrG}{F:Hp}{ds:List D}{xs:List V}{i:Int}{d:D}(h:DenL K F ds xs)(e:eQ ds i=qq d):∃ x,eQ xs i=qq x/\Den K F d x:=by
 unfold eQ at e ⊢;rw[<- h.length];obtain⟨j,e1,e2⟩:=bind_some e;obtain⟨x,e3,dx⟩:=h.get e2;exact⟨x,by rw[e1];exact e3,dx⟩
theorem aDt:gH X (pW X dZ):=λ value eB aA s σ H x y v u Q I rx ry aF hs=>by
 obtain⟨F,L,S,dx,dy,z,R,nx,ny,e,q⟩:=aF;unfold dZ at e
 split at e
 ·obtain⟨a,xs,rfl,sq,dl⟩:=nx.lst R.sub;obtain⟨r,e1,d1⟩:=wU dl e;exact aDv value eB aA s σ H _ y v u Q I rx ry ⟨a,xs,_,r,rfl,ny.int,sq,e1,q.here R d1⟩ hs
 ·obtain⟨a,xs,rfl,sq,dl⟩:=nx.tup R.sub;obtain⟨r,e1,d1⟩:=wU dl e;exact aFa value eB aA s σ H _ y v u Q I rx ry ⟨a,xs,_,r,rfl,ny.int,sq,e1,q.here R d1⟩ hs
 ·split at e
  ·rename_i hz;obtain⟨c,e1,e2⟩:=bind_some e;cases e2;exact aD4 value eB aA s σ H x y v u Q I rx ry ⟨_,_,c,nx.str,ny.int,hz,e1,q.here R (.str _)⟩ hs
  ·cases e
 ·cases e
noncomputable def jM(fa fb:FE):FE:=f2 fa fb (eO dZ)
theorem aGM{a b:qw}{fa fb:FE}(ha:PE X a (aK X.K fa))(hb:PE X b (aK X.K fb))(hs:rG b):PE X (.Subscript a b pos) (aK X.K (jM fa fb)):=
 PE.weak (aGe aDt ha hb hs) (pD nK)
abbrev FO:=aM->aB->Option (Option Int×aB)
noncomputable def tV:FO:=λ _ S=>qq (qj,S)
noncomputable def rV(fa:FE):FO:=λ env S=>(fa env S).bind λ p=>match p.1 with
 | .d (.int i)=>qq (qq i,p.2)
 | _=>qj
def oX(K:FrG)(f:FO):TO:=λ σ H Q=>∃ F L S env o S',Rel K F L S H/\EnvR K F L env σ/\f env S=qq (o,S')/\∀ F' L' H',Gr F L F' L'->Rel K F' L' S' H'->Q o H'
theorem aHm:PO X qj (oX X.K tV):=λ aA s σ H Q I aF=>by
 obtain⟨F,L,S,env,o,S',R,E,e,q⟩:=aF;cases e;exact aDe aA s σ H Q I (q F L H Gr.refl R)
theorem aFs{a:qw}{fa:FE}(ha:PE X a (aK X.K fa)):PO X (qq a) (oX X.K (rV fa)):=λ aA s σ H Q I aF=>by
 obtain⟨F,L,S,env,o,S',R,E,e,q⟩:=aF;obtain⟨⟨w,S1⟩,e1,e2⟩:=bind_some e;dsimp only at e2
 split at e2
 ·cases e2;refine aDf ha aA s σ H Q I ⟨F,L,S,env,_,_,R,E,e1,λ F1 L1 H1 v g1 R1 d1=>?_⟩
  cases (show Den X.K F1 (.int _) v from d1)
  exact⟨_,rfl,q F1 L1 H1 g1 R1⟩
 ·cases e2
noncomputable def aHi(xs:List D)(lo hi:Option Int):List D:=(xs.drop (HT.sIx xs.length 0 lo)).take (HT.sIx xs.length xs.length hi-HT.sIx xs.length 0 lo)
noncomputable def slL:D->Option Int->Option Int->Option (List D)
 | .list xs,lo,hi=>qq (aHi xs lo hi)
 | _,_,_=>qj
noncomputable def eN(K:FrG)(np:Nat)(call:List W->aB->Option (W×aB)):Sp:=λ vs H Q _=>∃ F L S ws w S',ws.length=np/\Rel K F L S H/\WDenL K F L ws vs/\call ws S=qq (w,S')/\iJ K F L S' w Q
noncomputable def kX(fs:FA)(np:Nat)(call:List W->aB->Option (W×aB)):FE:=λ env S=>(fs env S).bind λ p=>if p.1.length=np then call p.1 p.2 else qj
theorem aE7{K:FrG}{fs:FA}{np:Nat}{call:List W->aB->Option (W×aB)}(σ:St)(H:Hp)(Q:VK)(h:aK K (kX fs np call) σ H Q):oE (eN K np call) [] E0 (cT K fs) σ H Q:=by
 obtain⟨F,L,S,env,w,S',R,E,e,q⟩:=h;obtain⟨⟨ws,S1⟩,e1,e⟩:=bind_some e
 split at e
 ·rename_i hn;refine⟨F,L,S,env,ws,S1,R,E,e1,λ F1 L1 H1 vs g1 R1 d1=>⟨F1,L1,S1,ws,w,S',hn,R1,by rw[yAs];exact d1,e,λ F2 L2 H2 v g2 R2 d2=>q F2 L2 H2 v (g1.trans g2) R2 d2⟩⟩
 ·cases e
inductive NowL (K:FrG) (F H:Hp):List D->List V->Prop
 | nil:NowL K F H [] []
 | cons {d:D}{ds:List D}{x:V}{xs:List V}:aU K F H d x->NowL K F H ds xs->NowL K F H (d::ds) (x::xs)
noncomputable def pS(S:aB):List W->Option (List D)
 | []=>qq []
 | w::r=>(dr S w).bind λ d=>(pS S r).bind λ l=>qq (d::l)
theorem xD{K:FrG}{F H:Hp}{L:List qv}{S:aB}(R:Rel K F L S H):∀ {ws:List W}{xs:List V}{ds:List D},WDenL K F L ws xs->pS S ws=qq ds->NowL K F H ds xs
 | _,_,_,.nil,e=>by cases e;exact .nil
 | _,_,_,.cons h t,e=>by
   obtain⟨d,e1,e⟩:=bind_some e;obtain⟨l,e2,e⟩:=bind_some e;cases e;exact .cons (iX R h e1) (xD R t e2)
noncomputable def fK(X:Cx)(g:List D->Option D):List V->Hp->VK->Prop:=λ xs H Q=>∃ F L S ds z,Rel X.K F L S H/\NowL X.K F H ds xs/\g ds=qq z/\cH X F L S z Q
noncomputable def jE(fs:FA)(g:List D->Option D):FE:=λ env S=>(fs env S).bind λ p=>(pS p.2 p.1).bind λ ds=>(g ds).bind λ z=>qq (.d z,p.2)
theorem fW{fs:FA}{g:List D->Option D}(σ:St)(H:Hp)(Q:VK)(h:aK X.K (jE fs g) σ H Q):tU (fK X g) (cT X.K fs) σ H Q:=by
 obtain⟨F,L,S,env,w,S',R,E,e,q⟩:=h;obtain⟨⟨ws,S1⟩,e1,e⟩:=bind_some e;obtain⟨ds,e2,e⟩:=bind_some e;obtain⟨z,e3,e⟩:=bind_some e;cases e;refine⟨F,L,S,env,ws,_,R,E,e1,λ F1 L1 H1 vs g1 R1 d1=>⟨F1,L1,S1,ds,z,R1,xD R1 d1 e2,e3,nI X rfl λ F2 L2 H2 v g2 R2 d2=>q F2 L2 H2 v (g1.trans g2) R2 d2⟩⟩
end
section
variable {prog : qo}{w : zq}{A : zx}{E : qz -> qx -> Prop}{s : qx}
theorem vP{it t:qv}{aV:Array qz}(hne:t≠it):∀ (n i:Nat) (s:qx) (Q:List qz->qx->Prop),s.heap.IsListIter it t i->s.heap.IsList t aV->i+n<=aV.size ->
 (∀ h',h'.IsListIter it t (i+n)->yCj it s.heap h'->Q ((aV.toList.drop i).take n) {s with heap:=h' })->qu (model prog w) A (draw (.ref it) n) Q E s
 | 0,i,s,Q,hit,_,_,hQ=>wP (by simpa using hQ s.heap hit (Heap.SameBut.refl _ _))
 | n+1,i,s,Q,hit,hl,hle,hQ=>by
   have hlt:i<aV.size:=by omega
   show qu _ _ (yz (.ref it) >>= _) Q E s;refine wB (vx hit hl (x:=aV[i]) (by simp[hlt]) λ h1 hit1 hs1=>?_)
   refine wB (jx (vP hne n (i+1) _ _ hit1 (hl.extBut hs1.extBut hne) (by omega) λ h2 hit2 hs2=>wP ?_))
   have q:=hQ h2 (by rw[show i+(n+1)=i+1+n by omega];exact hit2) (hs1.trans hs2)
   rw[yBa (by simpa using hlt),List.take_succ_cons] at q
   exact q
theorem aBx{env:Env}{elts:List qw}{x1}{pos:Pos}{t:qv}{aV:Array qz}{Q:Unit->qx->Prop}(hh:A.handled=qj)(hl:s.heap.IsList t aV)
 (hn:(zu elts env).length=aV.size) (hstar:(zu elts env).findIdx? (·.1)=qj)
 (h:∀ h',Heap.ExtBut s.heap.objs.size s.heap h'->qu (model prog w) A (assignInOrder ((zu elts env).map (·.2)) aV.toList) Q E {s with heap:=h' }) :
 qu (model prog w) A (assign (.Tuple elts x1 pos) env (.ref t)) Q E s:=by
 have hlt:t≠s.heap.objs.size:=by obtain⟨o,ho,_⟩:=hl;exact xAh (xAa ho)
 have hl1:∀ o,(s.heap.push o).IsList t aV:=λ o=>let ⟨u,hu,r⟩:=hl;⟨u,hpS _ hu,r⟩
 rw[arm_assign_Tuple];refine wB (wu ?_);unfold unpack;rw[hn,hstar];refine wB (jx ?_);unfold unpackItems;refine wB ?_;unfold notIterableAtAll;refine wB (wpAny_specialOf hl.typeIs slot_list_iter.lookup (wP ?_));simp only[yAu,if_false];refine wB (jx (jj hl ?_));refine wB (jx (vP hlt aV.size 0 _ _ ⟨_,xAe _ rfl,rfl,rfl⟩ (hl1 _) (by omega) λ h1 hit1 hs1=>?_))
 rw[show yDe aV.size (List.drop 0 aV.toList)=aV.toList by rw[yDn];exact List.take_of_length_le (by simp)]
 rw[if_neg (by simp)]
 have hl2:h1.IsList t aV:=(hl1 _).extBut hs1.extBut hlt;refine wB (jx (vv hh hit1 hl2 (by simp) λ h2 he2=>?_))
 simp only[Option.isSome_none,yAu,if_false];exact wP (h h2 λ b o hb e=>he2 b o hb (hs1.extBut b o hb (hpS _ e)))
end
section
variable {X : Cx}
def sK(K:FrG)(n:Nat)(t:dI):TG:=λ v σ H Q=>∃ a xs,v=.ref a/\(bC K H a xs\/aX K H a xs)/\xs.length=n/\t xs σ H Q
theorem aDN{es:List qw}{k:Nat}{t:dI}{n:Nat}{pos:Pos}(hc:X.calm=true)(h:iN X es t)(hn:(zu es X.env).length=n)(dX:(zu es X.env).findIdx? (·.1)=qj):PG X (.Tuple es k pos) (sK X.K n t):=by
 intro aA s σ H v u Q I r hw;obtain⟨a,xs,e1,hq,hl,hw⟩:=hw;rcases hq with hq | hq
 ·exact aEl hc h hn dX aA s σ H v u Q I r ⟨a,xs,e1,hq,hl,hw⟩
 ·subst e1;cases r;obtain⟨aC,rv,pl,hz⟩:=I.list hq;refine aBx (I.ok.hd hc) pl.isList (by simp[hn,<- hl,rv.length]) dX λ h' hx=>?_
  have I1:Inv X aA σ H {s with heap:=h' }:=I.kept (t':=s.toks) λ b o e=>hx b o (xAh (xAa e)) e
  exact h aA _ σ H xs _ Q I1 (by simpa using rv) hw
end
section
variable {X : Cx}{pos : Pos}
noncomputable def pC(K:FrG)(D:Ends)(F':Hp)(L':List qv)(H':Hp):Fl->Prop
 | .nx aE=>∀ σ',EnvR K F' L' aE σ'->D.nx σ' H'
 | .rt w=>∀ v,cD K F' L' w v->D.rt v H'
 | .bk aE=>∀ σ',EnvR K F' L' aE σ'->D.bk σ' H'
 | .ct aE=>∀ σ',EnvR K F' L' aE σ'->D.ct σ' H'
theorem dJ{K:FrG}{f:FS}{D:Ends}{σ:St}{H F:Hp}{L:List qv}{S:aB}{env:aM}{fl:Fl}{S':aB}(R:Rel K F L S H)(E:EnvR K F L env σ)(e:f env S=qq (fl,S'))
 (q:∀ F' L' H',Gr F L F' L'->Rel K F' L' S' H'->pC K D F' L' H' fl):bM K f D σ H:=⟨F,L,S,env,fl,S',R,E,e,λ F' L' H' g R'=>by
 have:=q F' L' H' g R';cases fl<;>exact this⟩
theorem hU{K:FrG}{f:FS}{D:Ends}{σ:St}{H:Hp}(h:bM K f D σ H):∃ F L S env fl S',Rel K F L S H/\EnvR K F L env σ/\f env S=qq (fl,S')/\∀ F' L' H',Gr F L F' L'->Rel K F' L' S' H'->pC K D F' L' H' fl:=by
 obtain⟨F,L,S,env,fl,S',R,E,e,q⟩:=h;exact⟨F,L,S,env,fl,S',R,E,e,λ F' L' H' g R'=>by
  have:=q F' L' H' g R';cases fl<;>exact this⟩
noncomputable def kT:FS:=λ env S=>qq (.nx env,S)
theorem zN:aW X [] (bM X.K kT):=aW.weak xK λ D σ H h=>by
 obtain⟨F,L,S,env,fl,S',R,E,e,q⟩:=hU h;cases e;exact q F L H Gr.refl R σ E
noncomputable def gN(fa fb:FS):FS:=λ env S=>(fa env S).bind λ p=>match p.1 with
 | .nx e=>fb e p.2
 | fl=>qq (fl,p.2)
theorem aAq{a:zy}{b:List zy}{fa fb:FS}(ha:PS X a (bM X.K fa))(hb:aW X b (bM X.K fb)):aW X (a::b) (bM X.K (gN fa fb)):=aW.weak (wG ha hb) λ D σ H h=>by
 obtain⟨F,L,S,env,fl,S',R,E,e,q⟩:=hU h;obtain⟨⟨f1,S1⟩,e1,e2⟩:=bind_some e;cases f1 with
 | nx e'=>exact dJ R E e1 λ F1 L1 H1 g1 R1 σ1 E1=>dJ R1 E1 e2 λ F2 L2 H2 g2 R2=>q F2 L2 H2 (g1.trans g2) R2
 | rt w=>cases e2;exact dJ R E e1 λ F1 L1 H1 g1 R1=>q F1 L1 H1 g1 R1
 | bk e'=>cases e2;exact dJ R E e1 λ F1 L1 H1 g1 R1=>q F1 L1 H1 g1 R1
 | ct e'=>cases e2;exact dJ R E e1 λ F1 L1 H1 g1 R1=>q F1 L1 H1 g1 R1
noncomputable def kS(fa:FE):FS:=λ env S=>(fa env S).bind λ p=>qq (.nx env,p.2)
theorem yI{e:qw}{fa:FE}(h:PE X e (aK X.K fa))(hs:swapsWith e qj pos.line X.env=pure false):PS X (.Expr e pos) (bM X.K (kS fa)):=PS.weak (xG h hs) λ D σ H h=>by
 obtain⟨F,L,S,env,fl,S',R,E,e,q⟩:=hU h;obtain⟨⟨w,S1⟩,e1,e2⟩:=bind_some e;cases e2;exact⟨F,L,S,env,w,_,R,E,e1,λ F1 L1 H1 v g1 R1 d1=>q F1 L1 H1 g1 R1 σ (E.mono g1)⟩
noncomputable def lN(fa:FE):FS:=λ env S=>(fa env S).bind λ p=>qq (.rt p.1,p.2)
theorem aF5{e:qw}{fa:FE}(h:PE X e (aK X.K fa)):PS X (.Return (qq e) pos) (bM X.K (lN fa)):=PS.weak (aE2 h) λ D σ H h=>by
 obtain⟨F,L,S,env,fl,S',R,E,e,q⟩:=hU h;obtain⟨⟨w,S1⟩,e1,e2⟩:=bind_some e;cases e2;exact⟨F,L,S,env,w,_,R,E,e1,λ F1 L1 H1 v g1 R1 d1=>q F1 L1 H1 g1 R1 v d1⟩
noncomputable def aFM:FS:=λ env S=>qq (.rt (.d .none),S)
noncomputable def jN(fc:FT)(fa fb:FS):FS:=λ env S=>(fc env S).bind λ p=>if p.1=true then fa env p.2 else fb env p.2
theorem aHa{c:qw}{a b:List zy}{fc:FT}{fa fb:FS}(hc:PT X c (cJ X.K fc))(ha:aW X a (bM X.K fa))(hb:aW X b (bM X.K fb)):PS X (.If c a b pos) (bM X.K (jN fc fa fb)):=PS.weak (aAn hc ha hb) λ D σ H h=>by
 obtain⟨F,L,S,env,fl,S',R,E,e,q⟩:=hU h;obtain⟨⟨c,S1⟩,e1,e2⟩:=bind_some e;refine⟨F,L,S,env,c,S1,R,E,e1,λ F1 L1 H1 g1 R1=>?_⟩
 cases c with
 | true=>exact jJ (dJ R1 (E.mono g1) (by simpa using e2) λ F2 L2 H2 g2 R2=>q F2 L2 H2 (g1.trans g2) R2)
 | false=>exact jK (dJ R1 (E.mono g1) (by simpa using e2) λ F2 L2 H2 g2 R2=>q F2 L2 H2 (g1.trans g2) R2)
noncomputable def cS(i:Nat)(fa:FE):FS:=λ env S=>(fa env S).bind λ p=>qq (.nx (env.set i (qq p.1)),p.2)
theorem zT{K:FrG}{i:Nat}{fa:FE}(D:Ends)(σ:St)(H:Hp)(h:bM K (cS i fa) D σ H):aAH (aK K fa) (gL i) D σ H:=by
 obtain⟨F,L,S,env,fl,S',R,E,e,q⟩:=hU h;obtain⟨⟨w,S1⟩,e1,e2⟩:=bind_some e;cases e2;exact⟨F,L,S,env,w,_,R,E,e1,λ F1 L1 H1 v g1 R1 d1=>q F1 L1 H1 g1 R1 _ ((E.mono g1).set i d1)⟩
theorem rP{i:Nat}{x:Str}{e:qw}{fa:FE}{pos':Pos}(hN:X.N.Nodup)(hi:X.N[i]? = qq x)(hx:Loc X.env.scope x)(he:PE X e (aK X.K fa))(hs:swapsWith e (qq (.Name x pos')) pos.line X.env=pure false)(hf:X.fn x=true\/X.env.scope.names.lookup x=qq .local) :
 PS X (.Assign [.Name x pos'] e pos) (bM X.K (cS i fa)):=PS.weak (zO hN hi hx he hs hf) zT
noncomputable def fS:List Nat->List D->aM->Option aM
 | [],[],env=>qq env
 | i::is,d::ds,env=>fS is ds (env.set i (qq (.d d)))
 | _,_,_=>qj
inductive Tg where
 | one (i:Nat) | many (is:List Nat)
noncomputable def Tg.put:Tg->D->aM->Option aM
 | .one i,d,env=>qq (env.set i (qq (.d d)))
 | .many is,.tuple ds,env=>fS is ds env
 | .many is,.list ds,env=>fS is ds env
 | .many _,_,_=>qj
def GA(K:FrG)(t:Tg)(g:TG):Prop:=∀ (d:D) (x:V) (σ:St) (H F:Hp) (L:List qv) (S:aB) (env aE:aM) (Q:St->Hp->Prop),
 Rel K F L S H->EnvR K F L env σ->Den K F d x->t.put d env=qq aE->(∀ σ',EnvR K F L aE σ'->Q σ' H)->g x σ H Q
theorem aFm{K:FrG}(i:Nat):GA K (.one i) (gL i):=λ d x σ H F L S env aE Q R E dn e q=>by
 cases e;exact q _ (E.set i (w:=.d d) dn)
def mD(K:FrG)(is:List Nat)(g:dI):Prop:=∀ (ds:List D) (xs:List V) (σ:St) (H F:Hp) (L:List qv) (S:aB) (env aE:aM) (Q:St->Hp->Prop),
 Rel K F L S H->EnvR K F L env σ->DenL K F ds xs->fS is ds env=qq aE->(∀ σ',EnvR K F L aE σ'->Q σ' H)->g xs σ H Q
theorem aDA{K:FrG}:mD K [] sY:=λ ds xs σ H F L S env aE Q R E dn e q=>by
 cases dn with
 | nil=>cases e;exact⟨rfl,q σ E⟩
 | cons _ _=>cases e
theorem aCu{K:FrG}{i:Nat}{is:List Nat}{g:dI}(h:mD K is g):mD K (i::is) (sD (gL i) g):=λ ds xs σ H F L S env aE Q R E dn e q=>by
 cases dn with
 | nil=>cases e
 | cons d1 dr=>exact⟨_,_,rfl,h _ _ _ H F L S _ aE Q R (E.set i (w:=.d _) d1) dr e q⟩
theorem qG:∀ {is:List Nat}{ds:List D}{env aE:aM},fS is ds env=qq aE->is.length=ds.length
 | [],[],_,_,_=>rfl
 | _::is,_::ds,_,_,e=>congrArg (· + 1) (qG (is:=is) (ds:=ds) e)
 | [],_::_,_,_,e=>by cases e
 | _::_,[],_,_,e=>by cases e
theorem aDD{K:FrG}{is:List Nat}{g:dI}(h:mD K is g):GA K (.many is) (sK K is.length g):=λ d x σ H F L S env aE Q R E dn e q=>by
 cases d with
 | tuple ds =>
   cases dn with
   | tup sq dl=>exact⟨_,_,rfl,.inl (dN R.sub sq),by rw[<- dl.length];exact(qG e).symm,h _ _ σ H F L S env aE Q R E dl e q⟩
 | list ds =>
   cases dn with
   | lst sq dl=>exact⟨_,_,rfl,.inr (R.sub.seq sq),by rw[<- dl.length];exact(qG e).symm,h _ _ σ H F L S env aE Q R E dl e q⟩
 | _=>cases e
noncomputable def aFv(t:Tg)(fa:FE):FS:=λ env S=>(fa env S).bind λ p=>match p.1 with
 | .d d=>(t.put d env).bind λ e=>qq (.nx e,p.2)
 | _=>qj
noncomputable def bW(S:aB):W->W->Option (W×aB)
 | .loc n,.d x=>match S[n]? with
   | some (qq ds)=>if ds.length<qk then qq (.d .none,S.set n (qq (ds++[x]))) else qj
   | _=>qj
 | _,_=>qj
theorem vI{S S':aB}{o x w:W}(h:bW S o x=qq (w,S')):∃ n d ds,o=.loc n/\x=.d d/\S[n]? = qq (qq ds)/\ds.length<qk/\w=.d .none/\S'=S.set n (qq (ds++[d])):=by
 unfold bW at h
 split at h
 ·split at h
  ·rename_i ds e
   split at h
   ·rename_i hz;cases h;exact⟨_,_,ds,rfl,rfl,e,hz,rfl,rfl⟩
   ·cases h
  ·cases h
 ·cases h
noncomputable def cE(fo fe:FE):FE:=f2 fo fe bW
theorem aAl{K:FrG}{fo fe:FE}(σ:St)(H:Hp)(Q:VK)(h:aK K (cE fo fe) σ H Q):tBM K "list" wT (aK K fo) (cT K (dC fe gD)) σ H Q:=by
 obtain⟨F,L,S,env,w,S',R,E,e,q⟩:=h;obtain⟨⟨wo,S1⟩,e1,e⟩:=bind_some e;obtain⟨⟨we,S2⟩,e2,e⟩:=bind_some e;obtain⟨n,d,ds,rfl,rfl,e5,hz,rfl,rfl⟩:=vI e;refine⟨F,L,S,env,_,S1,R,E,e1,λ F1 L1 H1 o g1 R1 d1=>?_⟩
 obtain⟨a,ea,rfl⟩:=d1;refine⟨.inl ⟨rfl,?_⟩,F1,L1,S1,env,[.d d],S2,R1,E.mono g1,?_,λ F2 L2 H2 vs g2 R2 d2=>?_⟩
 ·obtain⟨xs,hx⟩:=R1.tr n a ea;exact⟨xs,aX.of hx⟩
 ·unfold dC;rw[e2];rfl
 ·cases d2 with
  | cons dd dr =>
    cases dr;have ea2:=g2.get ea;obtain⟨fa,xs,ha,dl⟩:=R2.loc n a ds ea2 e5;exact⟨a,xs,_,rfl,rfl,ha,by rw[<- dl.length];exact hz,q F2 L2 _ _ (g1.trans g2) (R2.put ea2 fa (dl.append (.cons dd .nil))) Den.non⟩
end
section
variable {X : Cx}{pos : Pos}
structure Wk(K:FrG)(F:Hp)(L:List qv)(J:It)(ds:List D):Prop where
 go:∀ (i:Nat) (H:Hp),aZ F H->i<ds.length->J.go i H
 stop:∀ (H:Hp),aZ F H->J.stop ds.length H
 yld:∀ (i:Nat) (H F1:Hp) (L1:List qv) (S:aB) (x:V) (H':Hp) (d:D),Gr F L F1 L1->Rel K F1 L1 S H->ds[i]? = qq d->J.yld i H x H'->∃ F2,aZ F1 F2/\Rel K F2 L1 S H'/\Den K F2 d x
def eK(K:FrG)(f:FL):TI:=λ σ H R=>∃ F L S env ds S',Rel K F L S H/\EnvR K F L env σ/\f env S=qq (ds,S')/\∀ F' L' H' J,Gr F L F' L'->Rel K F' L' S' H'->Wk K F' L' J ds->R J H'
theorem PI.weak{tg iter:qw}{t t':TI}(h:PI X tg iter t)(w:∀ σ H R,t' σ H R->t σ H R):PI X tg iter t':=λ aA s σ H R I q=>h aA s σ H R I (w σ H R q)
theorem aDl{K:FrG}{F:Hp}{L:List qv}{a:qv}{xs:List V}{ds:List D}(sq:aX K F a xs)(dl:DenL K F ds xs):Wk K F L (tZ K a) ds where
 go:=λ i H s hi=>⟨xs,xs[i]'(by rw[<- dl.length];exact hi),s.seq sq,by simp[dl.length▸hi]⟩
 stop:=λ H s=>⟨xs,s.seq sq,yCy dl.length.symm⟩
 yld:=λ i H F1 L1 S x H' d g R e y=>by
  obtain⟨e1,y⟩:=y;subst e1;have h:=y xs ((g.f.trans R.sub).seq sq);obtain⟨x',e2,dx⟩:=dl.get e;rw[h] at e2;cases e2;exact⟨F1,aZ.refl _,R,dx.mono g.f⟩
theorem aD3{K:FrG}{F:Hp}{L:List qv}{a:qv}{xs:List V}{ds:List D}(sq:bC K F a xs)(dl:DenL K F ds xs):Wk K F L (tP K a) ds where
 go:=λ i H s hi=>⟨xs,xs[i]'(by rw[<- dl.length];exact hi),dN s sq,by simp[dl.length▸hi]⟩
 stop:=λ H s=>⟨xs,dN s sq,yCy dl.length.symm⟩
 yld:=λ i H F1 L1 S x H' d g R e y=>by
  obtain⟨e1,y⟩:=y;subst e1;have h:=y xs (dN (g.f.trans R.sub) sq);obtain⟨x',e2,dx⟩:=dl.get e;rw[h] at e2;cases e2;exact⟨F1,aZ.refl _,R,dx.mono g.f⟩
noncomputable def fD(lo:Int):Nat->List D
 | 0=>[]
 | n+1=>.int lo::fD (lo+1) n
theorem qF(n:Nat):∀ lo:Int,(fD lo n).length=n:=by
 induction n with
 | zero=>intro lo;rfl
 | succ n ih=>intro lo;simp[fD,ih]
theorem wH:∀ (n:Nat) (lo:Int) (i:Nat),i<n->(fD lo n)[i]? = qq (.int (lo+i))
 | 0,_,_,h=>by omega
 | n+1,lo,0,_=>by simp[fD]
 | n+1,lo,i+1,h=>by
   rw[fD,List.getElem?_cons_succ,wH n (lo+1) i (by omega)]
   congr 2
   push_cast
   omega
theorem aCB{K:FrG}{F:Hp}{L:List qv}(lo:Int)(n:Nat):Wk K F L (pQ lo n) (fD lo n) where
 go:=λ i H s hi=>by rw[qF] at hi;exact hi
 stop:=λ H s=>by rw[qF];exact yAc _
 yld:=λ i H F1 L1 S x H' d g R e y=>by
  obtain⟨rfl,rfl⟩:=y;have hi:i<n:=by
   have:=(gIm e).1;rw[qF] at this;exact this
  rw[wH n lo i hi] at e;cases e;exact⟨F1,aZ.refl _,R,.int _⟩
noncomputable def aAA(fa:FE):FL:=λ env S=>(fa env S).bind λ p=>match p.1 with
 | .d (.list ds)=>qq (ds,p.2)
 | _=>qj
noncomputable def aAY(fa:FE):FL:=λ env S=>(fa env S).bind λ p=>match p.1 with
 | .d (.tuple ds)=>qq (ds,p.2)
 | _=>qj
theorem aFO{tg a:qw}{fa:FE}(ha:PE X a (aK X.K fa)):PI X tg a (eK X.K (aAA fa)):=PI.weak (aC3 ha) λ σ H Rr aF=>by
 obtain⟨F,L,S,env,ds,S',R,E,e,q⟩:=aF;obtain⟨⟨w,S1⟩,e1,e2⟩:=bind_some e;dsimp only at e2
 split at e2
 ·cases e2;refine⟨F,L,S,env,_,_,R,E,e1,λ F1 L1 H1 v g1 R1 d1=>?_⟩
  cases (show Den X.K F1 (.list ds) v from d1) with
  | lst sq dl=>exact⟨_,rfl,⟨_,R1.sub.seq sq⟩,q F1 L1 H1 _ g1 R1 (aDl sq dl)⟩
 ·cases e2
theorem aFL{tg a:qw}{fa:FE}(ha:PE X a (aK X.K fa)):PI X tg a (eK X.K (aAY fa)):=PI.weak (aFl ha) λ σ H Rr aF=>by
 obtain⟨F,L,S,env,ds,S',R,E,e,q⟩:=aF;obtain⟨⟨w,S1⟩,e1,e2⟩:=bind_some e;dsimp only at e2
 split at e2
 ·cases e2;refine⟨F,L,S,env,_,_,R,E,e1,λ F1 L1 H1 v g1 R1 d1=>?_⟩
  cases (show Den X.K F1 (.tuple ds) v from d1) with
  | tup sq dl=>exact⟨_,rfl,⟨_,dN R1.sub sq⟩,q F1 L1 H1 _ g1 R1 (aD3 sq dl)⟩
 ·cases e2
noncomputable def kZ(fa:FE):FL:=λ env S=>(fa env S).bind λ p=>match p.1 with
 | .d (.int j)=>if -(2^62)<=j/\j<2^62 then qq (fD 0 j.toNat,p.2) else qj
 | _=>qj
theorem aD9{K:FrG}{fa:FE}(σ:St)(H:Hp)(Rr:It->Hp->Prop)(h:eK K (kZ fa) σ H Rr):zQ (cT K (dC fa gD)) σ H Rr:=by
 obtain⟨F,L,S,env,ds,S',R,E,e,q⟩:=h;obtain⟨⟨w,S1⟩,e1,e2⟩:=bind_some e;dsimp only at e2
 split at e2
 ·split at e2
  ·rename_i j c;cases e2;refine⟨F,L,S,env,[.d (.int j)],_,R,E,by unfold dC;rw[e1];rfl,λ F1 L1 H1 vs g1 R1 d1=>?_⟩
   cases d1 with
   | cons dd dr =>
     cases dr;cases (show Den K F1 (.int j) _ from dd)
     exact⟨j,rfl,c.1,c.2,q F1 L1 H1 _ g1 R1 (aCB 0 j.toNat)⟩
  ·cases e2
 ·cases e2
noncomputable def gB(t:Tg)(fb:FS):List D->FS
 | []=>λ env S=>qq (.nx env,S)
 | d::ds=>λ env S=>(t.put d env).bind λ e1=>(fb e1 S).bind λ q=>(match q.1 with
    | .nx e=>gB t fb ds e q.2
    | .ct e=>gB t fb ds e q.2
    | .bk e=>qq (.nx e,q.2)
    | .rt w=>qq (.rt w,q.2))
noncomputable def eI(t:Tg)(fi:FL)(fb:FS):FS:=λ env S=>(fi env S).bind λ p=>gB t fb p.1 env p.2
theorem aFY{tg iter:qw}{b:List zy}{t:Tg}{g:TG}{fi:FL}{fb:FS}(hp:PassesOwn (model X.prog X.w) X.A X.env X.xe)(hc:X.calm=true)(hi:PI X tg iter (eK X.K fi))(hg:PG X tg g)(ga:GA X.K t g)(hb:aW X b (bM X.K fb))
 (hs:∀ x,xq iter X.env x=pure x):PS X (.For tg iter b [] pos) (bM X.K (eI t fi fb)):=PS.weak (yQ hp hc hi hg hb hs) λ D σ H h=>by
 obtain⟨F,L,S,env,fl,S',R,E,e,q⟩:=hU h;obtain⟨⟨ds,S1⟩,e1,e2⟩:=bind_some e;refine⟨F,L,S,env,ds,S1,R,E,e1,λ F0 L0 H0 J g0 R0 wk=>?_⟩
 dsimp only at e2;refine⟨λ i m σ1 H1=>i+m=ds.length/\∃ F1 L1 S1 env1,Gr F0 L0 F1 L1/\Rel X.K F1 L1 S1 H1/\EnvR X.K F1 L1 env1 σ1/\gB t fb (ds.drop i) env1 S1=qq (fl,S'),
  ⟨ds.length,yDk _,F0,L0,S1,env,Gr.refl,R0,E.mono g0,by rw[yDn];exact e2⟩,?_⟩
 rintro i m σ1 H1 ⟨him,F1,L1,S1',env1,g1,R1,E1,e3⟩;cases m with
 | zero =>
   have hi:i=ds.length:=by omega
   subst hi;rw[yCf] at e3;cases e3;exact .inl ⟨wk.stop H1 (g1.f.trans R1.sub),q F1 L1 H1 (g0.trans g1) R1 σ1 E1⟩
 | succ m =>
   have hi:i<ds.length:=by omega
   refine .inr ⟨wk.go i H1 (g1.f.trans R1.sub) hi,λ σ3 H3=>∃ F3 L3 S3 env3,Gr F0 L0 F3 L3/\Rel X.K F3 L3 S3 H3/\EnvR X.K F3 L3 env3 σ3/\gB t fb (ds.drop (i+1)) env3 S3=qq (fl,S'),
    λ σ3 H3 h3=>⟨m,yCc m,by omega,h3⟩,λ x H2 y=>?_⟩
   rw[yBa hi] at e3;obtain⟨env2,e4,e5⟩:=bind_some e3;obtain⟨⟨f6,S6⟩,e6,e7⟩:=bind_some e5;obtain⟨F2,s2,R2,d2⟩:=wk.yld i H1 F1 L1 S1' x H2 ds[i] g1 R1 (yAi hi) y;have g2:Gr F1 L1 F2 L1:=⟨s2,[],by simp⟩
   refine ga ds[i] x σ1 H2 F2 L1 S1' env1 env2 _ R2 (E1.mono g2) d2 e4 λ σ2 E2=>?_
   refine dJ R2 E2 e6 λ F3 L3 H3 g3 R3=>?_
   have g03:=(g1.trans g2).trans g3;cases f6 with
   | nx e'=>exact λ σ3 E3=>⟨F3,L3,S6,e',g03,R3,E3,e7⟩
   | ct e'=>exact λ σ3 E3=>⟨F3,L3,S6,e',g03,R3,E3,e7⟩
   | bk e'=>cases e7;exact λ σ3 E3=>q F3 L3 H3 (g0.trans g03) R3 σ3 E3
   | rt w=>cases e7;exact λ v d=>q F3 L3 H3 (g0.trans g03) R3 v d
noncomputable def oR(k:Nat)(S:aB):W->Option (W×aB)
 | .d x=>qq (.d x,S.take k)
 | .loc m=>if m<k then qq (.loc m,S.take k) else match S[m]? with
   | some (qq ds)=>qq (.d (.list ds),S.take k)
   | _=>qj
 | .exc c r=>qq (.exc c r,S.take k)
noncomputable def bY(fb:FS)(n:Nat)(ws:List W)(S:aB):Option (W×aB):=(fb (ws.map qq++yAb (n-ws.length) qj) S).bind λ p=>match p.1 with
 | .rt w=>oR S.length p.2 w
 | .nx _=>qq (.d .none,p.2.take S.length)
 | _=>qj
theorem uS{K:FrG}{F:Hp}{L:List qv}{N:List Str}:∀ {ws:List W}{vs:List V},WDenL K F L ws vs->EnvR K F L (ws.map qq++yAb (N.length-ws.length) qj) (L2.start N vs):=by
 intro ws vs h;unfold L2.start;rw[h.length];generalize N.length-vs.length=k;refine⟨by simp[h.length],?_⟩
 induction h with
 | nil =>
   intro i w e;have:=xAi e;simp at this
 | cons hd tl ih =>
   intro i w e;cases i with
   | zero=>simp at e;subst e;exact⟨_,rfl,hd⟩
   | succ i =>
     obtain⟨v,e1,d⟩:=ih i w (by simpa using e)
     exact⟨v,by simpa using e1,d⟩
theorem nL{K:FrG}{F F1 H1:Hp}{L L1:List qv}{S S1:aB}{w w':W}{S':aB}{v:V}{Q:VK}(R:L.length=S.length)(g:Gr F L F1 L1)(R1:Rel K F1 L1 S1 H1)(d:cD K F1 L1 w v)(e:oR S.length S1 w=qq (w',S'))(q:iJ K F L S' w' Q):Q v H1:=by
 obtain⟨sf,M,rfl⟩:=g;cases w with
 | d x =>
   cases e;have R2:=R1.cut;rw[R] at R2;exact q F1 L H1 v ⟨sf,[],by simp⟩ R2 d
 | exc c r =>
   cases e;have R2:=R1.cut;rw[R] at R2;exact q F1 L H1 v ⟨sf,[],by simp⟩ R2 d
 | loc m =>
   have e':(if m<S.length then qq (W.loc m,S1.take S.length) else match S1[m]? with | some (qq ds)=>qq (W.d (.list ds),S1.take S.length) | _=>qj)=qq (w',S'):=e
   split at e'
   ·rename_i hm;cases e';have R2:=R1.cut;rw[R] at R2;obtain⟨a,ea,rfl⟩:=d;rw[xAj (by rw[R];exact hm)] at ea
    exact q F1 L H1 _ ⟨sf,[],by simp⟩ R2 ⟨a,ea,rfl⟩
   ·rename_i hm
    split at e'
    ·rename_i ds es;cases e';obtain⟨a,ea,rfl⟩:=d;obtain⟨F2,g2,R2,d2⟩:=R1.freeze ea es;have R3:=R2.cut;rw[R,List.take_set,List.set_eq_of_length_le (by rw[yCd];omega)] at R3
     exact q F2 L H1 _ ⟨sf.trans g2.f,[],by simp⟩ R3 d2
    ·cases e'
theorem yM{K:FrG}{fb:FS}{N:List Str}{np:Nat}{vs:List V}{H:Hp}{Q:VK}{E:XK}(h:eN K np (bY fb N.length) vs H Q E):bM K fb {nx:=λ _ H'=>Q .non H',rt:=Q } (L2.start N vs) H:=by
 obtain⟨F,L,S,ws,w,S',hn,R,dl,e,q⟩:=h;obtain⟨⟨fl,S1⟩,e1,e2⟩:=bind_some e;refine dJ R (uS dl) e1 λ F1 L1 H1 g1 R1=>?_
 cases fl with
 | nx aE =>
   cases e2;exact λ σ' E'=>nL (w:=.d .none) R.len g1 R1 Den.non rfl q
 | rt w'=>exact λ v d=>nL R.len g1 R1 d e2 q
 | bk aE=>cases e2
 | ct aE=>cases e2
end
theorem uM{α β:Type}{f:α->β->Sem (ForInStep β)}{g:α->β->β}:∀ (l:List α) (c:β),(∀ x∈l,∀ c,f x c=pure (ForInStep.yield (g x c)))->forIn l c f=pure (l.foldl (λ c x=>g x c) c)
 | [],c,_=>rfl
 | x::l,c,h=>by
   rw[List.forIn_cons,h x xAd c,pure_bind];exact uM l (g x c) λ y hy=>h y (xAf _ hy)
noncomputable def eC(env:Env)(x:Str×jw)(cs:List (Str×qv)):List (Str×qv):=if (x.2==NameKind.free)=true then (x.1,(env.cells.lookup x.1).getD 0)::cs else cs
noncomputable def lS(scope:zv)(env:Env):List (Str×qv):=scope.names.foldl (λ c x=>eC env x c) []
theorem aBz{scope:zv}{env:Env}(h:∀ x∈scope.names,x.2=.free->∃ c,env.cells.lookup x.1=qq c):closureFor scope env=pure (lS scope env):=by
 unfold closureFor lS;dsimp only;rw[uM (g:=eC env) scope.names [] (λ x hx c=>?_)]
 ·rfl
 ·obtain⟨n,k⟩:=x;unfold eC;dsimp only
  by_cases hk:k=.free
  ·obtain⟨a,ha⟩:=h (n,k) hx hk;rw[if_pos (by simp[hk]),if_pos (by simp[hk])]
   have:cellOf env n=pure a:=by unfold cellOf;rw[ha]
   rw[this,pure_bind,ha];rfl
  ·rw[if_neg (by simp[hk]),if_neg (by simp[hk])]
theorem wS{env:Env}:∀ (l:List (Str×jw)) (aD:List (Str×qv)),(∀ x∈l,x.2=.free->∃ c,env.cells.lookup x.1=qq c)->(∀ x c,aD.lookup x=qq c->env.cells.lookup x=qq c) ->
 ∀ x c,(l.foldl (λ c x=>eC env x c) aD).lookup x=qq c->env.cells.lookup x=qq c
 | [],aD,_,ha,x,c,e=>ha x c e
 | y::l,aD,h,ha,x,c,e=>by
   refine wS l (eC env y aD) (λ z hz=>h z (xAf _ hz)) (λ z d ez=>?_) x c e
   unfold eC at ez
   split at ez
   ·rename_i hk;obtain⟨a,hy⟩:=h y xAd (by simpa using hk)
    rw[yAw] at ez
    split at ez
    ·rename_i hz;cases ez;have:z=y.1:=by simpa using hz
     rw[this,hy];rfl
    ·exact ha z d ez
   ·exact ha z d ez
theorem rL{env:Env}:∀ (l:List (Str×jw)) (aD:List (Str×qv)) (x:Str),((∃ k,(x,k)∈l/\k=.free)\/∃ c,aD.lookup x=qq c)->∃ c,(l.foldl (λ c x=>eC env x c) aD).lookup x=qq c
 | [],aD,x,h=>by
   rcases h with ⟨k,hk,_⟩ | h
   ·simp at hk
   ·exact h
 | y::l,aD,x,h=>by
   refine rL l (eC env y aD) x ?_;have step:(∃ c,aD.lookup x=qq c)->∃ c,(eC env y aD).lookup x=qq c:=λ aF=>by
    obtain⟨c,e⟩:=aF;unfold eC
    split
    ·rw[yAw]
     split
     ·exact⟨_,rfl⟩
     ·exact⟨c,e⟩
    ·exact⟨c,e⟩
   rcases h with ⟨k,hk,e⟩ | h
   ·rcases List.mem_cons.mp hk with z | z
    ·right
     subst z e;unfold eC;rw[if_pos (by simp)]
     exact⟨(env.cells.lookup x).getD 0,by rw[yAw];simp⟩
    ·exact .inl ⟨k,z,e⟩
   ·exact .inr (step h)
theorem uO{x:Str}(h:Str->jw->jw):∀ l:List (Str×jw),(l.map λ p=>(p.1,h p.1 p.2)).lookup x=(l.lookup x).map (h x)
 | []=>rfl
 | (n,k)::r=>by
   have ih:=uO (x:=x) h r;rw[yAj,yAw,yAw];cases hx:x==n with
   | true =>
     have e:x=n:=by simpa using hx
     subst e;rfl
   | false=>exact ih
theorem aBj{env:Env}{x:Str}(names:List (Str×jw)) :
 (names.map λ(n,k)=>if (k==NameKind.free&&env.scope.kind==.function&&env.kindOf n==qq .cell) then (n,NameKind.cell) else (n,k)).lookup x =
   (names.lookup x).map λ k=>if (k==NameKind.free&&env.scope.kind==.function&&env.kindOf x==qq .cell) then NameKind.cell else k:=by
 have e:(λ(p:Str×jw)=>match p with | (n,k)=>if (k==NameKind.free&&env.scope.kind==.function&&env.kindOf n==qq .cell)=true then (n,NameKind.cell) else (n,k)) =
  λ p=>(p.1,if (p.2==NameKind.free&&env.scope.kind==.function&&env.kindOf p.1==qq .cell)=true then NameKind.cell else p.2):=funext λ aF=>by
  obtain⟨n,k⟩:=aF;dsimp only
  split<;>rfl
 rw[e];exact uO (λ n k=>if (k==NameKind.free&&env.scope.kind==.function&&env.kindOf n==qq .cell)=true then NameKind.cell else k) names
section
variable {prog : qo}{w : zq}{A : zx}{R : Result -> qx -> Prop}{s : qx}
theorem aBo{elt target iter:qw}{ifs:List qw}{scope:zv}{pos:Pos}{it aD:qz}{env:Env}(I:Nat->qx->Prop)
 (turn:∀ n s,I n s->qu (model prog w) A (yz it) (λ r s₁=>match r with
   | none=>R (.ok .next) s₁
   | some v=>qu (model prog w) A (vy target it v) (λ _ s₀=>qu (model prog w) A (assign target env v) (λ _ s₂ =>
      qu (model prog w) A (forIn ifs true λ c r=>if r=true then do let ok <- isTrue c env (eval c env);pure (ForInStep.yield ok) else pure (ForInStep.yield r)) (λ ok s₃ =>
       if ok=true then qu (model prog w) A (eval elt env) (λ x s₄ =>
        qu (model prog w) A (call (.builtin "list.append") [aD,x]) (λ _ s₅=>∃ m,m<n/\I m s₅) (λ _ _=>False) s₄) (λ _ _=>False) s₃
       else ∃ m,m<n/\I m s₃) (λ _ _=>False) s₂) (λ _ _=>False) s₀) (λ _ _=>False) s₁) (λ _ _=>False) s)
 (n:Nat) (h:I n s):vz (model prog w) A (.compLoop (.ListComp elt [⟨target,iter,ifs,0⟩] scope pos) 0 it aD env) R s:=by
 have up:∀ {α:Type}{t:Sem α}{Q Q':α->qx->Prop}{E:qz->qx->Prop}{s:qx},qu (model prog w) A t Q (λ _ _=>False) s->(∀ a s,Q a s->Q' a s)->qu (model prog w) A t Q' E s:=
  λ h hq=>wpAny_mono h hq λ _ _ f=>f.elim
 refine codeAny_loop rfl I (λ n s hI=>?_) n h
 show qu _ A ((compTurn (.ListComp elt [⟨target,iter,ifs,0⟩] scope pos) 0 it aD env).onRaise (λ x=>do noteFrame x env;theTreesLotGoes x)) _ _ s
 refine wpAny_noted ?_;rw[compTurn_list];refine wB (wu (wB (up (turn n s hI) λ r s₁ h₁=>?_)))
 cases r with
 | none=>exact wP h₁
 | some v =>
   refine wB (up h₁ λ _ s₀ h₀=>?_)
   refine wB (up h₀ λ _ s₂ h₂=>wB (up h₂ λ ok s₃ h₃=>?_))
   cases ok with
   | false=>exact wP ⟨rfl,h₃⟩
   | true =>
     exact wB (wB (up h₃ λ x s₄ h₄=>wB (up h₄ λ _ s₅ h₅=>wP (wP ⟨rfl,h₅⟩))))
end
noncomputable def eR(X:Cx)(aA:List (qv×Obj))(fp:List qv)(scope:zv)(C:qv)(s₀:qx)(H₀:Hp):Cx:=
 {X with s₀:=s₀,H₀:=H₀,env:=compEnvC scope (lS scope X.env) C X.env,outer:=X.stack,stack:=X.stack,ex:=fp,fn:=λ _=>false,pn:=X.pn++aA,xe:=λ _ _=>False }
def eD(X:Cx)(scope:zv)(Y:Cx):Prop:=∃ aA fp C s₀ H₀,Y=eR X aA fp scope C s₀ H₀
structure ScOk(scope osc:zv):Prop where
 kind:scope.kind=.function
 nocell:∀ x∈scope.names,x.2≠.cell
 free:∀ x∈scope.names,x.2=.free->osc.names.lookup x.1=qq .cell\/osc.names.lookup x.1=qq .free
 loc:∀ x∈scope.names,x.2=.local->scope.names.lookup x.1=qq .local
theorem mem_of_lookup{α:Type}{x:Str}{k:α}:∀ {l:List (Str×α)},l.lookup x=qq k->(x,k)∈l
 | [],h=>by simp at h
 | (n,j)::r,h=>by
   rw[yAw] at h
   split at h
   ·rename_i hx;cases h;have:x=n:=by simpa using hx
    subst this;exact xAd
   ·exact xAf _ (mem_of_lookup h)
section
variable {X : Cx}{aA : List (qv×Obj)}{σ : L2.St}{H : Hp}{s : qx}{scope : zv}{fp : List qv}
theorem vM{C:qv}{s₀:qx}{H₀:Hp}{x:Str}:(eR X aA fp scope C s₀ H₀).env.kindOf x=(scope.names.lookup x).map λ k=>if (k==NameKind.free&&X.env.scope.kind==.function&&X.env.kindOf x==qq .cell) then NameKind.cell else k:=
 aBj scope.names
theorem vB(ok:ScOk scope X.env.scope){C:qv}{s₀:qx}{H₀:Hp}{x:Str}(h:(eR X aA fp scope C s₀ H₀).env.kindOf x=qq .cell\/(eR X aA fp scope C s₀ H₀).env.kindOf x=qq .free):scope.names.lookup x=qq .free:=by
 rw[vM] at h;cases e:scope.names.lookup x with
 | none=>rw[e] at h;simp at h
 | some k =>
   rw[e] at h;have nc:=ok.nocell (x,k) (mem_of_lookup e);cases k with
   | free=>rfl
   | cell=>exact absurd rfl nc
   | «local» => simp at h
   | globalExplicit=>simp at h
   | globalImplicit=>simp at h
theorem xX(I:Inv X aA σ H s)(hfp:∀ b∈fp,cW X aA H b):∀ b∈fp,b ∉ bT X.stack:=λ b hb z=>by
 rcases List.mem_cons.mp (I.stkSub b z) with q | q
 ·exact(hfp b hb).2.1 q
 ·exact(hfp b hb).2.2.1 q
theorem vL(I:Inv X aA σ H s)(ok:ScOk scope X.env.scope):∀ x∈scope.names,x.2=.free->∃ c,X.env.cells.lookup x.1=qq c:=λ x hx e=>by
 rcases ok.free x hx e with q | q
 ·exact I.ok.has x.1 (.inl q)
 ·exact I.ok.has x.1 (.inr q)
theorem hZ(I:Inv X aA σ H s)(ok:ScOk scope X.env.scope){x:Str}{c:qv}(h:(lS scope X.env).lookup x=qq c):X.env.cells.lookup x=qq c:=
 wS scope.names [] (vL I ok) (λ x c e=>by simp at e) x c h
theorem aC0(I:Inv X aA σ H s)(ok:ScOk scope X.env.scope)(hfp:∀ b∈fp,cW X aA H b)(hth:∀ b∈fp,b<s.heap.objs.size){C:qv}(hC:s.heap.objs.size<=C):(eR X aA fp scope C s H).Ok where
 mod:=I.ok.mod
 kind:=ok.kind
 glob:=I.ok.glob
 blt:=I.ok.blt
 above:=hC
 inj:=λ x y c h1 h2=>I.ok.inj x y c (hZ I ok h1) (hZ I ok h2)
 has:=λ x h=>rL scope.names [] x (.inl ⟨.free,mem_of_lookup (vB ok h),rfl⟩)
 cab:=λ x c h _=>nomatch h
 hd:=I.ok.hd
 frames:=I.ok.frames
 stk:=.inl rfl
 exf:=λ b hb=>⟨λ z=>absurd (xAc (hth b hb) hC) (by have z':b=C:=z;rw[z'];exact yAl _),λ x c h=>(hfp b hb).2.2.2.2.1 x c (hZ I ok h)⟩
 bs:=I.bs
 bsz:=xAg I.ok.bsz I.sz
 noex:=λ b o e hb=>by
  rcases (hfp b hb).2.2.2.1 with z | z
  ·exact I.ok.noex b o e z
  ·exact absurd (xAc (xAa e) (xAg I.ok.bsz z)) (yAl _)
 exfs:=λ b hb=>xX I hfp b hb
 funs:=I.stack
 frf:=I.stkFree
end
noncomputable def clr{α:Type}(is:List Nat)(l:List (Option α)):List (Option α):=is.foldl (λ e i=>e.set i qj) l
theorem mT{α:Type}:∀ (is:List Nat) (l:List (Option α)),(clr is l).length=l.length
 | [],_=>rfl
 | i::is,l=>by
   show(clr is (l.set i qj)).length=_;rw[mT is,yAq]
theorem nF{α:Type}:∀ (is:List Nat) (l:List (Option α)) (j:Nat) (v:α),(clr is l)[j]? = qq (qq v)->l[j]? = qq (qq v)/\j ∉ is
 | [],_,_,_,h=>⟨h,by simp⟩
 | i::is,l,j,v,h=>by
   obtain⟨h1,h2⟩:=nF is (l.set i qj) j v h
   by_cases hj:i=j
   ·subst hj;rcases yDt i l.length with q | q
    ·rw[yAp q] at h1;cases h1
    ·rw[yBu (by rw[yAq];exact q)] at h1;cases h1
   ·rw[yAk hj] at h1;exact⟨h1,λ z=>(List.mem_cons.mp z).elim (λ e=>hj e.symm) h2⟩
theorem wJ{α:Type}:∀ (is:List Nat) (l:List (Option α)) (j:Nat),j ∉ is->(clr is l)[j]? = l[j]?
 | [],_,_,_=>rfl
 | i::is,l,j,h=>by
   show(clr is (l.set i qj))[j]? = _;rw[wJ is _ j (λ z=>h (xAf _ z)),yAk (λ z=>h (by rw[z];exact xAd))]
noncomputable def Tg.slots:Tg->List Nat
 | .one i=>[i]
 | .many is=>is
theorem EnvR.clr{K:FrG}{F:Hp}{L:List qv}{env:aM}{σ:St}(h:EnvR K F L env σ)(is:List Nat):EnvR K F L (EV.clr is env) (EV.clr is σ):=
 ⟨by rw[mT,mT];exact h.len,λ j w e=>by
  obtain⟨e1,hj⟩:=nF is env j w e;obtain⟨v,e2,d⟩:=h.get j w e1;exact⟨v,by rw[wJ is σ j hj];exact e2,d⟩⟩
theorem qD:∀ {is:List Nat}{ds:List D}{env aE:aM}{j:Nat},fS is ds env=qq aE->j ∉ is->aE[j]? = env[j]?
 | [],[],_,_,_,e,_=>by cases e;rfl
 | i::is,d::ds,env,aE,j,e,h=>by
   rw[qD (is:=is) (ds:=ds) e (λ z=>h (xAf _ z)),yAk (λ z=>h (by rw[z];exact xAd))]
 | [],_::_,_,_,_,e,_=>by cases e
 | _::_,[],_,_,_,e,_=>by cases e
theorem Tg.put_keep{t:Tg}{d:D}{env aE:aM}{j:Nat}(e:t.put d env=qq aE)(h:j ∉ t.slots):aE[j]? = env[j]?:=by
 cases t with
 | one i=>cases e;exact yAk (λ z=>h (by rw[z];exact xAd))
 | many is =>
   cases d with
   | tuple ds=>exact qD e h
   | list ds=>exact qD e h
   | _=>cases e
theorem pY:∀ {is:List Nat}{ds:List D}{env aE:aM},fS is ds env=qq aE->aE.length=env.length
 | [],[],_,_,e=>by cases e;rfl
 | i::is,d::ds,env,aE,e=>by rw[pY (is:=is) (ds:=ds) e,yAq]
 | [],_::_,_,_,e=>by cases e
 | _::_,[],_,_,e=>by cases e
theorem Tg.put_length{t:Tg}{d:D}{env aE:aM}(e:t.put d env=qq aE):aE.length=env.length:=by
 cases t with
 | one i=>cases e;exact yAq
 | many is =>
   cases d with
   | tuple ds=>exact pY e
   | list ds=>exact pY e
   | _=>cases e
theorem EnvR.back{K:FrG}{F:Hp}{L:List qv}{env aE:aM}{σ:St}{t:Tg}{d:D}(e:t.put d (EV.clr t.slots env)=qq aE)(h:EnvR K F L aE σ):EnvR K F L (EV.clr t.slots env) σ:=
 ⟨by rw[<- h.len,Tg.put_length e],λ j w q=>by
  obtain⟨_,hj⟩:=nF t.slots env j w q;exact h.get j w (by rw[Tg.put_keep e hj];exact q)⟩
noncomputable def eE(t:Tg)(fc:FT)(fe:FE)(n:Nat)(env:aM):List D->aB->Option aB
 | [],S=>qq S
 | d::ds,S=>(t.put d env).bind λ e1=>(fc e1 S).bind λ c=>if c.1=true then (fe e1 c.2).bind λ p=>(bW p.2 (.loc n) p.1).bind λ r=>eE t fc fe n env ds r.2 else eE t fc fe n env ds c.2
noncomputable def eV(t:Tg)(fi:FL)(fc:FT)(fe:FE):FL:=λ env S=>(fi env S).bind λ p=>(eE t fc fe p.2.length (clr t.slots env) p.1 (p.2++[qq []])).bind λ S'=>match S'[p.2.length]? with
 | some (qq zs)=>qq (zs,S'.take p.2.length)
 | _=>qj
def fQ(Y:Cx)(ifs:List qw)(fc:FT):Prop:=∀ (aA:List (qv×Obj)) (s:qx) (σ:St) (H:Hp) (Q:Bool->Hp->Prop),Inv Y aA σ H s->cJ Y.K fc σ H Q ->
 qu (model Y.prog Y.w) Y.A (forIn ifs true λ c r=>if r=true then do let ok <- isTrue c Y.env (eval c Y.env);pure (ForInStep.yield ok) else pure (ForInStep.yield r)) (TP Y aA σ Q) Y.xe s
noncomputable def lV:FT:=λ _ S=>qq (true,S)
theorem vH{Y:Cx}:fQ Y [] lV:=λ aA s σ H Q I aF=>by
 obtain⟨F,L,S,env,b,S',R,E,e,q⟩:=aF;cases e;exact wpAny_tests_nil ⟨H,I,q F L H Gr.refl R⟩
theorem vC{Y:Cx}{c:qw}{fc:FT}(h:PT Y c (cJ Y.K fc)):fQ Y [c] fc:=λ aA s σ H Q I q=>wpAny_tests_one (h aA s σ H Q I q)
def rY(N:List Str)(scope:zv)(is:List Nat):Prop:=∀ (i:Nat) (x:Str),N[i]? = qq x->scope.names.lookup x=qq .local->i∈is
section
variable {X : Cx}{scope : zv}{tg iter elt : qw}{ifs : List qw}{pos : Pos}{t : Tg}{g : TG}{fi : FL}{fc : FT}{fe : FE}
theorem vF(use:Option (qz->Sem Unit))(hc:X.calm=true)(ok:ScOk scope X.env.scope)(own:rY X.N scope t.slots)(hi:PI X tg iter (eK X.K fi))(hg:∀ Y,eD X scope Y->PG Y tg g)(ga:GA X.K t g)
 (ht:∀ Y,eD X scope Y->fQ Y ifs fc) (he:∀ Y,eD X scope Y->PE Y elt (aK X.K fe)) (hs:∀ x,xq iter X.env x=pure x)
 {aA:List (qv×Obj)}{s:qx}{σ:St}{H:Hp}{Q:VK}{QQ:qz->qx->Prop}{pp:Pos} (I:Inv X aA σ H s) (h:eP X.K (eV t fi fc fe) σ H Q)
 (hend:∀ (p C:qv) (s1:qx) (H':Hp),cW X aA H' C->(∃ m,s1.heap.Ns C m)->(∀ h',yCj C s1.heap h'->Inv X aA σ H' {s1 with heap:=h' })->Q (.ref p) H' ->
   compPost (model X.prog X.w) X.A X.xe use QQ (.ref p) C (.ok .next) s1) :
 qu (model X.prog X.w) X.A (comprehension (.ListComp elt [⟨tg,iter,ifs,0⟩] scope pos) scope X.env pp (newList []) false (eval iter X.env) use) QQ X.xe s:=by
 obtain⟨F,L,S,env,zs,S',R,E,e,q⟩:=h;obtain⟨⟨ds,S1⟩,e1,e⟩:=bind_some e;obtain⟨S2,e2,e⟩:=bind_some e;dsimp only at e e2;have hz:S2[S1.length]? = qq (qq zs)/\S'=S2.take S1.length:=by
  split at e
  ·rename_i z ez;cases e;exact⟨ez,rfl⟩
  ·cases e
 obtain⟨hz,rfl⟩:=hz;refine wpAny_comprehension_free (use:=use) rfl hs (aBz (vL I ok)) ok.kind ok.loc ?_;refine aQ (hi aA s σ H (λ J H'=>∃ F' L',Gr F L F' L'/\Rel X.K F' L' S1 H'/\Wk X.K F' L' J ds) I ⟨F,L,S,env,ds,S1,R,E,e1,λ F' L' H' J g R' wk=>⟨F',L',g,R',wk⟩⟩) λ v s1 h1=>aQ h1 λ itv s2 h2=>?_
 obtain⟨it,fp,tn,J,H2,rfl,I2,T,st2,f2,F1,L1,g1,R1,wk⟩:=h2;refine jv (wpAny_newFunctionEnv ok.nocell (by intro y hy;simp at hy) (λ h₁ hns₁ hsb₁=>?_) ok.kind)
 dsimp only at hns₁ hsb₁ ⊢;have I3:Inv X aA σ (aS H2 s2.heap.objs.size (.lst [])) {s2 with heap:=s2.heap.push {cls:=.type "list",dict:=qj,data:=.seq ([]:List qz).toArray } }:=I2.lnew (aC:=[]) (t':=s2.toks) .nil (Nat.zero_le _)
 generalize hs3:({s2 with heap:=s2.heap.push {cls:=.type "list",dict:=qj,data:=.seq ([]:List qz).toArray } }:qx)=s3 at I3
 have hh3:s2.heap.push {cls:=.type "list",dict:=qj,data:=.seq ([]:List qz).toArray }=s3.heap:=by rw[<- hs3]
 generalize hD:s2.heap.objs.size=Dd at I3;generalize hH3:aS H2 Dd (.lst [])=H3 at I3;have hfr2:H2 Dd=qj:=by rw[<- hD];exact I2.fresh
 rw[hh3] at hns₁ hsb₁;rw[hh3];have dX:({heap:=h₁,gens:=s2.gens,drawn:=s2.drawn,toks:=s2.toks+([]:List (Str×qz)).length,os:=s2.os }:qx)={s3 with heap:=h₁,toks:=s3.toks+([]:List (Str×qz)).length }:=by rw[<- hs3]
 rw[dX];clear dX;generalize hC:s3.heap.objs.size=C at hns₁ hsb₁;have old:∀ b u,s3.heap.get? b=qq u->h₁.get? b=qq u:=λ b u q=>by
  have hb:b≠C:=by rw[<- hC];exact xAh (xAa q)
  exact hsb₁.extBut b u hb (hpS _ q)
 have lt2:∀ b∈fp,b<s2.heap.objs.size:=λ b hb=>by
  obtain⟨o,eo,_⟩:=T.obj 0 _ st2 b hb;exact xAa eo
 have up23:∀ b u,s2.heap.get? b=qq u->s3.heap.get? b=qq u:=λ b u q=>by rw[<- hh3];exact hpS _ q
 have lt3:∀ b∈fp,b<s3.heap.objs.size:=λ b hb=>by
  obtain⟨o,eo,_⟩:=T.obj 0 _ st2 b hb;exact xAa (up23 b o eo)
 have f3:∀ b∈fp,cW X aA H3 b:=λ b hb=>by
  refine⟨?_,(f2 b hb).2⟩;have ne:b≠Dd:=by rw[<- hD];exact xAh (lt2 b hb)
  rw[<- hH3,aT ne];exact(f2 b hb).1
 have okY:(eR X aA fp scope C s3 H3).Ok:=aC0 I3 ok f3 lt3 (by rw[hC];exact yAc _)
 have hIC:eD X scope (eR X aA fp scope C s3 H3):=⟨aA,fp,C,s3,H3,rfl⟩;generalize hY:eR X aA fp scope C s3 H3=Y at okY hIC;have yE:Y.env=compEnvC scope (lS scope X.env) C X.env:=by rw[<- hY];rfl
 have I4:Inv Y [] (clr t.slots σ) H3 {s3 with heap:=h₁,toks:=s3.toks+([]:List (Str×qz)).length }:=by
  rw[<- hY] at okY ⊢;refine⟨okY,rfl,I3.bare,Un.kept old,⟨_,hns₁,λ i x v a1 a2 a3=>?_⟩,λ x c a=>?_,?_,λ x c a=>I3.freeC x c (hZ I3 ok a),λ p hp=>?_,I3.hok.kept old,by rw[mT];exact I3.len⟩
  ·obtain⟨a4,a5⟩:=nF t.slots σ i v a2;have nl:scope.names.lookup x≠qq .local:=λ z=>a5 (own i x a1 z)
   have gT:(eR X aA fp scope C s3 H3).env.kindOf x=qq .cell\/(eR X aA fp scope C s3 H3).env.kindOf x=qq .free:=by
    rcases a3 with z | z | z
    ·exfalso;have z':(eR X aA fp scope C s3 H3).env.kindOf x=qq .local:=z;rw[vM] at z';cases ek:scope.names.lookup x with
     | none=>rw[ek] at z';cases z'
     | some k =>
       rw[ek] at z';cases k with
       | «local» => exact nl ek
       | free =>
         simp only[Option.map_some,Option.some.injEq] at z'
         split at z'<;>cases z'
       | cell=>exact ok.nocell (x,.cell) (mem_of_lookup ek) rfl
       | globalExplicit=>simp at z'
       | globalImplicit=>simp at z'
    ·exact .inl z
    ·exact .inr z
   have fr:=vB ok gT;have ov:=ok.free (x,.free) (mem_of_lookup fr) rfl;obtain⟨m,hm,hl⟩:=I3.loc;obtain⟨u,ru,lk⟩:=hl i x v a1 a4 (ov.elim (λ z=>.inr (.inl z)) λ z=>.inr (.inr z))
   refine⟨u,ru,.inr ⟨gT,?_⟩⟩;obtain⟨c,hcl⟩:=rL (env:=X.env) scope.names [] x (.inl ⟨.free,mem_of_lookup fr,rfl⟩);have hc2:=hZ I3 ok hcl;rcases lk with ⟨z,_⟩ | ⟨_,c',e',o',ho',hd'⟩
   ·exfalso;have z':X.env.scope.names.lookup x=qq .local:=z;rcases ov with w | w
    ·rw[w] at z';cases z'
    ·rw[w] at z';cases z'
   ·rw[hc2] at e';cases e';exact⟨c,hcl,o',old _ _ ho',hd'⟩
  ·obtain⟨v,o,ho,hd⟩:=I3.cell x c (hZ I3 ok a);exact⟨v,o,old _ _ ho,hd⟩
  ·show H3 C=qj;rw[<- hC];exact I3.fresh
  ·have hp':p∈X.pn++aA:=by
    have:p∈(X.pn++aA)++[]:=hp;rwa [yAs] at this
   obtain⟨b1,b2,b3,b4,b5⟩:=I3.pin p hp';refine⟨old _ _ b1,b2,?_,λ z=>?_,b5⟩
   ·show p.1≠C;rw[<- hC];exact xAh (xAa b1)
   ·rcases List.mem_cons.mp (I3.stkSub p.1 z) with w | w
    ·exact b3 w
    ·exact b4 w
 have fpY:∀ {H':Hp},(∀ b∈fp,H' b=qj)->∀ b∈fp,cW Y [] H' b:=λ hn b hb=>by
  rw[<- hY];refine⟨hn b hb,?_,xX I3 f3 b hb,.inl hb,λ x c a=>(f3 b hb).2.2.2.2.1 x c (hZ I3 ok a),λ p hp=>?_⟩
  ·show b≠C;rw[<- hC];exact xAh (lt3 b hb)
  ·have hp':p∈X.pn++aA:=by
    have:p∈(X.pn++aA)++[]:=hp;rwa [yAs] at this
   exact(f3 b hb).2.2.2.2.2 p hp'
 have yA:Y.A=X.A:=by rw[<- hY];rfl
 have yP:Y.prog=X.prog:=by rw[<- hY];rfl
 have yW:Y.w=X.w:=by rw[<- hY];rfl
 have yK:Y.K=X.K:=by rw[<- hY];rfl
 have yC:Y.calm=true:=by rw[<- hY];exact hc
 have yX:Y.xe=λ _ _=>False:=by rw[<- hY];rfl
 have R3:Rel X.K F1 (L1++[Dd]) (S1++[qq []]) H3:=by rw[<- hH3];exact R1.newLoc hfr2 .nil
 obtain⟨PP,hPP⟩:∃ PP:Result->qx->Prop,PP=compPost (model X.prog X.w) X.A X.xe use QQ (.ref Dd) C:=⟨_,rfl⟩;have bO:∀ (s1:qx) (σ':L2.St) (H' F':Hp) (L':List qv),Inv Y [] σ' H' s1->Gr F1 (L1++[Dd]) F' L'->Rel X.K F' L' S2 H'->PP (.ok .next) s1:=by
  intro s1 σ' H' F' L' J' gg RR;rw[hPP];rw[<- hY] at J';obtain⟨m,hmC,_⟩:=J'.loc;have hCn:H' C=qj:=J'.free;have hfC:cW X aA H' C:=I3.fpOk (by rw[hC];exact yAc _) hCn
  obtain⟨sf,M,rfl⟩:=gg;have bL:L1.length=S1.length:=R1.len;have eL:((L1++[Dd])++M)[S1.length]? = qq Dd:=by
   rw[yBn,yAa (by rw[bL];exact yAc _),bL,yBj];rfl
  obtain⟨hF,xs,hx,dl⟩:=RR.loc S1.length Dd zs eL hz;have RR2:Rel X.K F' (L1++([Dd]++M)) S2 H':=by rw[<- yBn];exact RR
  have Rc:=RR2.cut;rw[bL] at Rc;have hnd:Dd ∉ L1:=λ z=>by
   have nd:=RR2.nd;rw[yDp] at nd;exact nd.2.2 Dd z Dd (by simp) rfl
  refine hend Dd C s1 H' hfC ⟨m,hmC⟩ (λ h' sb=>?_) (q F' L1 H' Dd xs (g1.trans ⟨sf,[],by simp⟩) Rc hF hnd hx dl)
  have neC:∀ b u,s3.heap.get? b=qq u->b≠C:=λ b u z=>by rw[<- hC];exact xAh (xAa z)
  have kp:∀ b u,b≠C->s1.heap.get? b=qq u->h'.get? b=qq u:=λ b u z w=>sb.extBut b u z w
  have bU:Un (bT X.stack) fp H3 H' s3.heap s1.heap:=J'.base;have u:Un (bT X.stack) fp H3 H' s3.heap h':=
   ⟨λ b o z n hb hx=>kp b o (neC b o z) (bU.keep b o z n hb hx),λ b o z n hb hx=>by obtain⟨sl,w⟩:=bU.slot b o z n hb hx;exact⟨sl,kp b _ (neC b o z) w⟩,bU.free,
    λ b o z hx=>by obtain⟨o',w⟩:=bU.there b o z hx;exact⟨o',kp b _ (neC b o z) w⟩,bU.tups,bU.frzs,bU.tbls⟩
  have hokY:bN X.prog X.w H' s1.heap:=J'.hok;have hok':bN X.prog X.w H' h':=λ b o z=>(hokY b o z).stay (λ c v hc2 w=>kp c v (λ zz=>by
   rcases hc2 with w2 | w2
   ·rw[w2] at zz;rw[zz,hCn] at z;cases z
   ·rw[zz,hCn] at w2;cases w2) w) (λ _ w=>w) λ _ _ w=>w
  have os1:s1.os=s3.os:=J'.os;exact I3.call' (s':={s1 with heap:=h' }) os1 u hok' J'.bare λ b hb=>⟨(f3 b hb).2.2.2.1,(f3 b hb).2.1,(f3 b hb).2.2.2.2.1,(f3 b hb).2.2.2.2.2⟩
 have loop:∀ s5:qx,Inv Y [] (clr t.slots σ) H3 s5->tn 0 s5.heap ->
  vz (model X.prog X.w) X.A (.compLoop (.ListComp elt [⟨tg,iter,ifs,0⟩] scope pos) 0 (.ref it) (.ref Dd) Y.env) PP s5:=by
  intro s5 I5 st5;have E0:EnvR X.K F1 (L1++[Dd]) (clr t.slots env) (clr t.slots σ):=(E.mono (g1.trans Gr.newLoc)).clr t.slots;obtain⟨Iv,hIv⟩:∃ Iv:Nat->qx->Prop,∀ n s',Iv n s' ↔ (∃ i σ' H' F' L' S',Inv Y [] σ' H' s'/\tn i s'.heap/\(∀ b∈fp,H' b=qj)/\Gr F1 (L1++[Dd]) F' L'/\Rel X.K F' L' S' H'/\EnvR X.K F' L' (clr t.slots env) σ'/\i+n=ds.length /\
   eE t fc fe S1.length (clr t.slots env) (ds.drop i) S'=qq S2):=⟨_,λ _ _=>Iff.rfl⟩
  refine aBo Iv ?_ ds.length ((hIv _ _).mpr ⟨0,clr t.slots σ,H3,F1,L1++[Dd],S1++[qq []],I5,st5,λ b hb=>(f3 b hb).1,Gr.refl,R3,E0,yDk _,by rw[yDn];exact e2⟩)
  intro n s6 h6;obtain⟨i,σ6,H6,F6,L6,S6,I6,st6,fr6,g6,R6,E6,hin,ec⟩:=(hIv _ _).mp h6;clear h6;have g16:Gr F1 L1 F6 L6:=Gr.newLoc.trans g6;have toA:∀ {α:Type}{tt:Sem α}{QQ:α->qx->Prop}{EE:qz->qx->Prop}{ss:qx},qu (model X.prog X.w) Y.A tt QQ EE ss->qu (model X.prog X.w) X.A tt QQ EE ss:=λ hh=>by rw[yA] at hh;exact hh
  cases n with
  | zero =>
    have hi':i=ds.length:=by omega
    subst hi';rw[yCf] at ec;cases ec;refine aQ (toA (T.done Y yP yW yK yC ds.length [] s6 σ6 H6 _ I6 (fpY fr6) st6 (wk.stop H6 (g16.f.trans R6.sub)))) λ r s7 hPq22=>?_
    obtain⟨hr,I7⟩:=hPq22;subst hr;exact bO s7 σ6 H6 F6 L6 I7 g6 R6
  | succ n =>
    have hi':i<ds.length:=by omega
    refine aQ (toA (T.item Y yP yW yK yC i [] s6 σ6 H6 _ I6 (fpY fr6) st6 (wk.go i H6 (g16.f.trans R6.sub) hi'))) λ r s7 hPq23=>?_
    obtain⟨u,hr,h7⟩:=hPq23;subst hr;refine aQ (toA h7) λ _ s8 hPq24=>?_
    obtain⟨x,H8,I8,r8,y8,st8,fr8⟩:=hPq24;obtain⟨F8,sf8,R8,d8⟩:=wk.yld i H6 F6 L6 S6 x H8 ds[i] g16 R6 (yAi hi') y8;have g8:Gr F6 L6 F8 L6:=⟨sf8,[],by simp⟩
    rw[yBa hi'] at ec;obtain⟨env9,ep,ec⟩:=bind_some ec;obtain⟨⟨cb,S9⟩,et,ec⟩:=bind_some ec;have I8':=I8.pinned (fpY fr8) (T.obj _ _ st8);have toF:∀ {α:Type}{tt:Sem α}{QQ:α->qx->Prop}{ss:qx},qu (model Y.prog Y.w) Y.A tt QQ Y.xe ss->qu (model X.prog X.w) X.A tt QQ (λ _ _=>False) ss:=λ hh=>by rw[yX,yP,yW,yA] at hh;exact hh
    refine toF (aQ (hg Y hIC _ s8 σ6 H8 x u (λ σ' H'=>H'=H8/\EnvR X.K F8 L6 env9 σ') I8' r8 (ga ds[i] x σ6 H8 F8 L6 S6 (clr t.slots env) env9 _ R8 (E6.mono g8) d8 ep λ σ' E'=>⟨rfl,E'⟩)) λ _ s9 hPq25=>?_)
    obtain⟨σ9,H9,I9,hH9,E9⟩:=hPq25;subst hH9;refine toF (aQ (ht Y hIC _ s9 σ9 H9 (λ b H'=>∃ F' L',Gr F8 L6 F' L'/\Rel X.K F' L' S9 H'/\b=cb) I9 (by rw[yK];exact⟨F8,L6,S6,env9,cb,S9,R8,E9,et,λ F' L' H' g' R'=>⟨F',L',g',R',rfl⟩⟩)) λ ok2 s10 hPq26=>?_)
    obtain⟨H10,I10,F10,L10,g10,R10,hb10⟩:=hPq26;subst hb10;dsimp only at ec;have again:∀ {σ7:L2.St}{H7 F7:Hp}{L7:List qv}{S7:aB}{s7':qx},Inv Y ([]++kI fp s8.heap) σ7 H7 s7'->Gr F8 L6 F7 L7->Rel X.K F7 L7 S7 H7->EnvR X.K F7 L7 env9 σ7->eE t fc fe S1.length (clr t.slots env) (ds.drop (i+1)) S7=qq S2 ->
     ∃ m,m<n+1/\Iv m s7':=by
     intro σ7 H7 F7 L7 S7 s7' I7 g7 R7 E7 ec7;refine⟨n,yCc n,(hIv _ _).mpr ⟨i+1,σ7,H7,F7,L7,S7,I7.unpinned,T.keep _ _ _ st8 λ b hb o eo=>(I7.pin (b,o) (xAl _ (xAl _ (jQ hb eo)))).1,λ b hb=>?_,(g6.trans g8).trans g7,R7,EnvR.back ep E7,by omega,ec7⟩⟩
     obtain⟨o,eo,_⟩:=T.obj _ _ st8 b hb;exact(I7.pin (b,o) (xAl _ (xAl _ (jQ hb eo)))).2.1
    cases ok2 with
    | false =>
      rw[if_neg (by simp)] at ec
      rw[if_neg (by simp)]
      exact again I10 g10 R10 (E9.mono g10) ec
    | true =>
      rw[if_pos rfl] at ec;rw[if_pos rfl];obtain⟨⟨wv,S11⟩,ee,ec⟩:=bind_some ec;obtain⟨⟨wn,S12⟩,ea,ec⟩:=bind_some ec;obtain⟨n',dv,zs',hn',hw',es',hlt,hwn,rfl⟩:=vI ea;cases hn';subst hw';refine toF (aQ (he Y hIC _ s10 σ9 H10 (λ v H'=>∃ F' L',Gr F10 L10 F' L'/\Rel X.K F' L' S11 H'/\Den X.K F' dv v) I10 ⟨F10,L10,S9,env9,_,S11,R10,E9.mono g10,ee,λ F' L' H' v g' R' d'=>⟨F',L',g',R',d'⟩⟩) λ xv s11 hPq27=>?_)
      obtain⟨v11,H11,I11,r11,F11,L11,g11,R11,d11⟩:=hPq27;have gA:Gr F1 (L1++[Dd]) F11 L11:=((g6.trans g8).trans g10).trans g11;have eL:L11[S1.length]? = qq Dd:=gA.get (by rw[yAa (by rw[R1.len];exact yAc _),R1.len,yBj];rfl)
      obtain⟨hF,xs,hx,dl⟩:=R11.loc S1.length Dd zs' eL es';refine toF (aQ (qK (X:=Y) _ s11 σ9 H11 (.ref Dd) [v11] (.ref Dd) [xv] (λ _ H'=>Rel X.K F11 L11 (S11.set S1.length (qq (zs'++[dv]))) H') I11 rfl (.cons r11 .nil) ⟨Dd,xs,v11,rfl,rfl,hx,by rw[<- dl.length];exact hlt,R11.put eL hF (dl.append (.cons d11 .nil))⟩) λ _ s12 hPq28=>?_)
      obtain⟨_,H12,I12,_,R12⟩:=hPq28;exact again I12 (g10.trans g11) R12 (E9.mono (g10.trans g11)) ec
 rw[yE,hPP] at loop;have st4:tn 0 h₁:=T.keep 0 _ _ st2 λ b _ o eo=>old b o (up23 b o eo)
 exact codeAny_compStart_list (loop _ I4 st4) (T.self X.A 0 _ _ _ st4 (loop _ I4 st4))
theorem yT(hc:X.calm=true)(ok:ScOk scope X.env.scope)(own:rY X.N scope t.slots)(hi:PI X tg iter (eK X.K fi))(hg:∀ Y,eD X scope Y->PG Y tg g)(ga:GA X.K t g)
 (ht:∀ Y,eD X scope Y->fQ Y ifs fc) (he:∀ Y,eD X scope Y->PE Y elt (aK X.K fe)) (hs:∀ x,xq iter X.env x=pure x) :
 PE X (.ListComp elt [⟨tg,iter,ifs,0⟩] scope pos) (eP X.K (eV t fi fc fe)):=λ aA s σ H Q I h=>by
 rw[eval_ListComp];exact vF qj hc ok own hi hg ga ht he hs I h λ p C s1 H' _ hm hI q=>hm.elim λ m hm=>⟨m,hm,λ h' sb=>⟨.ref p,H',hI h' sb,rfl,q⟩⟩
theorem aB7{i:Nat}{x:Str}{pos' spos:Pos}{fa:FE}(hN:X.N.Nodup)(hx1:X.N[i]? = qq x)(hx2:L2.Loc X.env.scope x)(hf:X.fn x=true\/X.env.scope.names.lookup x=qq .local)
 (hc:X.calm=true) (ok:ScOk scope X.env.scope) (own:rY X.N scope t.slots) (hi:PI X tg iter (eK X.K fi)) (hg:∀ Y,eD X scope Y->PG Y tg g) (ga:GA X.K t g)
 (ht:∀ Y,eD X scope Y->fQ Y ifs fc) (he:∀ Y,eD X scope Y->PE Y elt (aK X.K fe)) (hs:∀ x,xq iter X.env x=pure x)
 (hw:∀ σ H Q,aK X.K fa σ H Q->eP X.K (eV t fi fc fe) σ H Q) :
 PS X (.Assign [.Name x pos'] (.ListComp elt [⟨tg,iter,ifs,0⟩] scope pos) spos) (bM X.K (cS i fa)):=by
 have hb:∃ b,swapsWith (.ListComp elt [⟨tg,iter,ifs,0⟩] scope pos) (qq (.Name x pos')) spos.line X.env=pure b:=⟨_,rfl⟩;obtain⟨b,hb⟩:=hb;cases b with
 | false=>exact rP hN hx1 hx2 (PE.weak (yT hc ok own hi hg ga ht he hs) hw) hb hf
 | true =>
   intro aA s σ H DD I h;have h2:=zT DD σ H h;rw[exec_Assign_Name_used _ _ _ _ hb];refine wB (wu (wB ?_));show qu _ X.A (do let _ <- comprehension (.ListComp elt [⟨tg,iter,ifs,0⟩] scope pos) scope X.env _ (newList []) false (eval iter X.env) (qq (assign (.Name x pos') X.env))) _ _ s
   refine wB (aQ (vF (QQ:=λ _ s'=>SP X aA DD .next s') (qq (assign (.Name x pos') X.env)) hc ok own hi hg ga ht he hs I (hw _ _ _ h2) λ p C s1 H' hC hm hI q=>?_) λ _ s' hq=>wP (wP hq))
   obtain⟨m,hm⟩:=hm;have I1:Inv X aA σ H' s1:=hI s1.heap (Heap.SameBut.refl _ _);obtain⟨o,es,ep,ho,hd,r⟩:=hm;have I2:=I1.pinned (fp:=[C]) (λ b hb=>by rw[List.mem_singleton.mp hb];exact hC) λ b hb=>by rw[List.mem_singleton.mp hb];exact⟨o,ho,λ v z=>by rw[hd] at z;cases z⟩
   refine aQ (rA (pos:=pos') hN hx1 hx2 hf _ s1 σ H' (.ref p) (.ref p) _ I2 rfl q) λ _ s2 hPq29=>?_
   obtain⟨σ2,H2,I3,q3⟩:=hPq29;obtain⟨b1,b2,_⟩:=I3.pin (C,o) (xAl _ (xAl _ (jQ (by simp) ho)))
   refine⟨m,⟨o,es,ep,b1,hd,r⟩,λ h' sb=>⟨σ2,H2,?_,q3⟩⟩
   exact I3.unpinned.turned (t':=s2.toks) (λ b o hb e=>sb.extBut b o hb e) b2 hC.2.1 hC.2.2.2.1 hC.2.2.2.2.1 hC.2.2.2.2.2
end
noncomputable def iC:List D->Option (List Int)
 | []=>qq []
 | .int i::r=>(iC r).bind λ l=>qq (i::l)
 | _::_=>qj
noncomputable def hV:List D->Option (List Bool)
 | []=>qq []
 | .bool i::r=>(hV r).bind λ l=>qq (i::l)
 | _::_=>qj
noncomputable def lM:List D->Option D
 | [.list xs]=>qq (.int xs.length)
 | [.tuple xs]=>qq (.int xs.length)
 | [.str z]=>if z.length<=qk then qq (.int z.length) else qj
 | _=>qj
noncomputable def sP:List D->Option D
 | [.int i,.int j]=>qq (.int (if j>i then j else i))
 | [.int i,.int j,.int k]=>qq (.int (if j>i then (if k>j then k else j) else (if k>i then k else i)))
 | [.list xs]=>match iC xs with
   | some (i::r)=>qq (.int (r.foldl max i))
   | _=>qj
 | _=>qj
noncomputable def sM:List D->Option D
 | [.int i,.int j]=>qq (.int (if j<i then j else i))
 | [.list xs]=>match iC xs with
   | some (i::r)=>qq (.int (r.foldl min i))
   | _=>qj
 | _=>qj
noncomputable def lR:List D->Option D
 | [.int i]=>qq (.int i)
 | [.bool k]=>qq (.int (if k then 1 else 0))
 | _=>qj
noncomputable def sZ:List D->Option D
 | [.int i]=>qq (.int (if i<0 then -i else i))
 | _=>qj
noncomputable def kM:List D->Option D
 | [.list xs]=>qq (.tuple xs)
 | [.tuple xs]=>qq (.tuple xs)
 | _=>qj
noncomputable def lK:List D->Option D
 | [.list xs]=>(iC xs).bind λ l=>qq (.int l.sum)
 | _=>qj
noncomputable def pE:List D->Option D
 | [.list xs]=>(hV xs).bind λ l=>qq (.bool (l.all id))
 | _=>qj
noncomputable def sS:List D->Option D
 | [.list xs]=>(hV xs).bind λ l=>qq (.bool (l.any id))
 | _=>qj
section
variable {X : Cx}
theorem dE{F H:Hp}{d:D}{xs:List V}(h:NowL X.K F H [d] xs):∃ x,xs=[x]/\aU X.K F H d x:=by
 cases h with
 | cons a b=>cases b;exact⟨_,rfl,a⟩
theorem aAM{F H:Hp}{d e:D}{xs:List V}(h:NowL X.K F H [d,e] xs):∃ x y,xs=[x,y]/\aU X.K F H d x/\aU X.K F H e y:=by
 cases h with
 | cons a b =>
   cases b with
   | cons c d=>cases d;exact⟨_,_,rfl,a,c⟩
theorem aG2{F H:Hp}{d e f:D}{xs:List V}(h:NowL X.K F H [d,e,f] xs):∃ x y z,xs=[x,y,z]/\aU X.K F H d x/\aU X.K F H e y/\aU X.K F H f z:=by
 cases h with
 | cons a b=>cases b with
   | cons c d=>cases d with
     | cons e f=>cases f;exact⟨_,_,_,rfl,a,c,e⟩
theorem aF4{x y z:V}{us:List qz}(r:aH [x,y,z] us):∃ u v w',us=[u,v,w']/\aI x u/\aI y v/\aI z w':=by
 cases r with
 | cons r1 r2=>cases r2 with
   | cons r3 r4=>cases r4 with
     | cons r5 r6=>cases r6;exact⟨_,_,_,rfl,r1,r3,r5⟩
theorem aBS(hc:X.calm=true):bK X (.builtin "max") (λ xs H Q=>∃ i j k,xs=[.int i,.int j,.int k]/\Q (.int (if j>i then (if k>j then k else j) else (if k>i then k else i))) H):=by
 intro aA s σ H xs us Q I r h;obtain⟨i,j,k,rfl,q⟩:=h;obtain⟨u,v,w',rfl,⟨t,rfl⟩,⟨t',rfl⟩,⟨t2,rfl⟩⟩:=aF4 r;refine max_three_ints (I.ok.hd hc) λ h' tk kk=>⟨_,H,I.kept kk,?_,q⟩
 by_cases h1:j>i<;>by_cases h2:k>j<;>by_cases h3:k>i<;>simp only[h1,h2,h3,if_true,if_false]<;>exact⟨_,rfl⟩
theorem mU{K:FrG}{F:Hp}:∀ {ds:List D}{xs:List V}{ns:List Int},DenL K F ds xs->iC ds=qq ns->xs=ns.map V.int
 | _,_,_,.nil,e=>by cases e;rfl
 | .int i::r,_,_,.cons h t,e=>by
   obtain⟨l,e1,e2⟩:=bind_some e;cases e2;cases h;rw[yAj,mU t e1]
 | .none::_,_,_,.cons _ _,e=>by cases e
 | .bool _::_,_,_,.cons _ _,e=>by cases e
 | .str _::_,_,_,.cons _ _,e=>by cases e
 | .list _::_,_,_,.cons _ _,e=>by cases e
 | .tuple _::_,_,_,.cons _ _,e=>by cases e
 | .dict _::_,_,_,.cons _ _,e=>by cases e
theorem xA:∀ (l:List Int) (i:Int),(l.foldl max i∈i::l)/\∀ a∈i::l,a<=l.foldl max i
 | [],i=>⟨List.mem_singleton.mpr rfl,λ a h=>by rw[List.mem_singleton.mp h];exact Int.le_refl _⟩
 | b::l,i=>by
   obtain⟨h1,h2⟩:=xA l (max i b);rw[yBs];refine⟨?_,λ a ha=>?_⟩
   ·rcases List.mem_cons.mp h1 with h | h
    ·rw[h];rcases Int.le_total i b with q | q
     ·rw[Int.max_eq_right q];simp
     ·rw[Int.max_eq_left q];simp
    ·simp[h]
   ·have h3:=h2 (max i b) xAd;simp only[yBd] at ha;rcases ha with rfl | rfl | ha
    ·exact yDu (Int.le_max_left _ _) h3
    ·exact yDu (Int.le_max_right _ _) h3
    ·exact h2 a (xAf _ ha)
theorem wW:∀ (l:List Int) (i:Int),(l.foldl min i∈i::l)/\∀ a∈i::l,l.foldl min i<=a
 | [],i=>⟨List.mem_singleton.mpr rfl,λ a h=>by rw[List.mem_singleton.mp h];exact Int.le_refl _⟩
 | b::l,i=>by
   obtain⟨h1,h2⟩:=wW l (min i b);rw[yBs];refine⟨?_,λ a ha=>?_⟩
   ·rcases List.mem_cons.mp h1 with h | h
    ·rw[h];rcases Int.le_total i b with q | q
     ·rw[Int.min_eq_left q];simp
     ·rw[Int.min_eq_right q];simp
    ·simp[h]
   ·have h3:=h2 (min i b) xAd;simp only[yBd] at ha;rcases ha with rfl | rfl | ha
    ·exact yDu h3 (Int.min_le_left _ _)
    ·exact yDu h3 (Int.min_le_right _ _)
    ·exact h2 a (xAf _ ha)
theorem qI:∀ {l:List Int}{us:List qz},aH (l.map V.int) us->∃ ps:List (Int×Tok),us=ps.map (λ p=>Value.int p.1 p.2)/\ps.map (·.1)=l
 | [],us,r=>by cases r;exact⟨[],rfl,rfl⟩
 | i::l,us,r=>by
   cases r with
   | cons h t =>
     obtain⟨tk,rfl⟩:=h;obtain⟨ps,rfl,rfl⟩:=qI t;exact⟨(i,tk)::ps,rfl,rfl⟩
theorem aBY(hc:X.calm=true):bK X (.builtin "max") (λ xs H Q=>∃ (a:qv) (l:List Int),xs=[.ref a]/\aX X.K H a (l.map V.int)/\0<l.length/\∀ M,M∈l->(∀ i∈l,i<=M)->Q (.int M) H):=by
 intro aA s σ H xs us Q I r h;obtain⟨a,l,rfl,sq,hl,q⟩:=h;obtain⟨u,rfl,ru⟩:=dM r;cases ru;obtain⟨aC,rv,pl,hz⟩:=I.list sq;obtain⟨ps,rfl,rfl⟩:=qI rv;have hIL:s.heap.IsList a (intItems ps.toArray):=by
  have e:intItems ps.toArray=(ps.map (λ p=>Value.int p.1 p.2)).toArray:=by simp[intItems]
  rw[e];exact pl.isList
 refine max_intList (xs:=ps.toArray) (I.ok.hd hc) hIL (by simpa using hl) λ v h' tk hv hk=>?_
 obtain⟨t,rfl⟩:=intItems_at hv;obtain⟨h1,h2⟩:=argBest_gt (numAt ps.toArray) (ps.toArray.size-1);refine⟨.int _,H,I.kept hk,⟨_,rfl⟩,q _ ?_ λ i hi=>?_⟩
 ·rw[numAt_eq];have hz':0<ps.toArray.size:=by simpa using hl
  exact getD_mem (by rw[yAe,yCh];exact yDl h1 (Nat.sub_lt hz' Nat.one_pos))
 ·obtain⟨j,hj,rfl⟩:=mem_getD hi;rw[yAe] at hj;have:=h2 j (by rw[yAd];omega)
  rw[numAt_eq (j:=j)] at this;exact this
theorem aBX(hc:X.calm=true):bK X (.builtin "min") (λ xs H Q=>∃ (a:qv) (l:List Int),xs=[.ref a]/\aX X.K H a (l.map V.int)/\0<l.length/\∀ M,M∈l->(∀ i∈l,M<=i)->Q (.int M) H):=by
 intro aA s σ H xs us Q I r h;obtain⟨a,l,rfl,sq,hl,q⟩:=h;obtain⟨u,rfl,ru⟩:=dM r;cases ru;obtain⟨aC,rv,pl,hz⟩:=I.list sq;obtain⟨ps,rfl,rfl⟩:=qI rv;have hIL:s.heap.IsList a (intItems ps.toArray):=by
  have e:intItems ps.toArray=(ps.map (λ p=>Value.int p.1 p.2)).toArray:=by simp[intItems]
  rw[e];exact pl.isList
 refine min_intList (xs:=ps.toArray) (I.ok.hd hc) hIL (by simpa using hl) λ v h' tk hv hk=>?_
 obtain⟨t,rfl⟩:=intItems_at hv;obtain⟨h1,h2⟩:=argBest_lt (numAt ps.toArray) (ps.toArray.size-1);refine⟨.int _,H,I.kept hk,⟨_,rfl⟩,q _ ?_ λ i hi=>?_⟩
 ·rw[numAt_eq];have hz':0<ps.toArray.size:=by simpa using hl
  exact getD_mem (by rw[yAe,yCh];exact yDl h1 (Nat.sub_lt hz' Nat.one_pos))
 ·obtain⟨j,hj,rfl⟩:=mem_getD hi;rw[yAe] at hj;have:=h2 j (by rw[yAd];omega)
  rw[numAt_eq (j:=j)] at this;exact this
theorem aFx:bK X (.builtin "len") (fK X lM):=λ aA s σ H xs us Q I r aF=>by
 obtain⟨F,L,S,ds,z,R,n,e,q⟩:=aF;unfold lM at e
 split at e
 ·cases e;obtain⟨x,rfl,nx⟩:=dE n;obtain⟨a,ys,rfl,sq,dl⟩:=nx.lst R.sub;exact uK aA s σ H _ us Q I r ⟨a,ys,rfl,.inl sq,by rw[<- dl.length];exact q.here R (.int _)⟩
 ·cases e;obtain⟨x,rfl,nx⟩:=dE n;obtain⟨a,ys,rfl,sq,dl⟩:=nx.tup R.sub;exact uK aA s σ H _ us Q I r ⟨a,ys,rfl,.inr sq,by rw[<- dl.length];exact q.here R (.int _)⟩
 ·split at e
  ·rename_i hz;cases e;obtain⟨x,rfl,nx⟩:=dE n;exact aBt aA s σ H _ us Q I r ⟨_,by rw[nx.str],hz,q.here R (.int _)⟩
  ·cases e
 ·cases e
theorem aGq(hc:X.calm=true):bK X (.builtin "max") (fK X sP):=λ aA s σ H xs us Q I r aF=>by
 obtain⟨F,L,S,ds,z,R,n,e,q⟩:=aF;unfold sP at e
 split at e
 ·cases e;obtain⟨x,y,rfl,nx,ny⟩:=aAM n;exact aBP hc aA s σ H _ us Q I r ⟨_,_,by rw[nx.int,ny.int],q.here R (.int _)⟩
 ·cases e;obtain⟨x,y,u,rfl,nx,ny,nu⟩:=aG2 n;exact aBS hc aA s σ H _ us Q I r ⟨_,_,_,by rw[nx.int,ny.int,nu.int],q.here R (.int _)⟩
 ·split at e
  ·rename_i xs' i r' hi;cases e;obtain⟨x,rfl,nx⟩:=dE n;obtain⟨a,ys,rfl,sq,dl⟩:=nx.lst R.sub;obtain rfl:=mU dl hi;refine aBY hc aA s σ H _ us Q I r ⟨a,i::r',rfl,sq,by simp,λ M h1 h2=>?_⟩
   have f:=xA r' i;have:M=r'.foldl max i:=Int.le_antisymm (f.2 _ h1) (h2 _ f.1);rw[this];exact q.here R (.int _)
  ·cases e
 ·cases e
theorem aGH(hc:X.calm=true):bK X (.builtin "min") (fK X sM):=λ aA s σ H xs us Q I r aF=>by
 obtain⟨F,L,S,ds,z,R,n,e,q⟩:=aF;unfold sM at e
 split at e
 ·cases e;obtain⟨x,y,rfl,nx,ny⟩:=aAM n;exact aCa hc aA s σ H _ us Q I r ⟨_,_,by rw[nx.int,ny.int],q.here R (.int _)⟩
 ·split at e
  ·rename_i xs' i r' hi;cases e;obtain⟨x,rfl,nx⟩:=dE n;obtain⟨a,ys,rfl,sq,dl⟩:=nx.lst R.sub;obtain rfl:=mU dl hi;refine aBX hc aA s σ H _ us Q I r ⟨a,i::r',rfl,sq,by simp,λ M h1 h2=>?_⟩
   have f:=wW r' i;have:M=r'.foldl min i:=Int.le_antisymm (h2 _ f.1) (f.2 _ h1);rw[this];exact q.here R (.int _)
  ·cases e
 ·cases e
theorem aGi:bK X (.type "int") (fK X lR):=λ aA s σ H xs us Q I r aF=>by
 obtain⟨F,L,S,ds,z,R,n,e,q⟩:=aF;unfold lR at e
 split at e
 ·cases e;obtain⟨x,rfl,nx⟩:=dE n;exact vQ aA s σ H _ us Q I r (.inl ⟨_,by rw[nx.int],q.here R (.int _)⟩)
 ·cases e;obtain⟨x,rfl,nx⟩:=dE n;exact vQ aA s σ H _ us Q I r (.inr ⟨_,by rw[nx.bl],q.here R (.int _)⟩)
 ·cases e
theorem aFJ:bK X (.builtin "abs") (fK X sZ):=λ aA s σ H xs us Q I r aF=>by
 obtain⟨F,L,S,ds,z,R,n,e,q⟩:=aF;unfold sZ at e
 split at e
 ·cases e;obtain⟨x,rfl,nx⟩:=dE n;exact aCr aA s σ H _ us Q I r ⟨_,by rw[nx.int],q.here R (.int _)⟩
 ·cases e
theorem aCY:bK X (.type "tuple") (fK X kM):=λ aA s σ H xs us Q I r aF=>by
 obtain⟨F,L,S,ds,z,R,n,e,q⟩:=aF;unfold kM at e
 split at e
 ·cases e;obtain⟨x,rfl,nx⟩:=dE n;obtain⟨a,ys,rfl,sq,dl⟩:=nx.lst R.sub;exact uH aA s σ H _ us Q I r ⟨a,ys,rfl,.inl ⟨sq,λ l hl=>q.tup R hl dl⟩⟩
 ·cases e;obtain⟨x,rfl,nx⟩:=dE n;have nx':=nx;obtain⟨a,ys,rfl,sq,dl⟩:=nx.tup R.sub;refine uH aA s σ H _ us Q I r ⟨a,ys,rfl,.inr ⟨sq,q.here R ?_⟩⟩;rcases nx' with nx | ⟨_,_,_,e,_⟩
  ·exact nx
  ·cases e
 ·cases e
theorem qC{prog:qo}{w:zq}{A:zx}(hh:A.handled=qj)(I ax:qv)(hne:ax≠I)(aV:Array qz) :
 WalksS prog w A I [I,ax] [I] (λ a b=>b=a) aV.size (λ i v=>aV[i]? = qq v) (λ i s=>s.heap.IsListIter I ax i/\s.heap.IsList ax aV) where
 sub:=λ b hb=>by simp at hb;simp[hb]
 grefl:=λ _=>rfl
 gtrans:=λ _ _ _ h1 h2=>h2.trans h1
 frame:=λ _ _ _ _ st _ hk=>⟨st.1.at λ o e=>hk I (by simp) o e,st.2.at λ o e=>hk ax (by simp) o e⟩
 item:=λ i s Q E hi st hQ=>by
  refine vx st.1 st.2 (x:=aV[i]) (by simp[hi]) λ h' hit' hs'=>?_
  exact hQ _ _ (by simp[hi]) ⟨hit',st.2.extBut hs'.extBut hne⟩ ⟨λ b o hb e=>hs'.extBut b o (λ h=>hb (by simp[h])) e,rfl,rfl,rfl,yAc _⟩
 done:=λ s Q E st hQ=>vv hh st.1 st.2 (by simp) λ h' he'=>hQ _ ⟨λ b o hb e=>he' b o (λ h=>hb (by simp[h])) e,rfl,rfl,rfl,yAc _⟩
 self:=λ _ _ _ _ st hQ=>wpAny_pyIter_listiter st.1 hQ
theorem uQ:∀ (ns:List Int) (k:Nat),k<=ns.length->preSum (λ i=>ns.getD i 0) k=(ns.take k).sum
 | _,0,_=>by simp[preSum]
 | ns,k+1,h=>by
   rw[preSum,uQ ns k (by omega),List.take_succ_eq_append_getElem (by omega),List.sum_append]
   have:ns.getD k 0=ns[k]:=by simp[List.getD,yAi (show k<ns.length by omega)]
   rw[this];simp
theorem qE{K:FrG}{F:Hp}:∀ {ds:List D}{xs:List V}{ns:List Bool},DenL K F ds xs->hV ds=qq ns->xs=ns.map V.bl
 | _,_,_,.nil,e=>by cases e;rfl
 | .bool i::r,_,_,.cons h t,e=>by
   obtain⟨l,e1,e2⟩:=bind_some e;cases e2;cases h;rw[yAj,qE t e1]
 | .none::_,_,_,.cons _ _,e=>by cases e
 | .int _::_,_,_,.cons _ _,e=>by cases e
 | .str _::_,_,_,.cons _ _,e=>by cases e
 | .list _::_,_,_,.cons _ _,e=>by cases e
 | .tuple _::_,_,_,.cons _ _,e=>by cases e
 | .dict _::_,_,_,.cons _ _,e=>by cases e
theorem aBy{ns:List Int}{us:List qz}(r:aH (ns.map V.int) us){i:Nat}{v:qz}(e:us[i]? = qq v):∃ t,v=.int (ns.getD i 0) t:=by
 have hl:=r.length;rw[yAe] at hl;have hi:i<ns.length:=by rw[hl];exact(gIm e).1
 obtain⟨u,e1,ru⟩:=aH.get r (i:=i) (x:=.int ns[i]) (by rw[xAb,yAi hi];rfl)
 rw[e] at e1;cases e1;obtain⟨t,rfl⟩:=ru;exact⟨t,by simp[List.getD,yAi hi]⟩
theorem uI{ns:List Bool}{us:List qz}(r:aH (ns.map V.bl) us){i:Nat}{v:qz}(e:us[i]? = qq v):v=.bool (ns.getD i false):=by
 have hl:=r.length;rw[yAe] at hl;have hi:i<ns.length:=by rw[hl];exact(gIm e).1
 obtain⟨u,e1,ru⟩:=aH.get r (i:=i) (x:=.bl ns[i]) (by rw[xAb,yAi hi];rfl)
 rw[e] at e1;cases e1;obtain rfl:=ru;simp[List.getD,yAi hi]
theorem aFX(hc:X.calm=true):bK X (.builtin "sum") (fK X lK):=λ aA s σ H xs us Q I r aF=>by
 obtain⟨F,L,S,ds,z,R,n,e,q⟩:=aF;unfold lK at e
 split at e
 ·obtain⟨ns,e1,e2⟩:=bind_some e;cases e2;obtain⟨x,rfl,nx⟩:=dE n;obtain⟨a,ys,rfl,sq,dl⟩:=nx.lst R.sub;obtain rfl:=mU dl e1;obtain⟨u,rfl,ru⟩:=dM r;cases ru;obtain⟨aC,rv,pl,hz⟩:=I.list sq;have hh:X.A.in1.handled=qj:=I.ok.hd hc;refine call_sum_walkAnyS (jj pl.isList ?_);have hne:a≠s.heap.objs.size:=by
   obtain⟨o,ho,_⟩:=pl.isList;exact xAh (xAa ho)
  have hl:=rv.length;rw[yAe] at hl;refine⟨_,_,_,_,_,_,_,λ i=>ns.getD i 0,rfl,qC hh s.heap.objs.size a hne aC.toArray,⟨⟨_,xAe _ rfl,rfl,rfl⟩,?_⟩,λ b hb=>?_,λ i v e=>aBy rv (by simpa using e),λ s' t' mv=>?_⟩
  ·obtain⟨o,ho,r'⟩:=pl.isList;exact⟨o,hpS _ ho,r'⟩
  ·obtain⟨o,ho,_⟩:=pl.isList;have h1:=xAa ho;simp only[yBd,yBb,or_false] at hb;rw[yCw];rcases hb with rfl | rfl
   ·exact yCc _
   ·exact Nat.lt_succ_of_lt h1
  ·obtain⟨h',g',d',t2,o'⟩:=s';obtain⟨mh,mg,md,mo,mt⟩:=mv;dsimp only at mh mg md mo;subst mg md mo;have I':Inv X aA σ H {s with heap:=h',toks:=t2 }:=I.kept λ b o e=>mh b o (λ z=>by
    have:b=s.heap.objs.size:=by simpa using z
    exact yAl _ (this▸xAa e)) (hpS _ e)
   have e3:preSum (λ i=>ns.getD i 0) aC.toArray.size=ns.sum:=by
    rw[yAd,<- hl,uQ ns ns.length (yAc _),yBp]
   rw[e3];exact⟨.int ns.sum,H,I',⟨_,rfl⟩,q.here R (.int _)⟩
 ·cases e
theorem uT{prog:qo}{w:zq}{A:zx}{b:Bool}{s:qx}{Q:Bool->qx->Prop}{E:qz->qx->Prop}(h:Q b s):qu (model prog w) A (truthy (.bool b)) Q E s:=by
 first
  | exact xu h
  | exact PySem.wpAny_truthy_bool h
  | exact truthy_bool h
theorem aB0(bs:List Bool):(yAg bs.length).all (λ i=>bs.getD i false)=bs.all id:=by
 have h:(yAg bs.length).map (λ i=>bs.getD i false)=bs:=by
  apply List.ext_getElem
  ·simp
  ·intro i h1 h2;simp[List.getD,yAi h2]
 have h2:bs.all id=((yAg bs.length).map (λ i=>bs.getD i false)).all id:=by rw[h]
 rw[h2,List.all_map];rfl
theorem aBO(bs:List Bool):(yAg bs.length).any (λ i=>bs.getD i false)=bs.any id:=by
 have h:(yAg bs.length).map (λ i=>bs.getD i false)=bs:=by
  apply List.ext_getElem
  ·simp
  ·intro i h1 h2;simp[List.getD,yAi h2]
 have h2:bs.any id=((yAg bs.length).map (λ i=>bs.getD i false)).any id:=by rw[h]
 rw[h2,List.any_map];rfl
theorem aGG(hc:X.calm=true):bK X (.builtin "all") (fK X pE):=λ aA s σ H xs us Q I r aF=>by
 obtain⟨F,L,S,ds,z,R,n,e,q⟩:=aF;unfold pE at e
 split at e
 ·obtain⟨bs,e1,e2⟩:=bind_some e;cases e2;obtain⟨x,rfl,nx⟩:=dE n;obtain⟨a,ys,rfl,sq,dl⟩:=nx.lst R.sub;obtain rfl:=qE dl e1;obtain⟨u,rfl,ru⟩:=dM r;cases ru;obtain⟨aC,rv,pl,hz⟩:=I.list sq;have hh:X.A.in1.handled=qj:=I.ok.hd hc;refine call_all_walkS (jj pl.isList ?_);have hne:a≠s.heap.objs.size:=by
   obtain⟨o,ho,_⟩:=pl.isList;exact xAh (xAa ho)
  have hl:=rv.length;rw[yAe] at hl;refine⟨_,_,_,_,_,_,_,λ i=>bs.getD i false,rfl,qC hh s.heap.objs.size a hne aC.toArray,⟨⟨_,xAe _ rfl,rfl,rfl⟩,?_⟩,λ i v s' Q' E' e hq=>?_,λ s' mv=>?_⟩
  ·obtain⟨o,ho,r'⟩:=pl.isList;exact⟨o,hpS _ ho,r'⟩
  ·obtain rfl:=uI rv (i:=i) (by simpa using e)
   exact uT hq
  ·obtain⟨h',g',d',t2,o'⟩:=s';obtain⟨mh,mg,md,mo,mt⟩:=mv;dsimp only at mh mg md mo;subst mg md mo;have I':Inv X aA σ H {s with heap:=h',toks:=t2 }:=I.kept λ b o e=>mh b o (λ z=>by
    have:b=s.heap.objs.size:=by simpa using z
    exact yAl _ (this▸xAa e)) (hpS _ e)
   rw[yAd,<- hl,aB0];exact⟨.bl (bs.all id),H,I',rfl,q.here R (.bl _)⟩
 ·cases e
theorem aFV(hc:X.calm=true):bK X (.builtin "any") (fK X sS):=λ aA s σ H xs us Q I r aF=>by
 obtain⟨F,L,S,ds,z,R,n,e,q⟩:=aF;unfold sS at e
 split at e
 ·obtain⟨bs,e1,e2⟩:=bind_some e;cases e2;obtain⟨x,rfl,nx⟩:=dE n;obtain⟨a,ys,rfl,sq,dl⟩:=nx.lst R.sub;obtain rfl:=qE dl e1;obtain⟨u,rfl,ru⟩:=dM r;cases ru;obtain⟨aC,rv,pl,hz⟩:=I.list sq;have hh:X.A.in1.handled=qj:=I.ok.hd hc;refine call_any_walkS (jj pl.isList ?_);have hne:a≠s.heap.objs.size:=by
   obtain⟨o,ho,_⟩:=pl.isList;exact xAh (xAa ho)
  have hl:=rv.length;rw[yAe] at hl;refine⟨_,_,_,_,_,_,_,λ i=>bs.getD i false,rfl,qC hh s.heap.objs.size a hne aC.toArray,⟨⟨_,xAe _ rfl,rfl,rfl⟩,?_⟩,λ i v s' Q' E' e hq=>?_,λ s' mv=>?_⟩
  ·obtain⟨o,ho,r'⟩:=pl.isList;exact⟨o,hpS _ ho,r'⟩
  ·obtain rfl:=uI rv (i:=i) (by simpa using e)
   exact uT hq
  ·obtain⟨h',g',d',t2,o'⟩:=s';obtain⟨mh,mg,md,mo,mt⟩:=mv;dsimp only at mh mg md mo;subst mg md mo;have I':Inv X aA σ H {s with heap:=h',toks:=t2 }:=I.kept λ b o e=>mh b o (λ z=>by
    have:b=s.heap.objs.size:=by simpa using z
    exact yAl _ (this▸xAa e)) (hpS _ e)
   rw[yAd,<- hl,aBO];exact⟨.bl (bs.any id),H,I',rfl,q.here R (.bl _)⟩
 ·cases e
noncomputable def tyD:D->Option String
 | .none=>qq "NoneType"
 | .bool _=>qq "bool"
 | .int _=>qq "int"
 | .str _=>qq "str"
 | .list _=>qq "list"
 | .tuple _=>qq "tuple"
 | .dict _=>qj
noncomputable def lJ(K:FrG)(n:String)(d:D):Option D:=(tyD d).bind λ t=>(PySem.W.kitOne K (.type t) (.type n)).map yCi
theorem aEq{aA:List (qv×Obj)}{s:qx}{σ:L2.St}{H F:Hp}{L:List qv}{S:aB}{x:V}{v:qz}{d z:D}{n:String}{Q:VK}(I:Inv X aA σ H s)(R:Rel X.K F L S H)(rx:aI x v)(nx:aU X.K F H d x)(e:lJ X.K n d=qq z)(q:cH X F L S z Q) :
 qu (model X.prog X.w) X.A (call (.builtin "isinstance") [v,.type n]) (EP X aA σ Q) X.xe s:=by
 obtain⟨t,e1,e2⟩:=bind_some e;cases ek:PySem.W.kitOne X.K (.type t) (.type n) with
 | none=>rw[ek] at e2;cases e2
 | some b =>
   rw[ek] at e2;cases e2;have bO:∀ tk,EP X aA σ Q (.bool b) {s with toks:=tk }:=λ tk=>⟨.bl b,H,I.tok _,rfl,q.here R (.bl b)⟩
   cases d with
   | none=>cases e1;obtain rfl:=nx.non;cases (show v=Value.none from rx);exact yBw PySem.W.kitx_none I.kIn True.intro ek (λ z=>nomatch z) bO
   | bool y=>cases e1;obtain rfl:=nx.bl;cases (show v=Value.bool y from rx);exact yBw PySem.W.kitx_bool I.kIn True.intro ek (λ z=>nomatch z) bO
   | int i=>cases e1;obtain rfl:=nx.int;obtain⟨t,q⟩:=(show ∃ t,v=Value.int i t from rx);cases q;exact yBw PySem.W.kitx_int I.kIn True.intro ek (λ z=>nomatch z) bO
   | str y=>cases e1;obtain rfl:=nx.str;obtain⟨t,q⟩:=(show ∃ t,v=Value.str y t from rx);cases q;exact yBw PySem.W.kitx_str I.kIn True.intro ek (λ z=>nomatch z) bO
   | list l =>
     cases e1;obtain⟨a,xs,rfl,sq,dl⟩:=nx.lst R.sub;cases (show v=Value.ref a from rx)
     obtain⟨aC,rv,pl,_⟩:=I.list sq;obtain⟨o,ho,hc,_⟩:=pl.isList;exact yBw PySem.W.kitx_list I.kIn ⟨o,ho,hc⟩ ek (λ z=>nomatch z) bO
   | tuple l =>
     cases e1;obtain⟨a,xs,rfl,sq,dl⟩:=nx.tup R.sub;cases (show v=Value.ref a from rx)
     obtain⟨aC,rv,pl,_⟩:=I.tuple sq;obtain⟨o,ho,hc,_⟩:=pl;exact yBw PySem.W.kitx_tuple I.kIn ⟨o,ho,hc⟩ ek (λ z=>nomatch z) bO
   | dict l=>cases e1
noncomputable def aAD(K:FrG)(n:String)(fa:FE):FE:=f1 fa (eJ (lJ K n))
theorem aF2{a:qw}{fa:FE}{n:String}{x:Str}{p p' pos:Pos}(ha:PE X a (aK X.K fa))(hg:Gl X "isinstance")(hm:X.mg "isinstance" = qj)(hv:zw "isinstance" = qq (.builtin "isinstance"))(hg':Gl X x)(hm':X.mg x=qj)(hv':zw x=qq (.type n))(hn:x ≠ "__name__")(hd:(x==("__debug__" : Str))=false)
 (h1:zj [a,.Name x p'] X.env=(false,eval a X.env)::zj [.Name x p'] X.env):PE X (.Call (.Name "isinstance" p) [a,.Name x p'] [] pos) (aK X.K (aAD X.K n fa)):=by
 have pt:PE X (.Name x p') (tC (.ty n)):=xM hg' hm' hv' rfl hn hd;have rule:bK X (.builtin "isinstance") (λ xs H Q=>∃ F L S y d z,xs=[y,.ty n]/\Rel X.K F L S H/\aU X.K F H d y/\lJ X.K n d=qq z/\cH X F L S z Q):=λ aA s σ H xs us Q I r aF=>by
  obtain⟨F,L,S,y,d,z,e,R,ny,e2,q⟩:=aF;subst e;obtain⟨u,u2,rfl,r1,r2⟩:=kQ r;cases (show u2=Value.type n from r2)
  exact aEq I R r1 ny e2 q
 refine PE.weak (eS rule hg hm hv (eT ha (eT pt iY) h1) (by decide) (by decide) h1 rfl) λ σ H Q hPq30=>?_
 obtain⟨F,L,S,env,w,S',R,E,e,q⟩:=hPq30;obtain⟨⟨w1,S1⟩,e1,e2⟩:=bind_some e;obtain⟨d,z,e3,e4,rfl,rfl⟩:=qU e2;exact⟨F,L,S,env,w1,_,R,E,e1,λ F1 L1 H1 v g1 R1 d1=>⟨F1,L1,_,v,d,z,rfl,R1,iX R1 d1 e3,e4,nI X rfl λ F2 L2 H2 v2 g2 R2 d2=>q F2 L2 H2 v2 (g1.trans g2) R2 d2⟩⟩
end
section
variable {X : Cx}{aA : List (qv×Obj)}{σ : L2.St}{H : Hp}{s : qx}{h' : Heap}
theorem uV{ch:List qv}{p:qv}{o:HO}{t':Nat}(I:Inv X aA σ H s)(hch:∀ b∈ch,cW X aA H b)(k:∀ b u,b ∉ ch->s.heap.get? b=qq u->h'.get? b=qq u)(hp:s.heap.objs.size<=p)
 (new:cQ X.prog X.w (aS H p o) h' p o):Inv X aA σ (aS H p o) {s with heap:=h',toks:=t' }:=by
 have hn:=I.hok.fresh hp;have nch:∀ b u,H b=qq u->b ∉ ch:=λ b u e z=>by rw[(hch b z).1] at e;cases e
 have nep:∀ b u,s.heap.get? b=qq u->b≠p:=λ b u e z=>absurd (xAc (xAa e) hp) (by rw[z];exact yAl _)
 refine I.step (g':=s.gens) (d':=s.drawn) (ch:=ch) (λ b hb=>⟨(hch b hb).2.2.2.1,(hch b hb).2.1,(hch b hb).2.2.2.2.1,(hch b hb).2.2.2.2.2⟩) (λ b o _ _ hc e _=>k b o hc e) (λ b o _ _ hc e _=>⟨o.slots,k b o hc e⟩) (λ b o _ e n=>by rw[aT (nep b o e)];exact n)
  (λ b o hc e=>⟨o,k b o hc e⟩) (λ b xs e=>by rw[aT (bV e hn)];exact e) (λ b u v e=>by rw[aT (bV e hn)];exact e) (λ b ps e=>⟨#[],by rw[aT (bV e hn),e];simp⟩) (λ m hm=>?_) (λ b u e=>?_) I.bare
 ·obtain⟨o,es,ep,ho,r⟩:=hm;exact⟨o,es,ep,k _ o (λ z=>(hch _ z).2.1 rfl) ho,r⟩
 ·by_cases hb:b=p
  ·subst hb;rw[bP] at e;cases e;exact new
  ·rw[aT hb] at e;refine(I.hok b u e).stay (λ c v hc q=>k c v ?_ q) (λ c q=>by rw[aT (bV q hn)];exact q) λ c xs q=>by rw[aT (bV q hn)];exact q
   rcases hc with z | z
   ·rw[z];exact nch b u e
   ·exact nch c _ z
end
noncomputable def tT(K:FrG)(a:qv):It:=
 ⟨λ i H=>∃ xs x,aX K H a xs/\xs[i]? = qq x,λ i H x H'=>∃ p y,H p=qj/\H'=aS H p (.tup [.int i,y])/\x=.ref p/\∀ xs,aX K H a xs->xs[i]? = qq y,λ i H=>∃ xs,aX K H a xs/\xs.length<=i⟩
theorem aBU{P:qo}{w:zq}{K:FrG}{elts:List qw}{k:Nat}{pos:Pos}(a e it:qv)(hei:e≠it):Turn P w K (.Tuple elts k pos) (tT K a) [e,it] e (λ i h=>(∃ old,IsEnum h e it (i:Nat) old)/\h.IsListIter it a i) where
 mem:=xAd
 obj:=λ i h aF b hb=>by
  obtain⟨⟨old,he⟩,⟨o,ho,hc,hd⟩⟩:=aF;rcases List.mem_cons.mp hb with rfl | hb
  ·exact⟨_,he,λ v=>by intro z;cases z⟩
  ·rw[yAr] at hb;subst hb;exact⟨o,ho,λ v z=>by rw[hd] at z;cases z⟩
 keep:=λ i h h' ⟨⟨old,he⟩,hit⟩ q=>⟨⟨old,q e xAd _ he⟩,hit.at λ o e=>q it (by simp) o e⟩
 item:=λ X hP hW hK hc i aA s σ H E I hf aF iR=>by
  obtain⟨⟨old,he⟩,hit⟩:=aF;obtain⟨xs,x,hq,hx⟩:=iR;subst hP hW hK;obtain⟨aC,rv,pl,hz⟩:=I.list hq;obtain⟨u,hu,ru⟩:=rv.get hx;refine wpAny_pyNext_enum_item he hit pl.isList (by simpa using hu) hei λ h₁ heo hit₁ ht₁ hz₁ hk₁=>⟨_,rfl,?_⟩
  refine vo heo λ h₂ he₂ hs₂=>?_
  have hs2:yCj e h₁ h₂:=hs₂;have eLt:e<s.heap.objs.size:=xAa he;have iLt:it<s.heap.objs.size:=by obtain⟨o,ho,_⟩:=hit;exact xAa ho
  have ht₂:h₂.get? s.heap.objs.size=qq {cls:=.type "tuple",data:=.seq #[.int i s.toks,u] }:=hs2.extBut _ _ (yDi eLt) ht₁;have I2:Inv X aA σ (aS H s.heap.objs.size (.tup [.int i,x])) {s with heap:=h₂,toks:=s.toks+1 }:=by
   refine uV I hf (λ b o hb e'=>?_) (yAc _) ⟨by show 2<=qk;decide,[.int i s.toks,u],.cons ⟨_,rfl⟩ (.cons ru .nil),⟨_,ht₂,rfl,0,rfl⟩⟩
   have b1:b≠e:=λ z=>hb (by simp[z])
   have b2:b≠it:=λ z=>hb (by simp[z])
   exact hs2.extBut b o b1 (hk₁ b o b1 b2 e')
  refine⟨.ref s.heap.objs.size,_,I2,rfl,⟨s.heap.objs.size,x,I.fresh,rfl,rfl,λ ys hy=>by rw[I.list_inj hy hq];exact hx⟩,⟨⟨u,by have:=he₂;rw[show((i+1:Nat):Int)=(i:Int)+1 by omega];exact this⟩,hit₁.extBut hs2.extBut (Ne.symm hei)⟩,λ b hb=>?_⟩
  have:b<s.heap.objs.size:=by
   rcases List.mem_cons.mp hb with rfl | hb
   ·exact eLt
   ·rw[yAr] at hb;subst hb;exact iLt
  rw[aT (xAh this)];exact(hf b hb).1
 done:=λ X hP hW hK hc i aA s σ H E I hf aF iR=>by
  obtain⟨⟨old,he⟩,hit⟩:=aF;obtain⟨xs,hq,hx⟩:=iR;subst hP hW hK;obtain⟨aC,rv,pl,hz⟩:=I.list hq;refine wpAny_pyNext_enum_end (I.ok.hd hc) he hit pl.isList (by have:=rv.length;simp;omega) λ h₁ he₁=>⟨rfl,?_⟩
  obtain⟨f1,f2,f3,f4,f5,f6⟩:=hf it (by simp)
  exact I.turned (t':=s.toks) (λ b o hb e'=>he₁ b o hb e') f1 f2 f4 f5 f6
 self:=λ A i s Q E ⟨⟨old,he⟩,_⟩ hq=>vj he hq
section
variable {X : Cx}
noncomputable def dD(k:Int):List D->List D
 | []=>[]
 | d::r=>.tuple [.int k,d]::dD (k+1) r
theorem jP:∀ (ds:List D) (k:Int),(dD k ds).length=ds.length
 | [],_=>rfl
 | _::r,k=>by simp[dD,jP r]
theorem qJ:∀ (ds:List D) (k:Int) (i:Nat) (e:D),(dD k ds)[i]? = qq e->∃ d,ds[i]? = qq d/\e=.tuple [.int (k+i),d]
 | [],_,_,_,h=>by simp[dD] at h
 | d::r,k,0,e,h=>by simp[dD] at h;subst h;exact⟨d,rfl,by simp⟩
 | d::r,k,i+1,e,h=>by
   obtain⟨d',e1,e2⟩:=qJ r (k+1) i e (by simpa [dD] using h)
   refine⟨d',by simpa using e1,?_⟩
   rw[e2];congr 3
   push_cast
   omega
theorem aCP{K:FrG}{F:Hp}{L:List qv}{a:qv}{xs:List V}{ds:List D}(sq:aX K F a xs)(dl:DenL K F ds xs):Wk K F L (tT K a) (dD 0 ds) where
 go:=λ i H s hi=>by
  rw[jP] at hi;exact⟨xs,xs[i]'(by rw[<- dl.length];exact hi),s.seq sq,by simp[dl.length▸hi]⟩
 stop:=λ H s=>⟨xs,s.seq sq,by rw[jP];exact yCy dl.length.symm⟩
 yld:=λ i H F1 L1 S x H' d g R e y=>by
  obtain⟨p,y',hp,rfl,rfl,hy⟩:=y;obtain⟨d',e1,rfl⟩:=qJ ds 0 i d e;obtain⟨x',e2,dx⟩:=dl.get e1;have h:=hy xs ((g.f.trans R.sub).seq sq);rw[h] at e2;cases e2;have hF:F1 p=qj:=R.sub.free hp;refine⟨aS F1 p (.tup [.int i,y']),cK hF,R.new hp,.tup (bC.of bP) ?_⟩;rw[Int.zero_add];exact .cons (.int _) (.cons (dx.mono (g.f.trans (cK hF))) .nil)
end
section
variable {prog : qo}{w : zq}{A : zx}{E : qz -> qx -> Prop}{s : qx}
theorem aBg{it t:qv}{i:Nat}{aV:Array qz}{x:qz}{Q:qz->qx->Prop}(hit:s.heap.IsTupleIter it t i)(ht:s.heap.IsTuple t aV)(hx:aV[i]? = qq x)
 (hQ:∀ h',h'.IsTupleIter it t (i+1)->yCj it s.heap h'->Q x {s with heap:=h' }):qu (model prog w) A (yBk (.ref it)) Q E s:=by
 obtain⟨o,ho,hc,hd⟩:=id hit;obtain⟨ol,hol,_,nl,hdl⟩:=ht;unfold yBk;refine wB (wpAny_callSpecial?_slot (name:=Str.ofString "__next__") hit.typeIs F.slot_tuple_iterator_next (wj F.slot_tuple_iterator_next hit.typeIs F.entry_tuple_iterator_next ?_ (F.args_tuple_iterator_next_1 _)));show qu _ _ (field (.ref it) 0 >>= _) _ _ s;refine wB (zo ho hd (x:=.ref t) rfl ?_);show qu _ _ (if (Value.ref t==Value.none)=true then _ else _) _ _ s
 rw[if_neg (show ¬ ((Value.ref t==Value.none)=true) from yAm)]
 show qu _ _ (field (.ref it) 1 >>= _) _ _ s;refine wB (zo ho hd (x:=.int i 0) rfl ?_);show qu _ _ (seqItems? (.ref t) >>= _) _ _ s;refine wB (wpAny_seqItems hol hdl ?_);simp only[yAz,hx];refine wB (wpAny_setField ho hd (by simp) (wP ⟨x,rfl,wP (hQ _ ⟨_,yBx _ ho (Obj.isFreed_of_fields (Obj.data_mapFields hd _)),(Obj.cls_mapFields ..).trans hc,?_⟩ (Heap.SameBut.update ..))⟩))
 rw[Obj.data_mapFields hd];simp[xw]
theorem uE{it t:qv}{i:Nat}{aV:Array qz}{Q:qz->qx->Prop}(hh:A.handled=qj)(hit:s.heap.IsTupleIter it t i)(ht:s.heap.IsTuple t aV)(hx:aV[i]? = qj)
 (hE:∀ h' e,Heap.ExtBut it s.heap h'->(∃ o,h'.get? e=qq o/\o.cls=.type "StopIteration")->E (.ref e) {s with heap:=h' }):qu (model prog w) A (yBk (.ref it)) Q E s:=by
 obtain⟨o,ho,hc,hd⟩:=id hit;obtain⟨ol,hol,_,nl,hdl⟩:=ht;unfold yBk;refine wB (wpAny_callSpecial?_slot (name:=Str.ofString "__next__") hit.typeIs F.slot_tuple_iterator_next (wj F.slot_tuple_iterator_next hit.typeIs F.entry_tuple_iterator_next ?_ (F.args_tuple_iterator_next_1 _)));show qu _ _ (field (.ref it) 0 >>= _) _ _ s;refine wB (zo ho hd (x:=.ref t) rfl ?_);show qu _ _ (if (Value.ref t==Value.none)=true then _ else _) _ _ s
 rw[if_neg (show ¬ ((Value.ref t==Value.none)=true) from yAm)]
 show qu _ _ (field (.ref it) 1 >>= _) _ _ s;refine wB (zo ho hd (x:=.int i 0) rfl ?_);show qu _ _ (seqItems? (.ref t) >>= _) _ _ s;refine wB (wpAny_seqItems hol hdl ?_);simp only[yAz,hx];refine wB (wpAny_rule (wB (wpAny_setField ho hd (by simp) ?_)))
 show qu _ _ (newExc (.type "StopIteration") [] >>= _) _ _ _;refine wB ?_;simp only[newExc,newTuple];refine wB (jv (wB (m:=firstArgMember _ _) (wpAny_of_eq (a:=Value.none) (by first | rfl | (simp only[firstArgMember];rfl)) (jv ?_ (by size_fits)))) (by size_fits))
 simp only[raiseNew];refine wB (wpAny_handled ?_)
 first | rw[show A.in1.handled=qj from hh] | rw[hh]
 exact wB (wP (wpAny_throw (hE _ _ (((Heap.SameBut.update ..).extBut.push _).push _) ⟨_,xAe _ rfl,rfl⟩)))
theorem aBe{e it t:qv}{i:Nat}{aV:Array qz}{old:qz}{Q:Option qz->qx->Prop}(hh:A.in1.handled=qj)
 (he:IsEnum s.heap e it i old) (hit:s.heap.IsTupleIter it t i) (ht:s.heap.IsTuple t aV) (hx:aV[i]? = qj)
 (hQ:∀ h',Heap.ExtBut it s.heap h'->Q qj {s with heap:=h' }):qu (model prog w) A (yz (.ref e)) Q E s:=by
 have hT:s.TypeIs (.ref e) "enumerate":=⟨_,he,rfl⟩;unfold yz;refine wB (yq (wpAny_callSpecial?_slot (name:=Str.ofString "__next__") hT F.slot_enumerate_next (wj F.slot_enumerate_next hT F.entry_enumerate_next ?_ (F.args_enumerate_next_1 _))));show qu _ _ (field (.ref e) 2 >>= _) _ _ _;refine wB (zo he rfl (x:=.ref it) rfl (wB (uE hh hit ht hx λ h' x he' hx'=>?_)))
 obtain⟨o,ho,hc⟩:=hx';exact wB (wpAny_isInstance (T:="StopIteration") (b:=true) ⟨o,ho,hc⟩ isSubtype_stop (wP (hQ _ he')))
theorem aBT(hh:A.handled=qj)(it t:qv)(hne:t≠it)(aV:Array qz):Draws prog w A it [it,t] aV.size (λ i v=>aV[i]? = qq v) (λ i h=>h.IsTupleIter it t i/\h.IsTuple t aV) where
 live:=λ _ _ st=>let ⟨o,ho,_⟩:=st.1;⟨o,ho⟩
 frame:=λ _ _ _ st hk=>⟨st.1.at λ o e=>hk it (by simp) o e,let ⟨u,hu,r⟩:=st.2;⟨u,hk t (by simp) u hu,r⟩⟩
 item:=λ i s Q E hi st hQ=>aBg st.1 st.2 (x:=aV[i]) (by simp[hi]) λ h' hit' hs'=>hQ _ h' s.toks (by simp[hi]) ⟨hit',let ⟨u,hu,r⟩:=st.2;⟨u,hs'.extBut t u hne hu,r⟩⟩ hs'
 done:=λ s Q E st hE=>uE hh st.1 st.2 (by simp) hE
theorem aBZ(l:qv)(aV:Array qz)(n:Nat)(dct:Option qv)(sl:Array (Option qz)) :
 Meets (Builtin.«enumerate.__new__» ⟨[.type "enumerate",.ref l],[]⟩) (λ _ R s=>s.heap.get? l=qq {cls:=.type "tuple",dict:=dct,data:=.seq aV n,slots:=sl } /\
  R (.ok (.ret (.ref (s.heap.push {cls:=.type "tuple_iterator",data:=.fields #[.ref l,.int 0 0] }).objs.size)))
   {s with heap:=(s.heap.push {cls:=.type "tuple_iterator",data:=.fields #[.ref l,.int 0 0] }).push {cls:=.type "enumerate",data:=.fields #[.none,.bool false,.ref s.heap.objs.size,xw 0,.none,.none] } }):=
 .of_wp λ prog w A R s h=>by
  obtain⟨hp,g,d,tk,os⟩:=s;obtain⟨hl,h⟩:=h;have hsub:=sub_enumerate;have hL:Heap.IsTuple (Shared.heap ⟨hp,g,d,tk,os⟩) l aV:=⟨_,hl,rfl,n,rfl⟩
  wp_walk using AutoSeq1.wpAny_loadPart' hl
  refine wpAny_stack_any λ st=>wP ?_
  split
  ·rename_i c _ _ _ _ _;cases (c==Value.type "enumerate")
   ·wp_walk using AutoSeq1.wpAny_loadPart' hl,jo hL
    exact⟨_,rfl,h⟩
   ·wp_walk using AutoSeq1.wpAny_loadPart' hl,jo hL
    exact⟨_,rfl,h⟩
  ·wp_walk using AutoSeq1.wpAny_loadPart' hl,jo hL
   exact⟨_,rfl,h⟩
theorem aBG{l:qv}{aV:Array qz}{Q:qz->qx->Prop}(hL:s.heap.IsTuple l aV)
 (h:∀ h',IsEnum h' (s.heap.objs.size+1) s.heap.objs.size 0 .none->h'.IsTupleIter s.heap.objs.size l 0->h'.objs.size=s.heap.objs.size+2 ->
   (∀ b o,s.heap.get? b=qq o->h'.get? b=qq o)->Q (.ref (s.heap.objs.size+1)) {s with heap:=h' }) :
 qu (model prog w) A (call (.type "enumerate") [.ref l]) Q E s:=by
 obtain⟨⟨c,dct,dt,sl⟩,hl,hc,n,hd⟩:=hL
 replace hc:c=.type "tuple":=hc
 replace hd:dt=.seq aV n:=hd
 subst hc hd;refine callType_new F.called_enumerate (by decide) (F.typeCall_enumerate_1 _) (F.newCall_enumerate_1 _) (λ obj=>F.args_object_init_2 obj _) F.entry_enumerate_new (aBZ l aV n dct sl) ⟨hl,?_⟩
 have hz:(s.heap.push {cls:=.type "tuple_iterator",data:=.fields #[.ref l,.int 0 0] }).objs.size=s.heap.objs.size+1:=yCw ..;show _/\_;rw[hz];have he:IsEnum ((s.heap.push {cls:=.type "tuple_iterator",data:=.fields #[.ref l,.int 0 0] }).push {cls:=.type "enumerate",data:=.fields #[.none,.bool false,.ref s.heap.objs.size,xw 0,.none,.none] }) (s.heap.objs.size+1) s.heap.objs.size 0 .none:=by
  have:=xAe (s.heap.push {cls:=.type "tuple_iterator",data:=.fields #[.ref l,.int 0 0] }) (o:={cls:=.type "enumerate",data:=.fields #[.none,.bool false,.ref s.heap.objs.size,xw 0,.none,.none] }) rfl;rw[hz] at this;exact this
 exact⟨⟨_,he,rfl⟩,h _ he ⟨_,hpS _ (xAe _ rfl),rfl,rfl⟩ (by rw[yCw,hz]) λ b o x=>hpS _ (hpS _ x)⟩
end
noncomputable def sX(K:FrG)(a:qv):It:=
 ⟨λ i H=>∃ xs x,bC K H a xs/\xs[i]? = qq x,λ i H x H'=>∃ p y,H p=qj/\H'=aS H p (.tup [.int i,y])/\x=.ref p/\∀ xs,bC K H a xs->xs[i]? = qq y,λ i H=>∃ xs,bC K H a xs/\xs.length<=i⟩
theorem aBJ{P:qo}{w:zq}{K:FrG}{elts:List qw}{k:Nat}{pos:Pos}(a e it:qv)(hei:e≠it)(hea:e≠a)(hai:a≠it):Turn P w K (.Tuple elts k pos) (sX K a) [e,it] e (λ i h=>(∃ old,IsEnum h e it (i:Nat) old)/\h.IsTupleIter it a i) where
 mem:=xAd
 obj:=λ i h aF b hb=>by
  obtain⟨⟨old,he⟩,⟨o,ho,hc,hd⟩⟩:=aF;rcases List.mem_cons.mp hb with rfl | hb
  ·exact⟨_,he,λ v=>by intro z;cases z⟩
  ·rw[yAr] at hb;subst hb;exact⟨o,ho,λ v z=>by rw[hd] at z;cases z⟩
 keep:=λ i h h' ⟨⟨old,he⟩,hit⟩ q=>⟨⟨old,q e xAd _ he⟩,hit.at λ o e=>q it (by simp) o e⟩
 item:=λ X hP hW hK hc i aA s σ H E I hf aF iR=>by
  obtain⟨⟨old,he⟩,hit⟩:=aF;obtain⟨xs,x,hq,hx⟩:=iR;subst hP hW hK;obtain⟨aC,rv,pl,hz⟩:=I.tuple hq;obtain⟨u,hu,ru⟩:=rv.get hx;have hlt:i<aC.toArray.size:=by
   rw[yAd];exact(gIm hu).1
  have hh:X.A.in1.handled=qj:=I.ok.hd hc;refine wpAny_pyNext_enum_itemD (aBT (prog:=X.prog) (w:=X.w) hh it a hai aC.toArray) he ⟨hit,pl⟩ hlt hei (by simp[hei,hea]) λ x' h₁ tk hP heo hit₁ ht₁ hz₁ hk₁=>⟨_,rfl,?_⟩
  have:x'=u:=by
   rw[List.getElem?_toArray,hu] at hP;exact(Option.some.inj hP).symm
  subst this;refine vo heo λ h₂ he₂ hs₂=>?_
  have hs2:yCj e h₁ h₂:=hs₂;have eLt:e<s.heap.objs.size:=xAa he;have iLt:it<s.heap.objs.size:=by obtain⟨o,ho,_⟩:=hit;exact xAa ho
  have ht₂:h₂.get? s.heap.objs.size=qq {cls:=.type "tuple",data:=.seq #[.int i tk,x'] }:=hs2.extBut _ _ (yDi eLt) ht₁;have I2:Inv X aA σ (aS H s.heap.objs.size (.tup [.int i,x])) {s with heap:=h₂,toks:=tk+1 }:=by
   refine uV I hf (λ b o hb e'=>?_) (yAc _) ⟨by show 2<=qk;decide,[.int i tk,x'],.cons ⟨_,rfl⟩ (.cons ru .nil),⟨_,ht₂,rfl,0,rfl⟩⟩
   have b1:b≠e:=λ z=>hb (by simp[z])
   have b2:b≠it:=λ z=>hb (by simp[z])
   exact hs2.extBut b o b1 (hk₁ b o b1 b2 e')
  refine⟨.ref s.heap.objs.size,_,I2,rfl,⟨s.heap.objs.size,x,I.fresh,rfl,rfl,λ ys hy=>by rw[I.tuple_inj hy hq];exact hx⟩,⟨⟨x',by have:=he₂;rw[show((i+1:Nat):Int)=(i:Int)+1 by omega];exact this⟩,?_⟩,λ b hb=>?_⟩
  ·obtain⟨o,ho,r⟩:=hit₁.1;exact⟨o,hs2.extBut it o (Ne.symm hei) ho,r⟩
  ·have:b<s.heap.objs.size:=by
    rcases List.mem_cons.mp hb with rfl | hb
    ·exact eLt
    ·rw[yAr] at hb;subst hb;exact iLt
   rw[aT (xAh this)];exact(hf b hb).1
 done:=λ X hP hW hK hc i aA s σ H E I hf aF iR=>by
  obtain⟨⟨old,he⟩,hit⟩:=aF;obtain⟨xs,hq,hx⟩:=iR;subst hP hW hK;obtain⟨aC,rv,pl,hz⟩:=I.tuple hq;have hh:X.A.in1.handled=qj:=I.ok.hd hc;have hl:=rv.length;refine aBe hh he hit pl (by simp;omega) λ h₁ he₁=>⟨rfl,?_⟩
  obtain⟨f1,f2,f3,f4,f5,f6⟩:=hf it (by simp)
  exact I.turned (t':=s.toks) (λ b o hb e'=>he₁ b o hb e') f1 f2 f4 f5 f6
 self:=λ A i s Q E ⟨⟨old,he⟩,_⟩ hq=>vj he hq
section
variable {X : Cx}
def zF(K:FrG)(ta:TA):TI:=λ σ H R=>ta σ H λ vs H1=>∃ a,vs=[.ref a]/\(((∃ xs,aX K H1 a xs)/\R (tT K a) H1)\/((∃ xs,bC K H1 a xs)/\R (sX K a) H1))
theorem aCs{elts:List qw}{k:Nat}{pp:Pos}{a:qw}{ta:TA}{p pos:Pos}(hg:Gl X "enumerate")(hm:X.mg "enumerate" = qj)(ha:PA X [a] ta)(hs:zj [a] X.env=[(false,eval a X.env)]):PI X (.Tuple elts k pp) (.Call (.Name "enumerate" p) [a] [] pos) (zF X.K ta):=by
 intro aA s σ H R I h;refine Call_ (kL I hg hm boot_enumerate (yBr (aQ (ha pos aA s σ H _ I h) λ us s1 hPq31=>?_) hs rfl))
 obtain⟨vs,H1,I1,r1,q1⟩:=hPq31;obtain⟨l,rfl,q1⟩:=q1;obtain⟨u,rfl,ru⟩:=dM r1;cases ru;have hb':∀ b∈[s1.heap.objs.size+1,s1.heap.objs.size],s1.heap.objs.size<=b:=λ b hb=>by
  rcases List.mem_cons.mp hb with rfl | hb
  ·exact Nat.le_succ _
  ·rw[yAr] at hb;rw[hb];exact yAc _
 rcases q1 with ⟨⟨xs,sq⟩,q⟩ | ⟨⟨xs,sq⟩,q⟩
 ·obtain⟨aC,rv,pl,hz⟩:=I1.list sq;refine call_enumerate_list pl.isList λ h' he hit hsz hk=>vj he ?_
  have I2:Inv X aA σ H1 {s1 with heap:=h' }:=I1.kept (t':=s1.toks) hk
  exact⟨s1.heap.objs.size+1,[s1.heap.objs.size+1,s1.heap.objs.size],_,_,H1,rfl,I2,aBU l _ _ (Nat.succ_ne_self _),⟨⟨_,he⟩,hit⟩,λ b hb=>I1.fpOk (hb' b hb) (I1.hok.fresh (hb' b hb)),q⟩
 ·obtain⟨aC,rv,pl,hz⟩:=I1.tuple sq;have hlt:l<s1.heap.objs.size:=by obtain⟨o,ho,_⟩:=pl;exact xAa ho
  refine aBG pl λ h' he hit hsz hk=>vj he ?_
  have I2:Inv X aA σ H1 {s1 with heap:=h' }:=I1.kept (t':=s1.toks) hk
  exact⟨s1.heap.objs.size+1,[s1.heap.objs.size+1,s1.heap.objs.size],_,_,H1,rfl,I2,aBJ l _ _ (Nat.succ_ne_self _) (yDi (Nat.lt_succ_of_lt hlt)) (xAh hlt),⟨⟨_,he⟩,hit⟩,λ b hb=>I1.fpOk (hb' b hb) (I1.hok.fresh (hb' b hb)),q⟩
theorem aCj{K:FrG}{F:Hp}{L:List qv}{a:qv}{xs:List V}{ds:List D}(sq:bC K F a xs)(dl:DenL K F ds xs):Wk K F L (sX K a) (dD 0 ds) where
 go:=λ i H s hi=>by
  rw[jP] at hi;exact⟨xs,xs[i]'(by rw[<- dl.length];exact hi),dN s sq,by simp[dl.length▸hi]⟩
 stop:=λ H s=>⟨xs,dN s sq,by rw[jP];exact yCy dl.length.symm⟩
 yld:=λ i H F1 L1 S x H' d g R e y=>by
  obtain⟨p,y',hp,rfl,rfl,hy⟩:=y;obtain⟨d',e1,rfl⟩:=qJ ds 0 i d e;obtain⟨x',e2,dx⟩:=dl.get e1;have h:=hy xs (dN (g.f.trans R.sub) sq);rw[h] at e2;cases e2;have hF:F1 p=qj:=R.sub.free hp;refine⟨aS F1 p (.tup [.int i,y']),cK hF,R.new hp,.tup (bC.of bP) ?_⟩;rw[Int.zero_add];exact .cons (.int _) (.cons (dx.mono (g.f.trans (cK hF))) .nil)
noncomputable def kO(fa:FE):FL:=λ env S=>(fa env S).bind λ p=>match p.1 with
 | .d (.list ds)=>qq (dD 0 ds,p.2)
 | .d (.tuple ds)=>qq (dD 0 ds,p.2)
 | _=>qj
theorem aC2{K:FrG}{fa:FE}(σ:St)(H:Hp)(Rr:It->Hp->Prop)(h:eK K (kO fa) σ H Rr):zF K (cT K (dC fa gD)) σ H Rr:=by
 obtain⟨F,L,S,env,ds,S',R,E,e,q⟩:=h;obtain⟨⟨w,S1⟩,e1,e2⟩:=bind_some e;dsimp only at e2
 split at e2
 ·rename_i ds';cases e2;refine⟨F,L,S,env,[.d (.list ds')],_,R,E,by unfold dC;rw[e1];rfl,λ F1 L1 H1 vs g1 R1 d1=>?_⟩
  cases d1 with
  | cons dd dr =>
    cases dr;cases (show Den K F1 (.list ds') _ from dd) with
    | lst sq dl=>exact⟨_,rfl,.inl ⟨⟨_,R1.sub.seq sq⟩,q F1 L1 H1 _ g1 R1 (aCP sq dl)⟩⟩
 ·rename_i ds';cases e2;refine⟨F,L,S,env,[.d (.tuple ds')],_,R,E,by unfold dC;rw[e1];rfl,λ F1 L1 H1 vs g1 R1 d1=>?_⟩
  cases d1 with
  | cons dd dr =>
    cases dr;cases (show Den K F1 (.tuple ds') _ from dd) with
    | tup sq dl=>exact⟨_,rfl,.inr ⟨⟨_,dN R1.sub sq⟩,q F1 L1 H1 _ g1 R1 (aCj sq dl)⟩⟩
 ·cases e2
end
inductive Tv where
 | int (i:Int) | str (x:Str) | bool (b:Bool)
 deriving DecidableEq
noncomputable def Tv.d:Tv->D
 | .int i=>.int i | .str x=>.str x | .bool b=>.bool b
noncomputable def Tv.v:Tv->V
 | .int i=>.int i | .str x=>.str x | .bool b=>.bl b
theorem Tv.den{K:FrG}{F:Hp}(t:Tv):Den K F t.d t.v:=by
 cases t
 ·exact .int _
 ·exact .str _
 ·exact .bl _
noncomputable def sF(w:zq):List DictEntry->List (Str×Tv)->Prop
 | [],[]=>True
 | e::r,(x,v)::aO=>e.hash=hashStr w x/\(∃ t,e.key=.str x t)/\aI v.v e.val/\sF w r aO
 | _,_=>False
def oD(K:FrG)(w:zq)(a:qv)(aO:List (Str×Tv)):Prop:=∃ es ep,K.lookup a=qq {cls:=.type "dict",data:=.dict es ep }/\sF w es.toList aO
section
variable {X : Cx}
end
section
variable {prog : qo}{w : zq}{A : zx}{s : qx}{R : Result -> qx -> Prop}{J : qv}{fp wr : List qv}{Gg : Array GenState -> Array GenState -> Prop}{m : Nat}{P : Nat -> qz -> Prop}{St : Nat -> qx -> Prop}
end
section
variable {prog : qo}{w : zq}{A : zx}{E : qz -> qx -> Prop}{s : qx}{J : qv}{fp wr : List qv}{Gg : Array GenState -> Array GenState -> Prop}{m : Nat}{P : Nat -> qz -> Prop}{St : Nat -> qx -> Prop}
end
section
variable {X : Cx}
end
noncomputable def aAi:List qz->List Tv->Prop
 | [],[]=>True
 | u::us,t::ts=>aI t.v u/\aAi us ts
 | _,_=>False
def lA(K:FrG)(a:qv)(ts:List Tv):Prop:=∃ (o:Obj) (aC:Array qz) (n:Nat),K.lookup a=qq o/\o.cls=.type "tuple" /\ o.data=.seq aC n/\aC.size<=qk/\aAi aC.toList ts
section
variable {X : Cx}
noncomputable def aEp(op op':vq)(fa fb fc:FE):FE:=λ env S=>(fa env S).bind λ p=>(fb env p.2).bind λ q=>(eO (bS op) q.2 p.1 q.1).bind λ r=>match r.1 with
 | .d (.bool true)=>(fc env r.2).bind λ t=>eO (bS op') t.2 q.1 t.1
 | .d (.bool false)=>qq (.d (.bool false),r.2)
 | _=>qj
end
structure ZA(z TI TO i1 i2:qv)(uB uC:List qv):Prop where
 TIz:TI≠z
 TOz:TO≠z
 i1z:i1≠z
 i2z:i2≠z
 TITO:TI≠TO
 TIi1:TI≠i1
 TIi2:TI≠i2
 TOi1:TO≠i1
 TOi2:TO≠i2
 f1:∀ b∈uB,b≠z/\b≠TO/\b≠i2
 f2:∀ b∈uC,b≠z/\b≠TO/\b≠i1
section
variable {prog : qo}{w : zq}{A : zx}{E : qz -> qx -> Prop}{s : qx}
end
def lI(t:Bool)(h:Heap)(a:qv)(aC:Array qz):Prop:=match t with
 | true=>h.IsTuple a aC
 | false=>h.IsList a aC
def hJ(t:Bool)(h:Heap)(it a:qv)(i:Nat):Prop:=match t with
 | true=>h.IsTupleIter it a i
 | false=>h.IsListIter it a i
theorem hJ.at{t:Bool}{h h':Heap}{it a:qv}{i:Nat}(x:hJ t h it a i)(q:∀ o,h.get? it=qq o->h'.get? it=qq o):hJ t h' it a i:=by
 cases t with
 | true=>exact Heap.IsTupleIter.at (h:=h) x q
 | false=>exact Heap.IsListIter.at (h:=h) x q
theorem hJ.obj{t:Bool}{h:Heap}{it a:qv}{i:Nat}(x:hJ t h it a i):∃ o,h.get? it=qq o/\∀ v,o.data≠.cell v:=by
 cases t with
 | true=>obtain⟨o,ho,hc,hd⟩:=x;exact⟨o,ho,λ v z=>by rw[hd] at z;cases z⟩
 | false=>obtain⟨o,ho,hc,hd⟩:=x;exact⟨o,ho,λ v z=>by rw[hd] at z;cases z⟩
theorem lI.lt{t:Bool}{h:Heap}{a:qv}{aC:Array qz}(x:lI t h a aC):a<h.objs.size:=by
 cases t with
 | true=>obtain⟨o,ho,_⟩:=x;exact xAa ho
 | false=>obtain⟨o,ho,_⟩:=x;exact xAa ho
section
variable {prog : qo}{w : zq}{A : zx}{E : qz -> qx -> Prop}{s : qx}
theorem lI.push{t:Bool}{h:Heap}{a:qv}{aC:Array qz}(x:lI t h a aC)(o:Obj):lI t (h.push o) a aC:=by
 cases t with
 | true=>obtain⟨o,ho,r⟩:=x;exact⟨o,hpS _ ho,r⟩
 | false=>obtain⟨o,ho,r⟩:=x;exact⟨o,hpS _ ho,r⟩
end
section
variable {X : Cx}
noncomputable def aAT:List D->List D->List D
 | a::as,b::bs=>.tuple [a,b]::aAT as bs
 | _,_=>[]
end
section
variable {X : Cx}
noncomputable def tF:W->Option (List D)
 | .d (.list ds)=>qq ds
 | .d (.tuple ds)=>qq ds
 | _=>qj
noncomputable def aGT(fa fb:FE):FL:=λ env S=>(fa env S).bind λ p=>(fb env p.2).bind λ q=>(tF p.1).bind λ ds=>(tF q.1).bind λ es=>qq (aAT ds es,q.2)
end
structure ZB(z TI TO i1 i2 i3:qv)(uB uC fp3:List qv):Prop where
 TIz:TI≠z
 TOz:TO≠z
 i1z:i1≠z
 i2z:i2≠z
 i3z:i3≠z
 TITO:TI≠TO
 TIi1:TI≠i1
 TIi2:TI≠i2
 TIi3:TI≠i3
 TOi1:TO≠i1
 TOi2:TO≠i2
 TOi3:TO≠i3
 f1:∀ b∈uB,b≠z/\b≠TO/\b≠i2/\b≠i3
 f2:∀ b∈uC,b≠z/\b≠TO/\b≠i1/\b≠i3
 f3:∀ b∈fp3,b≠z/\b≠TO/\b≠i1/\b≠i2
section
variable {prog : qo}{w : zq}{A : zx}{E : qz -> qx -> Prop}{s : qx}
end
section
variable {prog : qo}{w : zq}{A : zx}{E : qz -> qx -> Prop}{s : qx}
end
section
variable {X : Cx}
end
section
variable {X : Cx}
end
section
open PySem.SeqAt
open PySem.AutoSeq1 (wpAny_loadPart')
open PySem.MeetsSeq PySem.MeetsSeq2 PySem.MeetsSeq3
theorem rD:∀ {vs:List qz}{ns:List Int}{i:Nat},IntsAre vs ns->i<vs.length->∃ a t,vs[i]? = qq (.int a t)/\ns.drop i=a::ns.drop (i+1)
 | _,_,i,.nil,h=>absurd h (Nat.not_lt_zero i)
 | _,_,0,.cons a t _,_=>⟨a,t,rfl,rfl⟩
 | _,_,i+1,.cons a t r,h=>by
   obtain⟨b,u,h1,h2⟩:=rD (i:=i) r (by simpa using h)
   exact⟨b,u,by simpa using h1,by simpa using h2⟩
end
section
variable {prog : qo}{w : zq}{A : zx}{E : qz -> qx -> Prop}{s : qx}
end
section
variable {X : Cx}
end
section
variable {X : Cx}
end
section
variable {X : Cx}
end
section
variable {X : Cx}
end
section
variable {X : Cx}{tg : qw}
end
abbrev aD2(h:Heap)(z TI TO a:qv)(f:Bool):Prop:=
 h.get? z=qq {cls:=.type "zip",dict:=qj,data:=.fields #[xw a,.bool f,.bool false,.ref TI,.ref TO],slots:=#[] }
section
variable {prog : qo}{w : zq}{A : zx}{E : qz -> qx -> Prop}{s : qx}
end
structure ZW(X:Cx)(aA:List (qv×Obj))(σ:L2.St)(F1:Hp)(L1:List qv)(S1:aB)(SA z TI TO i1 i2:qv)(ds:List D)(H F:Hp)(vs:List V)(s:qx):Prop where
 inv:Inv X aA σ H s
 same:aZ F1 F
 rel:Rel X.K F L1 S1 H
 free:F SA=qj
 lst:H SA=qq (.lst vs)
 den:DenL X.K F ds vs
 fp:∀ c∈[z,TI,TO,i1,i2],cW X aA H c
structure ZH(z TI TO i1 i2 a b:qv)(t u:Bool)(i:Nat)(h:Heap):Prop where
 ti:IsPair h TI (.ref i1) (.ref i2)
 q1:hJ t h i1 a i
 q2:hJ u h i2 b i
 to:∃ o,h.get? TO=qq o
 z:(IsZip h z TI TO .none/\∃ x y,IsPair h TO x y)\/∃ a0 f,aD2 h z TI TO a0 f/\∃ o,h.get? a0=qq o
theorem ZH.keep{z TI TO i1 i2 a b:qv}{t u:Bool}{i:Nat}{h h':Heap}(x:ZH z TI TO i1 i2 a b t u i h)(k:∀ c o,c∈[z,TI,TO,i1,i2]->h.get? c=qq o->h'.get? c=qq o)(k2:∀ c o,h.get? c=qq o->∃ o',h'.get? c=qq o'):ZH z TI TO i1 i2 a b t u i h':=by
 refine⟨k _ _ (by simp) x.ti,x.q1.at λ o e=>k _ _ (by simp) e,x.q2.at λ o e=>k _ _ (by simp) e,let ⟨o,e⟩:=x.to;k2 _ _ e,?_⟩
 rcases x.z with ⟨y,p,q,r⟩ | ⟨a0,f,y,o,e⟩
 ·exact .inl ⟨k _ _ (by simp) y,p,q,k _ _ (by simp) r⟩
 ·exact .inr ⟨a0,f,k _ _ (by simp) y,k2 _ _ e⟩
section
variable {X : Cx}{aA : List (qv×Obj)}{σ : L2.St}{F1 : Hp}{L1 : List qv}{S1 : aB}{SA z TI TO i1 i2 a b : qv}{t u : Bool}{ds : List D}{H F : Hp}{vs : List V}{s : qx}{xs ys : List V}{ds1 ds2 : List D}{A : zx}{E : qz -> qx -> Prop}{i : Nat}
end
section
variable {prog : qo}{w : zq}{A : zx}{s : qx}{R : Result -> qx -> Prop}{z TI TO : qv}{f0 : qz}
end
section
variable {prog : qo}{w : zq}{A : zx}{E : qz -> qx -> Prop}{s : qx}{z TI TO : qv}{f0 : qz}
end
section
variable {X : Cx}
end
section
variable {prog : qo}{w : zq}{A : zx}{E : qz -> qx -> Prop}{s : qx}
end
section
variable {X : Cx}{tg : qw}
end
section
variable {X : Cx}
end
noncomputable def gY(fa:FE):FL:=λ env S=>(fa env S).bind λ p=>match p.1 with
 | .d (.list ds)=>qq (ds,p.2)
 | .d (.tuple ds)=>qq (ds,p.2)
 | _=>qj
section
variable {X : Cx}{pos : Pos}
theorem aG1{tg a:qw}{fa:FE}(ha:PE X a (aK X.K fa)):PI X tg a (eK X.K (gY fa)):=by
 rintro aA s σ H Rr I ⟨F,L,S,env,ds,S',R,E,e,q⟩;obtain⟨⟨w1,S1⟩,e1,e⟩:=bind_some e;dsimp only at e
 split at e
 ·rename_i ds';cases e;refine aFO ha aA s σ H Rr I ⟨F,L,S,env,_,_,R,E,?_,q⟩;unfold aAA;rw[e1];rfl
 ·cases e;refine aFL ha aA s σ H Rr I ⟨F,L,S,env,_,_,R,E,?_,q⟩;unfold aAY;rw[e1];rfl
 ·cases e
end
inductive Ty where
 | int | bool | str | lst | tup
 deriving DecidableEq
noncomputable def Ty.s:Ty->String
 | .int => "int" | .bool => "bool" | .str => "str" | .lst => "list" | .tup => "tuple"
noncomputable def Ty.n:Ty->Str
 | .int => "int" | .bool => "bool" | .str => "str" | .lst => "list" | .tup => "tuple"
noncomputable def eH:Ty->D->Option D
 | _,.dict _=>qj
 | .int,.int _=>qq (.bool true)
 | .int,.bool _=>qq (.bool true)
 | .bool,.bool _=>qq (.bool true)
 | .str,.str _=>qq (.bool true)
 | .lst,.list _=>qq (.bool true)
 | .tup,.tuple _=>qq (.bool true)
 | _,_=>qq (.bool false)
theorem aGn{i:Int}:eH .int (.int i)=qq (.bool true):=rfl
theorem aGI{i:Int}:eH .bool (.int i)=qq (.bool false):=rfl
theorem aFA{xs:List D}:eH .tup (.tuple xs)=qq (.bool true):=rfl
theorem aGp{b:Bool}:eH .bool (.bool b)=qq (.bool true):=rfl
theorem aFZ{b:Bool}:eH .int (.bool b)=qq (.bool true):=rfl
theorem aD0(K:FrG){ty:Ty}{d z:D}(h:eH ty d=qq z):lJ K ty.s d=qq z:=by
 cases ty<;>cases d<;>first | (cases h;done) | (cases h;rfl)
inductive B where
 | len | mx | mn | int | abs | tup | sum | all | any
 deriving DecidableEq
noncomputable def B.g:B->List D->Option D
 | .len=>lM | .mx=>sP | .mn=>sM | .int=>lR | .abs=>sZ | .tup=>kM | .sum=>lK | .all=>pE | .any=>sS
noncomputable def B.n:B->Str
 | .len => "len" | .mx => "max" | .mn => "min" | .int => "int" | .abs => "abs" | .tup => "tuple" | .sum => "sum" | .all => "all" | .any => "any"
inductive E where
 | var (i:Nat) | int (i:Int) | bl (b:Bool) | non | str (x:Str)
 | bin (op:jk) (a b:E) | un (op:wz) (a:E) | cmp (op:vq) (a b:E) | ltl (a b:E)
 | and (a b:E) | or (a b:E) | not (a:E) | ite (c a b:E)
 | tup (es:E) | lst (es:E) | nil | cons (a r:E)
 | chn (op op':vq) (a b c:E) | con (x:Str) (ts:List Tv)
 | ix (a b:E) | dsp (k l m:Str) (a b c i:E) | lX (x:Str) (aO:List (Str×Tv)) (k:E) | slL (a lo hi:E) | sl (a lo hi:E) | no
 | call (f:Nat) (es:E) | blt (b:B) (es:E) | isi (a:E) (n:Ty) | bits (a:E) | app (o a:E) | pop (o a:E) | idx (o a:E)
 | lof (a:E) | lzip (a b:E) | lrg1 (a:E) | lrg2 (a b:E) | srt (a:E) | lrev (a:E) | lrep (a b:E) | comp (elt:E) (t:Tg) (it:E) (cond:E)
 | it (a:E) | rng1 (a:E) | rng2 (a b:E) | rng3 (a b c:E) | rrng (a:E) | enm (a:E) | zip (a b:E) | zip3 (a b c:E)
 | fz (a:E) | new (a:E)
abbrev Calls:=Nat->Option (Nat×(List W->aB->Option (W×aB)))
noncomputable def dL(C:Calls)(f:Nat)(fs:FA):FE:=λ env S=>match C f with
 | some (np,call)=>kX fs np call env S
 | none=>qj
section
variable (C : Calls)
mutual
noncomputable def ev:E->FE
 | .var i=>cV i
 | .int i=>fC (.int i)
 | .bl b=>fC (.bool b)
 | .non=>fC .none
 | .str x=>fC (.str x)
 | .bin op a b=>iH op (ev a) (ev b)
 | .un op a=>pL op (ev a)
 | .cmp op a b=>gM op (ev a) (ev b)
 | .and a b=>nY (ev a) (ev b)
 | .or a b=>oP (ev a) (ev b)
 | .not a=>oK (ev a)
 | .tup es=>lG (av es)
 | .ix a b=>jM (ev a) (ev b)
 | .call f es=>dL C f (av es)
 | .blt b es=>jE (av es) b.g
 | .isi a n=>f1 (ev a) (eJ (eH n))
 | .app o a=>cE (ev o) (ev a)
 | .fz a=>dW (lv a)
 | .new a=>cB (lv a)
 | _=>λ _ _=>qj
noncomputable def tv:E->FT
 | .and a b=>oU (tv a) (tv b)
 | .or a b=>pJ (tv a) (tv b)
 | .not a=>oW (tv a)
 | .var i=>bQ (cV i)
 | .cmp op a b=>bQ (gM op (ev a) (ev b))
 | .ix a b=>bQ (jM (ev a) (ev b))
 | .call f es=>bQ (dL C f (av es))
 | .blt b es=>bQ (jE (av es) b.g)
 | .isi a n=>bQ (f1 (ev a) (eJ (eH n)))
 | .bin op a b=>bQ (iH op (ev a) (ev b))
 | .bl b=>bQ (fC (.bool b))
 | .no=>lV
 | _=>λ _ _=>qj
noncomputable def av:E->FA
 | .nil=>gD
 | .cons a r=>dC (ev a) (av r)
 | _=>λ _ _=>qj
noncomputable def ov:E->FO
 | .no=>tV
 | .cons a .nil=>rV (ev a)
 | _=>λ _ _=>qj
noncomputable def lv:E->FL
 | .lst es=>gO (av es)
 | .comp elt t it cond=>eV t (lv it) (tv cond) (ev elt)
 | .it a=>gY (ev a)
 | .rng1 a=>kZ (ev a)
 | .enm a=>kO (ev a)
 | _=>λ _ _=>qj
end
inductive Sx where
 | skip | seq (a b:Sx) | expr (e:E) | ret (e:E)
 | ifs (c:E) (a b:Sx) | set (i:Nat) (e:E) | setC (nw:Bool) (i:Nat) (e:E)
 | loop (t:Tg) (it:E) (b:Sx)
noncomputable def xs:Sx->FS
 | .skip=>kT
 | .seq a b=>gN (xs a) (xs b)
 | .expr e=>kS (ev C e)
 | .ret e=>lN (ev C e)
 | .ifs c a b=>jN (tv C c) (xs a) (xs b)
 | .set i e=>cS i (ev C e)
 | .setC nw i e=>cS i (match nw with | true=>cB (lv C e) | false=>dW (lv C e))
 | .loop t it b=>eI t (lv C it) (xs b)
theorem aEI{i}:ev C (.var i)=cV i:=rfl
theorem aEF{i}:ev C (.int i)=fC (.int i):=rfl
theorem aGB{b}:ev C (.bl b)=fC (.bool b):=rfl
theorem aEt:ev C .non=fC .none:=rfl
theorem aE1{x}:ev C (.str x)=fC (.str x):=rfl
theorem aEA{op a b}:ev C (.bin op a b)=iH op (ev C a) (ev C b):=rfl
theorem aGa{op a}:ev C (.un op a)=pL op (ev C a):=rfl
theorem aED{op a b}:ev C (.cmp op a b)=gM op (ev C a) (ev C b):=rfl
theorem aDP{a b}:ev C (.and a b)=nY (ev C a) (ev C b):=rfl
theorem aFy{a b}:ev C (.or a b)=oP (ev C a) (ev C b):=rfl
theorem aFk{a}:ev C (.not a)=oK (ev C a):=rfl
theorem aEj{es}:ev C (.tup es)=lG (av C es):=rfl
theorem aF3{a b}:ev C (.ix a b)=jM (ev C a) (ev C b):=rfl
theorem aDj{f es}:ev C (.call f es)=dL C f (av C es):=rfl
theorem aDR{b es}:ev C (.blt b es)=jE (av C es) b.g:=rfl
theorem aEP{a n}:ev C (.isi a n)=f1 (ev C a) (eJ (eH n)):=rfl
theorem aFu{o a}:ev C (.app o a)=cE (ev C o) (ev C a):=rfl
theorem aFW{a}:ev C (.fz a)=dW (lv C a):=rfl
theorem aEB{a}:ev C (.new a)=cB (lv C a):=rfl
theorem aE8{a b}:tv C (.and a b)=oU (tv C a) (tv C b):=rfl
theorem aFP{a b}:tv C (.or a b)=pJ (tv C a) (tv C b):=rfl
theorem aE9{a}:tv C (.not a)=oW (tv C a):=rfl
theorem aEu{i}:tv C (.var i)=bQ (cV i):=rfl
theorem aD6{op a b}:tv C (.cmp op a b)=bQ (gM op (ev C a) (ev C b)):=rfl
theorem aGh{a b}:tv C (.ix a b)=bQ (jM (ev C a) (ev C b)):=rfl
theorem aC8{f es}:tv C (.call f es)=bQ (dL C f (av C es)):=rfl
theorem aEi{b es}:tv C (.blt b es)=bQ (jE (av C es) b.g):=rfl
theorem aDT{a n}:tv C (.isi a n)=bQ (f1 (ev C a) (eJ (eH n))):=rfl
theorem aFo{op a b}:tv C (.bin op a b)=bQ (iH op (ev C a) (ev C b)):=rfl
theorem aGC{b}:tv C (.bl b)=bQ (fC (.bool b)):=rfl
theorem aGf:tv C .no=lV:=rfl
theorem aDQ:av C .nil=gD:=rfl
theorem aDk{a r}:av C (.cons a r)=dC (ev C a) (av C r):=rfl
theorem aFD:ov C .no=tV:=rfl
theorem aCL{a}:ov C (.cons a .nil)=rV (ev C a):=rfl
theorem aET{es}:lv C (.lst es)=gO (av C es):=rfl
theorem aDn{elt t it cond}:lv C (.comp elt t it cond)=eV t (lv C it) (tv C cond) (ev C elt):=rfl
theorem kR{a}:lv C (.it a)=gY (ev C a):=rfl
theorem kA{a}:lv C (.rng1 a)=kZ (ev C a):=rfl
theorem kG{a}:lv C (.enm a)=kO (ev C a):=rfl
theorem aCM:xs C .skip=kT:=rfl
theorem nO{a b}:xs C (.seq a b)=gN (xs C a) (xs C b):=rfl
theorem aCV{e}:xs C (.expr e)=kS (ev C e):=rfl
theorem zE{e}:xs C (.ret e)=lN (ev C e):=rfl
theorem rJ{c a b}:xs C (.ifs c a b)=jN (tv C c) (xs C a) (xs C b):=rfl
theorem yN{i e}:xs C (.set i e)=cS i (ev C e):=rfl
theorem rC{nw i e}:xs C (.setC nw i e)=cS i (match nw with | true=>cB (lv C e) | false=>dW (lv C e)):=rfl
theorem nB{t it b}:xs C (.loop t it b)=eI t (lv C it) (xs C b):=rfl
end
theorem no{P:Prop}(h:false=true):P:=by cases h
theorem bR{a b:Bool}(h:(a&&b)=true):a=true/\b=true:=by
 cases a with
 | false=>exact no h
 | true=>exact⟨rfl,h⟩
theorem aL{a b:Bool}(h:(a&&b)=true):a=true:=(bR h).1
theorem aR{a b:Bool}(h:(a&&b)=true):b=true:=(bR h).2
theorem cC{c:Prop}{d:Decidable c}{f:c->Bool}(h:(@dite _ c d f λ _=>false)=true):c:=by
 cases d with
 | isTrue k=>exact k
 | isFalse _=>exact no h
noncomputable def cX(k:Str->Pos->Bool)(x:qw):Bool:=if h:x.ctorIdx=23 then @Expr.Name.elim (λ _=>Bool) x h k else false
theorem dR{P:qw->Prop}{k:Str->Pos->Bool}{x:qw}(h:cX k x=true)(g:∀ a b,k a b=true->P (.Name a b)):P x:=@Expr.Name.elim (λ e=>cX k e=true->P e) x (cC h) g h
noncomputable def tI(k:Const->Nat->Pos->Bool)(x:qw):Bool:=if h:x.ctorIdx=19 then @Expr.Constant.elim (λ _=>Bool) x h k else false
theorem aGX{P:qw->Prop}{k:Const->Nat->Pos->Bool}{x:qw}(h:tI k x=true)(g:∀ a b c,k a b c=true->P (.Constant a b c)):P x:=@Expr.Constant.elim (λ e=>tI k e=true->P e) x (cC h) g h
noncomputable def mH(k:qw->jk->qw->Pos->Bool)(x:qw):Bool:=if h:x.ctorIdx=2 then @Expr.BinOp.elim (λ _=>Bool) x h k else false
theorem aAC{P:qw->Prop}{k:qw->jk->qw->Pos->Bool}{x:qw}(h:mH k x=true)(g:∀ a b c d,k a b c d=true->P (.BinOp a b c d)):P x:=@Expr.BinOp.elim (λ e=>mH k e=true->P e) x (cC h) g h
noncomputable def mG(k:wz->qw->Pos->Bool)(x:qw):Bool:=if h:x.ctorIdx=3 then @Expr.UnaryOp.elim (λ _=>Bool) x h k else false
theorem sN{P:qw->Prop}{k:wz->qw->Pos->Bool}{x:qw}(h:mG k x=true)(g:∀ a b c,k a b c=true->P (.UnaryOp a b c)):P x:=@Expr.UnaryOp.elim (λ e=>mG k e=true->P e) x (cC h) g h
noncomputable def tS(k:qw->List vq->List qw->Pos->Bool)(x:qw):Bool:=if h:x.ctorIdx=15 then @Expr.Compare.elim (λ _=>Bool) x h k else false
theorem aHl{P:qw->Prop}{k:qw->List vq->List qw->Pos->Bool}{x:qw}(h:tS k x=true)(g:∀ a b c d,k a b c d=true->P (.Compare a b c d)):P x:=@Expr.Compare.elim (λ e=>tS k e=true->P e) x (cC h) g h
noncomputable def tH(k:BoolOp->List qw->Pos->Bool)(x:qw):Bool:=if h:x.ctorIdx=0 then @Expr.BoolOp.elim (λ _=>Bool) x h k else false
theorem aG3{P:qw->Prop}{k:BoolOp->List qw->Pos->Bool}{x:qw}(h:tH k x=true)(g:∀ a b c,k a b c=true->P (.BoolOp a b c)):P x:=@Expr.BoolOp.elim (λ e=>tH k e=true->P e) x (cC h) g h
noncomputable def gW(k:List qw->Nat->Pos->Bool)(x:qw):Bool:=if h:x.ctorIdx=25 then @Expr.Tuple.elim (λ _=>Bool) x h k else false
theorem jH{P:qw->Prop}{k:List qw->Nat->Pos->Bool}{x:qw}(h:gW k x=true)(g:∀ a b c,k a b c=true->P (.Tuple a b c)):P x:=@Expr.Tuple.elim (λ e=>gW k e=true->P e) x (cC h) g h
noncomputable def mC(k:List qw->Pos->Bool)(x:qw):Bool:=if h:x.ctorIdx=24 then @Expr.List.elim (λ _=>Bool) x h k else false
theorem sU{P:qw->Prop}{k:List qw->Pos->Bool}{x:qw}(h:mC k x=true)(g:∀ a b,k a b=true->P (.List a b)):P x:=@Expr.List.elim (λ e=>mC k e=true->P e) x (cC h) g h
noncomputable def tK(k:qw->qw->Pos->Bool)(x:qw):Bool:=if h:x.ctorIdx=21 then @Expr.Subscript.elim (λ _=>Bool) x h k else false
theorem aHq{P:qw->Prop}{k:qw->qw->Pos->Bool}{x:qw}(h:tK k x=true)(g:∀ a b c,k a b c=true->P (.Subscript a b c)):P x:=@Expr.Subscript.elim (λ e=>tK k e=true->P e) x (cC h) g h
noncomputable def pK(k:qw->List qw->List Keyword->Pos->Bool)(x:qw):Bool:=if h:x.ctorIdx=16 then @Expr.Call.elim (λ _=>Bool) x h k else false
theorem aAX{P:qw->Prop}{k:qw->List qw->List Keyword->Pos->Bool}{x:qw}(h:pK k x=true)(g:∀ a b c d,k a b c d=true->P (.Call a b c d)):P x:=@Expr.Call.elim (λ e=>pK k e=true->P e) x (cC h) g h
noncomputable def tR(k:qw->Str->Pos->Bool)(x:qw):Bool:=if h:x.ctorIdx=20 then @Expr.Attribute.elim (λ _=>Bool) x h k else false
theorem aGP{P:qw->Prop}{k:qw->Str->Pos->Bool}{x:qw}(h:tR k x=true)(g:∀ a b c,k a b c=true->P (.Attribute a b c)):P x:=@Expr.Attribute.elim (λ e=>tR k e=true->P e) x (cC h) g h
noncomputable def tQ(k:qw->List Comprehension->zv->Pos->Bool)(x:qw):Bool:=if h:x.ctorIdx=8 then @Expr.ListComp.elim (λ _=>Bool) x h k else false
theorem aHD{P:qw->Prop}{k:qw->List Comprehension->zv->Pos->Bool}{x:qw}(h:tQ k x=true)(g:∀ a b c d,k a b c d=true->P (.ListComp a b c d)):P x:=@Expr.ListComp.elim (λ e=>tQ k e=true->P e) x (cC h) g h
noncomputable def mL(k:qw->Pos->Bool)(x:zy):Bool:=if h:x.ctorIdx=24 then @Stmt.Expr.elim (λ _=>Bool) x h k else false
theorem sV{P:zy->Prop}{k:qw->Pos->Bool}{x:zy}(h:mL k x=true)(g:∀ a b,k a b=true->P (.Expr a b)):P x:=@Stmt.Expr.elim (λ e=>mL k e=true->P e) x (cC h) g h
noncomputable def uA(k:Option qw->Pos->Bool)(x:zy):Bool:=if h:x.ctorIdx=3 then @Stmt.Return.elim (λ _=>Bool) x h k else false
theorem aHw{P:zy->Prop}{k:Option qw->Pos->Bool}{x:zy}(h:uA k x=true)(g:∀ a b,k a b=true->P (.Return a b)):P x:=@Stmt.Return.elim (λ e=>uA k e=true->P e) x (cC h) g h
noncomputable def pI(k:qw->List zy->List zy->Pos->Bool)(x:zy):Bool:=if h:x.ctorIdx=12 then @Stmt.If.elim (λ _=>Bool) x h k else false
theorem aAB{P:zy->Prop}{k:qw->List zy->List zy->Pos->Bool}{x:zy}(h:pI k x=true)(g:∀ a b c d,k a b c d=true->P (.If a b c d)):P x:=@Stmt.If.elim (λ e=>pI k e=true->P e) x (cC h) g h
noncomputable def fJ(k:List qw->qw->Pos->Bool)(x:zy):Bool:=if h:x.ctorIdx=5 then @Stmt.Assign.elim (λ _=>Bool) x h k else false
theorem gQ{P:zy->Prop}{k:List qw->qw->Pos->Bool}{x:zy}(h:fJ k x=true)(g:∀ a b c,k a b c=true->P (.Assign a b c)):P x:=@Stmt.Assign.elim (λ e=>fJ k e=true->P e) x (cC h) g h
noncomputable def pU(k:qw->qw->List zy->List zy->Pos->Bool)(x:zy):Bool:=if h:x.ctorIdx=9 then @Stmt.For.elim (λ _=>Bool) x h k else false
theorem aAz{P:zy->Prop}{k:qw->qw->List zy->List zy->Pos->Bool}{x:zy}(h:pU k x=true)(g:∀ a b c d e,k a b c d e=true->P (.For a b c d e)):P x:=@Stmt.For.elim (λ e=>pU k e=true->P e) x (cC h) g h
noncomputable def fA{α:Type}(k:α->Bool)(l:List α):Bool:=match l with
 | [a]=>k a
 | _=>false
theorem eW{α:Type}{P:List α->Prop}{k:α->Bool}:∀ {l:List α},fA k l=true->(∀ a,k a=true->P [a])->P l
 | [],h,_=>no h
 | [a],h,g=>g a h
 | _::_::_,h,_=>no h
noncomputable def sL{α:Type}(k:α->α->Bool)(l:List α):Bool:=match l with
 | a::r=>fA (k a) r
 | []=>false
theorem zW{α:Type}{P:List α->Prop}{k:α->α->Bool}:∀ {l:List α},sL k l=true->(∀ a b,k a b=true->P [a,b])->P l
 | [],h,_=>no h
 | a::_,h,g=>eW (P:=λ r=>P (a::r)) h (g a)
theorem cO{α:Type}{P:List α->Prop}:∀ {l:List α},l.isEmpty=true->P []->P l
 | [],_,g=>g
 | _::_,h,_=>no h
noncomputable def sJ{α:Type}(o:Option α):Bool:=match o with
 | none=>true
 | some _=>false
theorem zV{α:Type}{P:Option α->Prop}:∀ {o:Option α},sJ o=true->P qj->P o
 | none,_,g=>g
 | some _,h,_=>no h
theorem nX{α:Type}{P:Option α->Prop}{k:α->Bool}:∀ {o:Option α},o.any k=true->(∀ a,k a=true->P (qq a))->P o
 | none,h,_=>no h
 | some a,h,g=>g a h
theorem dT{p:Prop}{d:Decidable p}(h:decide p=true):p:=oqT h
noncomputable def gT(sc:zv)(x:Str):Bool:=match sc.names.lookup x with
 | some .local=>true | some .cell=>true | some .free=>true | _=>false
noncomputable def loc(sc:zv)(x:Str):Bool:=match sc.names.lookup x with
 | some .local=>true | some .cell=>true | _=>false
noncomputable def zX(e:E):Bool:=decide (e.ctorIdx=E.nil.ctorIdx)
theorem aGQ{P:E->Prop}{e:E}(h:zX e=true)(g:P .nil):P e:=@E.nil.elim P e (dT h) g
noncomputable def lo(sc:zv)(x:Str):Bool:=decide (sc.names.lookup x=qq .local)
noncomputable def gl(sc:zv)(x:Str):Bool:=decide (sc.names.lookup x=qq .globalImplicit)
noncomputable def bI(e:qw):Bool:=![7,22,26].contains e.ctorIdx
noncomputable def eZ(e:qw):Bool:=![0,3,5,15].contains e.ctorIdx
noncomputable def nM(e:qw):Bool:=![16].contains e.ctorIdx
noncomputable def dB(e:qw):Bool:=![8,9,10].contains e.ctorIdx
noncomputable def aGJ(e:qw):Bool:=gW (λ _ _ _=>true) e
noncomputable def fO:List qw->Bool
 | []=>true
 | e::r=>bI e&&fO r
noncomputable def iG(scope osc:zv):zv:={scope with names:=scope.names.map λ(n,k)=>if (k==.free&&osc.kind==.function&&osc.names.lookup n==qq .cell) then (n,.cell) else (n,k) }
noncomputable def rR(scope osc:zv):Bool:=decide (scope.kind=.function)&&scope.names.all λ x=>(!decide (x.2=.cell))&&(!decide (x.2=.free)||decide (osc.names.lookup x.1=qq .cell)||decide (osc.names.lookup x.1=qq .free))&&(!decide (x.2=.local)||decide (scope.names.lookup x.1=qq .local))
noncomputable def oV(N:List Str)(scope:zv)(is:List Nat):Nat->Bool
 | 0=>true
 | n+1=>oV N scope is n&&(match N[n]? with
   | some x=>!decide (scope.names.lookup x=qq .local)||is.contains n
   | none=>true)
noncomputable def rM(b:Bool)(N:List Str)(sc:zv)(i:Nat)(x:Str):Bool:=decide (N[i]? = qq x)&&(match b with
 | true=>decide (sc.names.lookup x=qq .local)
 | false=>loc sc x)
noncomputable def rE(b:Bool)(N:List Str)(sc:zv):List Nat->List qw->Bool
 | [],es=>es.isEmpty
 | i::is,es=>(match es with
   | e::r=>cX (λ x _=>rM b N sc i x&&rE b N sc is r) e
   | []=>false)
noncomputable def lU(b:Bool)(N:List Str)(sc:zv)(t:Tg)(e:qw):Bool:=match t with
 | .one i=>cX (λ x _=>rM b N sc i x) e
 | .many is=>gW (λ es _ _=>rE b N sc is es) e
noncomputable def xO(e:E):Bool:=decide (e.ctorIdx=(E.comp .no (.one 0) .no .no).ctorIdx)
theorem aHh{P:E->Prop}{e:E}(h:xO e=true)(g:∀ a t b c,P (.comp a t b c)):P e:=@E.comp.elim P e (dT h) g
noncomputable def tB(e:E):Bool:=decide (e.ctorIdx=E.no.ctorIdx)
theorem aA0{P:E->Prop}{e:E}(h:tB e=true)(g:P .no):P e:=@E.no.elim P e (dT h) g
noncomputable def gE(c:Const)(e:qw):Bool:=tI (λ d _ _=>decide (d=c)) e
theorem iD{P:qw->Prop}{c:Const}{x:qw}(h:gE c x=true)(g:∀ k p,P (.Constant c k p)):P x:=
 aGX h λ _ k p z=>(dT z)▸g k p
noncomputable def sR(k:qw->vq->qw->Bool)(e:qw):Bool:=tS (λ x os ys _=>fA (λ o=>fA (λ y=>k x o y&&bI y) ys) os) e
theorem aAg{P:qw->Prop}{k:qw->vq->qw->Bool}{x:qw}(h:sR k x=true)(g:∀ a o b p,k a o b=true->bI b=true->P (.Compare a [o] [b] p)):P x:=
 aHl h λ a os _ p z=>eW (P:=λ os=>P (.Compare a os _ p)) z λ o z=>eW (P:=λ ys=>P (.Compare a [o] ys p)) z λ b z=>g a o b p (aL z) (aR z)
noncomputable def lB(op:BoolOp)(k:qw->qw->Bool)(e:qw):Bool:=tH (λ o es p=>decide (o=op)&&(match es with
 | [x,y]=>k x y
 | x::y::z::r=>k x (.BoolOp op (y::z::r) p)
 | _=>false)) e
theorem nN{P:qw->Prop}{op:BoolOp}{k:qw->qw->Bool}{x:qw}(h:lB op k x=true)(g:∀ a b p,k a b=true->P (.BoolOp op [a,b] p))(f:∀ a b c r p,k a (.BoolOp op (b::c::r) p)=true->P (.BoolOp op (a::b::c::r) p)):P x:=
 aG3 h λ o es p z=>by
  obtain rfl:=dT (aL z)
  match es,aR z with
  | [a,b],z=>exact g a b p z
  | a::b::c::r,z=>exact f a b c r p z
  | [],z=>exact no z
  | [_],z=>exact no z
noncomputable def tJ(k:qw->qw->Bool)(e:qw):Bool:=tK (λ x y _=>k x y&&bI y) e
theorem aHd{P:qw->Prop}{k:qw->qw->Bool}{x:qw}(h:tJ k x=true)(g:∀ a b p,k a b=true->bI b=true->P (.Subscript a b p)):P x:=aHq h λ a b p z=>g a b p (aL z) (aR z)
noncomputable def fX(k:Str->List qw->Bool)(e:qw):Bool:=pK (λ f xs ks _=>cX (λ n _=>ks.isEmpty&&k n xs) f) e
theorem jA{P:qw->Prop}{k:Str->List qw->Bool}{x:qw}(h:fX k x=true)(g:∀ n p xs q,k n xs=true->P (.Call (.Name n p) xs [] q)):P x:=
 aAX h λ _ xs ks q z=>dR (P:=λ f=>P (.Call f xs ks q)) z λ n p z=>cO (P:=λ ks=>P (.Call (.Name n p) xs ks q)) (aL z) (g n p xs q (aR z))
noncomputable def tL(nm:Str)(sc:zv)(k:qw->Bool)(e:qw):Bool:=fX (λ n xs=>decide (n=nm)&&gl sc n&&fA (λ y=>k y&&bI y) xs) e
theorem aAR{P:qw->Prop}{nm:Str}{sc:zv}{k:qw->Bool}{x:qw}(h:tL nm sc k x=true)(g:∀ p y q,gl sc nm=true->k y=true->bI y=true->P (.Call (.Name nm p) [y] [] q)):P x:=
 jA h λ n p xs q z=>by
  obtain rfl:=dT (aL (aL z));exact eW (P:=λ xs=>P (.Call (.Name n p) xs [] q)) (aR z) λ y u=>g p y q (aR (aL z)) (aL u) (aR u)
noncomputable def lW(nm:Str)(sc:zv)(k l:qw->Bool)(e:qw):Bool:=fX (λ n xs=>decide (n=nm)&&gl sc n&&sL (λ y z=>(k y&&bI y)&&(l z&&bI z)) xs) e
theorem sI{P:qw->Prop}{nm:Str}{sc:zv}{k l:qw->Bool}{x:qw}(h:lW nm sc k l x=true)(g:∀ p y z q,gl sc nm=true->k y=true->bI y=true->l z=true->bI z=true->P (.Call (.Name nm p) [y,z] [] q)):P x:=
 jA h λ n p xs q z=>by
  obtain rfl:=dT (aL (aL z));exact zW (P:=λ xs=>P (.Call (.Name n p) xs [] q)) (aR z) λ y w u=>g p y w q (aR (aL z)) (aL (aL u)) (aR (aL u)) (aL (aR u)) (aR (aR u))
noncomputable def kMe(nm:Str)(k:qw->List qw->Bool)(e:qw):Bool:=pK (λ f xs ks cp=>tR (λ o m ap=>ks.isEmpty&&(ap.endLine==cp.line)&&decide (m=nm)&&nM o&&k o xs) f) e
theorem aHv{P:qw->Prop}{nm:Str}{k:qw->List qw->Bool}{x:qw}(h:kMe nm k x=true)(g:∀ o ap xs cp,(ap.endLine==cp.line)=true->nM o=true->k o xs=true->P (.Call (.Attribute o nm ap) xs [] cp)):P x:=
 aAX h λ _ xs ks cp z=>aGP (P:=λ f=>P (.Call f xs ks cp)) z λ o m ap z=>by
  obtain rfl:=dT (aR (aL (aL z)));exact cO (P:=λ ks=>P (.Call (.Attribute o m ap) xs ks cp)) (aL (aL (aL (aL z)))) (g o ap xs cp (aR (aL (aL (aL z)))) (aR (aL z)) (aR z))
noncomputable def tG(nm:Str)(k l:qw->Bool)(e:qw):Bool:=kMe nm (λ o xs=>k o&&fA (λ y=>l y&&bI y) xs) e
theorem zU{P:qw->Prop}{nm:Str}{k l:qw->Bool}{x:qw}(h:tG nm k l x=true)(g:∀ o ap y cp,(ap.endLine==cp.line)=true->nM o=true->k o=true->l y=true->bI y=true->P (.Call (.Attribute o nm ap) [y] [] cp)):P x:=
 aHv h λ o ap xs cp h1 h2 z=>eW (P:=λ xs=>P (.Call (.Attribute o nm ap) xs [] cp)) (aR z) λ y u=>g o ap y cp h1 h2 (aL z) (aL u) (aR u)
noncomputable def aAo(k:qw->qw->qw->List qw->zv->Bool)(e:qw):Bool:=tQ (λ el gs sc _=>fA (λ g=>decide (g.is_async=0)&&k el g.target g.iter g.ifs sc) gs) e
theorem aEU{P:qw->Prop}{k:qw->qw->qw->List qw->zv->Bool}{x:qw}(h:aAo k x=true)(g:∀ e tg it ifs sc p,k e tg it ifs sc=true->P (.ListComp e [⟨tg,it,ifs,0⟩] sc p)):P x:=
 aHD h λ e _ sc p z=>eW (P:=λ gs=>P (.ListComp e gs sc p)) z λ aF z=>by
  obtain⟨tg,it,ifs,as⟩:=aF;obtain rfl:as=0:=dT (aL z);exact g e tg it ifs sc p (aR z)
noncomputable def aAE(N:List Str)(t:Tg)(cond:E)(sc:zv)(fI:qw->qw->Bool)(fT fE:zv->qw->Bool)(x:qw):Bool:=aAo (λ e tg iter ifs scope=>rR scope sc&&oV N scope t.slots N.length&&lU true N (iG scope sc) t tg&&fI tg iter&&bI iter &&
 (match ifs with | []=>tB cond | y::r=>r.isEmpty&&fT (iG scope sc) y)&&fE (iG scope sc) e) x
theorem aAG{P:qw->Prop}{N:List Str}{t:Tg}{cond:E}{sc:zv}{fI:qw->qw->Bool}{fT fE:zv->qw->Bool}{x:qw}(h:aAE N t cond sc fI fT fE x=true)(g:∀ e tg iter ifs scope p,rR scope sc=true->oV N scope t.slots N.length=true->lU true N (iG scope sc) t tg=true->fI tg iter=true->bI iter=true->(match ifs with | []=>tB cond | y::r=>r.isEmpty&&fT (iG scope sc) y)=true->fE (iG scope sc) e=true->P (.ListComp e [⟨tg,iter,ifs,0⟩] scope p)):P x:=
 aEU h λ e tg iter ifs scope p h=>g e tg iter ifs scope p (aL (aL (aL (aL (aL (aL h)))))) (aR (aL (aL (aL (aL (aL h)))))) (aR (aL (aL (aL (aL h))))) (aR (aL (aL (aL h)))) (aR (aL (aL h))) (aR (aL h)) (aR h)
structure Tx where
 fn:List (Str×Nat)
 tb:List (Str×List (Str×Tv))
 cn:List (Str×List Tv)
section
variable (T : Tx)(N : List Str)
mutual
noncomputable def bG:E->zv->qw->Bool
 | .var i,sc,x=>cX (λ x _=>decide (N[i]? = qq x)&&gT sc x && !(x==("__debug__" : Str)) && !(x==("__classdict__" : Str))) x
 | .int i,_,x=>gE (.int i) x
 | .bl i,_,x=>gE (.bool i) x
 | .non,_,x=>gE .none x
 | .str i,_,x=>gE (.str i) x
 | .bin op a b,sc,x=>mH (λ x op' y _=>decide (op'=op)&&bG a sc x&&bG b sc y) x
 | .un op a,sc,x=>mG (λ op' x _=>decide (op'=op) && !decide (op=.Not)&&bG a sc x) x
 | .cmp op a b,sc,x=>sR (λ x op' y=>decide (op'=op)&&bG a sc x&&bG b sc y) x
 | .and a b,sc,x=>lB .And (λ x y=>bG a sc x&&bG b sc y) x
 | .or a b,sc,x=>lB .Or (λ x y=>bG a sc x&&bG b sc y) x
 | .not a,sc,x=>mG (λ o x _=>decide (o=.Not)&&bG a sc x) x
 | .tup es,sc,x=>gW (λ xs _ _=>fL es sc xs) x
 | .ix a b,sc,x=>tJ (λ x y=>bG a sc x&&bG b sc y) x
 | .call f es,sc,x=>fX (λ x xs=>decide ((T.fn[f]?).map (·.1)=qq x)&&gl sc x && !(x==("__debug__" : Str))&&fL es sc xs&&fO xs) x
 | .blt b es,sc,x=>fX (λ x ys=>!ys.isEmpty&&decide (x=b.n)&&gl sc x&&fL es sc ys&&fO ys) x
 | .isi a n,sc,x=>lW "isinstance" sc (λ y=>bG a sc y) (λ z=>cX (λ z _=>decide (z=n.n)&&gl sc z) z) x
 | .app o a,sc,x=>tG "append" (λ x=>bG o sc x) (λ y=>bG a sc y) x
 | .fz a,sc,e=>mK a sc e
 | .new a,sc,e=>mK a sc e
 | _,_,_=>false
noncomputable def fG:E->zv->qw->Bool
 | .and a b,sc,x=>lB .And (λ x y=>fG a sc x&&fG b sc y) x
 | .or a b,sc,x=>lB .Or (λ x y=>fG a sc x&&fG b sc y) x
 | .not a,sc,x=>mG (λ o x _=>decide (o=.Not)&&fG a sc x) x
 | .cmp op a b,sc,x=>sR (λ x op' y=>decide (op'=op)&&bG a sc x&&bG b sc y) x
 | .var i,sc,x=>cX (λ x _=>decide (N[i]? = qq x)&&gT sc x && !(x==("__debug__" : Str)) && !(x==("__classdict__" : Str))) x&&eZ x
 | .bl i,_,x=>gE (.bool i) x&&eZ x
 | .bin op a b,sc,x=>mH (λ x op' y _=>decide (op'=op)&&bG a sc x&&bG b sc y) x&&eZ x
 | .ix a b,sc,x=>tJ (λ x y=>bG a sc x&&bG b sc y) x&&eZ x
 | .call f es,sc,x=>fX (λ x xs=>decide ((T.fn[f]?).map (·.1)=qq x)&&gl sc x && !(x==("__debug__" : Str))&&fL es sc xs&&fO xs) x&&eZ x
 | .blt b es,sc,x=>fX (λ x ys=>!ys.isEmpty&&decide (x=b.n)&&gl sc x&&fL es sc ys&&fO ys) x&&eZ x
 | .isi a n,sc,x=>lW "isinstance" sc (λ y=>bG a sc y) (λ z=>cX (λ z _=>decide (z=n.n)&&gl sc z) z) x&&eZ x
 | _,_,_=>false
noncomputable def fL:E->zv->List qw->Bool
 | .nil,_,xs=>xs.isEmpty
 | .cons a r,sc,xs=>(match xs with
   | x::xs=>bG a sc x&&bI x&&fL r sc xs
   | []=>false)
 | _,_,_=>false
noncomputable def okO:E->zv->Option qw->Bool
 | .no,_,x=>sJ x
 | .cons a r,sc,x=>zX r&&x.any λ x=>bG a sc x
 | _,_,_=>false
noncomputable def mK:E->zv->qw->Bool
 | .lst es,sc,x=>mC (λ xs _=>fL es sc xs) x
 | .comp elt t it cond,sc,x=>aAE N t cond sc (λ g y=>pR it sc g y) (λ s y=>fG cond s y) (λ s y=>bG elt s y) x
 | _,_,_=>false
noncomputable def pR:E->zv->qw->qw->Bool
 | .it a,sc,_,x=>bG a sc x
 | .rng1 a,sc,_,x=>tL "range" sc (λ y=>bG a sc y) x
 | .enm a,sc,tg,x=>aGJ tg&&tL "enumerate" sc (λ y=>bG a sc y) x
 | _,_,_,_=>false
end
mutual
noncomputable def tO:Sx->zv->zy->Bool
 | .expr e,sc,st=>mL (λ x _=>bG T N e sc x&&dB x) st
 | .ret e,sc,st=>uA (λ v _=>v.any λ x=>bG T N e sc x) st
 | .ifs c a b,sc,st=>pI (λ x y z _=>fG T N c sc x&&fB a sc y&&fB b sc z) st
 | .set i e,sc,st=>fJ (λ ts y _=>bG T N e sc y&&dB y&&fA (λ t=>cX (λ x _=>decide (N[i]? = qq x)&&loc sc x) t) ts) st
 | .setC _ i e,sc,st=>fJ (λ ts y _=>xO e&&mK T N e sc y&&fA (λ t=>cX (λ x _=>decide (N[i]? = qq x)&&loc sc x) t) ts) st
 | .loop t it b,sc,st=>pU (λ tg x y z _=>z.isEmpty&&lU false N sc t tg&&pR T N it sc tg x&&bI x&&fB b sc y) st
 | _,_,_=>false
noncomputable def fB:Sx->zv->List zy->Bool
 | .skip,_,l=>l.isEmpty
 | .seq a b,sc,l=>(match l with
   | st::r=>tO a sc st&&fB b sc r
   | []=>false)
 | _,_,_=>false
end
end
noncomputable def bltNames:List Str:=["len", "max", "min", "int", "abs", "tuple", "sum", "all", "any", "isinstance", "list", "range", "enumerate", "bool", "str", "reversed", "zip", "sorted"]
structure Ctx(T:Tx)(C:Calls)(X:Cx):Prop where
 nd:X.N.Nodup
 calm:X.calm=true
 xe:X.xe=λ _ _=>False
 kind:X.env.scope.kind=.function
 room:∃ k,Room k X.A/\∀ f np call x,C f=qq (np,call)->(T.fn[f]?).map (·.1)=qq x->∃ fa fd ps,X.mg x=qq (.ref fa)/\yAt X.K (.ref fa)=true/\cR X.K fd ps []/\FnOk X.prog X.w X.K X.mg X.base fH k fa fd ps (eN X.K np call)
 blt:∀ x∈bltNames,X.mg x=qj
 tbs:∀ x aO,(x,aO)∈T.tb->∃ a,X.mg x=qq (.ref a)/\oD X.K X.w a aO
 cns:∀ x ts,(x,ts)∈T.cn->∃ a,X.mg x=qq (.ref a)/\lA X.K a ts
theorem Ctx.units{T:Tx}{C:Calls}{X:Cx}(h:Ctx T C X):X.A.units+64<cLine:=let ⟨_,r,_⟩:=h.room;r.units
theorem Ctx.own{T:Tx}{C:Calls}{X:Cx}(h:Ctx T C X):PassesOwn (model X.prog X.w) X.A X.env X.xe:=by rw[h.xe];exact PassesOwn.never
theorem Ctx.comp{T:Tx}{C:Calls}{X Y:Cx}{scope:zv}(h:Ctx T C X)(hk:scope.kind=.function)(hy:eD X scope Y):Ctx T C Y/\Y.env.scope=iG scope X.env.scope/\Y.N=X.N/\Y.K=X.K:=by
 obtain⟨aA,fp,Ca,s₀,H₀,rfl⟩:=hy;exact⟨⟨h.nd,h.calm,rfl,hk,h.room,h.blt,h.tbs,h.cns⟩,rfl,rfl,rfl⟩
theorem cM{e:qw}(h:bI e=true)(es:List qw)(env:Env):zj (e::es) env=(false,eval e env)::zj es env:=by
 cases e<;>first | rfl | exact no h
theorem jU:∀ {es:List qw} (h:fO es=true) (env:Env) (pos:Pos),(backTo pos (zj es env)).any (·.1)=false
 | [],_,_,_=>rfl
 | e::es,h,env,pos=>by
   obtain⟨h1,h2⟩:=bR h;rw[cM h1];show(false||(backTo pos (zj es env)).any (·.1))=false
   rw[jU h2 env pos];rfl
theorem aF1{e:qw}(h:bI e=true):rG e:=by
 intro o i;cases e<;>first | rfl | exact no h
theorem wK{e:qw}(h:bI e=true)(op:vq):jz op e=false:=by
 cases e<;>first | rfl | exact no h
theorem mX{e:qw}(h:bI e=true)(env:Env)(x:qz):xq e env x=pure x:=by
 cases e<;>first | rfl | exact no h
theorem jZ{e:qw}(h:nM e=true)(m:Str)(env:Env):attributeBase e m env (eval e env)=eval e env:=by
 cases e<;>first | rfl | exact no h
theorem iU{e:qw}(h:dB e=true)(t:Option qw)(line:Nat)(env:Env):swapsWith e t line env=pure false:=by
 cases e<;>first | rfl | exact no h
theorem aEb{e:qw}(h:eZ e=true)(env:Env)(eA:Sem qz):isTrue e env eA=(do let v <- eA;standAt e.pos;holding [v] (truthy v)):=by
 cases e<;>first | rfl | exact no h
section
variable {X : Cx}
theorem zB{x:Str}(h:gT X.env.scope x=true):lZ X.env.scope x:=by
 unfold gT at h;unfold lZ
 split at h<;>first | exact .inl (by assumption) | exact .inr (.inl (by assumption)) | exact .inr (.inr (by assumption)) | exact no h
theorem kF{x:Str}(h:loc X.env.scope x=true):L2.Loc X.env.scope x:=by
 unfold loc at h;unfold L2.Loc
 split at h<;>first | exact .inl (by assumption) | exact .inr (by assumption) | exact no h
theorem dO{x:Str}(h:gl X.env.scope x=true):Gl X x:=(oqT h:X.env.scope.names.lookup x=qq .globalImplicit)
theorem fN{x y:Str}(h:(!(x==y))=true):(x==y)=false:=by
 cases e:x==y with
 | false=>rfl
 | true=>rw[e] at h;exact no h
def rH(b:Bool)(X:Cx):Prop:=b=true\/∀ x,X.fn x=true
theorem xC{b:Bool}(st:rH b X){i:Nat}{x:Str}(h:rM b X.N X.env.scope i x=true):X.N[i]? = qq x/\L2.Loc X.env.scope x/\(X.fn x=true\/X.env.scope.names.lookup x=qq .local):=by
 obtain⟨h1,h2⟩:=bR h;cases b with
 | true =>
   have h3:=oqT h2;exact⟨oqT h1,.inl h3,.inr h3⟩
 | false =>
   refine⟨oqT h1,kF h2,?_⟩;rcases st with z | z
   ·cases z
   ·exact .inl (z x)
noncomputable def lT:List Nat->dI
 | []=>sY
 | i::is=>sD (gL i) (lT is)
noncomputable def mF(K:FrG):Tg->TG
 | .one i=>gL i
 | .many is=>sK K is.length (lT is)
theorem yO(K:FrG):∀ is:List Nat,mD K is (lT is)
 | []=>aDA
 | _::is=>aCu (yO K is)
theorem oA(K:FrG)(t:Tg):GA K t (mF K t):=by
 cases t with
 | one i=>exact aFm i
 | many is=>exact aDD (yO K is)
theorem wD{b:Bool}(st:rH b X)(nd:X.N.Nodup):∀ {is:List Nat}{es:List qw},rE b X.N X.env.scope is es=true->iN X es (lT is)/\(zu es X.env).length=is.length/\(zu es X.env).findIdx? (·.1)=qj
 | [],[],_=>⟨aC1,rfl,rfl⟩
 | [],_::_,h=>no h
 | _::_,[],h=>no h
 | i::is,e::r,h=>dR (P:=λ e=>iN X (e::r) (lT (i::is))/\(zu (e::r) X.env).length=(i::is).length/\(zu (e::r) X.env).findIdx? (·.1)=qj) h λ x p h=>by
   obtain⟨a1,a2,a3⟩:=xC st (aL h);obtain⟨pg,hl2,hf⟩:=wD st nd (aR h);refine⟨aCv (rA nd a1 a2 a3) pg rfl,?_,?_⟩
   ·show((false,assign (.Name x p) X.env)::zu r X.env).length=_;rw[yCg,yCg,hl2]
   ·show((false,assign (.Name x p) X.env)::zu r X.env).findIdx? (·.1)=qj;rw[List.findIdx?_cons,hf];rfl
theorem oF{b:Bool}(st:rH b X)(nd:X.N.Nodup)(hc:X.calm=true){t:Tg}{tg:qw}(h:lU b X.N X.env.scope t tg=true):PG X tg (mF X.K t):=by
 cases t with
 | one i=>exact dR (P:=λ e=>PG X e (gL i)) h λ x p h=>let ⟨a1,a2,a3⟩:=xC st h;rA nd a1 a2 a3
 | many is=>exact jH (P:=λ e=>PG X e (mF X.K (.many is))) h λ es k p h=>let ⟨pg,hl2,hf⟩:=wD st nd h;aDN hc pg hl2 hf
end
section
variable (T : Tx)(C : Calls)
def SE(c:E):Prop:=∀ X,Ctx T C X->∀ x,bG T X.N c X.env.scope x=true->PE X x (aK X.K (ev C c))
def ST(c:E):Prop:=∀ X,Ctx T C X->∀ x,fG T X.N c X.env.scope x=true->PT X x (cJ X.K (tv C c))/\∀ op es p,x=.BoolOp op es p->PW X x (cJ X.K (tv C c))
def SA(c:E):Prop:=∀ X,Ctx T C X->∀ x,fL T X.N c X.env.scope x=true->PA X x (cT X.K (av C c))
def SO(c:E):Prop:=∀ X,Ctx T C X->∀ x,okO T X.N c X.env.scope x=true->PO X x (oX X.K (ov C c))
def SL(c:E):Prop:=∀ X,Ctx T C X->∀ x,mK T X.N c X.env.scope x=true->PE X x (eP X.K (lv C c))
def SI(c:E):Prop:=∀ X,Ctx T C X->∀ tg x,pR T X.N c X.env.scope tg x=true->PI X tg x (eK X.K (lv C c))
end
section
variable {T : Tx}{C : Calls}
theorem aDb{X:Cx}{x:qw}{f:FE}(h:∀ env S,f env S=qj):PE X x (aK X.K f):=λ aA s σ H Q I aF=>by
 obtain⟨F,L,S,env,w,S',R,E,e,q⟩:=aF;rw[h] at e;cases e
theorem aGc{X:Cx}{x:qw}{f:FE}(h:PE X x (aK X.K f))(ht:eZ x=true):PT X x (cJ X.K (bQ f))/\∀ op es p,x=.BoolOp op es p->PW X x (cJ X.K (bQ f)):=
 ⟨aFw h λ eA=>aEb ht X.env eA,λ op es p e=>by subst e;exact no ht⟩
theorem yS(i:Nat):SE T C (.var i):=λ X hX x hx=>dR (P:=λ x=>PE X x _) hx λ y p h=>aAd (dT (aL (aL (aL h)))) (zB (aR (aL (aL h)))) (fN (aR (aL h))) (fN (aR h))
theorem aEW(i:Int):SE T C (.int i):=λ X hX x h=>iD (P:=λ x=>PE X x _) h λ k p=>aGg
theorem aAb(i:Bool):SE T C (.bl i):=λ X hX x h=>iD (P:=λ x=>PE X x _) h λ k p=>aAJ
theorem aEv:SE T C .non:=λ X hX x h=>iD (P:=λ x=>PE X x _) h λ k p=>aF0
theorem aEL(i:Str):SE T C (.str i):=λ X hX x h=>iD (P:=λ x=>PE X x _) h λ k p=>aAf
theorem yJ{op:jk}{a b:E}(ha:SE T C a)(hb:SE T C b):SE T C (.bin op a b):=λ X hX x hx=>aAC (P:=λ x=>PE X x _) hx λ l o r p h=>by
 obtain rfl:=dT (aL (aL h));exact aAt (ha X hX _ (aR (aL h))) (hb X hX _ (aR h))
theorem aGE{op:wz}{a:E}(ha:SE T C a):SE T C (.un op a):=λ X hX x hx=>sN (P:=λ x=>PE X x _) hx λ o r p h=>by
 obtain rfl:=dT (aL (aL h));exact aHz (ha X hX _ (aR h))
theorem aDW{op:vq}{a b:E}(ha:SE T C a)(hb:SE T C b):SE T C (.cmp op a b):=λ X hX x hx=>aAg (P:=λ x=>PE X x _) hx λ l o r p h h4=>by
 obtain rfl:=dT (aL (aL h));exact aGl hX.units (ha X hX _ (aR (aL h))) (hb X hX _ (aR h)) (wK h4 o)
theorem aAv{X:Cx}{x:qw}{t:TT}(h:PT X x t)(n:x.ctorIdx≠0):PT X x t/\∀ op es p,x=.BoolOp op es p->PW X x t:=
 ⟨h,λ op es p e=>absurd (congrArg Expr.ctorIdx e) n⟩
theorem aE3{op:vq}{a b:E}(ha:SE T C a)(hb:SE T C b):ST T C (.cmp op a b):=λ X hX x hx=>aAg (P:=λ x=>PT X x _/\∀ op es p,x=.BoolOp op es p->PW X x _) hx λ l o r p h h4=>by
 obtain rfl:=dT (aL (aL h));exact aAv (aEE hX.units (ha X hX _ (aR (aL h))) (hb X hX _ (aR h)) (wK h4 o)) (Nat.succ_ne_zero 14)
theorem aEn{a b:E}(ha:SE T C a)(hb:SE T C b):SE T C (.and a b):=λ X hX x hx=>nN (P:=λ x=>PE X x _) hx
 (λ l r p h=>PE.weak (zH (ha X hX _ (aL h)) (zL (hb X hX _ (aR h)))) yR) λ l b c r p h=>PE.weak (zH (ha X hX _ (aL h)) (hb X hX _ (aR h))) yR
theorem aGr{a b:E}(ha:SE T C a)(hb:SE T C b):SE T C (.or a b):=λ X hX x hx=>nN (P:=λ x=>PE X x _) hx
 (λ l r p h=>PE.weak (aAc (ha X hX _ (aL h)) (zL (hb X hX _ (aR h)))) aAw) λ l b c r p h=>PE.weak (aAc (ha X hX _ (aL h)) (hb X hX _ (aR h))) aAw
theorem yG{X:Cx}{x:qw}{t:TT}(k:PW X x t):PT X x t/\∀ op es p,x=.BoolOp op es p->PW X x t:=⟨k.pt,λ _ _ _ _=>k⟩
theorem aD1{a b:E}(ha:ST T C a)(hb:ST T C b):ST T C (.and a b):=λ X hX x hx=>yG (nN (P:=λ x=>PW X x _) hx
 (λ l r p h=>PW.weak (zA (ha X hX _ (aL h)).1 (aDy (hb X hX _ (aR h)).1)) aAa) λ l b c r p h=>PW.weak (zA (ha X hX _ (aL h)).1 ((hb X hX _ (aR h)).2 _ _ _ rfl)) aAa)
theorem aFI{a b:E}(ha:ST T C a)(hb:ST T C b):ST T C (.or a b):=λ X hX x hx=>yG (nN (P:=λ x=>PW X x _) hx
 (λ l r p h=>PW.weak (zY (ha X hX _ (aL h)).1 (aE6 (hb X hX _ (aR h)).1)) aAW) λ l b c r p h=>PW.weak (zY (ha X hX _ (aL h)).1 ((hb X hX _ (aR h)).2 _ _ _ rfl)) aAW)
theorem aFt{a:E}(ha:SE T C a):SE T C (.not a):=λ X hX x hx=>sN (P:=λ x=>PE X x _) hx λ o y p h=>by
 obtain rfl:=dT (aL h);exact aEK (ha X hX _ (aR h))
theorem aD8{a:E}(ha:ST T C a):ST T C (.not a):=λ X hX x hx=>sN (P:=λ x=>PT X x _/\∀ op es p,x=.BoolOp op es p->PW X x _) hx λ o y p h=>by
 obtain rfl:=dT (aL h);exact aAv (aGj (ha X hX _ (aR h)).1) (Nat.succ_ne_zero 2)
theorem aEC{a:E}(ha:SA T C a):SE T C (.tup a):=λ X hX x hx=>jH (P:=λ x=>PE X x _) hx λ xs k p h=>aAj (ha X hX _ h)
theorem aDS{a:E}(ha:SA T C a):SL T C (.lst a):=λ X hX x hx=>sU (P:=λ x=>PE X x _) hx λ xs p h=>rX (ha X hX _ h)
theorem aDY:SA T C .nil:=λ X hX x h=>cO (P:=λ x=>PA X x _) h oJ
theorem aDK{a r:E}(ha:SE T C a)(hr:SA T C r):SA T C (.cons a r):=λ X hX x h=>by
 cases x with
 | nil=>exact no h
 | cons y ys=>exact nS (ha X hX _ (aL (aL h))) (hr X hX _ (aR h)) (cM (aR (aL h)) _ _)
theorem aFE:SO T C .no:=λ X hX x h=>zV (P:=λ x=>PO X x _) h aHm
theorem aC6{a r:E}(ha:SE T C a):SO T C (.cons a r):=λ X hX x h=>aGQ (P:=λ r=>PO X x (oX X.K (ov C (.cons a r)))) (aL h) (nX (P:=λ x=>PO X x _) (aR h) λ y h=>aFs (ha X hX _ h))
theorem aAu{a b:E}(ha:SE T C a)(hb:SE T C b):SE T C (.ix a b):=λ X hX x hx=>aHd (P:=λ x=>PE X x _) hx λ l r p h h3=>aGM (ha X hX _ (aL h)) (hb X hX _ (aR h)) (aF1 h3)
theorem aC9{N:List Str}{a:E}{sc:zv}(h:fL T N a sc []=true):a=.nil:=by
 cases a<;>first | rfl | exact no h
theorem aB4{f np:Nat}{call:List W->aB->Option (W×aB)}{fs:FA}(h:C f=qq (np,call)):dL C f fs=kX fs np call:=by
 funext env S
 unfold dL;rw[h]
theorem xY{f:Nat}{a:E}(ha:SA T C a):SE T C (.call f a):=λ X hX x hx=>jA (P:=λ x=>PE X x _) hx λ y p zs q h=>by
 cases hC:C f with
 | none=>exact aDb λ env S=>by show dL C f (av C a) env S=qj;unfold dL;rw[hC]
 | some nc =>
   obtain⟨k,rm,fs⟩:=hX.room;obtain⟨fa,fd,ps,m1,m2,m3,m4⟩:=fs f nc.1 nc.2 y hC (dT (aL (aL (aL (aL h)))));have hw:∀ σ H Q,aK X.K (ev C (.call f a)) σ H Q->oE (eN X.K nc.1 nc.2) [] E0 (cT X.K (av C a)) σ H Q:=λ σ H Q hq=>aE7 σ H Q (aB4 (fs:=av C a) hC▸hq)
   have h2:=dO (aR (aL (aL (aL h))));have h3:=fN (aR (aL (aL h)));cases zs with
   | nil =>
     refine PE.weak (aCJ m4 rm h2 m1 m2 m3 .nil zR h3) λ σ H Q hq=>?_
     obtain⟨F,L,S,env,ws,S',R,E,e,q2⟩:=hw σ H Q hq;cases aC9 (aR (aL h));cases e;exact q2 F L H [] Gr.refl R .nil
   | cons z zr=>exact PE.weak (aDF m4 rm h2 m1 m2 m3 .nil zR (ha X hX _ (aR (aL h))) h3 (cM (aL (aR h)) _ _) (jU (aR (aR h)) _ _)) hw
theorem yV{b:B}{a:E}(ha:SA T C a):SE T C (.blt b a):=λ X hX x hx=>jA (P:=λ x=>PE X x _) hx λ y p zs q h=>by
 obtain rfl:=dT (aR (aL (aL (aL h))));cases zs with
 | nil=>exact no (aL (aL (aL (aL h))))
 | cons z zr =>
 have A:=ha X hX _ (aR (aL h));have G:=dO (aR (aL (aL h)));have s1:=cM (aL (aR h)) zr X.env;have s2:=jU (aR (aR h)) X.env q;cases b with
 | len=>exact PE.weak (eS aFx G (hX.blt _ (by decide)) (by decide +kernel) A (by decide) (by decide) s1 s2) fW
 | mx=>exact PE.weak (eS (aGq hX.calm) G (hX.blt _ (by decide)) (by decide +kernel) A (by decide) (by decide) s1 s2) fW
 | mn=>exact PE.weak (eS (aGH hX.calm) G (hX.blt _ (by decide)) (by decide +kernel) A (by decide) (by decide) s1 s2) fW
 | abs=>exact PE.weak (eS aFJ G (hX.blt _ (by decide)) (by decide +kernel) A (by decide) (by decide) s1 s2) fW
 | sum=>exact PE.weak (eS (aFX hX.calm) G (hX.blt _ (by decide)) (by decide +kernel) A (by decide) (by decide) s1 s2) fW
 | all=>exact PE.weak (eS (aGG hX.calm) G (hX.blt _ (by decide)) (by decide +kernel) A (by decide) (by decide) s1 s2) fW
 | any=>exact PE.weak (eS (aFV hX.calm) G (hX.blt _ (by decide)) (by decide +kernel) A (by decide) (by decide) s1 s2) fW
 | int=>exact PE.weak (uW aGi G (hX.blt _ (by decide)) (by decide +kernel) A (by decide) (by decide) s1 s2) fW
 | tup=>exact PE.weak (uW aCY G (hX.blt _ (by decide)) (by decide +kernel) A (by decide) (by decide) s1 s2) fW
theorem wN(n:Ty):zw n.n=qq (.type n.s)/\n.n∈bltNames:=by cases n<;>exact⟨by decide +kernel,by decide⟩
theorem yF{a:E}{n:Ty}(ha:SE T C a):SE T C (.isi a n):=λ X hX x hx=>sI (P:=λ x=>PE X x _) hx λ p y w q h3 h5 h6 h7 _=>dR (P:=λ w=>PE X (.Call (.Name "isinstance" p) [y,w] [] q) _) h7 λ z pz h=>by
 obtain rfl:=dT (aL h);have k:=aF2 (X:=X) (n:=n.s) (x:=n.n) (p:=p) (p':=pz) (pos:=q) (ha X hX _ h5) (dO h3) (hX.blt _ (by decide)) (by decide +kernel) (dO (aR h)) (hX.blt _ (wN n).2) (wN n).1 (by cases n<;>decide) (by cases n<;>decide) (cM h6 _ _)
 refine PE.weak k λ σ H Q ⟨F,L,S,env,w,S',R,E,e,q2⟩=>⟨F,L,S,env,w,S',R,E,?_,q2⟩
 obtain⟨⟨w1,S1⟩,e1,e2⟩:=bind_some e;obtain⟨d,z,e3,e4,rfl,rfl⟩:=qU e2;unfold aAD f1;rw[e1];show eJ (lJ X.K n.s) _ w1=_;unfold eJ;rw[e3];dsimp only[yCt];rw[aD0 X.K e4]
theorem iP{X:Cx}{z:qw}(h:bI z=true):zj [z] X.env=(false,eval z X.env)::zj [] X.env:=cM h [] X.env
theorem tY{X:Cx}{a:E}{z:qw}(ha:SE T C a)(hX:Ctx T C X)(h:bG T X.N a X.env.scope z=true)(hp:bI z=true):PA X [z] (cT X.K (dC (ev C a) gD)):=nS (ha X hX _ h) oJ (iP hp)
theorem aER{o a:E}(ho:SE T C o)(ha:SE T C a):SE T C (.app o a):=λ X hX x hx=>zU (P:=λ x=>PE X x _) hx λ y ap z cp h4 h3 h2 h5 h6 =>
 PE.weak (aAh PySem.F.plainAttrs_list PySem.F.slot_list_append PySem.F.type_list_append qK (ho X hX _ h2) (tY ha hX h5 h6) (jZ h3 _ _) (by rw[iP h6];rfl) h4 (iP h6) rfl) aAl
theorem aGb{a:E}(ha:SE T C a):SI T C (.it a):=λ X hX tg x h=>aG1 (ha X hX _ h)
theorem aCZ{a:E}(ha:SE T C a):SI T C (.rng1 a):=λ X hX tg x hx=>aAR (P:=λ x=>PI X tg x _) hx λ p z q h2 h3 h4 =>
 PI.weak (aB9 (dO h2) (hX.blt _ (by decide)) (tY ha hX h3 h4) (iP h4)) aD9
theorem aFn{a:E}(ha:SE T C a):SI T C (.enm a):=λ X hX tg x hx=>jH (P:=λ tg=>PI X tg x _) (aL hx) λ ts k tp _=>aAR (P:=λ x=>PI X _ x _) (aR hx) λ p z q h2 h3 h4 =>
 PI.weak (aCs (dO h2) (hX.blt _ (by decide)) (tY ha hX h3 h4) (iP h4)) aC2
theorem or2{a b:Bool}(h:(a||b)=true)(n:a=false):b=true:=by
 rw[n] at h;exact h
theorem xL{scope osc:zv}(h:rR scope osc=true):ScOk scope osc:=by
 have h2:=List.all_eq_true.mp (aR h);refine⟨dT (aL h),λ x hx e=>?_,λ x hx e=>?_,λ x hx e=>?_⟩
 ·have:=h2 x hx;simp[e] at this
 ·have:=h2 x hx;simp[e] at this;exact this
 ·have:=h2 x hx;simp[e] at this;exact this
theorem rK{N:List Str}{scope:zv}{is:List Nat}:∀ {n:Nat},oV N scope is n=true->∀ i,i<n->∀ x,N[i]? = qq x->scope.names.lookup x=qq .local->i∈is
 | 0,_,i,hi,_,_,_=>absurd hi (Nat.not_lt_zero i)
 | n+1,h,i,hi,x,e,el=>by
   rcases Nat.lt_succ_iff_lt_or_eq.mp hi with z | z
   ·exact rK (aL h) i z x e el
   ·subst z;have h2:=aR h;rw[e] at h2;exact List.contains_iff_mem.mp (or2 h2 (by rw[el];rfl))
theorem aDJ{elt it cond:E}{t:Tg}(he:SE T C elt)(hi:SI T C it)(hc:ST T C cond):SL T C (.comp elt t it cond):=λ X hX x hx=>aAG (P:=λ x=>PE X x _) hx λ e tg iter ifs scope p h1 h2 h3 h4 h5 h6 h7=>by
 have sok:=xL h1;refine yT (g:=mF X.K t) hX.calm sok (λ i x a1 a2=>rK h2 i (gIm a1).1 x a1 a2) (hi X hX tg iter h4) (λ Y hY=>?_) (oA X.K t) (λ Y hY=>?_) (λ Y hY=>?_) (mX h5 X.env)
 ·obtain⟨c1,c2,c3,c4⟩:=hX.comp sok.kind hY;rw[<- c4];exact oF (.inl rfl) c1.nd c1.calm (by rw[c2,c3];exact h3)
 ·obtain⟨c1,c2,c3,c4⟩:=hX.comp sok.kind hY;cases ifs with
  | nil=>exact aA0 (P:=λ cond=>fQ Y [] (tv C cond)) h6 vH
  | cons y r=>exact cO (P:=λ r=>fQ Y (y::r) _) (aL h6) (vC (hc Y c1 y (by rw[c2,c3];exact aR h6)).1)
 ·obtain⟨c1,c2,c3,c4⟩:=hX.comp sok.kind hY;rw[<- c4];exact he Y c1 e (by rw[c2,c3];exact h7)
theorem aFS{a:E}(ha:SL T C a):SE T C (.fz a):=λ X hX x h=>sQ (ha X hX x h)
theorem aEe{a:E}(ha:SL T C a):SE T C (.new a):=λ X hX x h=>aAp (ha X hX x h)
theorem iE{c:E}(h:SE T C c)(ht:tv C c=bQ (ev C c))(hk:∀ N sc x,fG T N c sc x=(bG T N c sc x&&eZ x)):ST T C c:=λ X hX x q=>by
 rw[hk] at q;rw[ht];exact aGc (h X hX x (aL q)) (aR q)
structure Sn(T:Tx)(C:Calls)(c:E):Prop where
 e:SE T C c:=by exact λ _ _ _ h=>no h
 t:ST T C c:=by exact λ _ _ _ h=>no h
 a:SA T C c:=by exact λ _ _ _ h=>no h
 o:SO T C c:=by exact λ _ _ _ h=>no h
 l:SL T C c:=by exact λ _ _ _ h=>no h
 i:SI T C c:=by exact λ _ _ _ _ h=>no h
theorem sn(c:E):Sn T C c:=by
 induction c with
 | var i=>exact {e:=yS i,t:=iE (yS i) rfl λ _ _ _=>rfl }
 | int i=>exact {e:=aEW i }
 | bl b=>exact {e:=aAb b,t:=iE (aAb b) rfl λ _ _ _=>rfl }
 | non=>exact {e:=aEv }
 | str x=>exact {e:=aEL x }
 | bin op a b aJ bA=>exact {e:=yJ aJ.e bA.e,t:=iE (yJ aJ.e bA.e) rfl λ _ _ _=>rfl }
 | un op a aJ=>exact {e:=aGE aJ.e }
 | cmp op a b aJ bA=>exact {e:=aDW aJ.e bA.e,t:=aE3 aJ.e bA.e }
 | ltl a b aJ bA=>exact {}
 | and a b aJ bA=>exact {e:=aEn aJ.e bA.e,t:=aD1 aJ.t bA.t }
 | or a b aJ bA=>exact {e:=aGr aJ.e bA.e,t:=aFI aJ.t bA.t }
 | not a aJ=>exact {e:=aFt aJ.e,t:=aD8 aJ.t }
 | ite c a b ihc aJ bA=>exact {}
 | tup a aJ=>exact {e:=aEC aJ.a }
 | lst a aJ=>exact {l:=aDS aJ.a }
 | nil=>exact {a:=aDY }
 | cons a r aJ ihr=>exact {a:=aDK aJ.e ihr.a,o:=aC6 aJ.e }
 | chn op eO a b c aJ bA ihc=>exact {}
 | con x ts=>exact {}
 | ix a b aJ bA=>exact {e:=aAu aJ.e bA.e,t:=iE (aAu aJ.e bA.e) rfl λ _ _ _=>rfl }
 | dsp k l m a b c i aJ bA ihc ihi=>exact {}
 | lX x aO k ihk=>exact {}
 | slL a lo hi aJ ihlo ihhi=>exact {}
 | sl a lo hi aJ ihlo ihhi=>exact {}
 | no=>exact {o:=aFE }
 | call f a aJ=>exact {e:=xY aJ.a,t:=iE (xY aJ.a) rfl λ _ _ _=>rfl }
 | blt b a aJ=>exact {e:=yV aJ.a,t:=iE (yV aJ.a) rfl λ _ _ _=>rfl }
 | isi a n aJ=>exact {e:=yF aJ.e,t:=iE (yF aJ.e) rfl λ _ _ _=>rfl }
 | bits a aJ=>exact {}
 | app o a iho aJ=>exact {e:=aER iho.e aJ.e }
 | pop o a iho aJ=>exact {}
 | idx o a iho aJ=>exact {}
 | lof a aJ=>exact {}
 | lzip a b aJ bA=>exact {}
 | lrg1 a aJ=>exact {}
 | lrg2 a b aJ bA=>exact {}
 | srt a aJ=>exact {}
 | lrev a aJ=>exact {}
 | lrep a b aJ bA=>exact {}
 | comp elt t it cond ihelt ihit ihcond=>exact {l:=aDJ ihelt.e ihit.i ihcond.t }
 | it a aJ=>exact {i:=aGb aJ.e }
 | rng1 a aJ=>exact {i:=aCZ aJ.e }
 | rng2 a b aJ bA=>exact {}
 | rng3 a b c aJ bA ihc=>exact {}
 | rrng a aJ=>exact {}
 | enm a aJ=>exact {i:=aFn aJ.e }
 | zip a b aJ bA=>exact {}
 | zip3 a b c aJ bA ihc=>exact {}
 | fz a aJ=>exact {e:=aFS aJ.l }
 | new a aJ=>exact {e:=aEe aJ.l }
end
section
variable (T : Tx)(C : Calls)
def SS(c:Sx):Prop:=∀ X,Ctx T C X->(∀ x,X.fn x=true)->∀ st,tO T X.N c X.env.scope st=true->PS X st (bM X.K (xs C c))
def gX(c:Sx):Prop:=∀ X,Ctx T C X->(∀ x,X.fn x=true)->∀ st,fB T X.N c X.env.scope st=true->aW X st (bM X.K (xs C c))
end
section
variable {T : Tx}{C : Calls}
theorem aEX{a b:Sx}(ha:SS T C a)(hb:gX T C b):gX T C (.seq a b):=λ X hX hf st h=>by
 cases st with
 | nil=>exact no h
 | cons s r =>
   obtain⟨h1,h2⟩:=bR h;exact aAq (ha X hX hf _ h1) (hb X hX hf _ h2)
theorem aCO:gX T C .skip:=λ X hX hf st h=>cO (P:=λ st=>aW X st _) h zN
theorem aDw{e:E}:SS T C (.expr e):=λ X hX hf st h=>sV (P:=λ st=>PS X st _) h λ x p h=>yI ((sn e).e X hX _ (aL h)) (iU (aR h) _ _ _)
theorem aDO{e:E}:SS T C (.ret e):=λ X hX hf st h=>aHw (P:=λ st=>PS X st _) h λ _ p h=>nX (P:=λ v=>PS X (.Return v p) _) h λ x h=>aF5 ((sn e).e X hX _ h)
theorem aEZ{c:E}{a b:Sx}(ha:gX T C a)(hb:gX T C b):SS T C (.ifs c a b):=λ X hX hf st h=>aAB (P:=λ st=>PS X st _) h λ x y z p h=>aHa ((sn c).t X hX _ (aL (aL h))).1 (ha X hX hf _ (aR (aL h))) (hb X hX hf _ (aR h))
theorem aEa{i:Nat}{e:E}:SS T C (.set i e):=λ X hX hf st h=>gQ (P:=λ st=>PS X st _) h λ _ y p h=>eW (P:=λ ts=>PS X (.Assign ts y p) _) (aR h) λ _ g=>dR (P:=λ t=>PS X (.Assign [t] y p) _) g λ x q g =>
 rP hX.nd (dT (aL g)) (kF (aR g)) ((sn e).e X hX _ (aL (aL h))) (iU (aR (aL h)) _ _ _) (.inl (hf _))
theorem aG7{K:FrG}{f:FL}(σ:St)(H:Hp)(Q:VK)(h:aK K (dW f) σ H Q):eP K f σ H Q:=by
 obtain⟨F,L,S,env,w,S',R,E,e,q⟩:=h;obtain⟨⟨ds,S1⟩,e1,e2⟩:=bind_some e;cases e2;exact⟨F,L,S,env,ds,_,R,E,e1,λ F1 L1 H1 p xs g1 R1 hF hL hH dl=>q _ L1 _ _ (g1.trans (Gr.new hF)) (R1.adopt hF hL hH) (Den.lst (aX.of bP) (dl.mono (cK hF)))⟩
theorem aGx{K:FrG}{f:FL}(σ:St)(H:Hp)(Q:VK)(h:aK K (cB f) σ H Q):eP K f σ H Q:=by
 obtain⟨F,L,S,env,w,S',R,E,e,q⟩:=h;obtain⟨⟨ds,S1⟩,e1,e2⟩:=bind_some e;cases e2;refine⟨F,L,S,env,ds,_,R,E,e1,λ F1 L1 H1 p xs g1 R1 hF hL hH dl=>q _ _ _ _ (g1.trans Gr.newLoc) (R1.adoptLoc hF hL hH dl) ⟨p,?_,rfl⟩⟩
 dsimp only;rw[<- R1.len,yAa (yAc _)];simp
theorem aGR{K:FrG}{f:FL}(nw:Bool):∀ (σ:St) (H:Hp) (Q:VK),aK K (match nw with | true=>cB f | false=>dW f) σ H Q->eP K f σ H Q:=by
 cases nw
 ·exact aG7
 ·exact aGx
theorem aDs{nw:Bool}{i:Nat}{e:E}:SS T C (.setC nw i e):=λ X hX hf st h=>gQ (P:=λ st=>PS X st _) h λ _ y p h=>eW (P:=λ ts=>PS X (.Assign ts y p) _) (aR h) λ _ g=>dR (P:=λ t=>PS X (.Assign [t] y p) _) g λ x q g=>by
 refine aHh (P:=λ e=>mK T X.N e X.env.scope y=true->PS X (.Assign [.Name x q] y p) (bM X.K (xs C (.setC nw i e)))) (aL (aL h)) (λ elt t it cond hL=>aAG (P:=λ y=>PS X (.Assign [.Name x q] y p) (bM X.K (xs C (.setC nw i (.comp elt t it cond))))) hL λ e tg iter ifs scope r h1 h2 h3 h4 h5 h6 h7=>?_) (aR (aL h))
 have sok:=xL h1;refine aB7 (g:=mF X.K t) hX.nd (dT (aL g)) (kF (aR g)) (.inl (hf _)) hX.calm sok (λ i x a1 a2=>rK h2 i (gIm a1).1 x a1 a2) ((sn it).i X hX tg iter h4) (λ Y hY=>?_) (oA X.K t) (λ Y hY=>?_) (λ Y hY=>?_) (mX h5 X.env) (aGR nw)
 ·obtain⟨c1,c2,c3,c4⟩:=hX.comp sok.kind hY;rw[<- c4];exact oF (.inl rfl) c1.nd c1.calm (by rw[c2,c3];exact h3)
 ·obtain⟨c1,c2,c3,c4⟩:=hX.comp sok.kind hY;cases ifs with
  | nil=>exact aA0 (P:=λ cond=>fQ Y [] (tv C cond)) h6 vH
  | cons y r=>exact cO (P:=λ r=>fQ Y (y::r) _) (aL h6) (vC ((sn cond).t Y c1 y (by rw[c2,c3];exact aR h6)).1)
 ·obtain⟨c1,c2,c3,c4⟩:=hX.comp sok.kind hY;rw[<- c4];exact(sn elt).e Y c1 e (by rw[c2,c3];exact h7)
theorem aAK{b:Bool}(h:(!b)=true):b=false:=by
 cases b with
 | false=>rfl
 | true=>exact no h
theorem aCX{t:Tg}{it:E}{b:Sx}(hb:gX T C b):SS T C (.loop t it b):=λ X hX hf st h=>aAz (P:=λ st=>PS X st _) h λ tg x y z p h=>cO (P:=λ z=>PS X (.For tg x y z p) _) (aL (aL (aL (aL h))))
 (aFY hX.own hX.calm ((sn it).i X hX _ _ (aR (aL (aL h)))) (oF (.inr hf) hX.nd hX.calm (aR (aL (aL (aL h))))) (oA X.K t) (hb X hX hf _ (aR h)) (mX (aR (aL h)) X.env))
theorem ss(c:Sx):SS T C c/\gX T C c:=by
 have N2:∀ {c:Sx},SS T C c->(∀ N sc st,fB T N c sc st=false)->SS T C c/\gX T C c:=λ q hh=>⟨q,λ X hX hf st h=>by rw[hh] at h;exact no h⟩
 induction c with
 | skip=>exact⟨λ X hX hf st h=>no h,aCO⟩
 | seq a b aJ bA=>exact⟨λ X hX hf st h=>no h,aEX aJ.1 bA.2⟩
 | expr e=>exact N2 aDw λ _ _ _=>rfl
 | ret e=>exact N2 aDO λ _ _ _=>rfl
 | ifs c a b aJ bA=>exact N2 (aEZ aJ.2 bA.2) λ _ _ _=>rfl
 | set i e=>exact N2 aEa λ _ _ _=>rfl
 | setC nw i e=>exact N2 aDs λ _ _ _=>rfl
 | loop t it b bA=>exact N2 (aCX bA.2) λ _ _ _=>rfl
end
structure Fn where
 name:Str
 np:Nat
 N:List Str
 body:Sx
 st:zy
noncomputable def bF(fs:List Fn):Nat->Calls
 | 0=>λ _=>qj
 | d+1=>λ f=>(fs[f]?).map λ F=>(F.np,bY (xs (bF fs d) F.body) F.N.length)
structure Tbs where
 tb:List (Str×List (Str×Tv))
 cn:List (Str×List Tv)
noncomputable def lX(fs:List Fn)(tb:Tbs):Tx:=⟨fs.map λ F=>(F.name,F.np),tb.tb,tb.cn⟩
noncomputable def nV:List Str->Bool
 | []=>true
 | x::r=>!r.contains x&&nV r
theorem qT:∀ {l:List Str},nV l=true->l.Nodup
 | [],_=>List.nodup_nil
 | x::r,h=>by
   obtain⟨h1,h2⟩:=bR h;refine List.nodup_cons.mpr ⟨λ z=>?_,qT h2⟩
   have:r.contains x=true:=by simpa using z
   rw[this] at h1;exact no h1
noncomputable def lF(fs:List Fn)(tb:Tbs)(F:Fn):Bool:=
 decide ((bE F.st).kind=.function) && !(bE F.st).isCoroutine && !(bE F.st).isGenerator&&nV F.N&&decide (F.np<=F.N.length)&&(F.N.take F.np).all (loc (bE F.st))&&(bE F.st).names.all (λ y=>!decide (y.2=.free)) &&
  fB (lX fs tb) F.N F.body (bE F.st) (cN F.st)
theorem yD{sc:zv}{x:Str}(h:loc sc x=true):sc.names.lookup x=qq .local\/sc.names.lookup x=qq .cell:=by
 unfold loc at h
 split at h<;>first | exact .inl (by assumption) | exact .inr (by assumption) | exact no h
theorem aCC{fs:List Fn}{tb:Tbs}{F:Fn}(h:lF fs tb F=true):FnScope F.N (F.N.take F.np) (bE F.st)/\fB (lX fs tb) F.N F.body (bE F.st) (cN F.st)=true/\(F.N.take F.np).length=F.np:=by
 obtain⟨h,h8⟩:=bR h;obtain⟨h,h7⟩:=bR h;obtain⟨h,h6⟩:=bR h;obtain⟨h,h5⟩:=bR h;obtain⟨h,h4⟩:=bR h;obtain⟨h,h3⟩:=bR h;obtain⟨h1,h2⟩:=bR h;have hl:(F.N.take F.np).length=F.np:=by
  rw[yCd];have:=oqT h5;omega
 refine⟨⟨oqT h1,?_,?_,qT h4,by rw[hl],λ x hx=>yD (List.all_eq_true.mp h6 x hx),λ y hy=>?_⟩,h8,hl⟩
 ·cases q:(bE F.st).isCoroutine with
  | false=>rfl
  | true=>rw[q] at h2;exact no h2
 ·cases q:(bE F.st).isGenerator with
  | false=>rfl
  | true=>rw[q] at h3;exact no h3
 ·have:=List.all_eq_true.mp h7 y hy;intro z;rw[dqT z] at this;exact no this
section
variable {P : qo}{w : zq}{K : FrG}{mg : Str -> Option qz}{base : Heap}
theorem xT(fs:List Fn)(tb:Tbs)(hk:∀ F∈fs,lF fs tb F=true)(top:∀ F∈fs,∃ fa fd,Fun K F.name F.name F.st fa fd/\mg F.name=qq (.ref fa)/\cR K fd (F.N.take F.np) [])(hb:∀ x∈bltNames,mg x=qj)(ht:∀ x aO,(x,aO)∈tb.tb->∃ a,mg x=qq (.ref a)/\oD K w a aO)(hcn:∀ x ts,(x,ts)∈tb.cn->∃ a,mg x=qq (.ref a)/\lA K a ts) :
 ∀ d f F np call fa fd,fs[f]? = qq F->bF fs d f=qq (np,call)->Fun K F.name F.name F.st fa fd->FnOk P w K mg base fH d fa fd (F.N.take F.np) (eN K np call)
 | 0,f,F,np,call,fa,fd,eF,e,Fu=>by cases e
 | d+1,f,F,np,call,fa,fd,eF,e,Fu=>by
   have ih:=xT fs tb hk top hb ht hcn d;have e2:(F.np,bY (xs (bF fs d) F.body) F.N.length)=(np,call):=by
    have e':(fs[f]?).map (λ F=>(F.np,bY (xs (bF fs d) F.body) F.N.length))=qq (np,call):=e
    rw[eF] at e';exact Option.some.inj e'
   cases e2;have hm:F∈fs:=xAi eF;obtain⟨sc,hok,hl⟩:=aCC (hk F hm);refine Fu.ok sc (λ vs H Q E h=>?_) λ cdv A outer s H vs Q E hr h=>?_
   ·obtain⟨F1,L,S,ws,w1,S',hn,R,dl,_⟩:=h;rw[hl,<- hn];exact dl.length.symm
   ·refine⟨_,(ss (T:=lX fs tb) (C:=bF fs d) F.body).2 _ ⟨sc.nd,rfl,rfl,sc.kind,⟨d,hr,λ f' np' call' x' e1 e2=>?_⟩,hb,λ x aO hx=>ht x aO hx,λ x ts hx=>hcn x ts hx⟩ (λ _=>rfl) _ hok,yM h⟩
    have e2:((fs.map λ F=>(F.name,F.np))[f']?).map (·.1)=qq x':=e2
    rw[xAb] at e2;cases q:fs[f']? with
    | none=>rw[q] at e2;cases e2
    | some F' =>
      rw[q] at e2;have hx:F'.name=x':=Option.some.inj e2;subst hx;obtain⟨fa',fd',Fu',hmg',hbi'⟩:=top F' (xAi q);exact⟨fa',fd',_,hmg',Fu'.kp,hbi',ih f' F' np' call' fa' fd' q e1 Fu'⟩
end
structure TopFn(K:FrG)(F:Fn):Prop where
 ex:∃ (f:qv) (oc:qz) (od an:Option qv) (sl:Array (Option qz)) (kV dc pm cd ct:qz),yBt K qy F.name=qq (qq (.ref f)) /\
  K.lookup f=qq ⟨oc,od,.func (yBf F.name F.name (fR F.st) (cN F.st) (bE F.st) .none kV dc pm an cd ct),sl⟩/\yCb K cd F.name=true/\yAt K (.ref f)=true
theorem top_mk{K:FrG}{F:Fn}{f:qv}{oc:qz}{od an:Option qv}{sl:Array (Option qz)}{kV dc pm cd ct:qz}(a:yBt K qy F.name=qq (qq (.ref f)))
 (l:K.lookup f=qq ⟨oc,od,.func (yBf F.name F.name (fR F.st) (cN F.st) (bE F.st) .none kV dc pm an cd ct),sl⟩) (c:yCb K cd F.name=true) (k:yAt K (.ref f)=true):TopFn K F:=
 ⟨f,oc,od,an,sl,kV,dc,pm,cd,ct,a,l,c,k⟩
structure TabTop(K:FrG)(w:zq)(t:Str×List (Str×Tv)):Prop where
 ex:∃ (a:qv) (es:Array DictEntry) (ep:Nat),yBt K qy t.1=qq (qq (.ref a))/\K.lookup a=qq {cls:=.type "dict",data:=.dict es ep }/\sF w es.toList t.2
structure ConTop(K:FrG)(t:Str×List Tv):Prop where
 ex:∃ a:qv,yBt K qy t.1=qq (qq (.ref a))/\lA K a t.2
def iV(F:Fn):Prop:=∀ (kV doc pm:qz) (an:Option qv) (cdv ct:qz) (us:List qz),us.length=(F.N.take F.np).length->bindArgs (yBf F.name F.name (fR F.st) (cN F.st) (bE F.st) .none kV doc pm an cdv ct) ⟨us,[]⟩=pure ((F.N.take F.np).zip us)
noncomputable def nZ(F:Fn):Bool:=match fR F.st with
 | ⟨[],as,qj,[],_,qj,_⟩=>decide (F.N.take F.np=as.map (·.arg))&&decide (F.N.take F.np).Nodup
 | _=>false
theorem wA:∀ {ns:List Str}{us:List qz},ns.Nodup->us.length=ns.length->(∀ n∈ns,((ns.zip us).lookup n).isNone=false)/\ns.filterMap (λ n=>((ns.zip us).lookup n).map (n,·))=ns.zip us
 | [],us,_,_=>⟨λ n h=>(nomatch h),by cases us<;>rfl⟩
 | x::ns,[],_,h=>by cases h
 | x::ns,u::us,hn,hl=>by
   obtain⟨h1,h2⟩:=List.nodup_cons.mp hn;obtain⟨i1,i2⟩:=wA h2 (Nat.succ.inj hl);have e:∀ n∈ns,((x,u)::ns.zip us).lookup n=(ns.zip us).lookup n:=λ n m=>by
    rw[yAw];have:(n==x)=false:=by
     rw[beq_eq_false_iff_ne];rintro rfl;exact h1 m
    rw[this]
   refine⟨λ n m=>?_,?_⟩
   ·rw[List.zip_cons_cons];rcases List.mem_cons.mp m with rfl | m
    ·rw[yAw,beq_self_eq_true];rfl
    ·rw[e n m];exact i1 n m
   ·rw[List.zip_cons_cons,yBi,yAw,beq_self_eq_true];show(x,u)::_=_;congr 1;rw[<- i2];rw[i2];have g:∀ l:List Str,(∀ n∈l,n∈ns)->l.filterMap (λ n=>(((x,u)::ns.zip us).lookup n).map (n,·))=l.filterMap (λ n=>((ns.zip us).lookup n).map (n,·)):=λ l=>by
     induction l with
     | nil=>intro _;rfl
     | cons y l ih=>intro hl;rw[yBi,yBi,e y (hl y xAd),ih λ n m=>hl n (xAf _ m)]
    rw[g ns λ n m=>m,i2]
theorem wO{F:Fn}(h:nZ F=true):iV F:=by
 intro kV doc pm an cdv ct us hu;unfold nZ at h
 split at h
 ·rename_i as kd df e;obtain⟨h1,h2⟩:=bR h;have h1:=oqT h1;rw[e];rw[h1] at hu h2 ⊢;obtain⟨i1,i2⟩:=wA (oqT h2) hu;have m:((as.map (·.arg)).take (as.map (·.arg)).length).filter (λ n=>(((as.map (·.arg)).zip us).lookup n).isNone)=[]:=by
   rw[yBp,List.filter_eq_nil_iff];intro n hn;rw[i1 n hn];decide
  unfold bindArgs;have q:seqItems? Value.none=(pure qj:Sem (Option (Array qz))):=rfl;simp only[yBf,q,pure_bind,yDj,List.nil_append,yAs,List.forIn_nil,Option.getD_none,List.length_nil,List.drop_nil,List.zip_nil_right,Nat.sub_zero,hu,gt_iff_lt,yAl,decide_false,Bool.false_and,yAu,if_false,m,List.isEmpty_nil,Bool.not_true,i2,Option.isNone_none]
 ·exact no h
theorem uP:∀ {ns:List Int}{i:Int},i∈ns->yAh i<=PySem.W.WData.weightAll (ns.map PySem.W.WData.int)
 | [],i,h=>by cases h
 | n::r,i,h=>by
   have e:PySem.W.WData.weightAll ((n::r).map PySem.W.WData.int)=yAh n+1+PySem.W.WData.weightAll (r.map PySem.W.WData.int):=rfl;rw[e];rcases List.mem_cons.mp h with z | z
   ·subst z;omega
   ·have:=uP z;omega
theorem aCi{ns:List Int}(h:PySem.W.WData.layableAll [PySem.W.WData.list (ns.map PySem.W.WData.int)]=true):∀ i∈ns,yAh i<=1048576:=λ i hi=>by
 have h1:PySem.W.WData.layable (PySem.W.WData.list (ns.map PySem.W.WData.int))=true:=by
  have:=List.all_eq_true.mp h _ xAd;exact this
 have h2:PySem.W.WData.weight (PySem.W.WData.list (ns.map PySem.W.WData.int))<=2^20:=oqT (bR h1).2;exact xAg (uP hi) h2
theorem aDa{l:yDs}{n:Nat}{q:qo}{loose:List Str}{XP:(Str->Option qz)->Heap->Prop}{YP:zq->Heap->Prop}{d:DefRec}
 (hn:l.most=qq n) (hdf:d.params.defaults=[])
 (go:∀ (w:zq) (s₀ s₁:qx) (mg mb:Str->Option qz) (fa:qv) (a:qv) (vs:List qz) (ns:List Int),
   PySem.W.Ground q loose [] XP w s₀ mg mb s₁.heap->YP w s₁.heap->mg d.name=qq (.ref fa) ->
   s₁.heap.get? a=qq {cls:=.type "list",data:=.seq vs.toArray }->IntsAre vs ns->ns.length<=n->(∀ i∈ns,yAh i<=1048576)->s₁.gens = #[] ->
   vz (model l.prog w) callerA (.call (.ref fa) ⟨[.ref a],[]⟩) (λ r s'=>r=.ok (.ret (.bool true))/\OldK s₁.heap s'.heap/\s'.os=s₁.os/\AllBare s'.gens) s₁) :
 PySem.W.WalkO q loose XP YP l.row.toRowW d [] (λ f vs=>PySem.call f vs):=by
 intro w s₀ s₁ mg mb G Y fa o pm cd doc dV kV ho hd hcd hD hmg hg args vals as hpre hlay hrd hwl hlo;obtain rfl:dV=.none:=PySem.W.Dflts.none hD hdf;obtain rfl:kV=.none:=PySem.W.Dflts.noKw hD;obtain⟨a,vs,ns,rfl,rfl,hobj,hints,bL⟩:=Att.script_of hn hpre hwl;refine PySem.W.enter_call (codeAny_mono (go w s₀ s₁ mg mb fa a vs ns G Y hmg hobj hints bL (aCi hlay) hg) λ r s' hq=>?_)
 obtain⟨rfl,h2,h3,h4⟩:=hq;exact⟨.inl ⟨.bool true,.bool true,[],rfl,λ _=>rfl,.bool true,Att.post_true l _,λ _=>⟨List.Pairwise.nil,λ _ hm=>(nomatch hm)⟩⟩,h2,h3,h4⟩
structure Trc(h:Heap)(h0:Heap)(H:Hp)(e:qv)(cls:qz)(dx:Option qv)(fl:Option qz):Prop where
 ex:∃ oe vs,h.get? e=qq oe/\oe.cls=cls/\oe.dict=dx/\oe.data=.fields vs/\1<vs.size/\h0.get? e=qj/\H e=qj /\
  (fl=qj/\vs[1]? = qq .none\/∃ f T oT ts,fl=qq f/\vs[1]? = qq (.ref T)/\T≠e/\h0.get? T=qj/\H T=qj/\h.get? T=qq oT/\oT.data=.fields ts/\ts[3]? = qq f)
structure Chg(fs:List qv)(h0:Heap)(H:Hp)(h h':Heap):Prop where
 keep:∀ b o,h.get? b=qq o->b ∉ fs->(h0.get? b≠qj\/H b≠qj\/∀ vs,o.data≠.fields vs)->h'.get? b=qq o
 slot:∀ b o,h.get? b=qq o->b∈fs->(∀ vs,o.data≠.fields vs)->∃ sl,h'.get? b=qq {o with slots:=sl }
 there:∀ b o,h.get? b=qq o->∃ o',h'.get? b=qq o'
theorem Chg.refl{fs:List qv}{h0:Heap}{H:Hp}{h:Heap}:Chg fs h0 H h h:=⟨λ _ _ e _ _=>e,λ _ o e _ _=>⟨o.slots,e⟩,λ _ o e=>⟨o,e⟩⟩
theorem Chg.trans{fs:List qv}{h0:Heap}{H:Hp}{h h1 h2:Heap}(a:Chg fs h0 H h h1)(b:Chg fs h0 H h1 h2):Chg fs h0 H h h2:=
 ⟨λ c o e n q=>b.keep c o (a.keep c o e n q) n q,λ c o e n q=>by
  obtain⟨sl,e1⟩:=a.slot c o e n q;obtain⟨sl2,e2⟩:=b.slot c _ e1 n q;exact⟨sl2,e2⟩,λ c o e=>let ⟨o1,e1⟩:=a.there c o e;b.there c o1 e1⟩
section
variable {M : Model}{A : zx}{E : qz -> qx -> Prop}{s : qx}
theorem aCA{base:Heap}{env:Env}{outer:List Env}{L e:qv}{oe:Obj}{vs:Array qz}{head:qz}{hadNext:Bool}{Q:Unit->qx->Prop}
 (hfr:A.frames=qq (env::outer)) (hl:s.heap.FunFrames base (env::outer)) (hf:env.frame=qq L) (he:s.heap.get? e=qq oe) (hd:oe.data=.fields vs) (hsz:1<vs.size)
 (h:∀ h' T oT ts,h'.get? e=qq (oe.mapFields (·.setIfInBounds 1 (.ref T)))->s.heap.objs.size<=T->h'.get? T=qq oT->oT.data=.fields ts->ts[3]? = qq (xw L) ->
   (∀ b o,s.heap.get? b=qq o->b≠e->b ∉ bT (env::outer)->h'.get? b=qq o)->(∀ b o,s.heap.get? b=qq o->b≠e->∃ sl,h'.get? b=qq {o with slots:=sl })->Q () {s with heap:=h' }) :
 qu M A (do let a <- frameOf env;let pl <- entryPlaceOf L hadNext;let b <- EntryCells.newEntry head a .none (xw L) .none pl;setField (.ref e) 1 b) Q E s:=by
 have hene:e ∉ (env::outer).filterMap (·.frame):=λ hm=>by
  obtain⟨_,o,ho,hnf⟩:=hl.mem hm;rw[he] at ho;cases ho;exact hnf vs hd
 refine wB (wpAny_frameOf_fun hfr hl hf λ h1 hs1=>?_)
 refine wB (wpAny_entryPlaceOf λ pl hpl=>?_)
 unfold EntryCells.newEntry newFields;refine wB (jv ?_ (hpl.sizeOk5 _ _ _ _ _));have he1:h1.get? e=qq oe:=(hs1.2.1 e hene).trans he;generalize hob:({cls:=.type "traceback",dict:=qj,data:=.fields ([head,.ref L,.none,xw L,.none]++(if pl.isEmpty then yAb 6 Value.none else pl)).toArray }:Obj)=ob
 have hobd:ob.data=.fields ([head,.ref L,.none,xw L,.none]++(if pl.isEmpty then yAb 6 Value.none else pl)).toArray:=by rw[<- hob]
 have he2:=hpS (h:=h1) ob he1;refine wpAny_setField he2 hd hsz ?_;have hTe:h1.objs.size≠e:=yDi (xAa he1);have hd3:=Obj.data_mapFields hd (·.setIfInBounds 1 (Value.ref h1.objs.size));have hfr:ob.isFreed=false:=Obj.isFreed_of_fields hobd;refine h _ h1.objs.size ob _ (yBx _ he2 (Obj.isFreed_of_fields hd3)) (by rw[hs1.1];exact yAc _) ?_ hobd (by simp) (λ b o hb hbe hbf=>?_) λ b o hb hbe=>?_
 ·rw[yAx _ _ (Ne.symm hTe)];exact xAe h1 hfr
 ·rw[yAx _ _ (Ne.symm hbe)];exact hpS _ ((hs1.2.1 b hbf).trans hb)
 ·obtain⟨sl,hs⟩:=hs1.2.2 b o hb;exact⟨sl,by rw[yAx _ _ (Ne.symm hbe)];exact hpS _ hs⟩
theorem aCT{base:Heap}{env:Env}{outer:List Env}{L e:qv}{cls:qz}{dx:Option qv}{fl:Option qz}{h0:Heap}{H:Hp}{Q:Unit->qx->Prop}
 (hfr:A.frames=qq (env::outer)) (hl:s.heap.FunFrames base (env::outer)) (hf:env.frame=qq L) (hlo:∀ b,s.heap.objs.size<=b->h0.get? b=qj) (hH:∀ b,s.heap.objs.size<=b->H b=qj) (ht:Trc s.heap h0 H e cls dx fl)
 (hfl:fl=qj\/fl=qq .none\/fl=qq (xw L)) (h:∀ h',Trc h' h0 H e cls dx (qq (xw L))->Chg (bT (env::outer)) h0 H s.heap h'->Q () {s with heap:=h' }):qu M A (noteFrame (.ref e) env) Q E s:=by
 obtain⟨oe,vs,he,hc,hdx,hd,hsz,hle,hHe,ht⟩:=id ht.ex;have last:∀ {s1:qx}{head:qz}{hn:Bool},s1.heap.FunFrames base (env::outer)->s1.heap.get? e=qq oe->s1.heap.objs.size=s.heap.objs.size->Chg (bT (env::outer)) h0 H s.heap s1.heap->(∀ h',Q () {s1 with heap:=h' }=Q () {s with heap:=h' }) ->
  qu M A (do let a <- frameOf env;let pl <- entryPlaceOf L hn;let b <- EntryCells.newEntry head a .none (xw L) .none pl;setField (.ref e) 1 b) Q E s1:=by
  intro s1 head hn hl1 he1 hz c1 hQ;refine aCA hfr hl1 hf he1 hd hsz λ h' T oT ts x1 x2 x3 x4 x5 x6 x7=>?_
  rw[hQ];have hT:s.heap.objs.size<=T:=by rw[<- hz];exact x2
  have hTe:T≠e:=λ z=>by
   have:=xAa he;rw[<- z] at this;exact absurd (xAc this hT) (yAl _)
  refine h h' ⟨_,_,x1,?_,?_,Obj.data_mapFields hd _,by simpa using hsz,hle,hHe,.inr ⟨_,T,oT,ts,rfl,by simp[hsz],hTe,hlo T hT,hH T hT,x3,x4,x5⟩⟩ (c1.trans ⟨λ b o hb hn hq=>x6 b o hb (λ z=>?_) hn,λ b o hb hm hnf=>x7 b o hb (λ z=>?_),λ b o hb=>?_⟩)
  ·rw[Obj.cls_mapFields];exact hc
  ·have:(oe.mapFields (·.setIfInBounds 1 (Value.ref T))).dict=oe.dict:=by
    obtain⟨_,_,dt,_⟩:=oe;cases dt<;>rfl
   rw[this];exact hdx
  ·subst z;rw[he1] at hb;cases hb;rcases hq with q | q | q
   ·exact q hle
   ·exact q hHe
   ·exact q vs hd
  ·subst z;rw[he1] at hb;cases hb;exact hnf vs hd
  ·by_cases z:b=e
   ·subst z;exact⟨_,x1⟩
   ·obtain⟨sl,q⟩:=x7 b o hb z;exact⟨_,q⟩
 rcases ht with ⟨rfl,h1⟩ | ⟨f,T,oT,ts,rfl,h1,hTe,hTlo,hHT,hT,hdT,h3⟩
 ·unfold noteFrame;simp only[hf];refine wB (zo he hd h1 ?_);rw[if_neg (by decide)]
  exact last hl he rfl .refl λ _=>rfl
 ·by_cases hfL:f=xw L
  ·subst hfL;unfold noteFrame;simp only[hf];refine wB (zo he hd h1 ?_);rw[if_pos (show(Value.ref T != Value.none)=true from by simp)]
   refine wB (zo hT hdT h3 ?_);rw[if_pos (show(xw L==xw L)=true from by simp)]
   exact wP (h s.heap ht .refl)
  ·obtain rfl:f=.none:=by
    rcases hfl with z | z | z
    ·cases z
    ·cases z;rfl
    ·cases z;exact absurd rfl hfL
   unfold noteFrame;simp only[hf];refine wB (zo he hd h1 ?_);rw[if_pos (show(Value.ref T != Value.none)=true from by simp)]
   refine wB (zo hT hdT h3 ?_);rw[if_neg (show ¬ ((Value.none==xw L)=true) from by simp[xw])]
   refine wB (wpAny_setField hT hdT (Array.getElem?_eq_some_iff.mp h3).1 ?_);have other:∀ b,b≠T->(s.heap.update T (Obj.mapFields (·.setIfInBounds 3 Value.none))).get? b=s.heap.get? b:=λ b hb=>yAx _ _ (Ne.symm hb)
   have noRec:∀ b o,s.heap.get? b=qq o->(∀ vs,o.data≠.fields vs)->b≠T:=λ b o hb hnf q=>by
    subst q;rw[hT] at hb;cases hb;exact hnf ts hdT
   refine last (hl.of_keeps λ b o hb hnf=>⟨o,(other b (noRec b o hb hnf)).trans hb,rfl⟩) ((other e (Ne.symm hTe)).trans he) (Heap.size_after_update ..) ⟨λ b o hb hn hq=>(other b λ z=>?_).trans hb,λ b o hb hm hnf=>⟨o.slots,(other b (noRec b o hb hnf)).trans hb⟩,λ b o hb=>?_⟩ λ _=>rfl
   ·subst z;rw[hT] at hb;cases hb;rcases hq with q | q | q
    ·exact q hTlo
    ·exact q hHT
    ·exact q ts hdT
   ·by_cases z:b=T
    ·subst z;exact⟨_,yBx _ hT (Obj.isFreed_of_fields (Obj.data_mapFields hdT _))⟩
    ·exact⟨o,(other b z).trans hb⟩
theorem aB5{e:qv}{cls:qz}{dx:Option qv}{f:qz}{h0:Heap}{H:Hp}{fs:List qv}{v:Option qv}{Q:Unit->qx->Prop}(ht:Trc s.heap h0 H e cls dx (qq f))
 (h:∀ h',Trc h' h0 H e cls dx (qq (v.elim .none λ f=>xw f))->Chg fs h0 H s.heap h'->Q () {s with heap:=h' }):qu M A (setFlight (.ref e) v) Q E s:=by
 obtain⟨oe,vs,he,hc,hdx,hd,hsz,hle,hHe,ht⟩:=ht.ex;rcases ht with ⟨z,_⟩ | ⟨f',T,oT,ts,z,h1,hTe,hTlo,hHT,hT,hdT,h3⟩
 ·cases z
 cases z;have hsz3:3<ts.size:=(Array.getElem?_eq_some_iff.mp h3).1;unfold setFlight;refine wB (zo he hd h1 ?_);rw[if_pos (show(Value.ref T != Value.none)=true from by simp)]
 have other:∀ b,b≠T->(s.heap.update T (Obj.mapFields (·.setIfInBounds 3 (v.elim Value.none λ f=>xw f)))).get? b=s.heap.get? b:=λ b hb=>yAx _ _ (Ne.symm hb)
 have noRec:∀ b o,s.heap.get? b=qq o->(∀ vs,o.data≠.fields vs)->b≠T:=λ b o hb hnf q=>by
  subst q;rw[hT] at hb;cases hb;exact hnf ts hdT
 have hT2:=yBx (Obj.mapFields (·.setIfInBounds 3 (v.elim Value.none λ f=>xw f))) hT (Obj.isFreed_of_fields (Obj.data_mapFields hdT _))
 refine wpAny_setField hT hdT hsz3 (h _ ⟨oe,vs,(other e (Ne.symm hTe)).trans he,hc,hdx,hd,hsz,hle,hHe,.inr ⟨_,T,_,_,rfl,h1,hTe,hTlo,hHT,hT2,Obj.data_mapFields hdT _,by simp[hsz3]⟩⟩ ⟨λ b o hb hn hq=>(other b λ z=>?_).trans hb,λ b o hb hm hnf=>⟨o.slots,(other b (noRec b o hb hnf)).trans hb⟩,λ b o hb=>?_⟩)
 ·subst z;rw[hT] at hb;cases hb;rcases hq with q | q | q
  ·exact q hTlo
  ·exact q hHT
  ·exact q ts hdT
 ·by_cases z:b=T
  ·subst z;exact⟨_,hT2⟩
  ·exact⟨o,(other b z).trans hb⟩
end
structure Bel(X:Cx)(aA:List (qv×Obj))(h0:Heap):Prop where
 s0:∀ b o,X.s₀.heap.get? b=qq o->b ∉ X.ex->h0.get? b≠qj
 loc:h0.get? X.env.locals≠qj
 cell:∀ x c,X.env.cells.lookup x=qq c->h0.get? c≠qj
 pin:∀ p∈X.pn++aA,h0.get? p.1≠qj
theorem fV{h:Heap}{b:qv}{o:Obj}(e:h.get? b=qq o):h.get? b≠qj:=by rw[e];simp
theorem xE{X:Cx}{aA:List (qv×Obj)}{σ:L2.St}{H:Hp}{s:qx}(I:Inv X aA σ H s):Bel X aA s.heap:=
 ⟨λ b o e n=>let ⟨_,e'⟩:=I.base.there b o e n;fV e',let ⟨_,⟨_,_,_,ho,_⟩,_⟩:=I.loc;fV ho,λ x c e=>let ⟨v,o,ho,_⟩:=I.cell x c e;fV ho,λ p hp=>fV (I.pin p hp).1⟩
theorem xV{X:Cx}{aA:List (qv×Obj)}{σ:L2.St}{H:Hp}{s:qx}{h0 h':Heap}(I:Inv X aA σ H s)(B:Bel X aA h0)(c:Chg (bT X.stack) h0 H s.heap h'):Inv X aA σ H {s with heap:=h' }:=by
 have nfs:∀ b u,H b=qq u->b ∉ bT X.stack:=λ b u e z=>by rw[I.stkFree b z] at e;cases e
 have hnf:∀ b∈bT X.stack,∀ o,s.heap.get? b=qq o->∀ vs,o.data≠.fields vs:=λ b hb o ho vs=>by
  obtain⟨_,o',ho',hd⟩:=I.stack.mem hb;rw[ho] at ho';cases ho';exact hd vs
 have any:∀ b o,s.heap.get? b=qq o->h0.get? b≠qj->∃ sl,h'.get? b=qq {o with slots:=sl }:=λ b o e n=>by
  by_cases hb:b∈bT X.stack
  ·exact c.slot b o e hb (hnf b hb o e)
  ·exact⟨o.slots,c.keep b o e hb (.inl n)⟩
 have neL:∀ b o,X.s₀.heap.get? b=qq o->b≠X.env.locals:=λ b o e=>xAh (xAc (xAa e) I.ok.above)
 have cellK:∀ x k,X.env.cells.lookup x=qq k->∀ v,s.heap.IsCell k v->h'.IsCell k v:=λ x k e v aF=>by
  obtain⟨o,ho,hd⟩:=aF;obtain⟨sl,q⟩:=any k o ho (B.cell x k e);exact⟨_,q,hd⟩
 refine⟨I.ok,I.os,I.bare,⟨λ b o e n hb hx=>?_,λ b o e n hb hx=>?_,I.base.free,λ b o e hx=>?_,I.base.tups,I.base.frzs,I.base.tbls⟩,?_,λ x k e=>?_,I.free,I.freeC,λ p hp=>?_,λ b u e=>?_,I.len⟩
 ·exact c.keep b o (I.base.keep b o e n hb hx) (λ z=>(List.mem_cons.mp (I.stkSub b z)).elim (neL b o e) hb) (.inl (B.s0 b o e hx))
 ·obtain⟨sl,e1⟩:=I.base.slot b o e n hb hx;obtain⟨sl',e2⟩:=any b _ e1 (B.s0 b o e hx);exact⟨sl',e2⟩
 ·obtain⟨o',e1⟩:=I.base.there b o e hx;exact c.there b o' e1
 ·obtain⟨m,⟨o,es,ep,ho,r⟩,hl⟩:=I.loc;obtain⟨sl,q⟩:=any _ o ho B.loc;refine⟨m,⟨_,es,ep,q,r⟩,λ i x v e1 e2 e3=>?_⟩
  obtain⟨u,r,l⟩:=hl i x v e1 e2 e3;refine⟨u,r,?_⟩;rcases l with l | ⟨k,d,e,z⟩
  ·exact .inl l
  ·exact .inr ⟨k,d,e,cellK x d e _ z⟩
 ·obtain⟨v,z⟩:=I.cell x k e;exact⟨v,cellK x k e v z⟩
 ·obtain⟨e,n,ne,nf,d⟩:=I.pin p hp;exact⟨c.keep p.1 p.2 e (λ z=>(List.mem_cons.mp (I.stkSub _ z)).elim ne nf) (.inl (B.pin p hp)),n,ne,nf,d⟩
 ·refine(I.hok b u e).stay (λ d v hd q=>c.keep d v q ?_ (.inr (.inl ?_))) (λ _ q=>q) λ _ _ q=>q
  ·rcases hd with z | z
   ·rw[z];exact nfs b u e
   ·exact nfs d _ z
  ·rcases hd with z | z
   ·rw[z,e];simp
   ·rw[z];simp
abbrev XW:=L2.St->qz->Option qv->Hp->Prop
def eG(X:Cx)(W:XW)(e:qz)(s:qx):Prop:=∃ a cls dx fl h0 σ H,e=.ref a/\Inv X [] σ H s/\Trc s.heap h0 H a cls dx fl/\(fl=qj\/fl=qq .none\/fl=qq (xw X.env.locals))/\Bel X [] h0/\(∀ b,h0.get? b≠qj->s.heap.get? b≠qj)/\W σ cls dx H
noncomputable def dY(P:qo)(w:zq):dH:=λ outer H s E e s'=>∃ a cls dx H',e=.ref a/\s'.os=s.os/\AllBare s'.gens/\Un (bT outer) [] H H' s.heap s'.heap/\bN P w H' s'.heap/\Trc s'.heap s.heap H' a cls dx (qq .none)/\E cls dx H'
structure Dfb(X:Cx):Prop where
 stk:X.stack=X.env::X.outer
 frm:X.env.frame=qq X.env.locals
 ex:X.ex=[]
theorem aBs{h0 h:Heap}(q:∀ b,h0.get? b≠qj->h.get? b≠qj):∀ b,h.objs.size<=b->h0.get? b=qj:=λ b hb=>by
 cases e:h0.get? b with
 | none=>rfl
 | some o =>
   have:=q b (fV e);cases e2:h.get? b with
   | none=>exact absurd e2 this
   | some o2=>exact absurd (xAc (xAa e2) hb) (yAl _)
theorem Chg.stay{fs:List qv}{h0 h1:Heap}{H:Hp}{h h':Heap}(c:Chg fs h1 H h h')(q:∀ b,h0.get? b≠qj->h.get? b≠qj):∀ b,h0.get? b≠qj->h'.get? b≠qj:=λ b hb=>by
 have:=q b hb;cases e:h.get? b with
 | none=>exact absurd e this
 | some o=>obtain⟨o',e'⟩:=c.there b o e;exact fV e'
theorem nA{X:Cx}{aA:List (qv×Obj)}{σ:L2.St}{H:Hp}{s:qx}(I:Inv X aA σ H s):Inv X [] σ H s:=
 ⟨I.ok,I.os,I.bare,I.base,I.loc,I.cell,I.free,I.freeC,λ p hp=>I.pin p (by rw[yAs] at hp;exact yDc _ hp),I.hok,I.len⟩
theorem Trc.down{h h0 h1:Heap}{H:Hp}{e:qv}{cls:qz}{dx:Option qv}{fl:Option qz}(t:Trc h h1 H e cls dx fl)(q:∀ b,h0.get? b≠qj->h1.get? b≠qj):Trc h h0 H e cls dx fl:=by
 have z:∀ b,h1.get? b=qj->h0.get? b=qj:=λ b hb=>by
  cases e:h0.get? b with
  | none=>rfl
  | some o=>exact absurd hb (q b (fV e))
 obtain⟨oe,vs,he,hc,hdx,hd,hsz,hle,hHe,ht⟩:=t.ex;refine⟨oe,vs,he,hc,hdx,hd,hsz,z e hle,hHe,?_⟩;rcases ht with t | ⟨f,T,oT,ts,a,b,c,d,r⟩
 ·exact .inl t
 ·exact .inr ⟨f,T,oT,ts,a,b,c,z T d,r⟩
theorem qW{X:Cx}{A:zx}{W:XW}{e:qz}{s:qx}{E:qz->qx->Prop}{Q:Unit->qx->Prop}(D:Dfb X)(hA:A.frames=X.A.frames)(h:eG X W e s)
 (hq:∀ a cls dx h0 σ H s',e=.ref a->Inv X [] σ H s'->Trc s'.heap h0 H a cls dx (qq (xw X.env.locals))->Bel X [] h0->(∀ b,h0.get? b≠qj->s'.heap.get? b≠qj)->W σ cls dx H->Q () s'):qu (model X.prog X.w) A (noteFrame e X.env) Q E s:=by
 obtain⟨a,cls,dx,fl,h0,σ,H,rfl,I,T,hfl,B,hb,hw⟩:=h;have hs:=I.stack;rw[D.stk] at hs;refine aCT (by rw[hA,I.ok.frames,D.stk]) hs D.frm (aBs hb) (λ b=>I.hok.fresh) T hfl λ h' T' c=>?_
 rw[<- D.stk] at c;exact hq a cls dx h0 σ H _ rfl (xV I B c) T' B (c.stay hb) hw
theorem jR{X:Cx}{A:zx}{σ:L2.St}{H:Hp}{a:qv}{cls f:qz}{dx:Option qv}{h0:Heap}{s:qx}{v:Option qv}{E:qz->qx->Prop}{Q:Unit->qx->Prop}(I:Inv X [] σ H s)(T:Trc s.heap h0 H a cls dx (qq f))(B:Bel X [] h0)(hb:∀ b,h0.get? b≠qj->s.heap.get? b≠qj)
 (hq:∀ s',Inv X [] σ H s'->Trc s'.heap h0 H a cls dx (qq (v.elim .none λ f=>xw f))->(∀ b,h0.get? b≠qj->s'.heap.get? b≠qj)->Q () s'):qu (model X.prog X.w) A (setFlight (.ref a) v) Q E s:=
 aB5 (fs:=bT X.stack) T λ h' T' c=>hq _ (xV I B c) T' (c.stay hb)
theorem aCG{P:qo}{w:zq}{K:FrG}{mg:Str->Option qz}{base:Heap}{N:List Str}{aY:Str}{scope:zv}{f:qv}{cd:qz}{A:zx}{outer:List Env}{s:qx}{H:Hp}{E:XK}{e:qz}{s':qx}
 (h:eG (dS (dY P w) P w K mg base N aY scope f cd A outer s H E) (λ _=>E) e s'):(dS (dY P w) P w K mg base N aY scope f cd A outer s H E).xe e s':=by
 unfold dS leaving;refine wB (qW (X:=dS (dY P w) P w K mg base N aY scope f cd A outer s H E) ⟨rfl,rfl,rfl⟩ rfl h λ a cls dx h0 σ H' s1 ea I T B hb hw=>?_)
 subst ea;refine jR (X:=dS (dY P w) P w K mg base N aY scope f cd A outer s H E) (v:=qj) I T B hb λ s2 I2 T2 hb2=>?_
 exact⟨a,cls,dx,H',rfl,I2.os,I2.bare,I2.base,I2.hok,T2.down λ b hb=>by
  cases q:s.heap.get? b with
  | none=>exact absurd q hb
  | some o=>exact B.s0 b o q (by intro z;cases z),hw⟩
theorem wV{X:Cx}{W:XW}(D:Dfb X):PassesOwn (model X.prog X.w) X.A X.env (eG X W):=λ e s h=>by
 refine qW D rfl h λ a cls dx h0 σ H s1 ea I T B hb hw=>?_
 subst ea;obtain⟨oe,vs,he,hc,hdx,hd,hsz,hle,hHe,ht⟩:=id T.ex;rcases ht with ⟨z,_⟩ | ⟨f',Tb,oT,ts,z,h1,_⟩
 ·cases z
 cases z;unfold cameBackBy;refine wB (zo he hd h1 ?_);rw[if_neg (by simp)]
 refine jR I T B hb λ s2 I2 T2 hb2=>?_
 rw[D.frm] at T2;exact⟨a,cls,dx,_,h0,σ,H,rfl,I2,T2,.inr (.inr rfl),B,hb2,hw⟩
theorem eG.unwish{X:Cx}{E:qz->qx->Prop}{W:XW}{e:qz}{s:qx}(h:eG (X.wish E) W e s):eG X W e s:=by
 obtain⟨a,cls,dx,fl,h0,σ,H,ea,I,T,hfl,B,hb,hw⟩:=h;exact⟨a,cls,dx,fl,h0,σ,H,ea,I.unwish,T,hfl,⟨B.s0,B.loc,B.cell,B.pin⟩,hb,hw⟩
theorem Dfb.wish{X:Cx}(D:Dfb X)(E:qz->qx->Prop):Dfb (X.wish E):=⟨D.stk,D.frm,D.ex⟩
section
variable {P : qo}{w : zq}{K : FrG}{mg : Str -> Option qz}{base : Heap}
theorem aW.wish{X:Cx}{E:qz->qx->Prop}(hE:∀ e s,E e s->X.xe e s){st:List zy}{t:TS}(h:aW (X.wish E) st t):aW X st t:=λ aA s σ H D I hw =>
 wpAny_mono (h aA s σ H D (I.wish _) hw) (λ _ _ q=>q.unwish) hE
theorem Fun.okX{x aY:Str}{st:zy}{f:qv}{fd:xy}{N ps:List Str}{k:Nat}{sp:Sp}(F:Fun K x aY st f fd)(S:FnScope N ps (bE st))(len:∀ vs H Q E,sp vs H Q E->vs.length=ps.length)
 (hbody:∀ (X:Cx) (A:zx) (vs:List V) (H:Hp) (Q:VK) (E:XK),X.prog=P->X.w=w->X.K=K->X.mg=mg->X.base=base->X.N=N->X.env.scope=bE st->X.calm=true->(∀ x,X.fn x=true)->Dfb X->Room k X.A->sp vs H Q E ->
   ∃ t,aW (X.wish (eG X λ _=>E)) (cN st) t/\t {nx:=λ _ H'=>Q .non H',rt:=Q } (start N vs) H):FnOk P w K mg base (dY P w) (k+1) f fd ps sp:=by
 obtain⟨oc,od,kV,doc,pm,an,cdv,ct,osl,rfl,lk,hcd⟩:=F.ex;refine aAx lk hcd S len λ A outer s H vs Q E hr hsp=>?_
 obtain⟨t,h,q⟩:=hbody (dS (dY P w) P w K mg base N aY (bE st) f cdv A outer s H E) A vs H Q E rfl rfl rfl rfl rfl rfl rfl rfl (λ _=>rfl) ⟨rfl,rfl,rfl⟩ hr hsp
 exact⟨t,aW.wish (λ e s h=>aCG h) h,q⟩
end
section
variable {X : Cx}{k : Nat}{f : qv}{fd : xy}{ps : List Str}{sp : Sp}{W : XW}{x : Str}{p pos : Pos}{e : qw}{es : List qw}{t : TA}
def oC(X:Cx)(W:XW):Prop:=∀ e s,eG X W e s->X.xe e s
theorem aC7{aA:List (qv×Obj)}{σ:L2.St}{H:Hp}{s:qx}{Q:VK}{us:List qz}{vs:List V}(F:FnOk X.prog X.w X.K X.mg X.base (dY X.prog X.w) k f fd ps sp)(hr:Room k X.A)(hb:cR X.K fd ps [])(hx:oC X W)
 (I:Inv X aA σ H s) (r:aH vs us) (h:sp vs H Q (W σ)):qu (model X.prog X.w) X.A (call (.ref f) us) (EP X aA σ Q) X.xe s:=by
 have hl:(us++[]).length=ps.length:=by rw[yAs,<- r.length];exact F.len _ _ _ _ h
 have hbb:=hb s us I.kIn hl;rw[yAs] at hbb;refine wpAny_call (codeAny_mono (F.run X.A X.stack s H ⟨us,[]⟩ us vs Q (W σ) hr I.env0 hbb r h) λ r s' hq=>?_)
 cases r with
 | error e =>
   obtain⟨a,cls,dx,H',rfl,os,bare,un,hok,T,q⟩:=hq;have I2:Inv X aA σ H' s':=I.call' (ch:=[]) os un hok bare λ b z=>absurd z (by simp)
   exact hx _ _ ⟨a,cls,dx,_,s.heap,σ,H',rfl,nA I2,T,.inr (.inl rfl),xE (nA I),λ b hb=>by
    cases q:s.heap.get? b with
    | none=>exact absurd q hb
    | some o=>obtain⟨o',e'⟩:=un.there b o q (by simp);exact fV e',q⟩
 | ok fl =>
   cases fl with
   | ret u=>exact I.after hq
   | next=>exact False.elim hq
   | brk=>exact False.elim hq
   | cont=>exact False.elim hq
def yU(sp:Sp)(W:XW)(t:TA):TE:=λ σ H Q=>t σ H λ vs H1=>sp vs H1 Q (W σ)
theorem aCt(F:FnOk X.prog X.w X.K X.mg X.base (dY X.prog X.w) k f fd ps sp)(hr:Room k X.A)(hg:Gl X x)(hm:X.mg x=qq (.ref f))(hk:yAt X.K (.ref f)=true)(hb:cR X.K fd ps [])(hx:oC X W)
 (ha:PA X (e::es) t) (hdb:(x==("__debug__" : Str))=false) (he:zj (e::es) X.env=(false,eval e X.env)::zj es X.env) (hpl:(backTo pos (zj es X.env)).any (·.1)=false) :
 PE X (.Call (.Name x p) (e::es) [] pos) (yU sp W t):=by
 intro aA s σ H Q I h;refine jq (iW I hg hm ?_ hdb);refine PySem.W.callWith_K (h₀:=X.base) I.ok.mod.kin hk (aQ (ha pos aA s σ H _ I h) λ us s1 ⟨vs,H1,I1,r,q⟩=>⟨I1.kIn,?_⟩) he hpl
 exact aC7 F hr hb hx I1 r q
end
inductive FlX where
 | fl (f:Fl) | ex (env:aM) (c:Str) (r:D)
abbrev FX:=aM->aB->Option (FlX×aB)
inductive ResX where
 | ok (w:W) | ex (c:Str) (r:D)
abbrev eM:=aM->aB->Option (ResX×aB)
def iF(K:FrG)(F:Hp)(c:Str)(r:D)(cls:qz)(dx:Option qv):Prop:=∃ C,cls=.ref C/\yBt K qy c=qq (qq (.ref C))/\lO F dx r
theorem iF.mono{K:FrG}{F F':Hp}(e:aZ F F'){c:Str}{r:D}{cls:qz}{dx:Option qv}(h:iF K F c r cls dx):iF K F' c r cls dx:=let ⟨C,h1,h2,h3⟩:=h;⟨C,h1,h2,h3.mono e⟩
section
variable (K : FrG)(W : XW)
noncomputable def aFT(D:Ends)(F':Hp)(L':List qv)(H':Hp):FlX->Prop
 | .fl f=>pC K D F' L' H' f
 | .ex env c r=>∀ σ cls dx,EnvR K F' L' env σ->iF K F' c r cls dx->W σ cls dx H'
def tX(f:FX):TS:=λ D σ H=>∃ F L S env fx S',Rel K F L S H/\EnvR K F L env σ/\f env S=qq (fx,S')/\∀ F' L' H',Gr F L F' L'->Rel K F' L' S' H'->aFT K W D F' L' H' fx
noncomputable def kU(F:Hp)(L:List qv)(S':aB)(Q:VK)(E:XK):ResX->Prop
 | .ok w=>iJ K F L S' w Q
 | .ex c r=>∀ F' L' H' cls dx,Gr F L F' L'->Rel K F' L' S' H'->iF K F' c r cls dx->E cls dx H'
def iL(f:eM):TE:=λ σ H Q=>∃ F L S env res S',Rel K F L S H/\EnvR K F L env σ/\f env S=qq (res,S')/\kU K F L S' Q (W σ) res
noncomputable def iQ(np:Nat)(call:List EV.W->aB->Option (ResX×aB)):Sp:=λ vs H Q E=>∃ F L S ws res S',ws.length=np/\Rel K F L S H/\WDenL K F L ws vs/\call ws S=qq (res,S')/\kU K F L S' Q E res
end
theorem kU.mono{K:FrG}{F F1:Hp}{L L1:List qv}{S':aB}{Q:VK}{E:XK}{res:ResX}(g:Gr F L F1 L1)(h:kU K F L S' Q E res):kU K F1 L1 S' Q E res:=by
 cases res with
 | ok w=>exact λ F2 L2 H2 v g2 R2 d2=>h F2 L2 H2 v (g.trans g2) R2 d2
 | ex c r=>exact λ F2 L2 H2 cls dx g2 R2 x2=>h F2 L2 H2 cls dx (g.trans g2) R2 x2
section
variable {X : Cx}{W : XW}{pos : Pos}
theorem PS.nox{st:zy}{t:TS}(h:PS X.nox st t):PS X st t:=λ aA s σ H D I hw =>
 wpAny_mono (h aA s σ H D (I.wish _) hw) (λ _ _ q=>q.unwish) λ _ _ z=>False.elim z
theorem PA.nox{es:List qw}{t:TA}(h:PA X.nox es t):PA X es t:=λ pos aA s σ H Q I hw =>
 wpAny_mono (h pos aA s σ H Q (I.wish _) hw) (λ _ _ hPr4=>by obtain⟨v,H',I',r,q⟩:=hPr4;exact⟨v,H',I'.unwish,r,q⟩) λ _ _ z=>False.elim z
noncomputable def xP(f:FS):FX:=λ env S=>(f env S).bind λ p=>qq (.fl p.1,p.2)
theorem aHE{K:FrG}{f:FS}(D:Ends)(σ:L2.St)(H:Hp)(h:tX K W (xP f) D σ H):bM K f D σ H:=by
 obtain⟨F,L,S,env,fx,S',R,E,e,q⟩:=h;obtain⟨⟨fl,S1⟩,e1,e2⟩:=bind_some e;cases e2;exact dJ R E e1 q
theorem x_s{st:zy}{f:FS}(h:PS X.nox st (bM X.K f)):PS X st (tX X.K W (xP f)):=PS.weak (PS.nox h) aHE
noncomputable def zS:FX:=λ env S=>qq (.fl (.nx env),S)
theorem aFz:aW X [] (tX X.K W zS):=aW.weak xK λ D σ H h=>by
 obtain⟨F,L,S,env,fx,S',R,E,e,q⟩:=h;cases e;exact q F L H Gr.refl R σ E
noncomputable def aAS(fa fb:FX):FX:=λ env S=>(fa env S).bind λ p=>match p.1 with
 | .fl (.nx e)=>fb e p.2
 | fl=>qq (fl,p.2)
theorem aGu{a:zy}{b:List zy}{fa fb:FX}(ha:PS X a (tX X.K W fa))(hb:aW X b (tX X.K W fb)):aW X (a::b) (tX X.K W (aAS fa fb)):=aW.weak (wG ha hb) λ D σ H h=>by
 obtain⟨F,L,S,env,fx,S',R,E,e,q⟩:=h;obtain⟨⟨f1,S1⟩,e1,e2⟩:=bind_some e;cases f1 with
 | ex e' c r=>cases e2;exact⟨F,L,S,env,_,_,R,E,e1,q⟩
 | fl f1 =>
   cases f1 with
   | nx e'=>exact⟨F,L,S,env,_,_,R,E,e1,λ F1 L1 H1 g1 R1 σ1 E1=>⟨F1,L1,S1,e',fx,S',R1,E1,e2,λ F2 L2 H2 g2 R2=>q F2 L2 H2 (g1.trans g2) R2⟩⟩
   | rt w=>cases e2;exact⟨F,L,S,env,_,_,R,E,e1,q⟩
   | bk e'=>cases e2;exact⟨F,L,S,env,_,_,R,E,e1,q⟩
   | ct e'=>cases e2;exact⟨F,L,S,env,_,_,R,E,e1,q⟩
noncomputable def xIf(fc:FT)(fa fb:FX):FX:=λ env S=>(fc env S).bind λ p=>if p.1=true then fa env p.2 else fb env p.2
theorem aG0{c:qw}{a b:List zy}{fc:FT}{fa fb:FX}(hc:PT X.nox c (cJ X.K fc))(ha:aW X a (tX X.K W fa))(hb:aW X b (tX X.K W fb)):PS X (.If c a b pos) (tX X.K W (xIf fc fa fb)):=PS.weak (aAn (PT.nox hc) ha hb) λ D σ H h=>by
 obtain⟨F,L,S,env,fx,S',R,E,e,q⟩:=h;obtain⟨⟨c,S1⟩,e1,e2⟩:=bind_some e;refine⟨F,L,S,env,c,S1,R,E,e1,λ F1 L1 H1 g1 R1=>?_⟩
 cases c with
 | true=>exact jJ ⟨F1,L1,S1,env,fx,S',R1,E.mono g1,by simpa using e2,λ F2 L2 H2 g2 R2=>q F2 L2 H2 (g1.trans g2) R2⟩
 | false=>exact jK ⟨F1,L1,S1,env,fx,S',R1,E.mono g1,by simpa using e2,λ F2 L2 H2 g2 R2=>q F2 L2 H2 (g1.trans g2) R2⟩
noncomputable def lL(t:Tg)(fb:FX):List D->FX
 | []=>λ env S=>qq (.fl (.nx env),S)
 | d::ds=>λ env S=>(t.put d env).bind λ e1=>(fb e1 S).bind λ q=>(match q.1 with
    | .fl (.nx e)=>lL t fb ds e q.2
    | .fl (.ct e)=>lL t fb ds e q.2
    | .fl (.bk e)=>qq (.fl (.nx e),q.2)
    | fl=>qq (fl,q.2))
noncomputable def aAU(t:Tg)(fi:FL)(fb:FX):FX:=λ env S=>(fi env S).bind λ p=>lL t fb p.1 env p.2
theorem aFK{tg iter:qw}{b:List zy}{t:Tg}{g:TG}{fi:FL}{fb:FX}(hp:PassesOwn (model X.prog X.w) X.A X.env X.xe)(hc:X.calm=true)(hi:PI X tg iter (eK X.K fi))(hg:PG X tg g)(ga:GA X.K t g)(hb:aW X b (tX X.K W fb))
 (hs:∀ x,xq iter X.env x=pure x):PS X (.For tg iter b [] pos) (tX X.K W (aAU t fi fb)):=PS.weak (yQ hp hc hi hg hb hs) λ D σ H h=>by
 obtain⟨F,L,S,env,fx,S',R,E,e,q⟩:=h;obtain⟨⟨ds,S1⟩,e1,e2⟩:=bind_some e;refine⟨F,L,S,env,ds,S1,R,E,e1,λ F0 L0 H0 J g0 R0 wk=>?_⟩
 dsimp only at e2;refine⟨λ i m σ1 H1=>i+m=ds.length/\∃ F1 L1 S1 env1,Gr F0 L0 F1 L1/\Rel X.K F1 L1 S1 H1/\EnvR X.K F1 L1 env1 σ1/\lL t fb (ds.drop i) env1 S1=qq (fx,S'),
  ⟨ds.length,yDk _,F0,L0,S1,env,Gr.refl,R0,E.mono g0,by rw[yDn];exact e2⟩,?_⟩
 rintro i m σ1 H1 ⟨him,F1,L1,S1',env1,g1,R1,E1,e3⟩;cases m with
 | zero =>
   have hi:i=ds.length:=by omega
   subst hi;rw[yCf] at e3;cases e3;exact .inl ⟨wk.stop H1 (g1.f.trans R1.sub),q F1 L1 H1 (g0.trans g1) R1 σ1 E1⟩
 | succ m =>
   have hi:i<ds.length:=by omega
   refine .inr ⟨wk.go i H1 (g1.f.trans R1.sub) hi,λ σ3 H3=>∃ F3 L3 S3 env3,Gr F0 L0 F3 L3/\Rel X.K F3 L3 S3 H3/\EnvR X.K F3 L3 env3 σ3/\lL t fb (ds.drop (i+1)) env3 S3=qq (fx,S'),
    λ σ3 H3 h3=>⟨m,yCc m,by omega,h3⟩,λ x H2 y=>?_⟩
   rw[yBa hi] at e3;obtain⟨env2,e4,e5⟩:=bind_some e3;obtain⟨⟨f6,S6⟩,e6,e7⟩:=bind_some e5;obtain⟨F2,s2,R2,d2⟩:=wk.yld i H1 F1 L1 S1' x H2 ds[i] g1 R1 (yAi hi) y;have g2:Gr F1 L1 F2 L1:=⟨s2,[],by simp⟩
   refine ga ds[i] x σ1 H2 F2 L1 S1' env1 env2 _ R2 (E1.mono g2) d2 e4 λ σ2 E2=>?_
   refine⟨F2,L1,S1',env2,f6,S6,R2,E2,e6,λ F3 L3 H3 g3 R3=>?_⟩
   have g03:=(g1.trans g2).trans g3;cases f6 with
   | ex e' c r=>cases e7;exact λ σ3 cls dx E3 x3=>q F3 L3 H3 (g0.trans g03) R3 σ3 cls dx E3 x3
   | fl f6 =>
     cases f6 with
     | nx e'=>exact λ σ3 E3=>⟨F3,L3,S6,e',g03,R3,E3,e7⟩
     | ct e'=>exact λ σ3 E3=>⟨F3,L3,S6,e',g03,R3,E3,e7⟩
     | bk e'=>cases e7;exact λ σ3 E3=>q F3 L3 H3 (g0.trans g03) R3 σ3 E3
     | rt w=>cases e7;exact λ v d=>q F3 L3 H3 (g0.trans g03) R3 v d
noncomputable def oH(f:eM):FX:=λ env S=>(f env S).bind λ p=>match p.1 with
 | .ok _=>qq (.fl (.nx env),p.2)
 | .ex c r=>qq (.ex env c r,p.2)
noncomputable def pA(i:Nat)(f:eM):FX:=λ env S=>(f env S).bind λ p=>match p.1 with
 | .ok w=>qq (.fl (.nx (env.set i (qq w))),p.2)
 | .ex c r=>qq (.ex env c r,p.2)
noncomputable def aAm(k:Str)(f:eM):eM:=λ env S=>(f env S).bind λ p=>match p.1 with
 | .ok (.d x)=>qq (.ok (.d (.tuple [.str k,x])),p.2)
 | .ok _=>qj
 | .ex c r=>qq (.ex c r,p.2)
noncomputable def rT(fs:FA)(np:Nat)(call:List EV.W->aB->Option (ResX×aB)):eM:=λ env S=>(fs env S).bind λ p=>if p.1.length=np then call p.1 p.2 else qj
theorem aD7{e:qw}{f:eM}(h:PE X e (iL X.K W f))(hs:swapsWith e qj pos.line X.env=pure false):PS X (.Expr e pos) (tX X.K W (oH f)):=PS.weak (xG h hs) λ D σ H h=>by
 obtain⟨F,L,S,env,fx,S',R,E,e,q⟩:=h;obtain⟨⟨res,S1⟩,e1,e2⟩:=bind_some e;refine⟨F,L,S,env,res,S1,R,E,e1,?_⟩;cases res with
 | ok w=>cases e2;exact λ F1 L1 H1 v g1 R1 d1=>q F1 L1 H1 g1 R1 σ (E.mono g1)
 | ex c r=>cases e2;exact λ F1 L1 H1 cls dx g1 R1 x1=>q F1 L1 H1 g1 R1 σ cls dx (E.mono g1) x1
theorem aGm{i:Nat}{x:Str}{e:qw}{f:eM}{pos':Pos}(hN:X.N.Nodup)(hi:X.N[i]? = qq x)(hx:Loc X.env.scope x)(h:PE X e (iL X.K W f))(hs:swapsWith e (qq (.Name x pos')) pos.line X.env=pure false)(hf:X.fn x=true\/X.env.scope.names.lookup x=qq .local) :
 PS X (.Assign [.Name x pos'] e pos) (tX X.K W (pA i f)):=PS.weak (zO hN hi hx h hs hf) λ D σ H h=>by
 obtain⟨F,L,S,env,fx,S',R,E,e,q⟩:=h;obtain⟨⟨res,S1⟩,e1,e2⟩:=bind_some e;refine⟨F,L,S,env,res,S1,R,E,e1,?_⟩;cases res with
 | ok w=>cases e2;exact λ F1 L1 H1 v g1 R1 d1=>q F1 L1 H1 g1 R1 _ ((E.mono g1).set i d1)
 | ex c r=>cases e2;exact λ F1 L1 H1 cls dx g1 R1 x1=>q F1 L1 H1 g1 R1 σ cls dx (E.mono g1) x1
theorem aFq{k:Str}{j:Nat}{p1:Pos}{kk:Nat}{e:qw}{f:eM}(h:PE X e (iL X.K W f))(hp:bI e=true):PE X (.Tuple [.Constant (.str k) j p1,e] kk pos) (iL X.K W (aAm k f)):=
 PE.weak (rN (eT zK (eT h iY (cM hp _ _)))) λ σ H Q h=>by
  obtain⟨F,L,S,env,res,S',R,E,e,q⟩:=h;obtain⟨⟨r1,S1⟩,e1,e2⟩:=bind_some e;refine⟨F,L,S,env,r1,S1,R,E,e1,?_⟩;cases r1 with
  | ex c r=>cases e2;exact q
  | ok w =>
    cases w with
    | d x =>
      cases e2;exact λ F1 L1 H1 v g1 R1 d1=>⟨by show 2<=qk;decide,λ p hp=>q _ L1 _ _ (g1.trans (Gr.new (R1.sub.free hp))) (R1.new hp) (Den.tup (bC.of bP) (.cons (.str k) (.cons (Den.mono (cK (R1.sub.free hp)) d1) .nil)))⟩
    | loc n=>cases e2
    | exc c r=>cases e2
theorem aCW{K:FrG}{fs:FA}{np:Nat}{call:List EV.W->aB->Option (ResX×aB)}(σ:L2.St)(H:Hp)(Q:VK)(h:iL K W (rT fs np call) σ H Q):yU (iQ K np call) W (cT K fs) σ H Q:=by
 obtain⟨F,L,S,env,res,S',R,E,e,q⟩:=h;obtain⟨⟨ws,S1⟩,e1,e⟩:=bind_some e
 split at e
 ·rename_i hn;exact⟨F,L,S,env,ws,S1,R,E,e1,λ F1 L1 H1 vs g1 R1 d1=>⟨F1,L1,S1,ws,res,S',hn,R1,d1,e,q.mono g1⟩⟩
 ·cases e
end
noncomputable def dF(fb:FX)(n:Nat)(ws:List W)(S:aB):Option (ResX×aB):=(fb (ws.map qq++yAb (n-ws.length) qj) S).bind λ p=>match p.1 with
 | .fl (.rt w)=>(oR S.length p.2 w).bind λ q=>qq (.ok q.1,q.2)
 | .fl (.nx _)=>qq (.ok (.d .none),p.2.take S.length)
 | .ex _ c r=>qq (.ex c r,p.2.take S.length)
 | _=>qj
theorem aDh{K:FrG}{fb:FX}{N:List Str}{np:Nat}{vs:List V}{H:Hp}{Q:VK}{E:XK}(h:iQ K np (dF fb N.length) vs H Q E):tX K (λ _=>E) fb {nx:=λ _ H'=>Q .non H',rt:=Q } (L2.start N vs) H:=by
 obtain⟨F,L,S,ws,res,S',hn,R,dl,e,q⟩:=h;obtain⟨⟨fx,S1⟩,e1,e2⟩:=bind_some e;refine⟨F,L,S,_,fx,S1,R,uS dl,e1,λ F1 L1 H1 g1 R1=>?_⟩
 cases fx with
 | ex aE c r =>
   cases e2;intro σ' cls dx E' x';obtain⟨sf,M,rfl⟩:=g1;have R2:=R1.cut;rw[R.len] at R2;exact q F1 L H1 cls dx ⟨sf,[],by simp⟩ R2 x'
 | fl f =>
   cases f with
   | nx aE =>
     cases e2;exact λ σ' E'=>nL (w:=.d .none) R.len g1 R1 Den.non rfl q
   | rt w' =>
     obtain⟨⟨w2,S2⟩,e3,e4⟩:=bind_some e2;cases e4;exact λ v d=>nL R.len g1 R1 d e3 q
   | bk aE=>cases e2
   | ct aE=>cases e2
noncomputable def iB(call:List EV.W->aB->Option (ResX×aB)):List EV.W->aB->Option (W×aB):=λ ws S=>(call ws S).bind λ p=>match p.1 with
 | .ok w=>qq (w,p.2)
 | .ex _ _=>qj
theorem aCF{P:qo}{w:zq}{K:FrG}{mg:Str->Option qz}{base:Heap}{k:Nat}{f:qv}{fd:xy}{ps:List Str}{np:Nat}{call:List EV.W->aB->Option (ResX×aB)}
 (F:FnOk P w K mg base (dY P w) k f fd ps (iQ K np call)):FnOk P w K mg base fH k f fd ps (eN K np (iB call)):=by
 have hsp:∀ vs H Q E,eN K np (iB call) vs H Q E->iQ K np call vs H Q E0:=λ vs H Q E h=>by
  obtain⟨F,L,S,ws,w,S',hn,R,dl,e,q⟩:=h;obtain⟨⟨res,S1⟩,e1,e2⟩:=bind_some e;cases res with
  | ok w1=>cases e2;exact⟨F,L,S,ws,_,_,hn,R,dl,e1,q⟩
  | ex c r=>cases e2
 refine⟨λ vs H Q E h=>F.len vs H Q E0 (hsp vs H Q E h),λ A outer s H args us vs Q E hr he hb hv h=>codeAny_mono (F.run A outer s H args us vs Q E0 hr he hb hv (hsp vs H Q E h)) λ r s' q=>?_⟩
 cases r with
 | ok fl=>cases fl<;>exact q
 | error e =>
   obtain⟨_,_,_,_,_,_,_,_,_,_,z⟩:=q;exact z
end EV
namespace EV
open PySem L2 PySem.Spec PyProof.Rows PySem.W
section
variable {prog : qo}{w : zq}{A : zx}{E : qz -> qx -> Prop}{s : qx}{K : FrG}{x D : qv}{ox : Obj}{odo : Option Obj}{name : Str}{tk : Tok}
theorem aCk{R:Result->qx->Prop}(X:K.In s.heap)(I:yCa s.heap x ox D odo)(hm:mroIn K D (.type "BaseException")=qq true)
 (h:qu (model prog w) A.in1 (Builtin.«object.__getattribute__» ⟨[.ref x,.str name tk],[]⟩) (λ bO s'=>match bO with | .done f=>R (.ok f) s' | .again c'=>c'.quiet=true/\vz (model prog w) A c' R s') (λ e s'=>R (.error e) s') s) :
 vz (model prog w) A (.call (.builtin "BaseException.__getattribute__") ⟨[.ref x,.str name tk],[]⟩) R s:=by
 obtain⟨hh,g,d,t,os⟩:=s;have L0:=I.type (M:=model prog w);have L1:=looks_mroIn (M:=model prog w) X hm;have L2:Looks (model prog w) hh (isInstance (.ref x) (.type "BaseException")) true:=L0.andThen L1;refine codeAny_call_builtin F.attr_ValueError.ga.plain F.entry_bexc_ga ?_;have hk:builtinKind "BaseException.__getattribute__" = qq .slot:=by decide +kernel
 have hsplit:splitId "BaseException.__getattribute__" = qq ("BaseException", "__getattribute__"):=by decide +kernel
 have ha:=F.args_bexc_ga (.ref x) (.str name tk);simp only[checkBuiltinCall,hk,hsplit];refine wB (L2.at ?_)
 repeat (any_goals (first | assumption | wp_step))
theorem aDV{fill expr:Bool}{Q:qz->qx->Prop}(X:K.In s.heap)(I:yCa s.heap x ox D odo)(hga:findIn K (.ref D) "__getattribute__" = qq (qq (.builtin "BaseException.__getattribute__")))(hgt:findIn K (.ref D) "__getattr__" = qq qj)
 (h:vz (model prog w) A (.call (.builtin "BaseException.__getattribute__") ⟨[.ref x,.str name tk],[]⟩) (λ r s'=>match r with | .ok (.ret v)=>qu (model prog w) A (handedOut v) Q E s' | _=>False) s) :
 qu (model prog w) A (getAttrBy (.ref x) (.str name tk) fill expr) Q E s:=by
 obtain⟨hh,g,d,t,os⟩:=s;have L0:=I.type (M:=model prog w);have L1:=looks_findIn (M:=model prog w) X hga;have L2:=looks_findIn (M:=model prog w) X hgt;have f3:=F.attr_ValueError.ga.bind (.ref x);have hx2:(Value.builtin "BaseException.__getattribute__" == Value.builtin "object.__getattribute__")=false:=by decide +kernel
 have hx0:(expr&&onTheHeap (Value.builtin "BaseException.__getattribute__"))=false:=by cases expr<;>rfl
 unfold getAttrBy;refine jx (wB (L0.at (wB (L1.at ?_))));dsimp only;rw[hx2,Bool.and_false,if_neg yAm];unfold getAttrByItsOwn hookBefore;rw[if_pos (show onTheHeap (Value.ref D)=true from rfl)]
 refine wB (L2.at (wB (yq (jx ?_))));unfold callGetattribute boundAndCalled;rw[hx0,if_neg yAm,f3];refine wB (wP (wpAny_call (codeAny_mono h λ r s' q=>?_)))
 rcases r with e | (_ | _ | _ | v)
 all_goals first | exact q.elim | exact q
theorem aBv{a g:qz}(hc:(clsIn K D).isSome=true)(ha:findIn K (.ref D) name=qq (qq a))(hg:specialIn K a "__get__" = qq (qq g))(ht:takesIn K a=qq true):findObj K D odo name=qq (.bind g a):=by
 obtain⟨cd,hc⟩:=Option.isSome_iff_exists.mp hc;unfold findObj;rw[hc,yAn,ha,yAn];simp[hg,ht]
theorem aCz{g a:qz}{Q:Fin->qx->Prop}(X:K.In s.heap)(I:yCa s.heap x ox D odo)(hf:findObj K D odo name=qq (.bind g a))(h:vz (model prog w) A (.call g ⟨[a,.ref x,.ref D],[]⟩) (λ r s'=>match r with | .ok (.ret v)=>qu (model prog w) A (ret v) Q E s' | .ok _=>False | .error e=>E e s') s):qu (model prog w) A (Builtin.«object.__getattribute__» ⟨[.ref x,.str name tk],[]⟩) Q E s:=by
 obtain⟨hh,gg,d,t,os⟩:=s;have L0:=I.type (M:=model prog w);have L1:=looks_find (M:=model prog w) X I hf;unfold Builtin.«object.__getattribute__»
 repeat (any_goals (first | assumption | with_reducible refine L0.at ?_ | with_reducible refine L1.at ?_ | wp_step))
end
structure XcOk(K:FrG)(D:qv):Prop where
 ga:findIn K (.ref D) "__getattribute__" = qq (qq (.builtin "BaseException.__getattribute__"))
 gt:findIn K (.ref D) "__getattr__" = qq qj
 mb:mroIn K D (.type "BaseException")=qq true
 mo:mroIn K D (.type "object")=qq true
 cl:(clsIn K D).isSome=true
 ca:findIn K (.ref D) "__class__" = qq (qq (.builtin "object.__class__"))
 cg:specialIn K (.builtin "object.__class__") "__get__" = qq (qq (.builtin "getset_descriptor.__get__"))
 ct:takesIn K (.builtin "object.__class__")=qq true
theorem wI{K:FrG}{x D:qv}{ox:Obj}{odo:Option Obj}(O:XcOk K D):KitX K (.ref x) (.ref D) (λ h=>yCa h x ox D odo) where
 ty:=λ _ _ _ I=>I.type
 it:=λ _ _ X _=>by
  obtain⟨cdD,hcD⟩:=Option.isSome_iff_exists.mp O.cl;unfold clsIn at hcD
  split at hcD
  ·rename_i c' d' cd' sl' ho;intro A' Q' E' s' k q;unfold isType loadHead;exact wB (wpAny_loadPart (k _ _ (X _ _ ho)) (wP q))
  ·cases hcD
 ne:=λ h tp dd aC n sl X htp=>by
  obtain⟨cdD,hcD⟩:=Option.isSome_iff_exists.mp O.cl;refine Bool.eq_false_iff.mpr λ q=>?_
  have e:D=tp:=Value.ref.inj (beq_iff_eq.mp q);subst e;unfold clsIn at hcD
  split at hcD
  ·rename_i c' d' cd' sl' ho;have z:=(X _ _ ho).symm.trans htp;cases z
  ·cases hcD
 ca:=λ {prog w A E Q s} X I k=>by
  unfold getAttr? getAttrBy?;refine wB (wpAny_mkText (wB (yq ?_)));refine aDV (s:={s with toks:=s.toks+1 }) X I O.ga O.gt (aCk (s:={s with toks:=s.toks+1 }) X I O.mb (aCz (s:={s with toks:=s.toks+1 }) X I (aBv O.cl O.ca O.cg O.ct) ?_))
  refine class_get (s:={s with toks:=s.toks+1 }) X I O.mo (wP ?_)
  show qu _ _ (handedOut (.ref D)) _ _ _;rw[handedOut_of rfl];exact wP (wP k)
end EV
namespace EV
open PySem L2 PySem.Spec PyProof.Rows PySem.W
theorem uN{P:qo}{w:zq}{H:Hp}{h:Heap}{a:qv}{o:HO}(x:cQ P w H h a o):∃ u,h.get? a=qq u:=by
 cases o with
 | lst xs=>obtain⟨_,_,_,_,e⟩:=x;exact⟨_,e⟩
 | tup xs=>obtain⟨_,_,_,o,e,_⟩:=x;exact⟨o,e⟩
 | dK aO=>obtain⟨_,_,_,_,o,_,_,e,_⟩:=x;exact⟨o,e⟩
 | dT aO=>obtain⟨_,_,_,_,o,_,_,e,_⟩:=x;exact⟨o,e⟩
 | set S n=>obtain⟨o,_,_,_,e,_⟩:=x;exact⟨o,e⟩
 | ins C dx fs=>obtain⟨_,_,_,e,_⟩:=x;exact⟨_,e⟩
 | own y=>exact x
 | xd fs=>obtain⟨mA,hn,_⟩:=x;obtain⟨_,_,_,e,_⟩:=hn;exact⟨_,e⟩
 | met f y=>exact⟨_,x⟩
 | rng lo hi=>obtain⟨_,_,_,e⟩:=x;exact⟨_,e⟩
 | frz o u=>exact⟨o,x.1⟩
 | tbl ps=>exact⟨_,x⟩
 | ext φ=>exact x.2.1
noncomputable abbrev pV:List qz:=[.type "ValueError",.type "Exception",.type "BaseException",.type "object"]
theorem aDo{K:FrG}{h:Heap}{C:qv}{bmB:List qz}{newId:String}(X:K.In h)(q:excIn K C bmB newId=true):∃ bm N nm qn bs hd sn sub ab col dd k0 k1 k2 k3 k5 mN,
 h.get? C=qq (excClassObj nm qn C N bs bm hd sn sub ab col dd k0 k1 k2 k3 k5 newId)/\h.Ns N mN/\mN "__init__" = qj/\OwnTail h bmB bm:=by
 unfold excIn at q
 split at q
 ·rename_i dd cd sl ho
  split at q
  ·rename_i C' bm k0 k1 k2 k3 n k5 hm hs;simp only[yCe,beq_iff_eq,Bool.not_eq_true'] at q;obtain⟨⟨⟨⟨⟨rfl,rfl⟩,hdel⟩,ht⟩,hok⟩,hni⟩:=q;obtain⟨nm,bs,mro,ns,qn,hd,sn,sub,ab,col,del⟩:=cd;dsimp only at hm hdel hok hni;subst hm hdel;obtain⟨l⟩:=sl;simp only at hs;subst hs;exact⟨bm,ns,nm,qn,bs,hd,sn,sub,ab,col,dd,k0,k1,k2,k3,k5,_,X _ _ ho,.of_isNs (isNs_of_in X hok),nsMap_none_of_in X hok hni,tail_of_in X ht⟩
  ·cases q
 ·cases q
noncomputable def zG(c:Str):FX:=λ env S=>qq (.ex env c .none,S)
theorem aCK{X:Cx}{W:XW}{c:Str}{C:qv}{np cpos pos:Pos}(hx:oC X W)(hc:X.calm=true)(hg:Gl X c)(hm:X.mg c=qq (.ref C))(hns:nsIn X.K qy c=qq (qq (.ref C)))(hq:excIn X.K C pV "ValueError.__new__" = true)
 (hd:(c==("__debug__" : Str))=false):PS X (.Raise (qq (.Call (.Name c np) [] [] cpos)) qj pos) (tX X.K W (zG c)):=by
 rintro aA s σ H D I ⟨F0,L,S,env,fx,S',R,E,e,q⟩;cases e;obtain⟨bm,N,nm,qn,bs,hd',sn,sub,ab,col,dd,k0,k1,k2,k3,k5,mN,hC,hN,hni,T⟩:=aDo I.kIn hq;refine wpAny_Raise_call_subT (C:=C) PySem.F.excBase_ValueError (T.hasType PySem.F.excBase_ValueError.hasBase) (I.ok.hd hc) rfl hni (iW I hg hm ⟨rfl,evalArgs_empty ⟨rfl,Nat.zero_le _,hC,hN,T,λ h' e me=>?_⟩⟩ hd)
 obtain⟨t,he,_,_⟩:=me.there;refine hx _ _ ⟨e,.ref C,qj,qj,s.heap,σ,H,rfl,nA (I.kept (t':=s.toks) me.keeps),⟨_,_,he,rfl,rfl,rfl,Nat.lt_of_sub_pos (by simp),me.new,?_,.inl ⟨rfl,rfl⟩⟩,.inl rfl,xE (nA I),λ b hb=>?_,q F0 L H Gr.refl R σ (.ref C) qj E ⟨C,rfl,hns,rfl⟩⟩
 ·cases z:H e with
  | none=>rfl
  | some u =>
    obtain⟨o,ho⟩:=uN (I.hok e u z);rw[me.new] at ho;cases ho
 ·cases z:s.heap.get? b with
  | none=>exact absurd z hb
  | some o=>exact fV (me.keeps b o z)
theorem aB1{X:Cx}{aA:List (qv×Obj)}{σ:L2.St}{H:Hp}{s:qx}{h0:Heap}{a:qv}{o:HO}(I:Inv X aA σ H s)(B:Bel X aA h0)(ha:h0.get? a=qj)(hH:H a=qj)(new:cQ X.prog X.w (aS H a o) s.heap a o):Inv X aA σ (aS H a o) s:=by
 have ne:∀ b,h0.get? b≠qj->b≠a:=λ b hb z=>hb (by rw[z];exact ha)
 have nt:∀ b u,H b=qq u->b≠a:=λ b u e z=>by rw[z,hH] at e;cases e
 refine⟨I.ok,I.os,I.bare,⟨I.base.keep,I.base.slot,λ b u e n hx=>?_,I.base.there,λ b xs e=>?_,λ b u v e=>?_,λ b ps e=>?_⟩,I.loc,I.cell,?_,λ x c e=>?_,λ p hp=>?_,λ b u e=>?_,I.len⟩
 ·rw[aT (ne b (B.s0 b u e hx))];exact I.base.free b u e n hx
 ·have q:=I.base.tups b xs e;rw[aT (nt b _ q)];exact q
 ·have q:=I.base.frzs b u v e;rw[aT (nt b _ q)];exact q
 ·obtain⟨m,q⟩:=I.base.tbls b ps e;exact⟨m,by rw[aT (nt b _ q)];exact q⟩
 ·rw[aT (ne _ B.loc)];exact I.free
 ·rw[aT (ne _ (B.cell x c e))];exact I.freeC x c e
 ·obtain⟨e,n,r⟩:=I.pin p hp;exact⟨e,by rw[aT (ne _ (B.pin p hp))];exact n,r⟩
 ·by_cases hb:b=a
  ·subst hb;rw[bP] at e;cases e;exact new
  ·rw[aT hb] at e;exact(I.hok b u e).stay (λ _ _ _ q=>q) (λ c q=>by rw[aT (nt c _ q)];exact q) λ c xs q=>by rw[aT (nt c _ q)];exact q
theorem aC5{X:Cx}{A:zx}{E:qz->qx->Prop}{aA:List (qv×Obj)}{σ:L2.St}{H:Hp}{s:qx}{i:Nat}{n:Str}{pos:Pos}{Q:Unit->qx->Prop}(I:Inv X aA σ H s)(hN:X.N.Nodup)(hi:X.N[i]? = qq n)(hl:X.env.kindOf n=qq .local)
 (h:∀ s',Inv X aA (σ.set i qj) H s'->Q () s'):qu (model X.prog X.w) A (do bindName X.env n .none;unbindBehindTheSuite X.env n pos) Q E s:=by
 obtain⟨m,hn,hm⟩:=id I.loc;have hk:(X.env.scope.kind==.class||(X.env.scope.kind==.module&&X.env.locals != X.env.globals))=false:=by rw[I.ok.kind];rfl
 refine wpAny_nameGoes_keeps hl hn hk λ h' v hn' hs=>h _ ?_
 have neL:∀ b o,X.s₀.heap.get? b=qq o->b≠X.env.locals:=λ b o e=>xAh (xAc (xAa e) I.ok.above)
 have nt:∀ b u,H b=qq u->b≠X.env.locals:=λ b u e z=>by rw[z,I.free] at e;cases e
 refine⟨I.ok,I.os,I.bare,⟨λ b o e nn hb hx=>?_,λ b o e nn hb hx=>?_,I.base.free,λ b o e hx=>?_,I.base.tups,I.base.frzs,I.base.tbls⟩,⟨_,hn',λ j y v' e1 e2 e3=>?_⟩,λ y c e=>?_,I.free,I.freeC,λ p hp=>?_,λ b u e=>?_,by simpa using I.len⟩
 ·exact(hs.2 b (neL b o e)).trans (I.base.keep b o e nn hb hx)
 ·obtain⟨sl,e1⟩:=I.base.slot b o e nn hb hx;exact⟨sl,(hs.2 b (neL b o e)).trans e1⟩
 ·obtain⟨o',e1⟩:=I.base.there b o e hx;exact⟨o',(hs.2 b (neL b o e)).trans e1⟩
 ·by_cases hj:j=i
  ·subst hj;rcases yDt j σ.length with z | z
   ·rw[yAp z] at e2;cases e2
   ·rw[yBu (by rw[yAq];exact z)] at e2;cases e2
  ·rw[yAk (Ne.symm hj)] at e2;obtain⟨u',r',q⟩:=hm j y v' e1 e2 e3;refine⟨u',r',?_⟩;rcases q with ⟨k,e⟩ | ⟨k,c,e,z⟩
   ·refine .inl ⟨k,?_⟩;have:y≠n:=λ e=>hj (qN hN e1 (e▸hi))
    simp[this,e]
   ·exact .inr ⟨k,c,e,z.sameBut hs (I.cne y c e)⟩
 ·obtain⟨w',z⟩:=I.cell y c e;exact⟨w',z.sameBut hs (I.cne y c e)⟩
 ·obtain⟨e,n,ne,nf,d⟩:=I.pin p hp;exact⟨(hs.2 p.1 ne).trans e,n,ne,nf,d⟩
 ·refine(I.hok b u e).stay (λ d w' hd q=>(hs.2 d ?_).trans q) (λ _ q=>q) λ _ _ q=>q
  rcases hd with z | z
  ·rw[z];exact nt b u e
  ·exact nt d _ z
noncomputable abbrev bZ(X:Cx)(aA:List (qv×Obj)):Cx:={X with pn:=X.pn++aA }
noncomputable abbrev iM(X:Cx)(e:qz):Cx:={X with A:=X.A.mark (qq e),calm:=false,xe:=λ _ _=>False }
theorem okP{X:Cx}{aA:List (qv×Obj)}(ok:X.Ok):(bZ X aA).Ok:=⟨ok.mod,ok.kind,ok.glob,ok.blt,ok.above,ok.inj,ok.has,ok.cab,ok.hd,ok.frames,ok.stk,ok.exf,ok.bs,ok.bsz,ok.noex,ok.exfs,ok.funs,ok.frf⟩
theorem aHp{X:Cx}{aA:List (qv×Obj)}(ok:(bZ X aA).Ok):X.Ok:=⟨ok.mod,ok.kind,ok.glob,ok.blt,ok.above,ok.inj,ok.has,ok.cab,ok.hd,ok.frames,ok.stk,ok.exf,ok.bs,ok.bsz,ok.noex,ok.exfs,ok.funs,ok.frf⟩
theorem aAL{X:Cx}{aA:List (qv×Obj)}{σ:L2.St}{H:Hp}{s:qx}(I:Inv X aA σ H s):Inv (bZ X aA) [] σ H s:=⟨okP I.ok,I.os,I.bare,I.base,I.loc,I.cell,I.free,I.freeC,λ p hp=>I.pin p (by rw[yAs] at hp;exact hp),I.hok,I.len⟩
theorem oG{X:Cx}{aA:List (qv×Obj)}{σ:L2.St}{H:Hp}{s:qx}(I:Inv (bZ X aA) [] σ H s):Inv X aA σ H s:=⟨aHp I.ok,I.os,I.bare,I.base,I.loc,I.cell,I.free,I.freeC,λ p hp=>I.pin p (by rw[yAs];exact hp),I.hok,I.len⟩
theorem sH{X:Cx}{e:qz}{aA:List (qv×Obj)}{σ:L2.St}{H:Hp}{s:qx}(I:Inv X aA σ H s):Inv (iM X e) aA σ H s:=
 let ok:=I.ok
 ⟨⟨ok.mod,ok.kind,ok.glob,ok.blt,ok.above,ok.inj,ok.has,ok.cab,λ z=>(nomatch z),ok.frames,ok.stk,ok.exf,ok.bs,ok.bsz,ok.noex,ok.exfs,ok.funs,ok.frf⟩,I.os,I.bare,I.base,I.loc,I.cell,I.free,I.freeC,I.pin,I.hok,I.len⟩
theorem lC{X:Cx}{e:qz}{aA:List (qv×Obj)}{σ:L2.St}{H:Hp}{s:qx}(ok:X.Ok)(I:Inv (iM X e) aA σ H s):Inv X aA σ H s:=⟨ok,I.os,I.bare,I.base,I.loc,I.cell,I.free,I.freeC,I.pin,I.hok,I.len⟩
theorem spP{X:Cx}{aA:List (qv×Obj)}{D:Ends}{f:Flow}{s:qx}(h:SP (bZ X aA) [] D f s):SP X aA D f s:=by
 cases f with
 | next=>obtain⟨σ',H',I,q⟩:=h;exact⟨σ',H',oG I,q⟩
 | brk=>obtain⟨σ',H',I,q⟩:=h;exact⟨σ',H',oG I,q⟩
 | cont=>obtain⟨σ',H',I,q⟩:=h;exact⟨σ',H',oG I,q⟩
 | ret u=>obtain⟨v,σ',H',I,r,q⟩:=h;exact⟨v,σ',H',oG I,r,q⟩
structure Hd where
 d:Str
 sl:Option Nat
 f:FS
noncomputable def pF(i:Nat):Fl×aB->Option (Fl×aB)
 | (.nx e,S)=>qq (.nx (e.set i qj),S)
 | _=>qj
noncomputable def cI(tb:Str->Str->Option Bool)(c:Str)(r:D):List Hd->FS
 | []=>λ _ _=>qj
 | h::hs=>λ env S=>match tb c h.d with
   | some true=>(match h.sl with
     | none=>h.f env S
     | some i=>(h.f (env.set i (qq (.exc c r))) S).bind (pF i))
   | some false=>cI tb c r hs env S
   | none=>qj
noncomputable def jI(tb:Str->Str->Option Bool)(fb:FX)(hs:List Hd):FX:=λ env S=>(fb env S).bind λ p=>match p.1 with
 | .fl f=>qq (.fl f,p.2)
 | .ex e c r=>(cI tb c r hs e p.2).bind λ q=>qq (.fl q.1,q.2)
noncomputable def oO(X:Cx)(h:Hd):ExceptHandler->Prop
 | .ExceptHandler (qq (.Name d _)) nm (b0::suite) _=>d=h.d/\Gl X d/\(d==("__debug__" : Str))=false/\(∃ C,nsIn X.K qy d=qq (qq (.ref C))/\X.mg d=qq (.ref C)) /\
    (match nm,h.sl with
      | none,qj=>True
      | some n,qq i=>X.N[i]? = qq n/\X.env.scope.names.lookup n=qq .local
      | _,_=>False)/\∀ e,aW (iM X e) (b0::suite) (bM X.K h.f)
 | _=>False
inductive HdsOk (X:Cx):List Hd->List ExceptHandler->Prop
 | nil:HdsOk X [] []
 | cons {h:Hd}{hs:List Hd}{a:ExceptHandler}{as:List ExceptHandler}:oO X h a->HdsOk X hs as->HdsOk X (h::hs) (a::as)
def sT(K:FrG)(tb:Str->Str->Option Bool):Prop:=∀ c d b C C',tb c d=qq b->nsIn K qy c=qq (qq (.ref C))->nsIn K qy d=qq (qq (.ref C'))->exmOne K (.ref C) (.ref C')=qq b
end EV
namespace EV
open PySem L2 PySem.Spec PyProof.Rows PySem.W
theorem aCf{K:FrG}{F:Hp}{L:List qv}{env:aM}{σ:St}(h:EnvR K F L env σ)(i:Nat):EnvR K F L (env.set i qj) (σ.set i qj):=by
 refine⟨by rw[yAq,yAq];exact h.len,λ j u e=>?_⟩
 by_cases hj:i=j
 ·subst hj;rcases yDt i env.length with q | q
  ·rw[yAp q] at e;cases e
  ·rw[yBu (by rw[yAq];exact q)] at e;cases e
 ·rw[yAk hj] at e;obtain⟨x,e1,r1⟩:=h.get j u e;exact⟨x,by rw[yAk hj];exact e1,r1⟩
theorem vT{X:Cx}{tb:Str->Str->Option Bool}(ht:sT X.K tb)(hN:X.N.Nodup)(hf:∀ x,X.fn x=true){a:qv}{cls:qz}{dx:Option qv}{h0:Heap}{c:Str}{r:D}{D:Ends}{E:qz->qx->Prop} :
 ∀ {hs:List Hd}{as:List ExceptHandler},HdsOk X hs as->∀ {σ:L2.St}{H F:Hp}{L:List qv}{S S':aB}{env:aM}{fl:Fl}{s:qx},Inv X [] σ H s->Trc s.heap h0 H a cls dx (qq .none)->Bel X [] h0->(∀ b,h0.get? b≠qj->s.heap.get? b≠qj) ->
  Rel X.K F L S H->EnvR X.K F L env σ->iF X.K F c r cls dx->cI tb c r hs env S=qq (fl,S')->(∀ F' L' H',Gr F L F' L'->Rel X.K F' L' S' H'->pC X.K D F' L' H' fl)->qu (model X.prog X.w) X.A (handleBy (.ref a) X.env as) (SP X [] D) E s
 | _,_,.nil,σ,H,F,L,S,S',env,fl,s,I,T,B,hb,R,En,Xk,e,q=>by cases e
 | h::hs,ah::as,.cons hd hr,σ,H,F,L,S,S',env,fl,s,I,T,B,hb,R,En,Xk,e,q=>by
   unfold oO at hd
   split at hd
   ·rename_i d np nm b0 suite pos;obtain⟨rfl,hg,hdb,⟨C',hns',hm'⟩,hnm,hsu⟩:=hd;obtain⟨C,rfl,hns,hx⟩:=id Xk;have Is:Inv (iM X (.ref a)) [] σ H s:=sH I;obtain⟨oe,vs,he,hc,hdx,hdat,hsz,hnew,hHe,htr⟩:=id T.ex;have LT:Looks (model X.prog X.w) s.heap (typeOf (.ref a)) (.ref C):=hc▸(Looks.ld he).andThen .now;cases hb2:tb c h.d with
    | none =>
      have e':cI tb c r (h::hs) env S=qj:=by unfold cI;rw[hb2]
      rw[e'] at e;cases e
    | some b =>
      have hex:=ht c h.d b C C' hb2 hns hns';refine wpAny_handleBy_cons (codeAny_handlers_test (iW (X:=iM X (.ref a)) Is hg hm' ((exm_one I.kIn LT hex).here ?_) hdb)) (by intro z;cases z)
      cases b with
      | false =>
        have e':cI tb c r hs env S=qq (fl,S'):=by
         have:cI tb c r (h::hs) env S=cI tb c r hs env S:=by rw[cI];rw[hb2]
         rw[<- this];exact e
        exact vT ht hN hf hr I T B hb R En Xk e' q
      | true =>
        show vz _ _ _ _ _;cases nm with
        | none =>
          cases hsl:h.sl with
          | some i=>rw[hsl] at hnm;exact hnm.elim
          | none =>
            have e':h.f env S=qq (fl,S'):=by
             have:cI tb c r (h::hs) env S=h.f env S:=by rw[cI];rw[hb2];dsimp only;rw[hsl]
             rw[<- this];exact e
            refine codeAny_handlers_suite (jR (v:=qj) I T B hb λ s1 I1 T1 hb1=>?_)
            refine wpAny_mono (hsu (.ref a) [] s1 σ H D (sH I1) (dJ R En e' q)) (λ f s2 h2=>?_) λ _ _ z=>z.elim
            cases f with
            | next=>obtain⟨σ',H',I',q'⟩:=h2;exact⟨σ',H',lC I.ok I',q'⟩
            | brk=>obtain⟨σ',H',I',q'⟩:=h2;exact⟨σ',H',lC I.ok I',q'⟩
            | cont=>obtain⟨σ',H',I',q'⟩:=h2;exact⟨σ',H',lC I.ok I',q'⟩
            | ret u=>obtain⟨v,σ',H',I',r',q'⟩:=h2;exact⟨v,σ',H',lC I.ok I',r',q'⟩
        | some n =>
          cases hsl:h.sl with
          | none=>rw[hsl] at hnm;exact hnm.elim
          | some i =>
            rw[hsl] at hnm;have e':(h.f (env.set i (qq (.exc c r))) S).bind (pF i)=qq (fl,S'):=by
             have:cI tb c r (h::hs) env S=(h.f (env.set i (qq (.exc c r))) S).bind (pF i):=by rw[cI];rw[hb2];dsimp only;rw[hsl]
             rw[<- this];exact e
            obtain⟨⟨fl1,S1⟩,e1,e2⟩:=bind_some e';cases fl1 with
            | rt w=>cases e2
            | bk e=>cases e2
            | ct e=>cases e2
            | nx e1' =>
              cases e2;refine codeAny_handlers_suite_as (jR (v:=qj) I T B hb λ s1 I1 T1 hb1=>?_)
              obtain⟨oe1,vs1,he1,hc1,hdx1,hdat1,hsz1,hnew1,hHe1,htr1⟩:=id T1.ex;have I2:=aB1 (o:=.ext λ h=>h.get? a=qq oe1) I1 B hnew1 hHe1 ⟨he1,⟨_,he1⟩,λ h1 h2 q1 q2=>q2 _ q1⟩
              have g1:Gr F L (aS F a (.ext λ h=>h.get? a=qq oe1)) L:=Gr.new (R.sub.free hHe1)
              have xc:gS X.K (aS F a (.ext λ h=>h.get? a=qq oe1)) a c r:=⟨C,oe1,bP,hc1,by unfold notCls;rw[hdat1],hns,by rw[hdx1];exact hx.mono g1.f⟩
              refine qR (X:=iM X (.ref a)) (sH I2) hN hnm.1 (.inl hnm.2) (v:=.ref a) (u:=.ref a) rfl (λ s2 I3=>?_) (.inl (hf n))
              refine wpAny_mono (hsu (.ref a) [] s2 _ _ {nx:=λ σ' H'=>D.nx (σ'.set i qj) H',rt:=λ _ _=>False } I3 (dJ (R.new hHe1) ((En.mono g1).set i (w:=.exc c r) ⟨a,rfl,xc⟩) e1 λ F2 L2 H2 g2 R2 σ2 E2=>q F2 L2 H2 (g1.trans g2) R2 _ (aCf E2 i))) (λ f s3 h3=>?_) λ _ _ z=>z.elim
              cases f with
              | next =>
                obtain⟨σ',H',I',q'⟩:=h3;exact aC5 (lC I.ok I') hN hnm.1 hnm.2 λ s4 I4=>⟨_,_,I4,q'⟩
              | brk=>obtain⟨σ',H',I',q'⟩:=h3;exact q'.elim
              | cont=>obtain⟨σ',H',I',q'⟩:=h3;exact q'.elim
              | ret u=>obtain⟨v,σ',H',I',r',q'⟩:=h3;exact q'.elim
   ·exact hd.elim
theorem aFU{X:Cx}{W:XW}{tb:Str->Str->Option Bool}(ht:sT X.K tb)(hN:X.N.Nodup)(hf:∀ x,X.fn x=true)(Df:Dfb X){body:List zy}{h0:ExceptHandler}{as:List ExceptHandler}{pos:Pos}{fb:FX}{hs:List Hd}
 (hb:∀ aA W',aW ((bZ X aA).wish (eG (bZ X aA) W')) body (tX X.K W' fb)) (hh:∀ aA,HdsOk (bZ X aA) hs (h0::as)):PS X (.Try body (h0::as) [] [] pos) (tX X.K W (jI tb fb hs)):=by
 rintro aA s σ H D I ⟨F,L,S,env,fx,S',R,E,e,q⟩;obtain⟨⟨p,S1⟩,e1,e2⟩:=bind_some e;have nxt:∀ {f:Flow}{s1:qx}{E':qz->qx->Prop},SP ((bZ X aA).wish E') [] D f s1->(match f with | .next=>qu (model X.prog X.w) X.A (execs [] X.env) (SP X aA D) X.xe s1 | f=>SP X aA D f s1):=λ {f s1 E'} h=>by
  have h2:=spP h.unwish;cases f with
  | next=>exact wpAny_execs_nil h2
  | brk=>exact h2
  | cont=>exact h2
  | ret u=>exact h2
 cases p with
 | fl f =>
   cases e2;exact wpAny_Try_except (wpAny_mono (hb aA (λ _ _ _ _=>False) [] s σ H D ((aAL I).wish _) ⟨F,L,S,env,_,_,R,E,e1,q⟩) (λ f s1 h1=>nxt h1) λ e s1 h1=>by
    obtain⟨_,_,_,_,_,_,_,_,_,_,_,_,_,z⟩:=h1;exact z.elim)
 | ex env1 c r =>
   obtain⟨⟨fl,S2⟩,e3,e4⟩:=bind_some e2;cases e4;refine wpAny_Try_except (wpAny_mono (hb aA (λ σ' cls dx H'=>∃ F' L' aE S1,Gr F L F' L'/\Rel X.K F' L' S1 H'/\EnvR X.K F' L' aE σ'/\iF X.K F' c r cls dx/\cI tb c r hs aE S1=qq (fl,S2)) [] s σ H D ((aAL I).wish _)
    ⟨F,L,S,env,_,_,R,E,e1,λ F1 L1 H1 g1 R1 σ1 cls dx E1 x1=>⟨F1,L1,env1,S1,g1,R1,E1,x1,e3⟩⟩) (λ f s1 h1=>nxt h1) λ e s1 h1=>?_)
   refine qW (X:=bZ X aA) ⟨Df.stk,Df.frm,Df.ex⟩ rfl h1 λ a cls dx h0 σ1 H1 s2 ea I2 T2 B2 hb2 hw=>?_
   subst ea;obtain⟨F1,L1,aE,S3,g1,R1,E1,x1,e5⟩:=hw;refine jR (X:=bZ X aA) (v:=qj) I2 T2 B2 hb2 λ s3 I3 T3 hb3=>?_
   exact aQ (vT (X:=bZ X aA) ht hN hf (hh aA) I3 T3 B2 hb3 R1 E1 x1 e5 λ F2 L2 H2 g2 R2=>q F2 L2 H2 (g1.trans g2) R2) λ f s4 h4=>spP h4
section
variable {X : Cx}{pos : Pos}
noncomputable def gF(tb:Str->Str->Option Bool)(c:Str):List Str->Option Bool
 | []=>qq false
 | d::ds=>match tb c d with
   | some true=>qq true
   | some false=>gF tb c ds
   | none=>qj
noncomputable def lQ(tb:Str->Str->Option Bool)(fa:FE)(ds:List Str):FE:=λ env S=>(fa env S).bind λ p=>match p.1 with
 | .exc c _=>(gF tb c ds).bind λ b=>qq (.d (.bool b),p.2)
 | _=>qj
end
end EV
namespace EV
open PySem L2 PySem.Spec PyProof.Rows PySem.W
def cF(K:FrG)(mg:Str->Option qz)(d:Str)(v:V):Prop:=(∃ C,v=.ref C/\nsIn K qy d=qq (qq (.ref C))/\mg d=qq (.ref C))\/(∃ n,v=.ty n/\mg d=qj/\zw d=qq (.type n)/\d ≠ "__name__")
noncomputable def lD:V->qz
 | .ref a=>.ref a
 | .ty n=>.type n
 | _=>.none
theorem cF.val{K:FrG}{mg:Str->Option qz}{d:Str}{v:V}{u:qz}(h:cF K mg d v)(r:aI v u):u=lD v:=by
 rcases h with ⟨C,rfl,_⟩ | ⟨n,rfl,_⟩<;>exact r
theorem cF.rel{K:FrG}{mg:Str->Option qz}{d:Str}{v:V}(h:cF K mg d v):aI v (lD v):=by
 rcases h with ⟨C,rfl,_⟩ | ⟨n,rfl,_⟩<;>rfl
structure XT(K:FrG)(mg:Str->Option qz)(tb:Str->Str->Option Bool):Prop where
 exm:sT K tb
 cls:∀ c d b C,tb c d=qq b->nsIn K qy c=qq (qq (.ref C))->XcOk K C
 nm:∀ c d b,tb c d=qq b->∃ v,cF K mg d v/\∀ C,nsIn K qy c=qq (qq (.ref C))->kitOne K (.ref C) (lD v)=qq b
section
variable {X : Cx}{pos : Pos}{tb : Str -> Str -> Option Bool}
theorem aFQ{d:Str}{v:V}{p:Pos}(hg:Gl X d)(hd:(d==("__debug__" : Str))=false)(h:cF X.K X.mg d v):PE X (.Name d p) (tC v):=by
 rcases h with ⟨C,rfl,_,hm⟩ | ⟨n,rfl,hm,hv,hn⟩
 ·exact aCN hg hm rfl hd
 ·exact xM hg hm hv rfl hn hd
theorem wZ{aA:List (qv×Obj)}{σ:L2.St}{H F:Hp}{s:qx}{a:qv}{c:Str}{r:D}(I:Inv X aA σ H s)(sb:aZ F H)(h:gS X.K F a c r):∃ C oe od,nsIn X.K qy c=qq (qq (.ref C))/\yCa s.heap a oe C od:=by
 obtain⟨C,oe,h1,h2,h3,h4,h5⟩:=h;have e:=(I.hok a _ (sb _ _ h1)).1;cases r with
 | none=>exact⟨C,oe,qj,h4,e,h2,h3,by rw[show oe.dict=qj from h5];trivial⟩
 | int i =>
   obtain⟨dx,q1,q2⟩:=h5;obtain⟨od,ho⟩:=uN (I.hok dx _ (sb _ _ q2));exact⟨C,oe,qq od,h4,e,h2,h3,by rw[q1];exact ho⟩
 | _=>exact h5.elim
theorem aCQ(T:XT X.K X.mg tb){d:Str}{v:V}(nv:cF X.K X.mg d v):bK X (.builtin "isinstance") (λ xs H Q=>∃ F L S a c r b,xs=[.ref a,v]/\Rel X.K F L S H/\gS X.K F a c r/\tb c d=qq b/\Q (.bl b) H):=λ aA s σ H xs us Q I r aF=>by
 obtain⟨F,L,S,a,c,rr,b,e,R,xc,hb,q⟩:=aF;subst e;obtain⟨u,u2,rfl,r1,r2⟩:=kQ r;cases (show u=Value.ref a from r1)
 obtain rfl:=nv.val r2;obtain⟨C,oe,od,hC,J⟩:=wZ I R.sub xc;obtain⟨v',nv',hk⟩:=T.nm c d b hb;have:v'=v:=by
  rcases nv with ⟨C1,rfl,n1,m1⟩ | ⟨n,rfl,m1,n1,_⟩<;>rcases nv' with ⟨C2,rfl,n2,m2⟩ | ⟨n',rfl,m2,n2,_⟩
  ·rw[m1] at m2;cases m2;rfl
  ·rw[m1] at m2;cases m2
  ·rw[m1] at m2;cases m2
  ·rw[n1] at n2;cases n2;rfl
 subst this;exact kia_one (wI (T.cls c d b C hb hC)) I.kIn J (hk C hC) (λ z=>nomatch z) λ tk=>⟨.bl b,H,I.tok _,rfl,q⟩
theorem xW(T:XT X.K X.mg tb){c:Str}{C:qv}(hC:nsIn X.K qy c=qq (qq (.ref C))):∀ {ds:List Str}{vs:List V}{b:Bool},Paired (cF X.K X.mg) ds vs->gF tb c ds=qq b->kitAny X.K (.ref C) (vs.map lD)=qq b
 | _,_,_,.nil,e=>by cases e;rfl
 | d::ds,v::vs,b,.cons nv r,e=>by
   have e':(match tb c d with | some true=>qq true | some false=>gF tb c ds | none=>qj)=qq b:=e
   cases hb:tb c d with
   | none=>rw[hb] at e';cases e'
   | some b1 =>
     rw[hb] at e';obtain⟨v',nv',hk⟩:=T.nm c d b1 hb;have:v'=v:=by
      rcases nv with ⟨C1,rfl,n1,m1⟩ | ⟨n,rfl,m1,n1,_⟩<;>rcases nv' with ⟨C2,rfl,n2,m2⟩ | ⟨n',rfl,m2,n2,_⟩
      ·rw[m1] at m2;cases m2;rfl
      ·rw[m1] at m2;cases m2
      ·rw[m1] at m2;cases m2
      ·rw[n1] at n2;cases n2;rfl
     subst this;have hk:=hk C hC;rw[yAj];unfold kitAny;rw[hk];cases b1 with
     | true=>exact e'
     | false=>exact xW T hC r e'
theorem xJ:∀ {ds:List Str}{vs:List V}{us:List qz},Paired (cF X.K X.mg) ds vs->aH vs us->us=vs.map lD
 | _,_,_,.nil,.nil=>rfl
 | _,_,_,.cons nv r,.cons rv rs=>by rw[yAj,<- xJ r rs,nv.val rv]
theorem aDi(T:XT X.K X.mg tb){ds:List Str}{vs:List V}(nv:Paired (cF X.K X.mg) ds vs)(hne:ds≠[]):bK X (.builtin "isinstance") (λ xs H Q=>∃ F L S a c r b p,xs=[.ref a,.ref p]/\H p=qq (.tup vs)/\Rel X.K F L S H/\gS X.K F a c r/\gF tb c ds=qq b/\Q (.bl b) H):=λ aA s σ H xs us Q I r aF=>by
 obtain⟨F,L,S,a,c,rr,b,p,e,hp,R,xc,hb,q⟩:=aF;subst e;obtain⟨u,u2,rfl,r1,r2⟩:=kQ r;cases (show u=Value.ref a from r1)
 cases (show u2=Value.ref p from r2)
 obtain⟨C,oe,od,hC,J⟩:=wZ I R.sub xc;obtain⟨_,aC,rv,o,ho,hc,n,hd⟩:=I.hok p _ hp;obtain rfl:=xJ nv rv;have hX:XcOk X.K C:=by
  cases ds with
  | nil=>exact absurd rfl hne
  | cons d ds =>
    have e':(match tb c d with | some true=>qq true | some false=>gF tb c ds | none=>qj)=qq b:=hb
    cases hb1:tb c d with
    | none=>rw[hb1] at e';cases e'
    | some b1=>exact T.cls c d b1 C hb1 hC
 obtain⟨oc,od',oda,osl⟩:=o;dsimp only at hc hd;subst hc hd;exact kia_tup (wI hX) I.kIn J ho (xW T hC nv hb) (λ z=>nomatch z) λ tk=>⟨.bl b,H,I.tok _,rfl,q⟩
end
end EV
namespace EV
open PySem L2 PySem.Spec PyProof.Rows PySem.W
inductive Hx where
 | bl (b:Bool) | str (x:Str) | row (i:Nat) | isi (i:Nat) (d:Str) | isl (i:Nat) (ds:List Str)
inductive Hs where
 | set (j:Nat) (a:Hx) | tup (j:Nat) (as:List Hx) | lst (nw:Bool) (j:Nat) (as:List Hx) | app (j:Nat) (a:Hx) | cat (j:Nat) (as:List Hx)
noncomputable def aHo(fa:FE):FE:=λ env S=>(fa env S).bind λ p=>match p.1 with
 | .exc _ (.int i)=>qq (.d (.int i),p.2)
 | _=>qj
section
variable (tb : Str -> Str -> Option Bool)
noncomputable def hv:Hx->FE
 | .bl b=>fC (.bool b)
 | .str x=>fC (.str x)
 | .row i=>aHo (cV i)
 | .isi i d=>lQ tb (cV i) [d]
 | .isl i ds=>lQ tb (cV i) ds
noncomputable def gU:List Hx->FA
 | []=>gD
 | a::as=>dC (hv tb a) (gU as)
noncomputable def dX:Hs->FS
 | .set j a=>cS j (hv tb a)
 | .tup j as=>cS j (lG (gU tb as))
 | .lst nw j as=>cS j (match nw with | true=>cB (gO (gU tb as)) | false=>dW (gO (gU tb as)))
 | .app j a=>kS (cE (cV j) (hv tb a))
 | .cat j as=>cS j (iH .Add (cV j) (dW (gO (gU tb as))))
noncomputable def jF:List Hs->FS
 | []=>kT
 | a::as=>gN (dX tb a) (jF as)
end
section
variable (N : List Str)(sc : zv)
noncomputable def mI(i:Nat)(x:qw):Bool:=cX (λ x _=>decide (N[i]? = qq x)&&gT sc x && !(x==("__debug__" : Str)) && !(x==("__classdict__" : Str))) x
noncomputable def pB(d:Str)(x:qw):Bool:=cX (λ z _=>decide (z=d)&&gl sc z && !(z==("__debug__" : Str))) x
noncomputable def rZ:List Str->List qw->Bool
 | [],xs=>xs.isEmpty
 | d::ds,xs=>(match xs with
   | x::xs=>pB sc d x&&bI x&&rZ ds xs
   | []=>false)
noncomputable def oN:Hx->qw->Bool
 | .bl b,x=>gE (.bool b) x
 | .str k,x=>gE (.str k) x
 | .row i,x=>false
 | .isi i d,x=>lW "isinstance" sc (λ y=>mI N sc i y) (λ z=>pB sc d z) x
 | .isl i ds,x=>!ds.isEmpty&&decide (ds.length<=100)&&lW "isinstance" sc (λ y=>mI N sc i y) (λ z=>gW (λ xs _ _=>rZ sc ds xs) z) x
noncomputable def kY:List Hx->List qw->Bool
 | [],xs=>xs.isEmpty
 | a::as,xs=>(match xs with
   | x::xs=>oN N sc a x&&bI x&&kY as xs
   | []=>false)
noncomputable def gR(j:Nat)(ts:List qw):Bool:=fA (λ t=>cX (λ x _=>decide (N[j]? = qq x)&&loc sc x) t) ts
noncomputable def aAy:Hs->zy->Bool
 | .set j a,st=>fJ (λ ts y _=>oN N sc a y&&dB y&&gR N sc j ts) st
 | .tup j as,st=>fJ (λ ts y _=>gW (λ xs _ _=>kY N sc as xs) y&&dB y&&gR N sc j ts) st
 | .lst _ j as,st=>fJ (λ ts y _=>mC (λ xs _=>kY N sc as xs) y&&dB y&&gR N sc j ts) st
 | .app j a,st=>mL (λ x _=>tG "append" (λ y=>mI N sc j y) (λ z=>oN N sc a z) x&&dB x) st
 | .cat j as,st=>fJ (λ ts y _=>mH (λ x o z _=>decide (o=.Add)&&mI N sc j x&&mC (λ xs _=>kY N sc as xs) z) y&&dB y&&gR N sc j ts) st
noncomputable def rS:List Hs->List zy->Bool
 | [],l=>l.isEmpty
 | a::as,l=>(match l with
   | st::r=>aAy N sc a st&&rS as r
   | []=>false)
end
section
variable {X : Cx}{tb : Str -> Str -> Option Bool}
theorem pH{i:Nat}{x:qw}(h:mI X.N X.env.scope i x=true):PE X x (aK X.K (cV i)):=dR (P:=λ x=>PE X x _) h λ x p h=>aAd (dT (aL (aL (aL h)))) (zB (aR (aL (aL h)))) (fN (aR (aL h))) (fN (aR h))
def oS(K:FrG)(mg:Str->Option qz)(ns:List Str):Prop:=∀ d∈ns,∃ v,cF K mg d v
theorem zZ{d:Str}{v:V}{x:qw}(nv:cF X.K X.mg d v)(h:pB X.env.scope d x=true):PE X x (tC v):=dR (P:=λ x=>PE X x _) h λ x p h=>by
 obtain rfl:=dT (aL (aL h));exact aFQ (dO (aR (aL h))) (fN (aR h)) nv
theorem zJ:∀ {ds:List Str}{es:List qw},(∀ d∈ds,∃ v,cF X.K X.mg d v)->rZ X.env.scope ds es=true->∃ vs,Paired (cF X.K X.mg) ds vs/\PA X es (λ _ H Q=>Q vs H)
 | [],es,_,h=>cO (P:=λ es=>∃ vs,Paired (cF X.K X.mg) [] vs/\PA X es (λ _ H Q=>Q vs H)) h ⟨[],.nil,iY⟩
 | d::ds,[],_,h=>no h
 | d::ds,x::es,hn,h=>by
   obtain⟨v,nv⟩:=hn d xAd;obtain⟨vs,p,ha⟩:=zJ (λ d' hd=>hn d' (xAf _ hd)) (aR h)
   exact⟨v::vs,.cons nv p,eT (zZ nv (aL (aL h))) ha (cM (aR (aL h)) _ _)⟩
theorem aEf{d:Str}{v:V}{fa:FE}{y z:qw}{p q:Pos}(T:XT X.K X.mg tb)(nv:cF X.K X.mg d v)(hb:X.mg "isinstance" = qj)(hg:Gl X "isinstance")(hy:PE X y (aK X.K fa))(py:bI y=true)(hz:PE X z (tC v))(pz:bI z=true):PE X (.Call (.Name "isinstance" p) [y,z] [] q) (aK X.K (lQ tb fa [d])):=by
 refine PE.weak (eS (aCQ T nv) hg hb (by decide +kernel) (eT hy (eT hz iY (cM pz _ _)) (cM py _ _)) (by decide) (by decide) (cM py _ _) (jU (es:=[z]) (by unfold fO fO;rw[pz];rfl) _ _)) λ σ H Q hPq32=>?_
 obtain⟨F,L,S,env,w,S',R,E,e,q⟩:=hPq32;obtain⟨⟨w1,S1⟩,e1,e2⟩:=bind_some e;cases w1 with
 | d x=>cases e2
 | loc n=>cases e2
 | exc c r =>
   obtain⟨b,e3,e4⟩:=bind_some e2;cases e4;refine⟨F,L,S,env,.exc c r,_,R,E,e1,λ F1 L1 H1 v1 g1 R1 d1=>?_⟩
   obtain⟨a,rfl,xc⟩:=d1;have e5:tb c d=qq b:=by
    have e3':(match tb c d with | some true=>qq true | some false=>qq false | none=>qj)=qq b:=e3
    cases hb:tb c d with
    | none=>rw[hb] at e3';cases e3'
    | some b'=>rw[hb] at e3';cases b'<;>exact e3'
   exact⟨F1,L1,_,a,c,r,b,rfl,R1,xc,e5,q F1 L1 H1 _ g1 R1 (Den.bl b)⟩
theorem aEk{ds:List Str}{vs:List V}{fa:FE}{y:qw}{es:List qw}{kk:Nat}{tp p q:Pos}(T:XT X.K X.mg tb)(nv:Paired (cF X.K X.mg) ds vs)(hne:ds≠[])(hl:ds.length<=100)(hb:X.mg "isinstance" = qj)(hg:Gl X "isinstance")(hy:PE X y (aK X.K fa))(py:bI y=true)(hz:PA X es (λ _ H Q=>Q vs H)) :
 PE X (.Call (.Name "isinstance" p) [y,.Tuple es kk tp] [] q) (aK X.K (lQ tb fa ds)):=by
 refine PE.weak (eS (aDi T nv hne) hg hb (by decide +kernel) (eT hy (eT (rN hz) iY rfl) (cM py _ _)) (by decide) (by decide) (cM py _ _) rfl) λ σ H Q hPq33=>?_
 obtain⟨F,L,S,env,w,S',R,E,e,q⟩:=hPq33;obtain⟨⟨w1,S1⟩,e1,e2⟩:=bind_some e;cases w1 with
 | d x=>cases e2
 | loc n=>cases e2
 | exc c r =>
   obtain⟨b,e3,e4⟩:=bind_some e2;cases e4;refine⟨F,L,S,env,.exc c r,_,R,E,e1,λ F1 L1 H1 v1 g1 R1 d1=>?_⟩
   obtain⟨a,rfl,xc⟩:=d1;refine⟨by rw[<- nv.length];exact xAg hl (by decide),λ p hp=>⟨F1,L1,_,a,c,r,b,p,rfl,bP,R1.lay hp,xc,e3,q F1 L1 _ _ g1 (R1.lay hp) (Den.bl b)⟩⟩
noncomputable def Hx.nms:Hx->List Str
 | .isi _ d=>[d]
 | .isl _ ds=>ds
 | _=>[]
theorem rQ(T:XT X.K X.mg tb)(hb:X.mg "isinstance" = qj){a:Hx}(hn:oS X.K X.mg a.nms){x:qw}(h:oN X.N X.env.scope a x=true):PE X x (aK X.K (hv tb a)):=by
 cases a with
 | bl b=>exact iD (P:=λ x=>PE X x _) h λ _ _=>aAJ
 | str k=>exact iD (P:=λ x=>PE X x _) h λ _ _=>aAf
 | row i=>exact no h
 | isi i d =>
   obtain⟨v,nv⟩:=hn d xAd;exact sI (P:=λ x=>PE X x _) h λ p y z q hg hy py hz pz=>aEf T nv hb (dO hg) (pH hy) py (zZ nv hz) pz
 | isl i ds =>
   refine sI (P:=λ x=>PE X x _) (aR h) λ p y z q hg hy py hz pz=>jH (P:=λ z=>PE X (.Call (.Name "isinstance" p) [y,z] [] q) _) hz λ es kk tp hz=>?_
   obtain⟨vs,nv,ha⟩:=zJ hn hz;refine aEk T nv (λ z=>?_) (dT (aR (aL h))) hb (dO hg) (pH hy) py ha
   have:=aL (aL h);rw[z] at this;exact no this
theorem nW(T:XT X.K X.mg tb)(hb:X.mg "isinstance" = qj):∀ {as:List Hx}{xs:List qw},(∀ a∈as,oS X.K X.mg a.nms)->kY X.N X.env.scope as xs=true->PA X xs (cT X.K (gU tb as))
 | [],xs,_,h=>cO (P:=λ xs=>PA X xs _) h oJ
 | a::as,[],_,h=>no h
 | a::as,x::xs,hn,h=>nS (rQ T hb (hn a xAd) (aL (aL h))) (nW T hb (λ b m=>hn b (xAf _ m)) (aR h)) (cM (aR (aL h)) _ _)
noncomputable def Hs.hxs:Hs->List Hx
 | .set _ a=>[a]
 | .tup _ as=>as
 | .lst _ _ as=>as
 | .app _ a=>[a]
 | .cat _ as=>as
theorem aGL(T:XT X.K X.mg tb)(hb:X.mg "isinstance" = qj)(nd:X.N.Nodup)(hf:∀ x,X.fn x=true){a:Hs}(hn:∀ b∈a.hxs,oS X.K X.mg b.nms){st:zy}(h:aAy X.N X.env.scope a st=true):PS X st (bM X.K (dX tb a)):=by
 have asg:∀ {j:Nat}{ts:List qw}{y:qw}{p:Pos}{fa:FE},gR X.N X.env.scope j ts=true->dB y=true->PE X y (aK X.K fa)->PS X (.Assign ts y p) (bM X.K (cS j fa)):=λ {j ts y p fa} g hy he =>
  eW (P:=λ ts=>PS X (.Assign ts y p) _) g λ _ g=>dR (P:=λ t=>PS X (.Assign [t] y p) _) g λ x q g=>rP nd (dT (aL g)) (kF (aR g)) he (iU hy _ _ _) (.inl (hf _))
 cases a with
 | set j a=>exact gQ (P:=λ st=>PS X st _) h λ ts y p h=>asg (aR h) (aR (aL h)) (rQ T hb (hn a xAd) (aL (aL h)))
 | tup j as=>exact gQ (P:=λ st=>PS X st _) h λ ts y p h=>asg (aR h) (aR (aL h)) (jH (P:=λ y=>PE X y _) (aL (aL h)) λ xs _ _ h=>aAj (nW T hb hn h))
 | lst nw j as =>
   refine gQ (P:=λ st=>PS X st _) h λ ts y p h=>asg (aR h) (aR (aL h)) ?_
   have z:PE X y (eP X.K (gO (gU tb as))):=sU (P:=λ y=>PE X y _) (aL (aL h)) λ xs _ h=>rX (nW T hb hn h)
   cases nw
   ·exact sQ z
   ·exact aAp z
 | app j a =>
   exact sV (P:=λ st=>PS X st _) h λ x p h=>yI (zU (P:=λ x=>PE X x _) (aL h) λ o ap y cp h4 h3 h2 h5 h6 =>
    PE.weak (aAh PySem.F.plainAttrs_list PySem.F.slot_list_append PySem.F.type_list_append qK (pH h2) (nS (rQ T hb (hn a xAd) h5) oJ (cM h6 _ _)) (jZ h3 _ _) (by rw[iP h6];rfl) h4 (iP h6) rfl) aAl) (iU (aR h) _ _ _)
 | cat j as =>
   exact gQ (P:=λ st=>PS X st _) h λ ts y p h=>asg (aR h) (aR (aL h)) (aAC (P:=λ y=>PE X y _) (aL (aL h)) λ x o z _ h=>by
    obtain rfl:=dT (aL (aL h));exact aAt (pH (aR (aL h))) (sQ (sU (P:=λ y=>PE X y _) (aR h) λ xs _ h=>rX (nW T hb hn h))))
theorem zC(T:XT X.K X.mg tb)(hb:X.mg "isinstance" = qj)(nd:X.N.Nodup)(hf:∀ x,X.fn x=true):∀ {as:List Hs}{l:List zy},(∀ a∈as,∀ b∈a.hxs,oS X.K X.mg b.nms)->rS X.N X.env.scope as l=true->aW X l (bM X.K (jF tb as))
 | [],l,_,h=>cO (P:=λ l=>aW X l _) h zN
 | a::as,[],_,h=>no h
 | a::as,st::l,hn,h=>aAq (aGL T hb nd hf (hn a xAd) (aL h)) (zC T hb nd hf (λ b m=>hn b (xAf _ m)) (aR h))
end
end EV
namespace EV
open PySem L2 PySem.Spec PyProof.Rows PySem.W
inductive Xx where
 | s (a:Sx) | skip | seq (a b:Xx) | ifs (c:E) (a b:Xx) | loop (t:Tg) (it:E) (b:Xx)
 | raise (c:Str) | cal (f:Nat) (es:E) | set (i f:Nat) (es:E) | pair (i:Nat) (k:Str) (f:Nat) (es:E)
 | tri (b:Xx) (hs:List (Str×Option Nat×List Hs))
abbrev dA:=Nat->Option (Nat×(List W->aB->Option (ResX×aB)))
noncomputable def gJ(CX:dA)(f:Nat)(fs:FA):eM:=λ env S=>match CX f with
 | some (np,call)=>rT fs np call env S
 | none=>qj
section
variable (C : Calls)(CX : dA)(tb : Str -> Str -> Option Bool)
noncomputable def xx:Xx->FX
 | .s a=>xP (xs C a)
 | .skip=>zS
 | .seq a b=>aAS (xx a) (xx b)
 | .ifs c a b=>xIf (tv C c) (xx a) (xx b)
 | .loop t it b=>aAU t (lv C it) (xx b)
 | .raise c=>zG c
 | .cal f es=>oH (gJ CX f (av C es))
 | .set i f es=>pA i (gJ CX f (av C es))
 | .pair i k f es=>pA i (aAm k (gJ CX f (av C es)))
 | .tri b hs=>jI tb (xx b) (hs.map λ h=>⟨h.1,h.2.1,jF tb h.2.2⟩)
end
noncomputable def tW(k:Option qw->Option qw->Pos->Bool)(x:zy):Bool:=if h:x.ctorIdx=16 then @Stmt.Raise.elim (λ _=>Bool) x h k else false
theorem aHc{P:zy->Prop}{k:Option qw->Option qw->Pos->Bool}{x:zy}(h:tW k x=true)(g:∀ a b c,k a b c=true->P (.Raise a b c)):P x:=@Stmt.Raise.elim (λ e=>tW k e=true->P e) x (cC h) g h
noncomputable def tM(k:List zy->List ExceptHandler->List zy->List zy->Pos->Bool)(x:zy):Bool:=if h:x.ctorIdx=17 then @Stmt.Try.elim (λ _=>Bool) x h k else false
theorem aHn{P:zy->Prop}{k:List zy->List ExceptHandler->List zy->List zy->Pos->Bool}{x:zy}(h:tM k x=true)(g:∀ a b c d e,k a b c d e=true->P (.Try a b c d e)):P x:=@Stmt.Try.elim (λ e=>tM k e=true->P e) x (cC h) g h
structure Xz where
 xo:List Str
 xb:List Str
 rc:List Str
section
variable (T : Tx)(Z : Xz)(N : List Str)
noncomputable def aGW(sc:zv)(h:Str×Option Nat×List Hs):ExceptHandler->Bool
 | .ExceptHandler t nm body _=>Z.xo.contains h.1&&t.any (λ t=>pB sc h.1 t)&&(match nm,h.2.1 with
    | none,qj=>true
    | some n,qq i=>decide (N[i]? = qq n)&&decide (sc.names.lookup n=qq .local)
    | _,_=>false) && !body.isEmpty&&rS N sc h.2.2 body&&h.2.2.all λ a=>a.hxs.all λ b=>b.nms.all λ d=>Z.xo.contains d||Z.xb.contains d
noncomputable def sA(sc:zv):List (Str×Option Nat×List Hs)->List ExceptHandler->Bool
 | [],as=>as.isEmpty
 | h::hs,as=>(match as with
   | a::as=>aGW Z N sc h a&&sA sc hs as
   | []=>false)
noncomputable def oZ(f:Nat)(es:E)(sc:zv)(x:qw):Bool:=fX (λ x xs=>decide ((T.fn[f]?).map (·.1)=qq x)&&gl sc x && !(x==("__debug__" : Str))&&fL T N es sc xs&&fO xs && !xs.isEmpty) x
mutual
noncomputable def okX:Xx->zv->zy->Bool
 | .s a,sc,st=>tO T N a sc st
 | .ifs c a b,sc,st=>pI (λ x y z _=>fG T N c sc x&&eY a sc y&&eY b sc z) st
 | .loop t it b,sc,st=>pU (λ tg x y z _=>z.isEmpty&&lU false N sc t tg&&pR T N it sc tg x&&bI x&&eY b sc y) st
 | .raise c,sc,st=>tW (λ e ca _=>sJ ca&&e.any λ e=>fX (λ n xs=>xs.isEmpty&&decide (n=c)&&gl sc n && !(n==("__debug__" : Str))&&Z.rc.contains c) e) st
 | .cal f es,sc,st=>mL (λ x _=>oZ T N f es sc x&&dB x) st
 | .set i f es,sc,st=>fJ (λ ts y _=>oZ T N f es sc y&&dB y&&gR N sc i ts) st
 | .pair i k f es,sc,st=>fJ (λ ts y _=>gW (λ xs _ _=>sL (λ u v=>gE (.str k) u&&oZ T N f es sc v&&bI v) xs) y&&dB y&&gR N sc i ts) st
 | .tri b hs,sc,st=>tM (λ bd hds oe fb _=>oe.isEmpty&&fb.isEmpty && !hs.isEmpty&&eY b sc bd&&sA Z N sc hs hds) st
 | _,_,_=>false
noncomputable def eY:Xx->zv->List zy->Bool
 | .skip,_,l=>l.isEmpty
 | .seq a b,sc,l=>(match l with
   | st::r=>okX a sc st&&eY b sc r
   | []=>false)
 | _,_,_=>false
end
end
structure XCtx(T:Tx)(Z:Xz)(C:Calls)(CX:dA)(tb:Str->Str->Option Bool)(X:Cx)(W:XW):Prop where
 ctx:Ctx T C X.nox
 fly:oC X W
 own:PassesOwn (model X.prog X.w) X.A X.env X.xe
 dfb:Dfb X
 fn:∀ x,X.fn x=true
 xt:XT X.K X.mg tb
 cal:∃ k,Room k X.A/\∀ f np call x,CX f=qq (np,call)->(T.fn[f]?).map (·.1)=qq x->∃ fa fd ps,X.mg x=qq (.ref fa)/\keepIn X.K (.ref fa)=true/\cR X.K fd ps []/\FnOk X.prog X.w X.K X.mg X.base (dY X.prog X.w) k fa fd ps (iQ X.K np call)
 xo:∀ d∈Z.xo,∃ C,nsIn X.K qy d=qq (qq (.ref C))/\X.mg d=qq (.ref C)
 xb:∀ d∈Z.xb,∃ n,X.mg d=qj/\zw d=qq (.type n)/\d ≠ "__name__"
 rc:∀ c∈Z.rc,∃ C,nsIn X.K qy c=qq (qq (.ref C))/\X.mg c=qq (.ref C)/\excIn X.K C pV "ValueError.__new__" = true
section
variable {T : Tx}{Z : Xz}{C : Calls}{CX : dA}{tb : Str -> Str -> Option Bool}
theorem XCtx.nms{X:Cx}{W:XW}(h:XCtx T Z C CX tb X W){d:Str}(hd:(Z.xo.contains d||Z.xb.contains d)=true):∃ v,cF X.K X.mg d v:=by
 rcases Bool.or_eq_true_iff.mp hd with z | z
 ·obtain⟨C,h1,h2⟩:=h.xo d (by simpa using z)
  exact⟨.ref C,.inl ⟨C,rfl,h1,h2⟩⟩
 ·obtain⟨n,h1,h2,h3⟩:=h.xb d (by simpa using z)
  exact⟨.ty n,.inr ⟨n,rfl,h1,h2,h3⟩⟩
theorem XCtx.tri{X:Cx}{W:XW}(h:XCtx T Z C CX tb X W)(aA:List (qv×Obj))(W':XW):XCtx T Z C CX tb ((bZ X aA).wish (eG (bZ X aA) W')) W' where
 ctx:=⟨h.ctx.nd,h.ctx.calm,rfl,h.ctx.kind,h.ctx.room,h.ctx.blt,h.ctx.tbs,h.ctx.cns⟩
 fly:=λ _ _ z=>z.unwish
 own:=wV (X:=bZ X aA) ⟨h.dfb.stk,h.dfb.frm,h.dfb.ex⟩
 dfb:=⟨h.dfb.stk,h.dfb.frm,h.dfb.ex⟩
 fn:=h.fn
 xt:=h.xt
 cal:=h.cal
 xo:=h.xo
 xb:=h.xb
 rc:=h.rc
theorem PI.nox{X:Cx}{tg iter:qw}{wi:TI}(h:PI X.nox tg iter wi):PI X tg iter wi:=λ aA s σ H R I hw =>
 wpAny_mono (h aA s σ H R (I.wish _) hw) (λ v s1 h1=>wpAny_mono h1 (λ itv s2 hPr5=>by obtain⟨it,fp,tn,J,H',e,I',t,t0,hf,r⟩:=hPr5;exact⟨it,fp,tn,J,H',e,I'.unwish,t,t0,hf,r⟩) λ _ _ z=>z.elim) λ _ _ z=>z.elim
theorem qP{X:Cx}{W:XW}(hX:XCtx T Z C CX tb X W){f:Nat}{es:E}{x:qw}(h:oZ T X.N f es X.env.scope x=true):PE X x (iL X.K W (gJ CX f (av C es))):=by
 refine jA (P:=λ x=>PE X x _) h λ n p xs q h=>?_
 intro aA s σ H Q I t;obtain⟨F,L,S,env,res,S',R,E,e,r⟩:=id t;unfold gJ at e;cases hc:CX f with
 | none=>rw[hc] at e;cases e
 | some v =>
   obtain⟨np,call⟩:=v;obtain⟨k,hr,hk⟩:=hX.cal;have h5:=aL (aL h);have h4:=aL h5;have h3:=aL h4;have h2:=aL h3;obtain⟨fa,fd,ps,m1,m2,m3,m4⟩:=hk f np call n hc (dT h2);cases xs with
   | nil=>exact no (aR h)
   | cons y ys =>
     have ha:PA X (y::ys) (cT X.K (av C es)):=PA.nox ((sn (T:=T) (C:=C) es).a X.nox hX.ctx _ (aR h5));have hp:=aR (aL h);obtain⟨p1,p2⟩:=bR hp;rw[hc] at e;exact aCt m4 hr (dO (aR h3)) m1 m2 m3 hX.fly ha (fN (aR h4)) (cM p1 _ _) (jU p2 _ _) aA s σ H Q I (aCW σ H Q ⟨F,L,S,env,res,S',R,E,e,r⟩)
theorem yH{X:Cx}{W:XW}(hX:XCtx T Z C CX tb X W)(aA:List (qv×Obj)):∀ {hs:List (Str×Option Nat×List Hs)}{as:List ExceptHandler},sA Z X.N X.env.scope hs as=true->HdsOk (bZ X aA) (hs.map λ h=>⟨h.1,h.2.1,jF tb h.2.2⟩) as
 | [],as,h=>cO (P:=λ as=>HdsOk (bZ X aA) [] as) h .nil
 | h::hs,[],e=>no e
 | h::hs,a::as,e=>by
   refine .cons ?_ (yH hX aA (aR e));have e1:=aL e;cases a with
   | ExceptHandler t nm body pos =>
     have e2:=aL e1;have e3:=aL e2;have e4:=aL e3;have e5:=aL e4;have hnm:=aR e4;have hne:=aR e3;have hss:=aR e2;have hall:=aR e1;refine nX (P:=λ t=>oO (bZ X aA) _ (.ExceptHandler t nm body pos)) (aR e5) λ t ht=>dR (P:=λ t=>oO (bZ X aA) _ (.ExceptHandler (qq t) nm body pos)) ht λ d np hd=>?_
     obtain rfl:=dT (aL (aL hd));cases body with
     | nil=>exact no hne
     | cons b0 suite =>
       refine⟨rfl,dO (aR (aL hd)),fN (aR hd),hX.xo _ (by simpa using aL e5),?_,λ ev=>?_⟩
       ·cases nm with
        | none =>
          cases hsl:h.2.1 with
          | none=>dsimp only;rw[hsl];trivial
          | some i=>rw[hsl] at hnm;exact no hnm
        | some n =>
          cases hsl:h.2.1 with
          | none=>rw[hsl] at hnm;exact no hnm
          | some i=>rw[hsl] at hnm;dsimp only;rw[hsl];exact⟨dT (aL hnm),dT (aR hnm)⟩
       ·refine zC (X:=iM (bZ X aA) ev) hX.xt (hX.ctx.blt _ (by decide)) hX.ctx.nd hX.fn (λ a ha b hb d hd'=>hX.nms ?_) hss
        exact List.all_eq_true.mp (List.all_eq_true.mp (List.all_eq_true.mp hall a ha) b hb) d hd'
def SX(T:Tx)(Z:Xz)(C:Calls)(CX:dA)(tb:Str->Str->Option Bool)(c:Xx):Prop:=∀ X W,XCtx T Z C CX tb X W->∀ st,okX T Z X.N c X.env.scope st=true->PS X st (tX X.K W (xx C CX tb c))
def SXs(T:Tx)(Z:Xz)(C:Calls)(CX:dA)(tb:Str->Str->Option Bool)(c:Xx):Prop:=∀ X W,XCtx T Z C CX tb X W->∀ st,eY T Z X.N c X.env.scope st=true->aW X st (tX X.K W (xx C CX tb c))
theorem sx(c:Xx):SX T Z C CX tb c/\SXs T Z C CX tb c:=by
 have N2:∀ {c:Xx},SX T Z C CX tb c->(∀ N sc st,eY T Z N c sc st=false)->SX T Z C CX tb c/\SXs T Z C CX tb c:=λ q hh=>⟨q,λ X W hX st h=>by rw[hh] at h;exact no h⟩
 have asg:∀ {X:Cx}{W:XW},XCtx T Z C CX tb X W->∀ {j:Nat}{ts:List qw}{y:qw}{p:Pos}{f:eM},gR X.N X.env.scope j ts=true->dB y=true->PE X y (iL X.K W f)->PS X (.Assign ts y p) (tX X.K W (pA j f)):=λ {X W} hX {j ts y p f} g hy he =>
  eW (P:=λ ts=>PS X (.Assign ts y p) _) g λ _ g=>dR (P:=λ t=>PS X (.Assign [t] y p) _) g λ x q g=>aGm hX.ctx.nd (dT (aL g)) (kF (aR g)) he (iU hy _ _ _) (.inl (hX.fn _))
 induction c with
 | s a=>exact N2 (λ X W hX st h=>x_s ((ss a).1 X.nox hX.ctx hX.fn st h)) λ _ _ _=>rfl
 | skip=>exact⟨λ X W hX st h=>no h,λ X W hX st h=>cO (P:=λ st=>aW X st _) h aFz⟩
 | seq a b aJ bA=>exact⟨λ X W hX st h=>no h,λ X W hX st h=>by
    cases st with
    | nil=>exact no h
    | cons s r=>exact aGu (aJ.1 X W hX _ (aL h)) (bA.2 X W hX _ (aR h))⟩
 | ifs c a b aJ bA=>exact N2 (λ X W hX st h=>aAB (P:=λ st=>PS X st _) h λ x y z p h=>aG0 ((sn c).t X.nox hX.ctx _ (aL (aL h))).1 (aJ.2 X W hX _ (aR (aL h))) (bA.2 X W hX _ (aR h))) λ _ _ _=>rfl
 | loop t it b bA=>exact N2 (λ X W hX st h=>aAz (P:=λ st=>PS X st _) h λ tg x y z p h=>cO (P:=λ z=>PS X (.For tg x y z p) _) (aL (aL (aL (aL h))))
    (aFK hX.own hX.ctx.calm (PI.nox ((sn it).i X.nox hX.ctx _ _ (aR (aL (aL h))))) (oF (X:=X) (.inr hX.fn) hX.ctx.nd hX.ctx.calm (aR (aL (aL (aL h))))) (oA X.K t) (bA.2 X W hX _ (aR h)) (mX (aR (aL h)) X.env))) λ _ _ _=>rfl
 | raise c=>exact N2 (λ X W hX st h=>aHc (P:=λ st=>PS X st _) h λ e ca p h=>zV (P:=λ ca=>PS X (.Raise e ca p) _) (aL h) (nX (P:=λ e=>PS X (.Raise e qj p) _) (aR h) λ e h=>jA (P:=λ e=>PS X (.Raise (qq e) qj p) _) h λ n np xs q h=>by
    have h4:=aL h;have h3:=aL h4;have h2:=aL h3;obtain rfl:=dT (aR h2);obtain⟨C,c1,c2,c3⟩:=hX.rc n (by simpa using aR h)
    exact cO (P:=λ xs=>PS X (.Raise (qq (.Call (.Name n np) xs [] q)) qj p) _) (aL h2) (aCK hX.fly hX.ctx.calm (dO (aR h3)) c2 c1 c3 (fN (aR h4))))) λ _ _ _=>rfl
 | cal f es=>exact N2 (λ X W hX st h=>sV (P:=λ st=>PS X st _) h λ x p h=>aD7 (qP hX (aL h)) (iU (aR h) _ _ _)) λ _ _ _=>rfl
 | set i f es=>exact N2 (λ X W hX st h=>gQ (P:=λ st=>PS X st _) h λ ts y p h=>asg hX (aR h) (aR (aL h)) (qP hX (aL (aL h)))) λ _ _ _=>rfl
 | pair i k f es=>exact N2 (λ X W hX st h=>gQ (P:=λ st=>PS X st _) h λ ts y p h=>asg hX (aR h) (aR (aL h)) (jH (P:=λ y=>PE X y _) (aL (aL h)) λ xs kk q h=>zW (P:=λ xs=>PE X (.Tuple xs kk q) _) h λ u v h=>iD (P:=λ u=>PE X (.Tuple [u,v] kk q) _) (aL (aL h)) λ j p1=>aFq (qP hX (aR (aL h))) (aR h))) λ _ _ _=>rfl
 | tri b hs bA=>exact N2 (λ X W hX st h=>aHn (P:=λ st=>PS X st _) h λ bd hds oe fb p h=>by
    have h4:=aL h;have h3:=aL h4;have h2:=aL h3;refine cO (P:=λ oe=>PS X (.Try bd hds oe fb p) _) (aL h2) (cO (P:=λ fb=>PS X (.Try bd hds [] fb p) _) (aR h2) ?_)
    have hh:=λ aA=>yH hX aA (aR h)
    cases hds with
    | nil =>
      cases hs with
      | nil=>exact no (aR h3)
      | cons a b=>exact no (aR h)
    | cons h0 as=>exact aFU hX.xt.exm hX.ctx.nd hX.fn hX.dfb (λ aA W'=>bA.2 _ W' (hX.tri aA W') _ (aR h4)) hh) λ _ _ _=>rfl
end
end EV
namespace EV
open PySem L2 PySem.Spec PyProof.Rows PySem.W
structure FnX where
 name:Str
 np:Nat
 N:List Str
 body:Sx ⊕ Xx
 st:zy
noncomputable def FnX.fn(G:FnX):Fn:={name:=G.name,np:=G.np,N:=G.N,body:=.skip,st:=G.st }
noncomputable def dG(C:Calls)(CX:dA)(tb:Str->Str->Option Bool)(G:FnX):List W->aB->Option (W×aB):=match G.body with
 | .inl b=>bY (xs C b) G.N.length
 | .inr x=>iB (dF (xx C CX tb x) G.N.length)
section
variable (fs : List Fn)(gs : List FnX)(tb : Str -> Str -> Option Bool)
noncomputable def aGD(d:Nat)(C:Calls)(CX:dA):Calls:=λ f=>if f<fs.length then bF fs (d+1) f else (gs[f-fs.length]?).map λ G=>(G.np,dG C CX tb G)
noncomputable def aFb(C:Calls)(CX:dA):dA:=λ f=>if f<fs.length then qj else (gs[f-fs.length]?).bind λ G=>match G.body with
 | .inl _=>qj
 | .inr x=>qq (G.np,dF (xx C CX tb x) G.N.length)
noncomputable def aG:Nat->Calls×dA
 | 0=>(λ _=>qj,λ _=>qj)
 | d+1=>(aGD fs gs tb d (aG d).1 (aG d).2,aFb fs gs tb (aG d).1 (aG d).2)
noncomputable def fF(t:Tbs):Tx:=⟨(fs.map λ F=>(F.name,F.np))++gs.map λ G=>(G.name,G.np),t.tb,t.cn⟩
noncomputable def oI(t:Tbs)(Z:Xz)(G:FnX):Bool:=
 decide ((bE G.st).kind=.function) && !(bE G.st).isCoroutine && !(bE G.st).isGenerator&&nV G.N&&decide (G.np<=G.N.length)&&(G.N.take G.np).all (loc (bE G.st))&&(bE G.st).names.all (λ y=>!decide (y.2=.free)) &&
  (match G.body with
    | .inl b=>fB (fF fs gs t) G.N b (bE G.st) (cN G.st)
    | .inr x=>eY (fF fs gs t) Z G.N x (bE G.st) (cN G.st))
end
theorem uX{fs:List Fn}{gs:List FnX}{t:Tbs}{Z:Xz}{G:FnX}(h:oI fs gs t Z G=true):FnScope G.N (G.N.take G.np) (bE G.st)/\(match G.body with
 | .inl b=>fB (fF fs gs t) G.N b (bE G.st) (cN G.st)
 | .inr x=>eY (fF fs gs t) Z G.N x (bE G.st) (cN G.st))=true/\(G.N.take G.np).length=G.np:=by
 obtain⟨h,h8⟩:=bR h;obtain⟨h,h7⟩:=bR h;obtain⟨h,h6⟩:=bR h;obtain⟨h,h5⟩:=bR h;obtain⟨h,h4⟩:=bR h;obtain⟨h,h3⟩:=bR h;obtain⟨h1,h2⟩:=bR h;have hl:(G.N.take G.np).length=G.np:=by
  rw[yCd];have:=oqT h5;omega
 refine⟨⟨oqT h1,aAK h2,aAK h3,qT h4,by rw[hl],λ x hx=>yD (List.all_eq_true.mp h6 x hx),λ y hy=>?_⟩,h8,hl⟩
 have:=List.all_eq_true.mp h7 y hy;intro z;rw[dqT z] at this;exact no this
structure XK0(K:FrG)(mg:Str->Option qz)(Z:Xz)(tb:Str->Str->Option Bool):Prop where
 xt:XT K mg tb
 xo:∀ d∈Z.xo,∃ C,nsIn K qy d=qq (qq (.ref C))/\mg d=qq (.ref C)
 xb:∀ d∈Z.xb,∃ n,mg d=qj/\zw d=qq (.type n)/\d ≠ "__name__"
 rc:∀ c∈Z.rc,∃ C,nsIn K qy c=qq (qq (.ref C))/\mg c=qq (.ref C)/\excIn K C pV "ValueError.__new__" = true
section
variable {P : qo}{w : zq}{K : FrG}{mg : Str -> Option qz}{base : Heap}{fs : List Fn}{gs : List FnX}{tb : Str -> Str -> Option Bool}{t : Tbs}{Z : Xz}
theorem vY{f:Nat}{x:Str}(h:((fF fs gs t).fn[f]?).map (·.1)=qq x):(∃ F,f<fs.length/\fs[f]? = qq F/\F.name=x)\/(∃ G,¬ f<fs.length/\gs[f-fs.length]? = qq G/\G.name=x):=by
 unfold fF at h;dsimp only at h
 by_cases hf:f<fs.length
 ·rw[xAj (by simpa using hf),xAb] at h
  cases q:fs[f]? with
  | none=>rw[q] at h;cases h
  | some F=>rw[q] at h;exact .inl ⟨F,hf,rfl,Option.some.inj h⟩
 ·rw[yAa (by simpa using hf),xAb,yAe] at h
  cases q:gs[f-fs.length]? with
  | none=>rw[q] at h;cases h
  | some G=>rw[q] at h;exact .inr ⟨G,hf,rfl,Option.some.inj h⟩
theorem wR(hk:∀ F∈fs,lF fs t F=true)(gk:∀ G∈gs,oI fs gs t Z G=true)(top:∀ F∈fs,∃ fa fd,Fun K F.name F.name F.st fa fd/\mg F.name=qq (.ref fa)/\cR K fd (F.N.take F.np) [])(topX:∀ G∈gs,∃ fa fd,Fun K G.name G.name G.st fa fd/\mg G.name=qq (.ref fa)/\cR K fd (G.N.take G.np) [])
 (hb:∀ x∈bltNames,mg x=qj) (ht:∀ x aO,(x,aO)∈t.tb->∃ a,mg x=qq (.ref a)/\oD K w a aO) (hcn:∀ x ts,(x,ts)∈t.cn->∃ a,mg x=qq (.ref a)/\lA K a ts) (X0:XK0 K mg Z tb) :
 ∀ d,(∀ f np call x,(aG fs gs tb d).1 f=qq (np,call)->((fF fs gs t).fn[f]?).map (·.1)=qq x->∃ fa fd ps,mg x=qq (.ref fa)/\keepIn K (.ref fa)=true/\cR K fd ps []/\FnOk P w K mg base fH d fa fd ps (eN K np call)) /\
  (∀ f np call x,(aG fs gs tb d).2 f=qq (np,call)->((fF fs gs t).fn[f]?).map (·.1)=qq x->∃ fa fd ps,mg x=qq (.ref fa)/\keepIn K (.ref fa)=true/\cR K fd ps []/\FnOk P w K mg base (dY P w) d fa fd ps (iQ K np call)) /\
  (∀ g G np call fa fd,gs[g]? = qq G->(aG fs gs tb d).1 (fs.length+g)=qq (np,call)->Fun K G.name G.name G.st fa fd->FnOk P w K mg base fH d fa fd (G.N.take G.np) (eN K np call))
 | 0=>⟨λ f np call x e=>(by cases e),λ f np call x e=>(by cases e),λ g G np call fa fd _ e=>(by cases e)⟩
 | d+1=>by
   obtain⟨ih1,ih2,_⟩:=wR hk gk top topX hb ht hcn X0 d;have raising:∀ (G:FnX) (x:Xx),G∈gs->G.body=.inr x->∀ fa fd,Fun K G.name G.name G.st fa fd->FnOk P w K mg base (dY P w) (d+1) fa fd (G.N.take G.np) (iQ K G.np (dF (xx (aG fs gs tb d).1 (aG fs gs tb d).2 tb x) G.N.length)):=λ G x hG hbd fa fd Fu=>by
    obtain⟨sc,hok,hl⟩:=uX (gk G hG);rw[hbd] at hok;refine Fun.okX Fu sc (λ vs H Q E h=>?_) λ X A vs H Q E e1 e2 e3 e4 e5 e6 e7 e8 e9 D hr h=>?_
    ·obtain⟨F1,L,S,ws,w1,S',hn,R,dl,_⟩:=h;rw[hl,<- hn];exact dl.length.symm
    ·subst e1 e2 e3 e4 e5;refine⟨_,(sx (T:=fF fs gs t) (Z:=Z) (C:=(aG fs gs tb d).1) (CX:=(aG fs gs tb d).2) (tb:=tb) x).2 (X.wish (eG X λ _=>E)) (λ _=>E) ?_ _ (by show eY _ _ X.N x X.env.scope _=true;rw[e6,e7];exact hok),aDh h⟩
     exact {ctx:=⟨by show X.N.Nodup;rw[e6];exact sc.nd,e8,rfl,by show X.env.scope.kind=_;rw[e7];exact sc.kind,⟨d,hr,ih1⟩,hb,ht,hcn⟩,fly:=λ _ _ z=>z.unwish,own:=wV (X:=X) D,dfb:=D.wish _,fn:=e9,xt:=X0.xt,cal:=⟨d,hr,ih2⟩,xo:=X0.xo,xb:=X0.xb,rc:=X0.rc }
   have each:∀ G∈gs,∀ fa fd,Fun K G.name G.name G.st fa fd->FnOk P w K mg base fH (d+1) fa fd (G.N.take G.np) (eN K G.np (dG (aG fs gs tb d).1 (aG fs gs tb d).2 tb G)):=λ G hGm fa fd Fu=>by
    unfold dG;cases hbd:G.body with
    | inr x=>exact aCF (raising G x hGm hbd fa fd Fu)
    | inl b =>
      dsimp only;obtain⟨sc,hok,hl⟩:=uX (gk G hGm);rw[hbd] at hok;refine Fu.ok sc (λ vs H Q E h=>?_) λ cdv A outer s H vs Q E hr h=>?_
      ·obtain⟨F1,L,S,ws,w1,S',hn,R,dl,_⟩:=h;rw[hl,<- hn];exact dl.length.symm
      ·exact⟨_,(ss (T:=fF fs gs t) (C:=(aG fs gs tb d).1) b).2 _ ⟨sc.nd,rfl,rfl,sc.kind,⟨d,hr,λ f' np' call' x' e1 e2=>ih1 f' np' call' x' e1 e2⟩,hb,λ x aO hx=>ht x aO hx,λ x ts hx=>hcn x ts hx⟩ (λ _=>rfl) _ hok,yM h⟩
   refine⟨λ f np call x e q=>?_,λ f np call x e q=>?_,λ g G np call fa fd hG e Fu=>?_⟩
   ·rcases vY q with ⟨F,hf,hF,rfl⟩ | ⟨G,hf,hG,rfl⟩
    ·have e':bF fs (d+1) f=qq (np,call):=by
      have:(aG fs gs tb (d+1)).1 f=bF fs (d+1) f:=if_pos hf;rw[<- this];exact e
     obtain⟨fa,fd,Fu,hm,hbi⟩:=top F (xAi hF);exact⟨fa,fd,_,hm,Fu.kp,hbi,xT fs t hk top hb ht hcn (d+1) f F np call fa fd hF e' Fu⟩
    ·have e':(gs[f-fs.length]?).map (λ G=>(G.np,dG (aG fs gs tb d).1 (aG fs gs tb d).2 tb G))=qq (np,call):=by
      have:(aG fs gs tb (d+1)).1 f=(gs[f-fs.length]?).map λ G=>(G.np,dG (aG fs gs tb d).1 (aG fs gs tb d).2 tb G):=if_neg hf
      rw[<- this];exact e
     rw[hG] at e';cases e';have hGm:G∈gs:=xAi hG;obtain⟨fa,fd,Fu,hm,hbi⟩:=topX G hGm;exact⟨fa,fd,_,hm,Fu.kp,hbi,each G hGm fa fd Fu⟩
   ·rcases vY q with ⟨F,hf,hF,rfl⟩ | ⟨G,hf,hG,rfl⟩
    ·have e':(qj:Option (Nat×(List EV.W->aB->Option (ResX×aB))))=qq (np,call):=by
      have:(aG fs gs tb (d+1)).2 f=qj:=if_pos hf;rw[<- this];exact e
     cases e'
    ·have e':((gs[f-fs.length]?).bind λ G=>match G.body with | .inl _=>qj | .inr x=>qq (G.np,dF (xx (aG fs gs tb d).1 (aG fs gs tb d).2 tb x) G.N.length))=qq (np,call):=by
      have:(aG fs gs tb (d+1)).2 f=(gs[f-fs.length]?).bind λ G=>match G.body with | .inl _=>qj | .inr x=>qq (G.np,dF (xx (aG fs gs tb d).1 (aG fs gs tb d).2 tb x) G.N.length):=if_neg hf
      rw[<- this];exact e
     rw[hG] at e';have hGm:G∈gs:=xAi hG;obtain⟨fa,fd,Fu,hm,hbi⟩:=topX G hGm;cases hbd:G.body with
     | inl b=>rw[yAn,hbd] at e';cases e'
     | inr x =>
       rw[yAn,hbd] at e';cases e';exact⟨fa,fd,_,hm,Fu.kp,hbi,raising G x hGm hbd fa fd Fu⟩
   ·have e':(gs[g]?).map (λ G=>(G.np,dG (aG fs gs tb d).1 (aG fs gs tb d).2 tb G))=qq (np,call):=by
     have:(aG fs gs tb (d+1)).1 (fs.length+g)=(gs[fs.length+g-fs.length]?).map λ G=>(G.np,dG (aG fs gs tb d).1 (aG fs gs tb d).2 tb G):=if_neg (by omega)
     rw[yBo] at this;rw[<- this];exact e
    rw[hG] at e';cases e';exact each G (xAi hG) fa fd Fu
end
noncomputable def iK(l:List (Str×Str×Bool))(c d:Str):Option Bool:=(l.find? λ e=>e.1==c&&e.2.1==d).map (·.2.2)
structure EntTop(K:FrG)(e:Str×Str×Bool):Prop where
 ex:∃ C,nsIn K qy e.1=qq (qq (.ref C))/\XcOk K C/\((∃ C',nsIn K qy e.2.1=qq (qq (.ref C'))/\exmOne K (.ref C) (.ref C')=qq e.2.2/\kitOne K (.ref C) (.ref C')=qq e.2.2) \/
  ∃ n,nsIn K qy e.2.1=qq qj/\zw e.2.1=qq (.type n)/\e.2.1 ≠ "__name__" /\ kitOne K (.ref C) (.type n)=qq e.2.2)
theorem rO{l:List (Str×Str×Bool)}{c d:Str}{b:Bool}(h:iK l c d=qq b):(c,d,b)∈l:=by
 unfold iK at h;obtain⟨e,h1,h2⟩:=Option.map_eq_some_iff.mp h;have h3:=List.find?_some h1;have h4:=List.mem_of_find?_eq_some h1;obtain⟨c',d',b'⟩:=e;obtain⟨q1,q2⟩:=bR h3;have q1:c'=c:=by simpa using q1
 have q2:d'=d:=by simpa using q2
 have h2:b'=b:=h2;subst q1 q2 h2;exact h4
theorem aF9{K:FrG}{mg:Str->Option qz}{l:List (Str×Str×Bool)}(hm:∀ x v,nsIn K qy x=qq (qq v)->mg x=qq v)(hn:∀ x,nsIn K qy x=qq qj->mg x=qj)(h:∀ e∈l,EntTop K e):XT K mg (iK l) where
 exm:=λ c d b C C' hb hc hd=>by
  obtain⟨C1,h1,_,h3⟩:=(h _ (rO hb)).ex;have h1:nsIn K qy c=qq (qq (.ref C1)):=h1;rw[hc] at h1;cases h1;rcases h3 with ⟨C2,q1,q2,_⟩ | ⟨n,q1,_⟩
  ·have q1:nsIn K qy d=qq (qq (.ref C2)):=q1;rw[hd] at q1;cases q1;exact q2
  ·have q1:nsIn K qy d=qq qj:=q1;rw[hd] at q1;cases q1
 cls:=λ c d b C hb hc=>by
  obtain⟨C1,h1,h2,_⟩:=(h _ (rO hb)).ex;have h1:nsIn K qy c=qq (qq (.ref C1)):=h1;rw[hc] at h1;cases h1;exact h2
 nm:=λ c d b hb=>by
  obtain⟨C1,h1,_,h3⟩:=(h _ (rO hb)).ex;have h1:nsIn K qy c=qq (qq (.ref C1)):=h1;rcases h3 with ⟨C2,q1,_,q3⟩ | ⟨n,q1,q2,q3,q4⟩
  ·exact⟨.ref C2,.inl ⟨C2,rfl,q1,hm _ _ q1⟩,λ C hc=>by rw[hc] at h1;cases h1;exact q3⟩
  ·exact⟨.ty n,.inr ⟨n,rfl,hn _ q1,q2,q3⟩,λ C hc=>by rw[hc] at h1;cases h1;exact q4⟩
structure RcTop(K:FrG)(c:Str):Prop where
 ex:∃ C,nsIn K qy c=qq (qq (.ref C))/\excIn K C pV "ValueError.__new__" = true
structure XoTop(K:FrG)(c:Str):Prop where
 ex:∃ C,nsIn K qy c=qq (qq (.ref C))
structure XbTop(K:FrG)(d:Str):Prop where
 ex:∃ n,nsIn K qy d=qq qj/\zw d=qq (.type n)/\d ≠ "__name__"
theorem law_ofX{l:yDs}{q:qo}{loose:List Str}{XP:(Str->Option qz)->Heap->Prop}{YP:zq->Heap->Prop}{d:DefRec}{K:Params->FrG}(fs:List Fn)(gs:List FnX)(tb:Tbs)(Z:Xz)(xl:List (Str×Str×Bool))(f D:Nat)(L:FnX)(x:Str)
 (hn:l.most=qq 63) (hdf:d.params.defaults=[]) (hr:Room D callerA) (hY:∀ (w:zq) (h:Heap),YP w h->(K w.params).In h)
 (hk:∀ F∈fs,lF fs tb F=true) (gk:∀ G∈gs,oI fs gs tb Z G=true) (hb:∀ F∈fs,iV F) (gb:∀ G∈gs,iV G.fn) (hL:gs[f]? = qq L) (hname:L.name=d.name) (hps:L.N.take L.np=[x])
 (top:∀ w:zq,∀ h:Heap,(K w.params).In h->∀ F∈fs,TopFn (K w.params) F) (topX:∀ w:zq,∀ h:Heap,(K w.params).In h->∀ G∈gs,TopFn (K w.params) G.fn) (tbl:∀ w:zq,∀ h:Heap,(K w.params).In h->∀ t∈tb.tb,TabTop (K w.params) w t) (cnl:∀ w:zq,∀ h:Heap,(K w.params).In h->∀ t∈tb.cn,ConTop (K w.params) t) (tbn:∀ w:zq,∀ h:Heap,(K w.params).In h->∀ x∈bltNames,yBt (K w.params) qy x=qq qj)
 (ent:∀ w:zq,∀ h:Heap,(K w.params).In h->∀ e∈xl,EntTop (K w.params) e) (rct:∀ w:zq,∀ h:Heap,(K w.params).In h->∀ c∈Z.rc,RcTop (K w.params) c) (xot:∀ w:zq,∀ h:Heap,(K w.params).In h->∀ c∈Z.xo,XoTop (K w.params) c) (xbt:∀ w:zq,∀ h:Heap,(K w.params).In h->∀ c∈Z.xb,XbTop (K w.params) c)
 (main:∀ ns:List Int,ns.length<=63->(∀ i∈ns,yAh i<=1048576)->∃ call S',(aG fs gs (iK xl) D).1 (fs.length+f)=qq (1,call)/\call [.d (.list (ns.map yAf))] []=qq (.d (.bool true),S')) :
 PySem.W.WalkO q loose XP YP l.row.toRowW d [] (λ f vs=>PySem.call f vs):=by
 obtain⟨call,S0,hcall,_⟩:=main [] (by simp) (by simp)
 refine aDa hn hdf λ w s₀ s₁ mg mb fa a vs ns G Y hmg hobj hints bL hsm hg=>?_
 have KX:=hY w _ Y;have tops:∀ F:Fn,iV F->TopFn (K w.params) F->∃ fa fd,Fun (K w.params) F.name F.name F.st fa fd/\mg F.name=qq (.ref fa)/\cR (K w.params) fd (F.N.take F.np) []:=λ F hF hT=>by
  obtain⟨f,oc,od,an,sl,kV,dc,pm,cd,ct,a,l,c,k⟩:=hT.ex;have Fu:=aDZ (st:=F.st) l c k;exact⟨f,_,Fu,yDq KX G.T.g a,Fu.binds hF⟩
 have hmv:∀ x v,nsIn (K w.params) qy x=qq (qq v)->mg x=qq v:=λ x v e=>yDq KX G.T.g e
 have hmn:∀ x,nsIn (K w.params) qy x=qq qj->mg x=qj:=λ x e=>PySem.W.mg_none_of KX G.T.g e
 have hblt:∀ x∈bltNames,mg x=qj:=λ y hy=>hmn y (tbn w _ KX y hy)
 have htab:∀ x aO,(x,aO)∈tb.tb->∃ a,mg x=qq (.ref a)/\oD (K w.params) w a aO:=λ x aO hx=>by
  obtain⟨a,es,ep,a1,l1,c1⟩:=(tbl w _ KX (x,aO) hx).ex;exact⟨a,yDq KX G.T.g a1,es,ep,l1,c1⟩
 have hcon:∀ x ts,(x,ts)∈tb.cn->∃ a,mg x=qq (.ref a)/\lA (K w.params) a ts:=λ x ts hx=>by
  obtain⟨a,a1,c1⟩:=(cnl w _ KX (x,ts) hx).ex;exact⟨a,yDq KX G.T.g a1,c1⟩
 have X0:XK0 (K w.params) mg Z (iK xl):=⟨aF9 hmv hmn (ent w _ KX),λ d hd=>by
  obtain⟨C,h⟩:=(xot w _ KX d hd).ex;exact⟨C,h,hmv _ _ h⟩,λ d hd=>by
  obtain⟨n,h1,h2,h3⟩:=(xbt w _ KX d hd).ex;exact⟨n,hmn _ h1,h2,h3⟩,λ c hc=>by
  obtain⟨C,h1,h2⟩:=(rct w _ KX c hc).ex;exact⟨C,h1,hmv _ _ h1,h2⟩⟩
 have hLm:L∈gs:=xAi hL;obtain⟨fa1,fd,Fu,hmg1,hbi⟩:=tops L.fn (gb L hLm) (topX w _ KX L hLm);have hmg1:mg L.name=qq (.ref fa1):=hmg1;rw[<- hname,hmg1] at hmg;cases hmg;refine L2.law_call (fd:=fd) (sp:=eN (K w.params) 1 call) (CX:=fH) (x:=x) KX G.T.g G.T.b G.T.builtins G.T.nolimit hg hobj hints (xAg bL (by decide)) hr (λ base kb nb=>?_) (λ s u=>?_) (λ H hO hS=>?_) λ _ _ _ z=>z
 ·have P1:=(wR (P:=l.prog) (w:=w) (base:=base) (Z:=Z) hk gk (λ F hF=>tops F (hb F hF) (top w _ KX F hF)) (λ G hG=>tops G.fn (gb G hG) (topX w _ KX G hG)) hblt htab hcon X0 D).2.2 f L 1 call _ _ hL hcall Fu
  rw[hps] at P1;exact P1
 ·obtain⟨oc,od,kV,doc,pm,an,cdv,ct,osl,rfl,lk,hcd⟩:=Fu.ex;have:=gb L hLm kV doc pm an cdv ct [u] (by show [u].length=(L.N.take L.np).length;rw[hps];rfl)
  have e:L.fn.N.take L.fn.np=[x]:=hps;rw[e] at this;exact .of_eq this
 ·obtain⟨call',S',hcall',hrun⟩:=main ns bL hsm;rw[hcall] at hcall';cases hcall';refine⟨H,[],[],[.d (.list (ns.map yAf))],.d (.bool true),S',rfl,⟨aZ.refl _,List.nodup_nil,rfl,λ n a ds e=>by simp at e,λ n a e=>by simp at e⟩,.cons (Den.lst hS (DenL.of_ints ns)) .nil,hrun,λ F' L' H' v g R d=>?_⟩
  cases (show Den (K w.params) F' (.bool true) v from d)
  rfl
end EV
namespace EV
open PySem L2
theorem xH{α:Type}(S:List α)(a b:α):(S++[a]).set S.length b=S++[b]:=by simp
theorem qY{α:Type}{t:Tg}{fc:FT}{fe:FE}{env:aM}{S:aB}(enc g:α->D)(p:α->Bool):∀ (l:List α) (aD:List D),aD.length+l.length<=qk ->
 (∀ a∈l,∃ e1,t.put (enc a) env=qq e1/\(∀ S',fc e1 S'=qq (p a,S'))/\(p a=true->∀ S',fe e1 S'=qq (.d (g a),S'))) ->
 eE t fc fe S.length env (l.map enc) (S++[qq aD])=qq (S++[qq (aD++(l.filter p).map g)])
 | [],aD,_,_=>by simp[eE]
 | a::l,aD,hz,h=>by
   obtain⟨e1,h1,h2,h3⟩:=h a xAd;have hlt:aD.length<qk:=by simp at hz;omega
   have bJ:=λ x (hx:x∈l)=>h x (xAf _ hx)
   simp only[yAj,eE,h1,yAn,h2];cases hp:p a with
   | false =>
     simp only[yAu,if_false];rw[qY enc g p l aD (by simp at hz;omega) bJ]
     simp[yDb,hp]
   | true =>
     have ea:bW (S++[qq aD]) (.loc S.length) (.d (g a))=qq (.d .none,S++[qq (aD++[g a])]):=by
      unfold bW;simp only[yAa (yAc S.length),yBj,yBe];rw[if_pos hlt,xH]
     simp only[if_true,h3 hp,yAn,ea];rw[qY enc g p l (aD++[g a]) (by simp at hz ⊢;omega) bJ]
     simp[yDb,hp]
theorem aCh{α:Type}{t:Tg}{fi:FL}{fc:FT}{fe:FE}{env:aM}{S S1:aB}(enc g:α->D)(p:α->Bool)(l:List α)(hi:fi env S=qq (l.map enc,S1))(hz:l.length<=qk)
 (h:∀ a∈l,∃ e1,t.put (enc a) (clr t.slots env)=qq e1/\(∀ S',fc e1 S'=qq (p a,S'))/\(p a=true->∀ S',fe e1 S'=qq (.d (g a),S'))):eV t fi fc fe env S=qq ((l.filter p).map g,S1):=by
 unfold eV;rw[hi];simp only[yAn];rw[qY enc g p l [] (by simpa using hz) h]
 simp
theorem qM{α:Type}{t:Tg}{fc:FT}{fe:FE}{env:aM}{S:aB}(enc g:α->D)(p:α->Bool):∀ (l:List α) (aD:List D),aD.length+l.length<=qk ->
 (∀ a∈l,∃ e1,t.put (enc a) env=qq e1/\(∀ aD,fc e1 (S++[qq aD])=qq (p a,S++[qq aD]))/\(p a=true->∀ aD,fe e1 (S++[qq aD])=qq (.d (g a),S++[qq aD]))) ->
 eE t fc fe S.length env (l.map enc) (S++[qq aD])=qq (S++[qq (aD++(l.filter p).map g)])
 | [],aD,_,_=>by simp[eE]
 | a::l,aD,hz,h=>by
   obtain⟨e1,h1,h2,h3⟩:=h a xAd;have hlt:aD.length<qk:=by simp at hz;omega
   have bJ:=λ x (hx:x∈l)=>h x (xAf _ hx)
   simp only[yAj,eE,h1,yAn,h2];cases hp:p a with
   | false =>
     simp only[yAu,if_false];rw[qM enc g p l aD (by simp at hz;omega) bJ]
     simp[yDb,hp]
   | true =>
     have ea:bW (S++[qq aD]) (.loc S.length) (.d (g a))=qq (.d .none,S++[qq (aD++[g a])]):=by
      unfold bW;simp only[yAa (yAc S.length),yBj,yBe];rw[if_pos hlt,xH]
     simp only[if_true,h3 hp,yAn,ea];rw[qM enc g p l (aD++[g a]) (by simp at hz ⊢;omega) bJ]
     simp[yDb,hp]
theorem aCH{α:Type}{t:Tg}{fi:FL}{fc:FT}{fe:FE}{env:aM}{S S1:aB}(enc g:α->D)(p:α->Bool)(l:List α)(hi:fi env S=qq (l.map enc,S1))(hz:l.length<=qk)
 (h:∀ a∈l,∃ e1,t.put (enc a) (clr t.slots env)=qq e1/\(∀ aD,fc e1 (S1++[qq aD])=qq (p a,S1++[qq aD]))/\(p a=true->∀ aD,fe e1 (S1++[qq aD])=qq (.d (g a),S1++[qq aD]))):eV t fi fc fe env S=qq ((l.filter p).map g,S1):=by
 unfold eV;rw[hi];simp only[yAn];rw[qM enc g p l [] (by simpa using hz) h]
 simp
theorem xQ{α:Type}{t:Tg}{fi:FL}{fe:FE}{env:aM}{S S1:aB}(enc g:α->D)(l:List α)(hi:fi env S=qq (l.map enc,S1))(hz:l.length<=qk)
 (h:∀ a∈l,∃ e1,t.put (enc a) (clr t.slots env)=qq e1/\∀ S',fe e1 S'=qq (.d (g a),S')):eV t fi lV fe env S=qq (l.map g,S1):=by
 rw[aCh (fc:=lV) enc g (λ _=>true) l hi hz λ a ha=>let ⟨e1,h1,h2⟩:=h a ha;⟨e1,h1,λ _=>rfl,λ _=>h2⟩]
 rw[List.filter_eq_self.mpr (λ _ _=>rfl)]
theorem wM{t:Tg}{fb:FS}{S:aB}(P:aM->Prop):∀ (ds:List D) (env:aM),P env->(∀ d∈ds,∀ env,P env->∃ e1 aE,t.put d env=qq e1/\fb e1 S=qq (.nx aE,S)/\P aE) ->
 ∃ aE,gB t fb ds env S=qq (.nx aE,S)/\P aE
 | [],env,h0,_=>⟨env,rfl,h0⟩
 | d::ds,env,h0,h=>by
   obtain⟨e1,aE,h1,h2,h3⟩:=h d xAd env h0;obtain⟨env2,h4,h5⟩:=wM P ds aE h3 λ x hx=>h x (xAf _ hx)
   exact⟨env2,by simp only[gB,h1,yAn,h2];exact h4,h5⟩
theorem aCq(n:Nat):∀ lo:Int,fD lo n=(yAg n).map λ k=>yAf (lo+(k:Nat)):=by
 induction n with
 | zero=>intro lo;rfl
 | succ n ih =>
   intro lo;rw[fD,ih,List.range_succ_eq_map,yAj,yDv];congr 1
   ·simp
   ·apply yDf;intro k _;simp only[Function.comp];congr 1
    push_cast
    omega
theorem vJ:∀ (ds:List D) (k:Int),dD k ds=(ds.zipIdx).map λ p=>yBg [.int (k+(p.2:Nat)),p.1]
 | [],_=>rfl
 | d::r,k=>by
   rw[dD,vJ r (k+1),List.zipIdx_cons,yAj];congr 1
   ·simp
   ·rw[List.zipIdx_succ,yDv];apply yDf;intro p _;simp only[Function.comp];congr 3
    push_cast
    omega
end EV
namespace BM
theorem qQ(n:Nat):0<2^n:=Nat.two_pow_pos n
noncomputable def bl(n:Nat):Nat:=if n=0 then 0 else n.log2+1
noncomputable def aGZ(l:List Bool):Nat:=(l.takeWhile id).length
noncomputable def hi(l:List Bool):Nat:=l.length-aGZ (l.reverse.map (!·))
end BM
namespace BM
end BM
namespace BM
open PySem
theorem aGU(a b:Nat):yDm a b=((a&&&b:Nat):Int):=by
 unfold yDm;rw[dqT (yBq a),dqT (yBq b)];simp
theorem aBE(a:Nat):((a:Int)).natAbs=a:=by omega
theorem wF(n:Nat):((2^n:Nat):Int)=(2:Int)^n:=by simp
theorem aAP{x y:Int}(h:y.natAbs.log2<9000):yBc x y=false:=by
 unfold yBc;dsimp only;have:¬ ((if (y==0)=true then 0 else y.natAbs.log2/30+1)>300):=by
  split
  ·omega
  ·omega
 rw[dqF this];rfl
end BM
namespace EV
open PySem L2 BM
theorem eU(i j:Int):bD .Add (.int i) (.int j)=qq (.int (i+j)):=rfl
theorem jY(i j:Int):bD .Sub (.int i) (.int j)=qq (.int (i-j)):=rfl
theorem aDu(a b:Nat):bD .BitAnd (.int a) (.int b)=qq (.int ((a&&&b:Nat):Int)):=by simp only[bD,iA,aGU]
theorem jS{w:Nat}(h1:w<=100000):bD .LShift (.int 1) (.int w)=qq (.int ((2^w:Nat):Int)):=by
 have c:(0:Int)<=w/\(yAh 1:Int)+w<=2^27:=⟨by omega,by(have:(yAh 1:Int)=1:=(by decide);omega)⟩
 simp only[bD,iA];rw[if_pos c,Int.one_mul,yAz,wF]
theorem gI{i j:Int}(h:0<j):bD .Mod (.int i) (.int j)=qq (.int (i%j)):=by
 simp only[bD,iA];rw[if_pos (by omega),Int.fmod_eq_emod_of_nonneg _ (by omega)]
theorem aCU{i j:Int}(h:0<j)(h2:j<2^64):bD .FloorDiv (.int i) (.int j)=qq (.int (i/j)):=by
 simp only[bD,iA];have h3:j.natAbs.log2<9000:=Nat.lt_trans ((Nat.log2_lt (by omega)).mpr (show j.natAbs<2^64 by omega)) (by decide)
 rw[if_pos ⟨by omega,aAP h3⟩,yBz _ (by omega)]
theorem aCn{i:Int}{k:Nat}(h:k<=8000):bD .FloorDiv (.int i) (.int ((2^k:Nat):Int))=qq (.int (i/((2^k:Nat):Int))):=by
 have hp:=qQ k;have h3:(((2^k:Nat):Int)).natAbs.log2<9000:=by
  rw[aBE,Nat.log2_two_pow];omega
 have h4:((2^k:Nat):Int)≠0:=by
  intro z;have:(2^k:Nat)=0:=by exact_mod_cast z
  rw[this] at hp;exact yAl _ hp
 simp only[bD,iA];rw[if_pos ⟨h4,aAP h3⟩,yBz _ (yBq _)]
theorem aCl{i:Int}{k:Nat}:bD .Mod (.int i) (.int ((2^k:Nat):Int))=qq (.int (i%((2^k:Nat):Int))):=by
 have hp:=qQ k;have h4:((2^k:Nat):Int)≠0:=by
  intro z;have:(2^k:Nat)=0:=by exact_mod_cast z
  rw[this] at hp;exact yAl _ hp
 simp only[bD,iA];rw[if_pos h4,Int.fmod_eq_emod_of_nonneg _ (yBq _)]
theorem aBu{i j:Int}(h1 : -(2^64)<j)(h2:j<2^64):gK i j=true:=by
 unfold gK;have:=intBits_le_64 h1 h2;have h:¬ (yAh j>vk):=Nat.not_lt.mpr this;rw[dqF h];simp
theorem aBr{i j:Int}(h1 : -(2^64)<i)(h2:i<2^64):gK i j=true:=by
 unfold gK;have:=intBits_le_64 h1 h2;have h:¬ (yAh i>vk):=Nat.not_lt.mpr this;rw[dqF h];simp
theorem aDL{i j:Int}(h1 : -(2^64)<j)(h2:j<2^64):bD .Mult (.int i) (.int j)=qq (.int (i*j)):=by
 show(if gK i j=true then qq (yAf (i*j)) else qj)=_
 rw[if_pos (aBu h1 h2)]
theorem qS{i j:Int}(h1 : -(2^64)<i)(h2:i<2^64):bD .Mult (.int i) (.int j)=qq (.int (i*j)):=by
 show(if gK i j=true then qq (yAf (i*j)) else qj)=_
 rw[if_pos (aBr h1 h2)]
theorem bX(i j:Int):bS .Eq (.int i) (.int j)=qq (.bool (i==j)):=rfl
theorem jD(i j:Int):bS .Lt (.int i) (.int j)=qq (.bool (decide (i<j))):=rfl
theorem fU(i j:Int):bS .Gt (.int i) (.int j)=qq (.bool (decide (j<i))):=rfl
end EV
namespace EV
open PySem L2 BM
theorem oB{α β:Type}(a:α)(f:α->Option β):(qq a).bind f=f a:=of_eq_true (eq_self (f a))
theorem oM{α β:Type}(a:α)(f:α->β):(qq a).map f=qq (f a):=of_eq_true (eq_self (qq (f a)))
noncomputable def cl(fs:List Fn)(d f:Nat)(ws:List W)(S:aB):Option (W×aB):=match bF fs d f with
 | some (np,call)=>if ws.length=np then call ws S else qj
 | none=>qj
theorem aCe(fs:List Fn)(d f:Nat)(fa:FA)(env:aM)(S:aB):dL (bF fs d) f fa env S=(fa env S).bind λ p=>cl fs d f p.1 p.2:=by
 unfold dL cl kX;cases bF fs d f with
 | none=>cases fa env S<;>rfl
 | some q=>rfl
theorem fP{fs:List Fn}{f:Nat}{F:Fn}(h:fs[f]? = qq F)(d:Nat)(ws:List W)(S:aB)(hw:ws.length=F.np):cl fs (d+1) f ws S=bY (xs (bF fs d) F.body) F.N.length ws S:=by
 have e:bF fs (d+1) f=qq (F.np,bY (xs (bF fs d) F.body) F.N.length):=by
  show(fs[f]?).map _=_;rw[h];rfl
 unfold cl;rw[e];exact if_pos hw
theorem szT{n:Nat}(h:n<=1000):(n<=qk)=True:=by
 rw[jy];exact eq_true (by omega)
end EV
namespace EV
open PySem L2 BM
theorem aBQ(w:Nat):((2^w:Nat):Int)-1=((2^w-1:Nat):Int):=by
 have:=qQ w;omega
theorem qB{fa:FE}{env:aM}{S S1:aB}{w:Nat}(h:fa env S=qq (.d (.int w),S1))(hw:w<=1000000):kZ fa env S=qq ((yAg w).map (λ k=>yAf (k:Nat)),S1):=by
 have c : -(2^62)<=((w:Nat):Int)/\((w:Nat):Int)<2^62:=⟨by omega,by omega⟩
 unfold kZ;rw[h,oB];simp only[];rw[if_pos c,aCq,yAz];congr 2;apply yDf;intro k _;rw[Int.zero_add]
theorem aBw{fa:FE}{env:aM}{S S1:aB}{ds:List D}(h:fa env S=qq (.d (.list ds),S1)):kO fa env S=qq (ds.zipIdx.map (λ p=>yBg [.int (p.2:Nat),p.1]),S1):=by
 simp only[kO,h,oB];rw[vJ];simp
theorem xZ{xs:List D}{k:Nat}{x:D}(h:xs[k]? = qq x):dZ (.list xs) (.int k)=qq x:=by
 have hl:k<xs.length:=(gIm h).1;show(gZ xs.length ((k:Nat):Int)).bind (λ j=>xs[j]?)=qq x
 unfold gZ;rw[if_pos (by omega),if_pos (by omega),oB,yAz]
 exact h
theorem wY{xs:List D}{k:Nat}{x:D}(h:xs[k]? = qq x):dZ (.tuple xs) (.int k)=qq x:=xZ (xs:=xs) h
theorem aFc{t:Tg}{fi:FL}{fb:FS}{env:aM}{S S1:aB}{ds:List D}(P:aM->Prop)(hi:fi env S=qq (ds,S1))(h0:P env)(h:∀ d∈ds,∀ env,P env->∃ e1 aE,t.put d env=qq e1/\fb e1 S1=qq (.nx aE,S1)/\P aE) :
 ∃ aE,eI t fi fb env S=qq (.nx aE,S1)/\P aE:=by
 obtain⟨aE,h1,h2⟩:=wM (t:=t) (fb:=fb) (S:=S1) P ds env h0 h;exact⟨aE,by unfold eI;rw[hi,oB];exact h1,h2⟩
theorem xF{t:Tg}{fb:FS}(P:Nat->aM->aB->Prop):∀ (ds:List D) (i:Nat) (env:aM) (S:aB),P i env S->(∀ j d env S,ds[j]? = qq d->P (i+j) env S->∃ e1 aE S',t.put d env=qq e1/\fb e1 S=qq (.nx aE,S')/\P (i+j+1) aE S') ->
 ∃ aE S',gB t fb ds env S=qq (.nx aE,S')/\P (i+ds.length) aE S'
 | [],i,env,S,h0,_=>⟨env,S,rfl,h0⟩
 | d::ds,i,env,S,h0,h=>by
   obtain⟨e1,aE,S',h1,h2,h3⟩:=h 0 d env S rfl h0;obtain⟨env2,S2,h4,h5⟩:=xF P ds (i+1) aE S' h3 λ j d' env S a b=>by
    have:=h (j+1) d' env S (by simpa using a) (by rw[show i+(j+1)=i+1+j by omega];exact b)
    rw[show i+(j+1)=i+1+j by omega] at this
    exact this
   refine⟨env2,S2,by simp only[gB,h1,oB,h2];exact h4,?_⟩
   have:i+(d::ds).length=i+1+ds.length:=by simp;omega
   rw[this];exact h5
theorem kB{t:Tg}{fi:FL}{fb:FS}{env:aM}{S S1:aB}{ds:List D}(P:Nat->aM->aB->Prop)(hi:fi env S=qq (ds,S1))(h0:P 0 env S1)(h:∀ j d env S,ds[j]? = qq d->P j env S->∃ e1 aE S',t.put d env=qq e1/\fb e1 S=qq (.nx aE,S')/\P (j+1) aE S') :
 ∃ aE S',eI t fi fb env S=qq (.nx aE,S')/\P ds.length aE S':=by
 obtain⟨aE,S',h1,h2⟩:=xF (t:=t) (fb:=fb) P ds 0 env S1 h0 λ j d env S a b=>by
  have:=h j d env S a (by simpa using b)
  simpa using this
 exact⟨aE,S',by unfold eI;rw[hi,oB];exact h1,by simpa using h2⟩
theorem kP{xs:List D}:lM [.list xs]=qq (.int xs.length):=rfl
theorem kK{xs:List D}:lM [.tuple xs]=qq (.int xs.length):=rfl
theorem kN{xs:List D}:kM [.list xs]=qq (.tuple xs):=rfl
theorem kJ{xs:List D}:kM [.tuple xs]=qq (.tuple xs):=rfl
theorem iZ{i:Int}:lR [.int i]=qq (.int i):=rfl
theorem jC{k:Bool}:lR [.bool k]=qq (.int (if k then 1 else 0)):=rfl
theorem aDr(n k:Nat):bD .RShift (.int n) (.int k)=qq (.int ((n/2^k:Nat):Int)):=by
 have c:(0:Int)<=(k:Nat):=by omega
 simp only[bD,iA];rw[if_pos c,yAz,<- wF];congr 2
theorem aEx{α:Type}(a:α):yDe 1 [a]=[a]:=rfl
theorem aEY{α:Type}(a b:α):yDe 1 [a,b]=[a]:=rfl
theorem aFe{α:Type}(a b:α):yDe 2 [a,b]=[a,b]:=rfl
end EV
namespace EV
open PySem L2 PySem.Spec PyProof.Rows PySem.W
theorem aAI{K:FrG}{D:qv}(a2:findIn K (.ref D) "__getattribute__" = qq (qq (.builtin "BaseException.__getattribute__")))(a3:findIn K (.ref D) "__getattr__" = qq qj)(a4:mroIn K D (.type "BaseException")=qq true)(a5:mroIn K D (.type "object")=qq true)(a6:hasDictIn K D=true)
 (a7:findIn K (.ref D) "__class__" = qq (qq (.builtin "object.__class__"))) (a8:specialIn K (.builtin "object.__class__") "__get__" = qq (qq (.builtin "getset_descriptor.__get__"))) (a9:takesIn K (.builtin "object.__class__")=qq true):XcOk K D:=
 ⟨a2,a3,a4,a5,by unfold hasDictIn at a6;cases h:clsIn K D with | none=>(rw[h] at a6;cases a6) | some c=>rfl,a7,a8,a9⟩
theorem ent_own{K:FrG}{c d:Str}{b:Bool}{C C':qv}(a1:nsIn K qy c=qq (qq (.ref C)))(a2:findIn K (.ref C) "__getattribute__" = qq (qq (.builtin "BaseException.__getattribute__")))(a3:findIn K (.ref C) "__getattr__" = qq qj)(a4:mroIn K C (.type "BaseException")=qq true)(a5:mroIn K C (.type "object")=qq true)(a6:hasDictIn K C=true)
 (a7:findIn K (.ref C) "__class__" = qq (qq (.builtin "object.__class__"))) (a8:specialIn K (.builtin "object.__class__") "__get__" = qq (qq (.builtin "getset_descriptor.__get__"))) (a9:takesIn K (.builtin "object.__class__")=qq true) (b1:nsIn K qy d=qq (qq (.ref C'))) (b2:exmOne K (.ref C) (.ref C')=qq b) (b3:kitOne K (.ref C) (.ref C')=qq b):EntTop K (c,d,b):=
 ⟨C,a1,aAI a2 a3 a4 a5 a6 a7 a8 a9,.inl ⟨C',b1,b2,b3⟩⟩
theorem ent_blt{K:FrG}{c d:Str}{b:Bool}{C:qv}{n:String}(a1:nsIn K qy c=qq (qq (.ref C)))(a2:findIn K (.ref C) "__getattribute__" = qq (qq (.builtin "BaseException.__getattribute__")))(a3:findIn K (.ref C) "__getattr__" = qq qj)(a4:mroIn K C (.type "BaseException")=qq true)(a5:mroIn K C (.type "object")=qq true)(a6:hasDictIn K C=true)
 (a7:findIn K (.ref C) "__class__" = qq (qq (.builtin "object.__class__"))) (a8:specialIn K (.builtin "object.__class__") "__get__" = qq (qq (.builtin "getset_descriptor.__get__"))) (a9:takesIn K (.builtin "object.__class__")=qq true) (b1:nsIn K qy d=qq qj) (b2:zw d=qq (.type n)) (hn:d ≠ "__name__") (b3:kitOne K (.ref C) (.type n)=qq b):EntTop K (c,d,b):=
 ⟨C,a1,aAI a2 a3 a4 a5 a6 a7 a8 a9,.inr ⟨n,b1,b2,hn,b3⟩⟩
theorem topX_mk{K:FrG}{name:Str}{np:Nat}{N:List Str}{body:Sx ⊕ Xx}{st:zy}{f:qv}{oc:qz}{od an:Option qv}{sl:Array (Option qz)}{kV dc pm cd ct:qz}(a:yBt K qy name=qq (qq (.ref f)))
 (l:K.lookup f=qq ⟨oc,od,.func (yBf name name (fR st) (cN st) (bE st) .none kV dc pm an cd ct),sl⟩) (c:yCb K cd name=true) (k:yAt K (.ref f)=true):TopFn K (FnX.fn ⟨name,np,N,body,st⟩):=
 ⟨f,oc,od,an,sl,kV,dc,pm,cd,ct,a,l,c,k⟩
theorem rc_mk{K:FrG}{c:Str}{C:qv}(a1:nsIn K qy c=qq (qq (.ref C)))(a2:excIn K C [.type "ValueError",.type "Exception",.type "BaseException",.type "object"] "ValueError.__new__" = true):RcTop K c:=⟨C,a1,a2⟩
theorem xo_mk{K:FrG}{c:Str}{C:qv}(a1:nsIn K qy c=qq (qq (.ref C))):XoTop K c:=⟨C,a1⟩
theorem xb_mk{K:FrG}{c:Str}{n:String}(a1:nsIn K qy c=qq qj)(a2:zw c=qq (.type n))(a3:c ≠ "__name__"):XbTop K c:=⟨n,a1,a2,a3⟩
section
variable {fs : List Fn}{gs : List FnX}{tb : Str -> Str -> Option Bool}
noncomputable def cA(fs:List Fn)(gs:List FnX)(tb:Str->Str->Option Bool)(d f:Nat)(ws:List EV.W)(S:aB):Option (EV.W×aB):=match (aG fs gs tb d).1 f with
 | some (np,call)=>if ws.length=np then call ws S else qj
 | none=>qj
theorem qH(d f:Nat)(fa:FA)(env:aM)(S:aB):dL (aG fs gs tb d).1 f fa env S=(fa env S).bind λ p=>cA fs gs tb d f p.1 p.2:=by
 unfold dL cA kX;cases (aG fs gs tb d).1 f with
 | none=>cases fa env S<;>rfl
 | some q=>rfl
theorem nU(d f:Nat)(ws:List EV.W)(S:aB)(h:f<fs.length):cA fs gs tb (d+1) f ws S=cl fs (d+1) f ws S:=by
 have:(aG fs gs tb (d+1)).1 f=bF fs (d+1) f:=if_pos h;unfold cA cl;rw[this]<;>cases bF fs (d+1) f<;>rfl
theorem nQ{g:Nat}{G:FnX}(hG:gs[g]? = qq G)(d:Nat)(ws:List EV.W)(S:aB)(h:ws.length=G.np):cA fs gs tb (d+1) (fs.length+g) ws S=dG (aG fs gs tb d).1 (aG fs gs tb d).2 tb G ws S:=by
 have:(aG fs gs tb (d+1)).1 (fs.length+g)=(gs[fs.length+g-fs.length]?).map λ G=>(G.np,dG (aG fs gs tb d).1 (aG fs gs tb d).2 tb G):=if_neg (by omega)
 rw[yBo,hG] at this;unfold cA;rw[this];exact if_pos h
noncomputable def iO(fs:List Fn)(gs:List FnX)(tb:Str->Str->Option Bool)(d f:Nat)(ws:List EV.W)(S:aB):Option (ResX×aB):=match (aG fs gs tb d).2 f with
 | some (np,call)=>if ws.length=np then call ws S else qj
 | none=>qj
theorem aCb(d f:Nat)(fa:FA)(env:aM)(S:aB):gJ (aG fs gs tb d).2 f fa env S=(fa env S).bind λ p=>iO fs gs tb d f p.1 p.2:=by
 unfold gJ iO rT;cases (aG fs gs tb d).2 f with
 | none=>cases fa env S<;>rfl
 | some q=>rfl
theorem aEh{g:Nat}{G:FnX}{x:Xx}(hG:gs[g]? = qq G)(hx:G.body=.inr x)(d:Nat)(ws:List EV.W)(S:aB)(h:ws.length=G.np):iO fs gs tb (d+1) (fs.length+g) ws S=dF (xx (aG fs gs tb d).1 (aG fs gs tb d).2 tb x) G.N.length ws S:=by
 have:(aG fs gs tb (d+1)).2 (fs.length+g)=(gs[fs.length+g-fs.length]?).bind λ G=>match G.body with | .inl _=>qj | .inr x=>qq (G.np,dF (xx (aG fs gs tb d).1 (aG fs gs tb d).2 tb x) G.N.length):=if_neg (by omega)
 rw[yBo,hG,yAn,hx] at this;unfold iO;rw[this];exact if_pos h
theorem aCm{g d:Nat}{G:FnX}{w r:EV.W}{S:aB}(h:gs[g]? = qq G)(hn:G.np=1)(e:cA fs gs tb (d+1) (fs.length+g) [w] []=qq (r,S)):∃ call S',(aG fs gs tb (d+1)).1 (fs.length+g)=qq (1,call)/\call [w] []=qq (r,S'):=by
 refine⟨dG (aG fs gs tb d).1 (aG fs gs tb d).2 tb G,S,?_,?_⟩
 ·have:(aG fs gs tb (d+1)).1 (fs.length+g)=(gs[fs.length+g-fs.length]?).map λ G=>(G.np,dG (aG fs gs tb d).1 (aG fs gs tb d).2 tb G):=if_neg (by omega)
  rw[yBo,h] at this;rw[this,<- hn];rfl
 ·rw[<- nQ h d [w] [] (by rw[hn];rfl)]
  exact e
end
end EV
namespace EV
open PySem L2 BM
section
variable {C : Calls}{env : aM}{S S1 S2 S3 S4 : aB}{a b c e es r : E}
variable {s t u : Sx}{aE : aM}{R : Option (Fl×aB)}{w : W}
end
end EV
namespace K82
open PySem L2 EV BM
local macro_rules
 | `(tactic| omega)=>`(tactic| first | (with_reducible assumption) | (with_reducible exact yAc _) | (with_reducible exact Nat.le_add_right _ _) | (with_reducible exact xAg ‹_› (by decide)) | (with_reducible exact xAc ‹_› (by decide)) | (with_reducible exact yDl ‹_› (by decide)) | (with_reducible exact yDh ‹_›) | (with_reducible exact xAg (yDh ‹_›) (by decide)) | (with_reducible exact xAg (Nat.add_le_add_right ‹_› _) (by decide)) | (with_reducible exact Nat.add_le_add_left (by decide) _) | (with_reducible exact Nat.le_of_not_lt ‹_›) | (with_reducible exact Nat.lt_of_not_le ‹_›) | (with_reducible exact Nat.not_lt_of_le ‹_›) | (with_reducible exact Nat.not_le_of_lt ‹_›) | (with_reducible exact xAc ‹_› ‹_›) | (with_reducible exact xAg ‹_› ‹_›) | (with_reducible exact xAg ‹_› (Nat.add_le_add_left (by decide) _)) | (with_reducible exact xAg ‹_› (xAg (Nat.add_le_add_right ‹_› _) (by decide))) | omega (config:={}))
 | `(tactic| simp only[evs])=>`(tactic| simp only[evs,True])
 | `(tactic| simp only[evs,$ls,*])=>`(tactic| simp only[aEI,aEF,aGB,aEt,aE1,aEA,aGa,aED,aDP,aFy,aFk,aEj,aF3,aDj,aDR,aEP,aFu,aFW,aEB,aE8,aFP,aE9,aEu,aD6,aGh,aC8,aEi,aDT,aFo,aGC,aGf,aDQ,aDk,aFD,aCL,aET,aDn,kR,kA,kG,aCM,nO,aCV,zE,rJ,yN,rC,nB,gN,cS,aFv,jN,lN,aFM,kS,kT,iH,pL,gM,bQ,f2,f1,eO,eJ,dr,pS,fC,cV,oR,aCe,dC,gD,lG,gO,dW,jE,jM,oU,pJ,oW,nY,oP,oK,aHs,lE,B.g,aGn,aGI,aFA,aGp,aFZ,lH,Tg.put,fS,Tg.slots,yAj,yDj,yCg,List.length_nil,Nat.reduceAdd,Nat.reduceSub,yDk,yAo,List.replicate_zero,List.cons_append,List.nil_append,yBe,List.getElem?_cons_succ,List.set_cons_zero,List.set_cons_succ,oB,oM,yBp,Bool.not_false,Bool.not_true,yAu,if_true,if_false,reduceIte,Nat.reduceLeDiff,Nat.reduceEqDiff,szT,List.take_nil,List.take_zero,aEp,aGT,tF,aEx,aEY,aFe,$ls,*])
noncomputable def top(i:Nat):zy:=PySem.Challenge.pw_fewbits_k82_all_tries.main.body.getD i (.Pass ⟨0,0,0,0⟩)
noncomputable def tbs:Tbs:=⟨[],[]⟩
abbrev J0:E:=.int 0
abbrev J1:E:=.int 1
abbrev J2:E:=.int 2
abbrev J3:E:=.int 3
abbrev J4:E:=.int 4
abbrev J5:E:=.int 5
abbrev J7:E:=.int 7
abbrev J8:E:=.int 8
abbrev V0:E:=.var 0
abbrev V1:E:=.var 1
abbrev V2:E:=.var 2
abbrev V3:E:=.var 3
abbrev V4:E:=.var 4
abbrev V5:E:=.var 5
noncomputable def aAk:Sx:=(.seq (.ret (.bin .Sub (.bin .LShift J1 V0) J1))
 .skip)
noncomputable def mM:E:=(.it V1)
noncomputable def mP:Sx:=(.seq (.expr (.app V2 (.bin .BitAnd V0 (.call 0 (.cons V3 .nil)))))
 (.seq (.set 0 (.bin .RShift V0 V3))
 .skip))
noncomputable def uL:Sx:=(.seq (.set 2 (.new (.lst .nil)))
 (.seq (.loop (.one 3) mM mP)
 (.seq (.ret (.blt .tup (.cons V2 .nil)))
 .skip)))
noncomputable def pZ:Sx:=(.seq (.ifs (.cmp .Lt V1 (.blt .len (.cons V0 .nil))) (.seq (.ret (.ix V0 V1))
 .skip) .skip)
 (.seq (.ret (.bin .Add (.bin .Mult J7 V1) (.blt .len (.cons V0 .nil))))
 .skip))
noncomputable def mO:E:=(.rng1 (.bin .Mod (.bin .FloorDiv V1 J4) (.int 10)))
noncomputable def iS:Sx:=(.seq (.ifs (.cmp .Gt V3 J0) (.seq (.expr (.app V2 (.bin .Add J1 (.bin .Mod (.call 2 (.cons V0 (.cons (.bin .Add J1 V4) .nil))) V3))))
 (.seq (.ifs (.cmp .Lt (.bin .Mod V1 J4) J3) (.seq (.set 3 (.bin .Sub V3 (.ix V2 (.un .USub J1))))
 .skip) .skip)
 .skip)) .skip)
 .skip)
noncomputable def iT:Sx:=(.seq (.set 1 (.call 2 (.cons V0 (.cons J0 .nil))))
 (.seq (.set 2 (.new (.lst .nil)))
 (.seq (.set 3 (.bin .Add J8 (.bin .Mult (.int 56) (.blt .int (.cons (.cmp .Eq (.bin .Mod V1 J4) J3) .nil)))))
 (.seq (.loop (.one 4) mO iS)
 (.seq (.ifs (.and (.cmp .Eq (.bin .Mod V1 J8) J1) (.cmp .Gt V3 J0)) (.seq (.expr (.app V2 V3))
 .skip) .skip)
 (.seq (.ifs (.and (.cmp .Eq (.bin .Mod V1 J8) J2) (.cmp .Lt V3 J8)) (.seq (.expr (.app V2 (.bin .Add V3 J1)))
 .skip) .skip)
 (.seq (.ret V2)
 .skip)))))))
noncomputable def pX:E:=(.enm V1)
noncomputable def uD:Sx:=(.seq (.set 5 (.bin .Mult (.bin .Mod (.call 2 (.cons V0 (.cons (.bin .Add (.int 12) V3) .nil))) J4) (.blt .int (.cons (.cmp .NotEq V2 (.fz (.lst .nil))) .nil))))
 (.seq (.ifs (.cmp .Eq V5 J1) (.seq (.expr (.app V2 (.tup (.cons (.str "num") (.cons (.int 64) (.cons (.bin .Mod (.call 2 (.cons V0 (.cons (.bin .Add (.int 12) V3) .nil))) (.bin .LShift J1 (.int 64))) .nil))))))
 .skip) .skip)
 (.seq (.ifs (.cmp .Eq V5 J2) (.seq (.expr (.app V2 (.tup (.cons (.str "not") (.cons (.ix (.ix V2 (.un .USub J1)) J1) (.cons (.bin .Sub (.blt .len (.cons V2 .nil)) J1) .nil))))))
 .skip) .skip)
 (.seq (.ifs (.cmp .Eq V5 J3) (.seq (.expr (.app V2 (.tup (.cons (.str "cut") (.cons J1 (.cons (.bin .Sub (.blt .len (.cons V2 .nil)) J1) .nil))))))
 .skip) .skip)
 (.seq (.expr (.app V2 (.tup (.cons (.str "in") (.cons V4 .nil)))))
 .skip)))))
noncomputable def aBn:Sx:=(.seq (.set 2 (.new (.lst .nil)))
 (.seq (.ifs (.or (.cmp .Eq (.bin .Mod (.call 2 (.cons V0 (.cons (.int 22) .nil))) J2) J0) (.cmp .Eq V1 (.fz (.lst .nil)))) (.seq (.expr (.app V2 (.tup (.cons (.str "num") (.cons J5 (.cons (.bin .Mod (.call 2 (.cons V0 (.cons (.int 11) .nil))) (.int 32)) .nil))))))
 .skip) .skip)
 (.seq (.loop (.many [3,4]) pX uD)
 (.seq (.ret (.tup (.cons (.blt .tup (.cons V2 .nil)) (.cons (.tup (.cons (.bin .Sub (.blt .len (.cons V2 .nil)) J1) .nil)) .nil))))
 .skip))))
noncomputable def mR:E:=(.it V0)
noncomputable def mS:Sx:=(.seq (.expr (.app V3 (.bin .Mod V4 (.bin .LShift J1 V5))))
 (.seq (.set 4 (.bin .FloorDiv V4 (.bin .LShift J1 V5)))
 .skip))
noncomputable def qA:E:=(.rng1 (.bin .LShift J1 (.blt .sum (.cons V0 .nil))))
noncomputable def uJ:Sx:=(.seq (.set 3 (.new (.lst .nil)))
 (.seq (.set 4 V2)
 (.seq (.loop (.one 5) mR mS)
 (.seq (.expr (.app V1 (.blt .tup (.cons V3 .nil))))
 .skip))))
noncomputable def aB2:Sx:=(.seq (.set 1 (.new (.lst .nil)))
 (.seq (.loop (.one 2) qA uJ)
 (.seq (.ret (.blt .tup (.cons V1 .nil)))
 .skip)))
noncomputable def uF:E:=(.comp (.call 1 (.cons V4 (.cons V1 .nil))) (.one 4) (.rng1 (.bin .LShift J1 V2)) .no)
noncomputable def uG:E:=(.comp (.ix V3 J1) (.one 3) (.it (.ix V0 J0)) (.cmp .Eq (.ix V3 J0) (.str "in")))
noncomputable def hB:Xx:=(.seq (.s (.setC false 1 uG))
 (.seq (.s (.set 2 (.blt .sum (.cons (.var 1) .nil))))
 (.seq (.ifs (.cmp .Gt (.var 2) (.int 8)) (.seq (.raise "TooMany")
 .skip) .skip)
 (.seq (.s (.ret (.blt .tup (.cons (.fz uF) .nil))))
 .skip))))
noncomputable def mQ:Xx:=(.seq (.s (.set 1 (.bl false)))
 (.seq (.s (.set 2 (.new (.lst .nil))))
 (.seq (.tri (.seq (.cal 6 (.cons (.var 0) .nil))
 .skip) [("TooMany",qj,[.set 1 (.bl true)])])
 (.seq (.tri (.seq (.cal 6 (.cons (.var 0) .nil))
 .skip) [("BitsError",qq 3,[.lst true 2 [.isi 3 "ValueError",.isi 3 "TooMany"],.app 2 (.isl 3 ["NoFit", "NoLine", "NoNumber", "NoRow", "NoWidth"])])])
 (.seq (.s (.ret (.and (.var 1) (.cmp .Eq (.var 2) (.fz (.lst (.cons (.bl true) (.cons (.bl true) (.cons (.bl false) .nil)))))))))
 .skip)))))
noncomputable def xN:E:=(.comp (.and (.isi V5 .int) (.not (.isi V5 .bool))) (.one 5) (.it V4) .no)
noncomputable def nH:E:=(.it V3)
noncomputable def nC:Sx:=(.seq (.ifs (.or (.not (.isi V4 .tup)) (.not (.blt .all (.cons (.fz xN) .nil)))) (.seq (.ret (.bl false))
 .skip) .skip)
 .skip)
noncomputable def oQ:Sx:=(.seq (.set 1 (.call 3 (.cons V0 .nil)))
 (.seq (.set 2 (.call 4 (.cons V0 (.cons V1 .nil))))
 (.seq (.ifs (.cmp .Gt (.blt .sum (.cons V1 .nil)) J8) (.seq (.ret (.call 7 (.cons V2 .nil)))
 .skip) .skip)
 (.seq (.set 3 (.call 6 (.cons V2 .nil)))
 (.seq (.ifs (.or (.not (.isi V3 .tup)) (.cmp .NotEq V3 (.call 5 (.cons V1 .nil)))) (.seq (.ret (.bl false))
 .skip) .skip)
 (.seq (.loop (.one 4) nH nC)
 (.seq (.ret (.bl true))
 .skip)))))))
noncomputable def fns:List Fn:=[
 {name:="full",np:=1,N:=["width"],body:=aAk,st:=top 1 },
 {name:="counted_try",np:=2,N:=["count", "widths", "inputs", "width"],body:=uL,st:=top 11 },
 {name:="_law_cell_at",np:=2,N:=["_law_script", "_law_k"],body:=pZ,st:=top 14 },
 {name:="_law_widths",np:=1,N:=["_law_script", "_law_cell", "_law_widths_here", "_law_room", "_law_k"],body:=iT,st:=top 15 },
 {name:="_law_program",np:=2,N:=["_law_script", "_law_widths_here", "_law_rows", "_law_k", "_law_width", "_law_sort"],body:=aBn,st:=top 16 },
 {name:="_law_due",np:=1,N:=["_law_widths_here", "_law_found", "_law_count", "_law_some", "_law_left", "_law_width"],body:=aB2,st:=top 17 }]
noncomputable def gns:List FnX:=[
 {name:="all_tries",np:=1,N:=["program", "widths", "bits", "row", "count"],body:=.inr hB,st:=top 12 },
 {name:="_law_refused",np:=1,N:=["_law_program_here", "_law_own", "_law_said", "e"],body:=.inr mQ,st:=top 18 },
 {name:="law",np:=1,N:=["_law_script", "_law_widths_here", "_law_program_here", "_law_found", "_law_one", "_law_n"],body:=.inl oQ,st:=top 19 }]
noncomputable def xz:Xz:=⟨["BitsError", "TooMany", "NoFit", "NoLine", "NoNumber", "NoRow", "NoWidth"],["ValueError"],["TooMany"]⟩
noncomputable def xl:List (Str×Str×Bool):=[("TooMany", "BitsError",true),("TooMany", "TooMany",true),("TooMany", "NoFit",false),("TooMany", "NoLine",false),("TooMany", "NoNumber",false),("TooMany", "NoRow",false),("TooMany", "NoWidth",false),("TooMany", "ValueError",true)]
theorem aEM{C:Calls}{a r:Sx}{env e1:aM}{S S1:aB}(h:xs C a env S=qq (.nx e1,S1)):xs C (.seq a r) env S=xs C r e1 S1:=by simp only[nO,gN,h,oB]
theorem zI{C:Calls}{e:E}{bJ:Sx}{env:aM}{S S1:aB}{w:W}(h:ev C e env S=qq (w,S1)):xs C (.seq (.ret e) bJ) env S=qq (.rt w,S1):=by
 simp only[nO,zE,gN,lN,h,oB]
theorem kC{C:Calls}{i:Nat}{e:E}{bJ:Sx}{env aE:aM}{S S1:aB}{w:W}{r:Option (Fl×aB)}(h:ev C e env S=qq (w,S1))(he:env.set i (qq w)=aE)(k:xs C bJ aE S1=r):xs C (.seq (.set i e) bJ) env S=r:=by
 subst he;rw[<- k];simp only[nO,yN,gN,cS,h,oB]
theorem sB{C:Calls}{c:E}{a b:Sx}{env:aM}{S S1:aB}{r:Option (Fl×aB)}(h:tv C c env S=qq (true,S1))(k:xs C a env S1=r):xs C (.ifs c a b) env S=r:=by
 rw[<- k];simp only[rJ,jN,h,oB,if_true]
theorem fZ{C:Calls}{c:E}{a b:Sx}{env:aM}{S S1:aB}{r:Option (Fl×aB)}(h:tv C c env S=qq (false,S1))(k:xs C b env S1=r):xs C (.ifs c a b) env S=r:=by
 rw[<- k];simp only[rJ,jN,h,oB,yAu,if_false]
theorem cP{C:Calls}{a b:Sx}{env e1:aM}{S S1:aB}{r:Option (Fl×aB)}(h:xs C a env S=qq (.nx e1,S1))(k:xs C b e1 S1=r):xs C (.seq a b) env S=r:=by
 rw[aEM h];exact k
theorem yY{fs:List Fn}{f:Nat}{F:Fn}(h:fs[f]? = qq F)(d:Nat){ws:List W}{env:aM}{S S1 S2:aB}{x:D}(hw:ws.length=F.np)(he:ws.map qq++yAb (F.N.length-ws.length) qj=env)(hS:S1.take S.length=S2)
 (k:xs (bF fs d) F.body env S=qq (.rt (.d x),S1)):cl fs (d+1) f ws S=qq (.d x,S2):=by
 rw[fP h d ws S hw];unfold bY;rw[he,k];show qq (W.d x,S1.take S.length)=_;rw[hS]
noncomputable def nD(n:Nat):D:=.int n
noncomputable def tN(is:List Nat):D:=.tuple (is.map nD)
theorem jW(i:Int){w:Nat}(hw:0<w):∃ r:Nat,i%(w:Int)=(r:Int)/\r<w:=by
 have h0:=Int.emod_nonneg i (show(w:Int)≠0 by omega)
 have h1:=Int.emod_lt_of_pos i (show(0:Int)<(w:Int) by omega)
 exact⟨(i%(w:Int)).toNat,by omega,by omega⟩
theorem rD{ns:List Int}{k:Nat}(h:k<ns.length):dZ (.list (ns.map yAf)) (.int k)=qq (.int ns[k]):=xZ (by rw[xAb,yAi h];rfl)
theorem vZ(ns:List Int):(ns.map yAf).length=ns.length:=yAe ..
noncomputable def cL(ns:List Int)(k:Nat):Int:=if h:k<ns.length then ns[k] else 7*(k:Int)+(ns.length:Nat)
theorem jV(d k:Nat)(ns:List Int)(hk:k<=1000)(S:aB):cl fns (d+1) 2 [.d (.list (ns.map yAf)),.d (.int k)] S=qq (.d (.int (cL ns k)),S):=by
 rw[fP rfl d _ S rfl];unfold cL
 by_cases h:k<ns.length
 ·have d1:decide ((k:Int)<((ns.length:Nat):Int))=true:=dqT (by omega)
  rw[dif_pos h];simp only[evs,bY,pZ,kP,kK,vZ,jD,d1,rD h]
 ·have d1:decide ((k:Int)<((ns.length:Nat):Int))=false:=dqF (by omega)
  rw[dif_neg h];simp only[evs,bY,pZ,kP,kK,vZ,jD,d1,aDL (i:=7) (j:=(k:Int)) (by omega) (by omega),eU]
theorem qV(S0:aB)(l:List D)(x:D)(h:l.length<=1000):bW (S0++[qq l]) (.loc S0.length) (.d x)=qq (.d .none,S0++[qq (l++[x])]):=by
 unfold bW;simp only[yAa (yAc S0.length),yBj,yBe];rw[if_pos (by rw[jy];omega)]
 rw[List.set_append_right _ _ (yAc _),yBj];rfl
theorem cY(S0:aB)(l:List D):(S0++[qq l])[S0.length]? = qq (qq l):=by
 rw[yAa (yAc _),yBj];rfl
theorem kE(S0:aB)(l:List Nat)(x:Nat)(h:l.length<=1000):bW (S0++[qq (l.map nD)]) (.loc S0.length) (.d (.int x))=qq (.d .none,S0++[qq ((l++[x]).map nD)]):=by
 rw[qV S0 (l.map nD) _ (by rw[yAe];exact h),yBy]
 rfl
theorem wX(l:List D)(b:D):dZ (.list (l++[b])) (.int (-1))=qq b:=by
 show(gZ (l++[b]).length (-1)).bind (λ j=>(l++[b])[j]?)=qq b
 have e:(-1+((l.length:Int)+1)).toNat=l.length:=by omega
 unfold gZ;rw[xAk,yDa];simp[e];rw[if_pos (by omega)]
 simp
theorem un1:mJ .USub (.int 1)=qq (.int (-1)):=rfl
theorem aB3(d:Nat)(ns:List Int)(S:aB):∃ ws:List Nat,cl fns (d+2) 3 [.d (.list (ns.map yAf))] S=qq (.d (.list (ws.map nD)),S)/\ws.length<=20/\∀ w∈ws,w<=65:=by
 obtain⟨c,hc⟩:∃ c,cL ns 0=c:=⟨_,rfl⟩;have c0:∀ S,cl fns (d+1) 2 [.d (.list (ns.map yAf)),.d (.int 0)] S=qq (.d (.int c),S):=λ S=>by rw[<- hc];exact jV d 0 ns (by omega) S
 have m4:∀ i:Int,bD .Mod (.int i) (.int 4)=qq (.int (i%4)):=λ i=>gI (by decide)
 have m8:∀ i:Int,bD .Mod (.int i) (.int 8)=qq (.int (i%8)):=λ i=>gI (by decide)
 have m10:∀ i:Int,bD .Mod (.int i) (.int 10)=qq (.int (i%10)):=λ i=>gI (by decide)
 have f4:∀ i:Int,bD .FloorDiv (.int i) (.int 4)=qq (.int (i/4)):=λ i=>aCU (by decide) (by decide)
 have m56:∀ j:Int,bD .Mult (.int 56) (.int j)=qq (.int (56*j)):=λ j=>qS (by decide) (by decide)
 obtain⟨n,en,hn⟩:=jW (c/4) (w:=10) (by decide)
 have en:c/4%10=(n:Int):=en;obtain⟨r0,hr0,er0⟩:∃ r0:Nat,r0<=64/\(8+56*(if (c%4==3)=true then 1 else 0):Int)=(r0:Int):=by
  cases c%4==3
  ·exact⟨8,by omega,rfl⟩
  ·exact⟨64,by omega,rfl⟩
 obtain⟨aE,S',p1,aD,r,c4,al,aw,hr,rfl,rfl⟩:=kB (t:=.one 4) (fi:=lv (bF fns (d+1)) mO) (fb:=xs (bF fns (d+1)) iS) (env:=[qq (.d (.list (ns.map yAf))),qq (.d (.int c)),qq (.loc S.length),qq (.d (.int r0)),qj]) (S:=S++[qq []]) (S1:=S++[qq []]) (ds:=(yAg n).map (λ k=>yAf (k:Nat)))
  (λ j env S'=>∃ (aD:List Nat) (r:Nat) (c4:Option W),aD.length<=j/\(∀ w∈aD,w<=64)/\r<=64/\env=[qq (.d (.list (ns.map yAf))),qq (.d (.int c)),qq (.loc S.length),qq (.d (.int r)),c4]/\S'=S++[qq (aD.map nD)])
  (by
    simp only[mO,kR,kA,kG];exact qB (by simp only[evs,f4,m10,en]) (by omega)) ⟨[],r0,qj,yAc _,(λ w h=>nomatch h),hr0,rfl,rfl⟩ (by
    rintro j dd env S' hd ⟨aD,r,c4,al,aw,hr,rfl,rfl⟩;rw[xAb] at hd;obtain⟨j',hj',rfl⟩:=Option.map_eq_some_iff.mp hd;have hj:j<n:=by have:=(gIm hj').1;simpa using this
    obtain rfl:j=j':=by rw[List.getElem?_range hj] at hj';exact Option.some.inj hj'
    refine⟨[qq (.d (.list (ns.map yAf))),qq (.d (.int c)),qq (.loc S.length),qq (.d (.int r)),qq (.d (.int j))],?_⟩
    by_cases c1:0<r
    ·have d1:decide ((0:Int)<(r:Int))=true:=dqT (by omega)
     obtain⟨q,eq,hq⟩:=jW (cL ns (1+j)) c1;have mr:bD .Mod (.int (cL ns (1+j))) (.int r)=qq (.int (cL ns (1+j)%(r:Int))):=gI (by omega)
     have ce:=jV d (1+j) ns (by omega) (S++[qq (aD.map nD)])
     have e1:(1:Int)+(j:Int)=((1+j:Nat):Int):=by omega
     have e2:(1:Int)+(q:Int)=((1+q:Nat):Int):=by omega
     have ap:=kE S aD (1+q) (by omega)
     have aw':∀ w∈aD++[1+q],w<=64:=λ w h=>by
      rcases List.mem_append.mp h with h | h
      ·exact aw w h
      ·rw[yAr] at h;omega
     by_cases c2:c%4<3
     ·have d2:decide (c%4<3)=true:=dqT c2;have e3:(r:Int)-((1+q:Nat):Int)=((r-(1+q):Nat):Int):=by omega
      have il:dZ (.list ((aD++[1+q]).map nD)) (.int (-1))=qq (.int ((1+q:Nat):Int)):=by rw[yBy];exact wX _ _
      refine⟨_,_,rfl,?_,aD++[1+q],r-(1+q),qq (.d (.int j)),by simp;omega,aw',by omega,rfl,rfl⟩
      simp only[evs,iS,fU,d1,eU,e1,ce,mr,eq,e2,cE,ap,m4,jD,d2,cY,un1,il,jY,e3]
     ·have d2:decide (c%4<3)=false:=dqF c2;refine⟨_,_,rfl,?_,aD++[1+q],r,qq (.d (.int j)),by simp;omega,aw',hr,rfl,rfl⟩
      simp only[evs,iS,fU,d1,eU,e1,ce,mr,eq,e2,cE,ap,m4,jD,d2]
    ·have d1:decide ((0:Int)<(r:Int))=false:=dqF (by omega)
     refine⟨_,_,rfl,?_,aD,r,qq (.d (.int j)),by omega,aw,hr,rfl,rfl⟩
     simp only[evs,iS,fU,d1])
 rw[yAe,yCu] at al;have p1':eI (.one 4) (lv (bF fns (d+1)) mO) (xs (bF fns (d+1)) iS) [qq (.d (.list (ns.map yAf))),qq (.d (.int c)),qq (.loc S.length),qq (.d (.int r0)),qj] (S++[qq []])=qq (.nx [qq (.d (.list (ns.map yAf))),qq (.d (.int c)),qq (.loc S.length),qq (.d (.int r)),c4],S++[qq (aD.map nD)]):=p1;have tk1:∀ x,yDe S.length (S++[x])=S:=λ x=>yCx
 have a1:=kE S aD r (by omega)
 by_cases t1:c%8=1
 ·have q1:(c%8==1)=true:=by rw[t1];rfl
  have q2:(c%8==2)=false:=by rw[t1];rfl
  by_cases t2:0<r
  ·have d1:decide ((0:Int)<(r:Int))=true:=dqT (by omega)
   refine⟨aD++[r],?_,by simp;omega,λ w h=>?_⟩
   ·rw[fP rfl (d+1) _ S rfl];simp only[evs,bY,iT,c0,cB,m4,bX,iZ,jC,m56,eU,er0,p1',m8,q1,q2,fU,d1,cE,a1,yAl,cY,tk1]
   ·rcases List.mem_append.mp h with h | h
    ·have:=aw w h;omega
    ·rw[yAr] at h;omega
  ·have d1:decide ((0:Int)<(r:Int))=false:=dqF (by omega)
   refine⟨aD,?_,by omega,λ w h=>by have:=aw w h;omega⟩
   rw[fP rfl (d+1) _ S rfl];simp only[evs,bY,iT,c0,cB,m4,bX,iZ,jC,m56,eU,er0,p1',m8,q1,q2,fU,d1,yAl,cY,tk1]
 ·have q1:(c%8==1)=false:=by simpa using t1
  by_cases t3:c%8=2
  ·have q2:(c%8==2)=true:=by rw[t3];rfl
   by_cases t4:r<8
   ·have d1:decide ((r:Int)<8)=true:=dqT (by omega)
    have e1:(r:Int)+1=((r+1:Nat):Int):=by omega
    have a2:=kE S aD (r+1) (by omega)
    refine⟨aD++[r+1],?_,by simp;omega,λ w h=>?_⟩
    ·rw[fP rfl (d+1) _ S rfl];simp only[evs,bY,iT,c0,cB,m4,bX,iZ,jC,m56,eU,er0,p1',m8,q1,q2,jD,d1,e1,cE,a2,yAl,cY,tk1]
    ·rcases List.mem_append.mp h with h | h
     ·have:=aw w h;omega
     ·rw[yAr] at h;omega
   ·have d1:decide ((r:Int)<8)=false:=dqF (by omega)
    refine⟨aD,?_,by omega,λ w h=>by have:=aw w h;omega⟩
    rw[fP rfl (d+1) _ S rfl];simp only[evs,bY,iT,c0,cB,m4,bX,iZ,jC,m56,eU,er0,p1',m8,q1,q2,jD,d1,yAl,cY,tk1]
  ·have q2:(c%8==2)=false:=by simpa using t3
   refine⟨aD,?_,by omega,λ w h=>by have:=aw w h;omega⟩
   rw[fP rfl (d+1) _ S rfl];simp only[evs,bY,iT,c0,cB,m4,bX,iZ,jC,m56,eU,er0,p1',m8,q1,q2,yAl,cY,tk1]
inductive Wq where
 | «in» | num | not | cut
 deriving DecidableEq
noncomputable def Wq.s:Wq->Str
 | .in => "in" | .num => "num" | .not => "not" | .cut => "cut"
structure Rq where
 wd:Wq
 w:Nat
 args:List Nat
noncomputable def Rq.d(r:Rq):D:=.tuple (.str r.wd.s::nD r.w::r.args.map nD)
noncomputable def bB(rs:List Rq):List Nat:=(rs.filter λ r=>decide (r.wd=.in)).map (·.w)
theorem nG(a b:List Rq):bB (a++b)=bB a++bB b:=by
 unfold bB;rw[List.filter_append,yBy]
theorem aEV(w:Wq):bS .Eq (.str w.s) (.str "in")=qq (.bool (decide (w=.in))):=by cases w<;>kernel_rfl
theorem aHy(r:Rq):dZ r.d (.int 0)=qq (.str r.wd.s):=wY (k:=0) rfl
theorem aAQ(r:Rq):dZ r.d (.int 1)=qq (.int r.w):=wY (k:=1) rfl
theorem nT:∀ L:List Nat,yBh (L.map nD)=true
 | []=>rfl
 | a::r=>by
   have ih:=nT r;simp only[yAj,yBh,ih,yDd];rfl
theorem mZ:∀ L:List Nat,yAv (L.map nD)=0
 | []=>rfl
 | a::r=>by
   have ih:=mZ r;simp only[yAj,yAv,ih];rfl
theorem aFf(r:Rq):r.d.canLay0=true:=by
 obtain⟨wd,w,args⟩:=r;have:=nT args;unfold Rq.d;simp only[PyData.canLay0,yBh,this,yDd];rw[show PyData.canLay0 (nD w)=true from rfl,yDd]
 cases wd<;>decide +kernel
theorem aCD(r:Rq):r.d.depth=1:=by
 obtain⟨wd,w,args⟩:=r;have:=mZ args;unfold Rq.d;simp only[PyData.depth,yAv,this];cases wd<;>rfl
theorem xI:∀ rs:List Rq,yBh (rs.map Rq.d)=true
 | []=>rfl
 | a::r=>by simp only[yAj,yBh,aFf a,xI r,yDd]
theorem vU:∀ rs:List Rq,yAv (rs.map Rq.d)<=1
 | []=>by decide
 | a::r=>by
   have:=vU r;simp only[yAj,yAv,aCD a];omega
theorem aEg(rs:List Rq):bS .NotEq (.list (rs.map Rq.d)) (.list [])=qq (.bool (!rs.isEmpty)):=by
 have h1:(yDx (rs.map Rq.d)).canLay0=true:=xI rs;have h2:(yDx (rs.map Rq.d)).depth<=60:=by
  have:=vU rs;show yAv (rs.map Rq.d)+1<=60;omega
 unfold bS iI;simp only[];rw[if_pos ⟨h1,rfl,h2⟩];cases rs<;>rfl
theorem aFh(L:List Nat):bS .Eq (.list (L.map nD)) (.list [])=qq (.bool L.isEmpty):=by
 have h1:(yDx (L.map nD)).canLay0=true:=nT L;have h2:(yDx (L.map nD)).depth<=60:=by
  show yAv (L.map nD)+1<=60;rw[mZ];decide
 unfold bS iI;simp only[];rw[if_pos ⟨h1,rfl,h2⟩];cases L<;>rfl
theorem kD(S0:aB)(l:List Rq)(x:Rq)(h:l.length<=1000):bW (S0++[qq (l.map Rq.d)]) (.loc S0.length) (.d x.d)=qq (.d .none,S0++[qq ((l++[x]).map Rq.d)]):=by
 rw[qV S0 (l.map Rq.d) _ (by rw[yAe];exact h),yBy]
 rfl
theorem aFR:bD .LShift (.int 1) (.int 64)=qq (.int ((2^64:Nat):Int)):=jS (w:=64) (by decide)
theorem aDz(C:Calls)(S:aB)(rs:List Rq)(w:Nat)(a b c e:Option W)(h:rs.length<=999) :
 xs C (.seq (.expr (.app (.var 2) (.tup (.cons (.str "in") (.cons (.var 4) .nil))))) .skip) [a,b,qq (.loc S.length),c,qq (.d (.int w)),e] (S++[qq (rs.map Rq.d)])=qq (.nx [a,b,qq (.loc S.length),c,qq (.d (.int w)),e],S++[qq ((rs++[(⟨.in,w,[]⟩:Rq)]).map Rq.d)]):=by
 have ap:bW (S++[qq (rs.map Rq.d)]) (.loc S.length) (.d (.tuple [.str "in",.int w]))=qq (.d .none,S++[qq ((rs++[(⟨.in,w,[]⟩:Rq)]).map Rq.d)]):=kD S rs ⟨.in,w,[]⟩ (by omega)
 simp only[evs,cE,ap]
theorem aBK(d:Nat)(ns:List Int)(ws:List Nat)(hl:ws.length<=20)(S:aB):∃ (rs:List Rq) (o:D),cl fns (d+2) 4 [.d (.list (ns.map yAf)),.d (.list (ws.map nD))] S=qq (.d (.tuple [.tuple (rs.map Rq.d),o]),S)/\bB rs=ws/\rs.length<=100:=by
 obtain⟨rs0,b0,hb0,h0,hn0⟩:∃ (rs0:List Rq),∃ b0:xs (bF fns (d+1)) (.ifs (.or (.cmp .Eq (.bin .Mod (.call 2 (.cons (.var 0) (.cons (.int 22) .nil))) (.int 2)) (.int 0)) (.cmp .Eq (.var 1) (.fz (.lst .nil)))) (.seq (.expr (.app (.var 2) (.tup (.cons (.str "num") (.cons (.int 5) (.cons (.bin .Mod (.call 2 (.cons (.var 0) (.cons (.int 11) .nil))) (.int 32)) .nil)))))) .skip) .skip) [qq (.d (.list (ns.map yAf))),qq (.d (.list (ws.map nD))),qq (.loc S.length),qj,qj,qj] (S++[qq []])=qq (.nx [qq (.d (.list (ns.map yAf))),qq (.d (.list (ws.map nD))),qq (.loc S.length),qj,qj,qj],S++[qq (rs0.map Rq.d)]),bB rs0=[]/\rs0.length<=1/\True:=by
  obtain⟨n,en,hn⟩:=jW (cL ns 11) (w:=32) (by decide)
  have en:cL ns 11%32=(n:Int):=en;have c22:∀ S,cl fns (d+1) 2 [.d (.list (ns.map yAf)),.d (.int 22)] S=qq (.d (.int (cL ns 22)),S):=λ S=>jV d 22 ns (by omega) S
  have c11:∀ S,cl fns (d+1) 2 [.d (.list (ns.map yAf)),.d (.int 11)] S=qq (.d (.int (cL ns 11)),S):=λ S=>jV d 11 ns (by omega) S
  have m2:∀ i:Int,bD .Mod (.int i) (.int 2)=qq (.int (i%2)):=λ i=>gI (by decide)
  have m32:∀ i:Int,bD .Mod (.int i) (.int 32)=qq (.int (i%32)):=λ i=>gI (by decide)
  have ap:bW (S++[qq []]) (.loc S.length) (.d (.tuple [.str "num",.int 5,.int n]))=qq (.d .none,S++[qq (([]++[(⟨.num,5,[n]⟩:Rq)]).map Rq.d)]):=kD S [] ⟨.num,5,[n]⟩ (by simp)
  have en2:=aFh ws
  by_cases c1:(cL ns 22%2==0)=true
  ·refine⟨[(⟨.num,5,[n]⟩:Rq)],?_,rfl,by simp,trivial⟩
   simp only[evs,c22,c11,m2,m32,bX,c1,en,cE,ap]
  ·have c1:(cL ns 22%2==0)=false:=by simpa using c1
   cases hw:ws.isEmpty with
   | true =>
     rw[hw] at en2;refine⟨[(⟨.num,5,[n]⟩:Rq)],?_,rfl,by simp,trivial⟩
     simp only[evs,c22,c11,m2,m32,bX,c1,en,en2,cE,ap]
   | false =>
     rw[hw] at en2;refine⟨[],?_,rfl,by simp,trivial⟩
     simp only[evs,c22,c11,m2,m32,bX,c1,en2]
 obtain⟨aE,S',p1,rs,e3,e4,e5,hin,bL,rfl,rfl⟩:=kB (t:=.many [3,4]) (fi:=lv (bF fns (d+1)) pX) (fb:=xs (bF fns (d+1)) uD) (env:=[qq (.d (.list (ns.map yAf))),qq (.d (.list (ws.map nD))),qq (.loc S.length),qj,qj,qj]) (S:=S++[qq (rs0.map Rq.d)]) (S1:=S++[qq (rs0.map Rq.d)]) (ds:=(ws.map nD).zipIdx.map (λ p=>yBg [.int (p.2:Nat),p.1]))
  (λ j env S'=>∃ (rs:List Rq) (e3 e4 e5:Option W),bB rs=ws.take j/\rs.length<=1+2*j/\env=[qq (.d (.list (ns.map yAf))),qq (.d (.list (ws.map nD))),qq (.loc S.length),e3,e4,e5]/\S'=S++[qq (rs.map Rq.d)])
  (by
    simp only[pX,kR,kA,kG];exact aBw (by simp only[evs])) ⟨rs0,qj,qj,qj,by rw[hb0];rfl,by omega,rfl,rfl⟩ (by
    rintro j dd env S' hd ⟨rs,e3,e4,e5,hin,bL,rfl,rfl⟩;rw[xAb,List.getElem?_zipIdx,xAb] at hd;cases hw:ws[j]? with
    | none=>rw[hw] at hd;cases hd
    | some w =>
      rw[hw] at hd;cases hd;have hj:j<ws.length:=(gIm hw).1;have tk:ws.take (j+1)=ws.take j++[w]:=by rw[List.take_succ,hw];rfl
      have z0:(0+j:Nat)=j:=yDk j;have e12:(12:Int)+(j:Int)=((12+j:Nat):Int):=by omega
      have ce:=jV d (12+j) ns (by omega)
      obtain⟨k,ek,hk⟩:=jW (cL ns (12+j)) (w:=4) (by decide)
      have ek:cL ns (12+j)%4=(k:Int):=ek;have m4:∀ i:Int,bD .Mod (.int i) (.int 4)=qq (.int (i%4)):=λ i=>gI (by decide)
      have hne:=aEg rs;obtain⟨so,hso,eso⟩:∃ so:Nat,(rs=[]->so=0)/\bD .Mult (.int k) (.int (if (!rs.isEmpty)=true then 1 else 0))=qq (.int so):=by
       cases rs with
       | nil=>exact⟨0,λ _=>rfl,by rw[qS (by omega) (by omega)];simp⟩
       | cons a b=>exact⟨k,(λ h=>by cases h),by rw[qS (by omega) (by omega)];simp⟩
      refine⟨[qq (.d (.list (ns.map yAf))),qq (.d (.list (ws.map nD))),qq (.loc S.length),qq (.d (.int j)),qq (.d (.int w)),e5],?_⟩;have sort:ev (bF fns (d+1)) (.bin .Mult (.bin .Mod (.call 2 (.cons (.var 0) (.cons (.bin .Add (.int 12) (.var 3)) .nil))) (.int 4)) (.blt .int (.cons (.cmp .NotEq (.var 2) (.fz (.lst .nil))) .nil))) [qq (.d (.list (ns.map yAf))),qq (.d (.list (ws.map nD))),qq (.loc S.length),qq (.d (.int j)),qq (.d (.int w)),e5] (S++[qq (rs.map Rq.d)])=qq (.d (.int so),S++[qq (rs.map Rq.d)]):=by
       simp only[evs,eU,e12,ce,m4,ek,cY,hne,iZ,jC,eso]
      obtain⟨rs1,hr1,hl1,mid⟩:∃ rs1:List Rq,bB rs1=bB rs/\rs1.length<=rs.length+1/\∀ bJ r,xs (bF fns (d+1)) bJ [qq (.d (.list (ns.map yAf))),qq (.d (.list (ws.map nD))),qq (.loc S.length),qq (.d (.int j)),qq (.d (.int w)),qq (.d (.int so))] (S++[qq (rs1.map Rq.d)])=r ->
       xs (bF fns (d+1)) (.seq (.ifs (.cmp .Eq (.var 5) (.int 1)) (.seq (.expr (.app (.var 2) (.tup (.cons (.str "num") (.cons (.int 64) (.cons (.bin .Mod (.call 2 (.cons (.var 0) (.cons (.bin .Add (.int 12) (.var 3)) .nil))) (.bin .LShift (.int 1) (.int 64))) .nil)))))) .skip) .skip) (.seq (.ifs (.cmp .Eq (.var 5) (.int 2)) (.seq (.expr (.app (.var 2) (.tup (.cons (.str "not") (.cons (.ix (.ix (.var 2) (.un .USub (.int 1))) (.int 1)) (.cons (.bin .Sub (.blt .len (.cons (.var 2) .nil)) (.int 1)) .nil)))))) .skip) .skip) (.seq (.ifs (.cmp .Eq (.var 5) (.int 3)) (.seq (.expr (.app (.var 2) (.tup (.cons (.str "cut") (.cons (.int 1) (.cons (.bin .Sub (.blt .len (.cons (.var 2) .nil)) (.int 1)) .nil)))))) .skip) .skip) bJ))) [qq (.d (.list (ns.map yAf))),qq (.d (.list (ws.map nD))),qq (.loc S.length),qq (.d (.int j)),qq (.d (.int w)),qq (.d (.int so))] (S++[qq (rs.map Rq.d)])=r:=by
       have keep:∀ so:Nat,so≠1->so≠2->so≠3->((so:Int)==1)=false/\((so:Int)==2)=false/\((so:Int)==3)=false:=λ so a b c=>⟨by simp;omega,by simp;omega,by simp;omega⟩
       rcases (show so=1\/so=2\/so=3\/(so≠1/\so≠2/\so≠3) by omega) with rfl | rfl | rfl | ⟨a,b,c⟩
       ·obtain⟨n,en,hn⟩:=jW (cL ns (12+j)) (w:=2^64) (by decide)
        have m64:bD .Mod (.int (cL ns (12+j))) (.int ((2^64:Nat):Int))=qq (.int (cL ns (12+j)%((2^64:Nat):Int))):=gI (by decide)
        have ap:bW (S++[qq (rs.map Rq.d)]) (.loc S.length) (.d (.tuple [.str "num",.int 64,.int n]))=qq (.d .none,S++[qq ((rs++[(⟨.num,64,[n]⟩:Rq)]).map Rq.d)]):=kD S rs ⟨.num,64,[n]⟩ (by omega)
        refine⟨rs++[(⟨.num,64,[n]⟩:Rq)],by rw[nG];simp[bB],by simp,λ bJ r h=>?_⟩
        refine cP (e1:=_) (S1:=_) (sB (S1:=_) (by simp only[evs,bX];rfl) (by simp only[evs,eU,e12,ce,aFR,m64,en,cE,ap];rfl)) (cP (e1:=_) (S1:=_) (fZ (S1:=_) (by simp only[evs,bX];rfl) rfl) (cP (e1:=_) (S1:=_) (fZ (S1:=_) (by simp only[evs,bX];rfl) rfl) h))
       ·cases hrs:rs.reverse with
        | nil=>have:=hso (by simpa using hrs);omega
        | cons z zs =>
          have hz:rs=zs.reverse++[z]:=by rw[<- List.reverse_reverse rs,hrs];simp
          have il:dZ (.list (rs.map Rq.d)) (.int (-1))=qq z.d:=by rw[hz,yBy];exact wX _ _
          have ln:((rs.map Rq.d).length:Int)-1=((rs.length-1:Nat):Int):=by rw[yAe,hz];simp
          have ap:bW (S++[qq (rs.map Rq.d)]) (.loc S.length) (.d (.tuple [.str "not",.int z.w,.int ((rs.length-1:Nat):Int)]))=qq (.d .none,S++[qq ((rs++[(⟨.not,z.w,[rs.length-1]⟩:Rq)]).map Rq.d)]):=kD S rs ⟨.not,z.w,[rs.length-1]⟩ (by omega)
          refine⟨rs++[(⟨.not,z.w,[rs.length-1]⟩:Rq)],by rw[nG];simp[bB],by simp,λ bJ r h=>?_⟩
          refine cP (e1:=_) (S1:=_) (fZ (S1:=_) (by simp only[evs,bX];rfl) rfl) (cP (e1:=_) (S1:=_) (sB (S1:=_) (by simp only[evs,bX];rfl) (by simp only[evs,cY,un1,il,aAQ,kP,kK,jY,ln,cE,ap];rfl)) (cP (e1:=_) (S1:=_) (fZ (S1:=_) (by simp only[evs,bX];rfl) rfl) h))
       ·cases hrs:rs with
        | nil=>have:=hso hrs;omega
        | cons z zs =>
          have ln:((rs.map Rq.d).length:Int)-1=((rs.length-1:Nat):Int):=by rw[yAe,hrs];simp
          have ap:bW (S++[qq (rs.map Rq.d)]) (.loc S.length) (.d (.tuple [.str "cut",.int 1,.int ((rs.length-1:Nat):Int)]))=qq (.d .none,S++[qq ((rs++[(⟨.cut,1,[rs.length-1]⟩:Rq)]).map Rq.d)]):=kD S rs ⟨.cut,1,[rs.length-1]⟩ (by omega)
          rw[<- hrs];refine⟨rs++[(⟨.cut,1,[rs.length-1]⟩:Rq)],by rw[nG];simp[bB],by simp,λ bJ r h=>?_⟩
          refine cP (e1:=_) (S1:=_) (fZ (S1:=_) (by simp only[evs,bX];rfl) rfl) (cP (e1:=_) (S1:=_) (fZ (S1:=_) (by simp only[evs,bX];rfl) rfl) (cP (e1:=_) (S1:=_) (sB (S1:=_) (by simp only[evs,bX];rfl) (by simp only[evs,cY,kP,kK,jY,ln,cE,ap]<;>rfl)) h))
       ·obtain⟨q1,q2,q3⟩:=keep so a b c;refine⟨rs,rfl,by omega,λ bJ r h=>?_⟩
        refine cP (e1:=_) (S1:=_) (fZ (S1:=_) (by simp only[evs,bX,q1]<;>rfl) rfl) (cP (e1:=_) (S1:=_) (fZ (S1:=_) (by simp only[evs,bX,q2]<;>rfl) rfl) (cP (e1:=_) (S1:=_) (fZ (S1:=_) (by simp only[evs,bX,q3]<;>rfl) rfl) h))
      refine⟨[qq (.d (.list (ns.map yAf))),qq (.d (.list (ws.map nD))),qq (.loc S.length),qq (.d (.int j)),qq (.d (.int w)),qq (.d (.int so))],S++[qq ((rs1++[(⟨.in,w,[]⟩:Rq)]).map Rq.d)],?_,?_,rs1++[(⟨.in,w,[]⟩:Rq)],_,_,_,?_,?_,rfl,rfl⟩
      ·simp only[Tg.put,fS,z0];rfl
      ·exact kC sort rfl (mid _ _ (aDz _ S rs1 w _ _ _ _ (by omega)))
      ·rw[nG,hr1,hin,tk];rfl
      ·rw[xAk,yDa];omega)
 rw[yAe,List.length_zipIdx,yAe] at hin bL;rw[yBp] at hin;have tk1:∀ x,yDe S.length (S++[x])=S:=λ x=>yCx
 refine⟨rs,.tuple [.int ((rs.length:Nat)-1:Int)],?_,hin,by omega⟩
 refine yY (S1:=S++[qq (rs.map Rq.d)]) (env:=[qq (.d (.list (ns.map yAf))),qq (.d (.list (ws.map nD))),qj,qj,qj,qj]) rfl (d+1) rfl rfl (tk1 _) ?_;refine kC (w:=.loc S.length) (S1:=S++[qq []]) (by simp only[evs,cB]) rfl (cP b0 (cP (by simp only[nB];exact p1) (zI ?_)))
 simp only[evs,cY,kN,kJ,kP,kK,yAe,jY]
noncomputable def aP:Nat->List Nat->List Nat
 | _,[]=>[]
 | c,w::ws=>(c%2^w)::aP (c/2^w) ws
theorem vS{α:Type}{l:List α}{j:Nat}{a:α}(h:l[j]? = qq a):l.drop j=a::l.drop (j+1):=by
 obtain⟨hj,e⟩:=gIm h;rw[yBa hj,e]
theorem aDx(d w:Nat)(h:w<=100000)(S:aB):cl fns (d+1) 0 [.d (.int w)] S=qq (.d (.int ((2^w-1:Nat):Int)),S):=by
 rw[fP rfl d _ S rfl];simp only[evs,bY,aAk,jS h,jY,aBQ]
theorem aCI(c w:Nat):c&&&(2^w-1)=c%2^w:=Nat.and_two_pow_sub_one_eq_mod c w
theorem aBN(d c:Nat)(ws:List Nat)(hl:ws.length<=100)(hw:∀ w∈ws,w<=64)(S:aB):cl fns (d+2) 1 [.d (.int c),.d (.list (ws.map nD))] S=qq (.d (tN (aP c ws)),S):=by
 obtain⟨aE,S',p1,c',aD,c3,al,ae,rfl,rfl⟩:=kB (t:=.one 3) (fi:=lv (bF fns (d+1)) mM) (fb:=xs (bF fns (d+1)) mP) (env:=[qq (.d (.int c)),qq (.d (.list (ws.map nD))),qq (.loc S.length),qj]) (S:=S++[qq []]) (S1:=S++[qq []]) (ds:=ws.map nD)
  (λ j env S'=>∃ (c':Nat) (aD:List Nat) (c3:Option W),aD.length=j/\aD++aP c' (ws.drop j)=aP c ws/\env=[qq (.d (.int c')),qq (.d (.list (ws.map nD))),qq (.loc S.length),c3]/\S'=S++[qq (aD.map nD)])
  (by simp only[evs,mM,gY]) ⟨c,[],qj,rfl,rfl,rfl,rfl⟩ (by
    rintro j dd env S' hd ⟨c',aD,c3,al,ae,rfl,rfl⟩;rw[xAb] at hd;obtain⟨w,hw',rfl⟩:=Option.map_eq_some_iff.mp hd;have hj:j<ws.length:=(gIm hw').1;have h64:=hw w (xAi hw');have fu:=aDx d w (by omega) (S++[qq (aD.map nD)])
    have ba:=aDu c' (2^w-1);rw[aCI] at ba;have ap:=kE S aD (c'%2^w) (by omega)
    refine⟨[qq (.d (.int c')),qq (.d (.list (ws.map nD))),qq (.loc S.length),qq (.d (.int w))],[qq (.d (.int ((c'/2^w:Nat):Int))),qq (.d (.list (ws.map nD))),qq (.loc S.length),qq (.d (.int w))],S++[qq ((aD++[c'%2^w]).map nD)],rfl,?_,c'/2^w,aD++[c'%2^w],_,by simp[al],?_,rfl,rfl⟩
    ·simp only[evs,mP,fu,ba,cE,ap,aDr]
    ·rw[<- ae,vS hw',aP,yBn];rfl)
 rw[yAe,yCf] at ae;have ae':aD=aP c ws:=by rw[<- ae];simp[aP]
 have p1':eI (.one 3) (lv (bF fns (d+1)) mM) (xs (bF fns (d+1)) mP) [qq (.d (.int c)),qq (.d (.list (ws.map nD))),qq (.loc S.length),qj] (S++[qq []])=qq (.nx [qq (.d (.int c')),qq (.d (.list (ws.map nD))),qq (.loc S.length),c3],S++[qq (aD.map nD)]):=p1;have tk1:∀ x,yDe S.length (S++[x])=S:=λ x=>yCx
 rw[fP rfl (d+1) _ S rfl];simp only[evs,bY,uL,cB,p1',cY,kN,kJ,tk1];rw[ae'];rfl
theorem vE:∀ l:List Nat,iC (l.map nD)=qq (l.map λ n:Nat=>(n:Int))
 | []=>rfl
 | a::l=>by
   have ih:=vE l;simp only[yAj,nD,iC,ih,yAn]
theorem vG:∀ l:List Nat,(l.map λ n:Nat=>(n:Int)).sum=((l.sum:Nat):Int)
 | []=>rfl
 | a::l=>by rw[yAj,List.sum_cons,List.sum_cons,vG l];omega
theorem nJ(l:List Nat):lK [.list (l.map nD)]=qq (.int ((l.sum:Nat):Int)):=by
 simp only[lK,vE,oB,vG]
theorem xB{l:List Nat}{w:Nat}(h:w∈l):w<=l.sum:=by
 induction l with
 | nil=>cases h
 | cons a l ih =>
   rw[List.sum_cons];rcases List.mem_cons.mp h with rfl | h
   ·omega
   ·have:=ih h;omega
theorem uZ(c:Nat):∀ ws:List Nat,(aP c ws).length=ws.length
 | []=>rfl
 | w::ws=>by rw[aP,yCg,yCg,uZ _ ws]
theorem aDG(S0 J:aB)(l:List D)(x:D)(h:l.length<=1000):bW (S0++qq l::J) (.loc S0.length) (.d x)=qq (.d .none,S0++qq (l++[x])::J):=by
 unfold bW;simp only[yAa (yAc S0.length),yBj,yBe];rw[if_pos (by rw[jy];omega)]
 rw[List.set_append_right _ _ (yAc _),yBj];rfl
theorem aDI(S0 J:aB)(l:List D):(S0++qq l::J)[S0.length]? = qq (qq l):=by
 rw[yAa (yAc _),yBj];rfl
theorem aDM(C:Calls)(c:Nat)(ws:List Nat)(hl:ws.length<=100)(hw:∀ w∈ws,w<=64)(T:aB)(a1 a2 a5:Option W):∃ l5 l4,eI (.one 5) (lv C mR) (xs C mS) [qq (.d (.list (ws.map nD))),a1,a2,qq (.loc T.length),qq (.d (.int c)),a5] (T++[qq []])=qq (.nx [qq (.d (.list (ws.map nD))),a1,a2,qq (.loc T.length),l4,l5],T++[qq ((aP c ws).map nD)]):=by
 obtain⟨aE,S',p1,c',aD,c3,al,ae,rfl,rfl⟩:=kB (t:=.one 5) (fi:=lv C mR) (fb:=xs C mS) (env:=[qq (.d (.list (ws.map nD))),a1,a2,qq (.loc T.length),qq (.d (.int c)),a5]) (S:=T++[qq []]) (S1:=T++[qq []]) (ds:=ws.map nD)
  (λ j env S'=>∃ (c':Nat) (aD:List Nat) (c3:Option W),aD.length=j/\aD++aP c' (ws.drop j)=aP c ws/\env=[qq (.d (.list (ws.map nD))),a1,a2,qq (.loc T.length),qq (.d (.int c')),c3]/\S'=T++[qq (aD.map nD)])
  (by simp only[evs,mR,gY]) ⟨c,[],a5,rfl,rfl,rfl,rfl⟩ (by
    rintro j dd env S' hd ⟨c',aD,c3,al,ae,rfl,rfl⟩;rw[xAb] at hd;obtain⟨w,hw',rfl⟩:=Option.map_eq_some_iff.mp hd;have hj:j<ws.length:=(gIm hw').1;have h64:=hw w (xAi hw');have sh:=jS (w:=w) (by omega)
    have ap:=kE T aD (c'%2^w) (by omega)
    have md:bD .Mod (.int c') (.int ((2^w:Nat):Int))=qq (.int ((c'%2^w:Nat):Int)):=aCl;have dv:bD .FloorDiv (.int c') (.int ((2^w:Nat):Int))=qq (.int ((c'/2^w:Nat):Int)):=aCn (by omega)
    refine⟨[qq (.d (.list (ws.map nD))),a1,a2,qq (.loc T.length),qq (.d (.int c')),qq (.d (.int w))],[qq (.d (.list (ws.map nD))),a1,a2,qq (.loc T.length),qq (.d (.int ((c'/2^w:Nat):Int))),qq (.d (.int w))],T++[qq ((aD++[c'%2^w]).map nD)],rfl,?_,c'/2^w,aD++[c'%2^w],_,by simp[al],?_,rfl,rfl⟩
    ·simp only[evs,mS,sh,md,cE,ap,dv]
    ·rw[<- ae,vS hw',aP,yBn];rfl)
 rw[yAe,yCf] at ae;have ae':aD=aP c ws:=by rw[<- ae];simp[aP]
 subst ae';exact⟨_,_,p1⟩
theorem aFd(d:Nat)(ws:List Nat)(hl:ws.length<=100)(h8:ws.sum<=8)(S:aB):cl fns (d+1) 5 [.d (.list (ws.map nD))] S=qq (.d (.tuple ((yAg (2^ws.sum)).map λ c=>tN (aP c ws))),S):=by
 have hw:∀ w∈ws,w<=64:=λ w h=>by have:=xB h;omega
 have h256:2^ws.sum<=256:=Nat.pow_le_pow_right (by decide) h8
 have sm:=nJ ws;have sh:bD .LShift (.int 1) (.int ((ws.sum:Nat):Int))=qq (.int ((2^ws.sum:Nat):Int)):=jS (by omega)
 obtain⟨aE,S',p1,J,a2,a3,a4,a5,rfl,rfl⟩:=kB (t:=.one 2) (fi:=lv (bF fns d) qA) (fb:=xs (bF fns d) uJ) (env:=[qq (.d (.list (ws.map nD))),qq (.loc S.length),qj,qj,qj,qj]) (S:=S++[qq []]) (S1:=S++[qq []]) (ds:=(yAg (2^ws.sum)).map (λ k=>yAf (k:Nat)))
  (λ j env S'=>∃ (J:aB) (a2 a3 a4 a5:Option W),env=[qq (.d (.list (ws.map nD))),qq (.loc S.length),a2,a3,a4,a5]/\S'=S++qq ((yAg j).map λ c=>tN (aP c ws))::J)
  (by
    simp only[qA,kR,kA,kG];exact qB (by simp only[evs,sm,sh]) (by omega)) ⟨[],qj,qj,qj,qj,rfl,rfl⟩ (by
    rintro j dd env S' hd ⟨J,a2,a3,a4,a5,rfl,rfl⟩;rw[xAb] at hd;obtain⟨j',hj',rfl⟩:=Option.map_eq_some_iff.mp hd;have hj:j<2^ws.sum:=by have:=(gIm hj').1;simpa using this
    obtain rfl:j=j':=by rw[List.getElem?_range hj] at hj';exact Option.some.inj hj'
    obtain⟨l5,l4,p2⟩:=aDM (bF fns d) j ws hl hw (S++qq ((yAg j).map λ c=>tN (aP c ws))::J) (qq (.loc S.length)) (qq (.d (.int j))) a5
    have ap:=aDG S (J++[qq ((aP j ws).map nD)]) ((yAg j).map λ c=>tN (aP c ws)) (tN (aP j ws)) (by rw[yAe,yCu];omega)
    have ga:((S++qq ((yAg j).map λ c=>tN (aP c ws))::J)++[qq ((aP j ws).map nD)])[(S++qq ((yAg j).map λ c=>tN (aP c ws))::J).length]? = qq (qq ((aP j ws).map nD)):=cY _ _
    have as:(S++qq ((yAg j).map λ c=>tN (aP c ws))::J)++[qq ((aP j ws).map nD)]=S++qq ((yAg j).map λ c=>tN (aP c ws))::(J++[qq ((aP j ws).map nD)]):=by simp
    refine⟨[qq (.d (.list (ws.map nD))),qq (.loc S.length),qq (.d (.int j)),a3,a4,a5],[qq (.d (.list (ws.map nD))),qq (.loc S.length),qq (.d (.int j)),qq (.loc (S++qq ((yAg j).map λ c=>tN (aP c ws))::J).length),l4,l5],S++qq ((yAg (j+1)).map λ c=>tN (aP c ws))::(J++[qq ((aP j ws).map nD)]),rfl,?_,_,_,_,_,_,rfl,rfl⟩
    have ga2:=ga;rw[as] at ga2;refine kC (w:=.loc (S++qq ((yAg j).map λ c=>tN (aP c ws))::J).length) (S1:=(S++qq ((yAg j).map λ c=>tN (aP c ws))::J)++[qq []]) (by simp only[evs,cB]) rfl (kC (w:=.d (.int j)) (S1:=(S++qq ((yAg j).map λ c=>tN (aP c ws))::J)++[qq []]) (by simp only[evs]) rfl (cP (by simp only[nB];exact p2) ?_))
    rw[as];have ap':bW (S++qq ((yAg j).map λ c=>tN (aP c ws))::(J++[qq ((aP j ws).map nD)])) (.loc S.length) (.d (.tuple ((aP j ws).map nD)))=qq (.d .none,S++qq ((yAg (j+1)).map λ c=>tN (aP c ws))::(J++[qq ((aP j ws).map nD)])):=by
     rw[List.range_succ,yBy];exact ap
    generalize (S++qq ((yAg j).map λ c=>tN (aP c ws))::J).length=q at *
    simp only[evs,ga2,kN,kJ,cE,ap'])
 rw[yAe,yCu] at p1;have tk1:∀ x J,yDe S.length (S++x::J)=S:=λ x J=>by rw[yCx]
 refine yY (S1:=S++qq ((yAg (2^ws.sum)).map λ c=>tN (aP c ws))::J) (env:=[qq (.d (.list (ws.map nD))),qj,qj,qj,qj,qj]) rfl d rfl rfl (tk1 _ _) ?_
 refine kC (w:=.loc S.length) (S1:=S++[qq []]) (by simp only[evs,cB]) rfl (cP (by simp only[nB];exact p1) (zI ?_))
 simp only[evs,aDI,kN,kJ]
section
variable {C : Calls}{CX : dA}{tb : Str -> Str -> Option Bool}
theorem xk{a b:Xx}{env e1:aM}{S S1:aB}{r:Option (FlX×aB)}(h:xx C CX tb a env S=qq (.fl (.nx e1),S1))(k:xx C CX tb b e1 S1=r):xx C CX tb (.seq a b) env S=r:=by
 show(xx C CX tb a env S).bind _=r;rw[h];exact k
theorem zP{a b:Xx}{env:aM}{S S1:aB}{w:W}(h:xx C CX tb a env S=qq (.fl (.rt w),S1)):xx C CX tb (.seq a b) env S=qq (.fl (.rt w),S1):=by
 show(xx C CX tb a env S).bind _=_;rw[h];rfl
theorem sC{a b:Xx}{env e:aM}{S S1:aB}{c:Str}{r:D}(h:xx C CX tb a env S=qq (.ex e c r,S1)):xx C CX tb (.seq a b) env S=qq (.ex e c r,S1):=by
 show(xx C CX tb a env S).bind _=_;rw[h];rfl
theorem gP{a:Sx}{env:aM}{S S1:aB}{fl:Fl}(h:xs C a env S=qq (fl,S1)):xx C CX tb (.s a) env S=qq (.fl fl,S1):=by
 show(xs C a env S).bind _=_;rw[h];rfl
theorem x_t{c:E}{a b:Xx}{env:aM}{S S1:aB}{r:Option (FlX×aB)}(h:tv C c env S=qq (true,S1))(k:xx C CX tb a env S1=r):xx C CX tb (.ifs c a b) env S=r:=by
 show(tv C c env S).bind _=r;rw[h];exact k
theorem x_f{c:E}{a b:Xx}{env:aM}{S S1:aB}{r:Option (FlX×aB)}(h:tv C c env S=qq (false,S1))(k:xx C CX tb b env S1=r):xx C CX tb (.ifs c a b) env S=r:=by
 show(tv C c env S).bind _=r;rw[h];exact k
end
noncomputable def aN:Str->Str->Option Bool:=iK xl
theorem aAe(d:Nat)(C:Calls)(CX:dA)(tb:Str->Str->Option Bool)(rs:List Rq)(o:D)(hl:rs.length<=100)(S:aB):lv C uG [qq (.d (.tuple [.tuple (rs.map Rq.d),o])),qj,qj,qj,qj] S=qq ((bB rs).map nD,S):=by
 have i0:dZ (.tuple [.tuple (rs.map Rq.d),o]) (.int 0)=qq (.tuple (rs.map Rq.d)):=rfl;generalize yBg [.tuple (rs.map Rq.d),o]=P at *;have e:(bB rs).map nD=(rs.filter λ r=>decide (r.wd=.in)).map λ r=>nD r.w:=by unfold bB;rw[yDv];rfl
 rw[e];refine aCH (fi:=lv C (.it (.ix (.var 0) (.int 0)))) (fc:=tv C (.cmp .Eq (.ix (.var 3) (.int 0)) (.str "in"))) (fe:=ev C (.ix (.var 3) (.int 1))) Rq.d (λ r=>nD r.w) (λ r=>decide (r.wd=.in)) rs ?_ (by rw[jy];omega) λ r hr=>?_
 ·simp only[evs,i0,gY]
 ·have t:=aEV r.wd;refine⟨[qq (.d P),qj,qj,qq (.d r.d),qj],rfl,λ aD=>?_,λ _ aD=>?_⟩
  ·simp only[evs,aHy,t]
  ·simp only[evs,aAQ];rfl
theorem aCw(d:Nat)(rs:List Rq)(o:D)(hl:rs.length<=100)(h8:¬ (bB rs).sum<=8)(S:aB):iO fns gns aN (d+1) 6 [.d (.tuple [.tuple (rs.map Rq.d),o])] S=qq (.ex "TooMany" .none,S):=by
 have h1:=λ C CX=>aAe d C CX aN rs o hl S
 have sm:=nJ (bB rs);have gt:bS .Gt (.int (((bB rs).sum:Nat):Int)) (.int 8)=qq (.bool true):=by rw[fU,dqT (by omega)]
 rw[show iO fns gns aN (d+1) 6=iO fns gns aN (d+1) (fns.length+0) from rfl,aEh (x:=hB) rfl rfl d _ S rfl]
 generalize (aG fns gns aN d).1=C at *;generalize (aG fns gns aN d).2=CX at *;have h1:=h1 C CX;generalize yBg [.tuple (rs.map Rq.d),o]=P at *;unfold dF;have e:xx C CX aN hB [qq (.d P),qj,qj,qj,qj] S=qq (.ex [qq (.d P),qq (.d (.list ((bB rs).map nD))),qq (.d (.int (((bB rs).sum:Nat):Int))),qj,qj] "TooMany" .none,S):=by
  refine xk (gP (fl:=.nx [qq (.d P),qq (.d (.list ((bB rs).map nD))),qj,qj,qj]) (S1:=S) (by simp only[rC,cS,dW,h1,oB];rfl)) ?_
  refine xk (gP (fl:=.nx [qq (.d P),qq (.d (.list ((bB rs).map nD))),qq (.d (.int (((bB rs).sum:Nat):Int))),qj,qj]) (S1:=S) (by simp only[evs,sm])) ?_
  exact sC (x_t (S1:=S) (by simp only[evs,gt]) (sC rfl))
 show(xx C CX aN hB [qq (.d P),qj,qj,qj,qj] S).bind _=_;rw[e];show qq (ResX.ex "TooMany" .none,S.take S.length)=_;rw[yBp]
theorem aCy(d:Nat)(rs:List Rq)(o:D)(hl:rs.length<=100)(h8:(bB rs).sum<=8)(hl2:(bB rs).length<=100)(S:aB):cA fns gns aN (d+3) 6 [.d (.tuple [.tuple (rs.map Rq.d),o])] S=qq (.d (.tuple ((yAg (2^(bB rs).sum)).map λ c=>tN (aP c (bB rs)))),S):=by
 have h1:=λ C CX=>aAe d C CX aN rs o hl S
 have sm:=nJ (bB rs);have hw:∀ w∈bB rs,w<=64:=λ w h=>by have:=xB h;omega
 have sh:bD .LShift (.int 1) (.int (((bB rs).sum:Nat):Int))=qq (.int ((2^(bB rs).sum:Nat):Int)):=jS (by omega)
 have h256:2^(bB rs).sum<=256:=Nat.pow_le_pow_right (by decide) h8
 have gt:bS .Gt (.int (((bB rs).sum:Nat):Int)) (.int 8)=qq (.bool false):=by rw[fU,dqF (by omega)]
 rw[show cA fns gns aN (d+3) 6=cA fns gns aN (d+3) (fns.length+0) from rfl,nQ rfl (d+2) _ S rfl]
 have h1:=h1 (aG fns gns aN (d+2)).1 (aG fns gns aN (d+2)).2;have co:∀ c S',cA fns gns aN (d+2) 1 [.d (nD c),.d (.list ((bB rs).map nD))] S'=qq (.d (tN (aP c (bB rs))),S'):=λ c S'=>by
  rw[nU (d+1) 1 _ S' (by decide)]
  exact aBN d c (bB rs) hl2 hw S'
 generalize yBg [.tuple (rs.map Rq.d),o]=P at *;generalize bB rs=ws at *;have hc0:lv (aG fns gns aN (d+2)).1 uF [qq (.d P),qq (.d (.list (ws.map nD))),qq (.d (.int ((ws.sum:Nat):Int))),qj,qj] S=qq ((yAg (2^ws.sum)).map λ c=>tN (aP c ws),S):=by
  refine xQ (fi:=lv (aG fns gns aN (d+2)).1 (.rng1 (.bin .LShift (.int 1) (.var 2)))) (fe:=ev (aG fns gns aN (d+2)).1 (.call 1 (.cons (.var 4) (.cons (.var 1) .nil)))) nD (λ c=>tN (aP c ws)) (yAg (2^ws.sum)) ?_ (by rw[jy,yCu];omega) λ c hc=>?_
  ·simp only[kR,kA,kG];exact qB (by simp only[evs,sh]) (by omega)
  ·refine⟨_,rfl,λ S'=>?_⟩
   simp only[evs,qH,clr,yBs,List.foldl_nil,co]
 unfold dG;show iB (dF (xx (aG fns gns aN (d+2)).1 (aG fns gns aN (d+2)).2 aN hB) 5) [.d P] S=_;generalize (aG fns gns aN (d+2)).1=C at *;generalize (aG fns gns aN (d+2)).2=CX at *;have e:xx C CX aN hB [qq (.d P),qj,qj,qj,qj] S=qq (.fl (.rt (.d (.tuple ((yAg (2^ws.sum)).map λ c=>tN (aP c ws))))),S):=by
  refine xk (gP (fl:=.nx [qq (.d P),qq (.d (.list (ws.map nD))),qj,qj,qj]) (S1:=S) (by simp only[rC,cS,dW,h1,oB];rfl)) ?_
  refine xk (gP (fl:=.nx [qq (.d P),qq (.d (.list (ws.map nD))),qq (.d (.int ((ws.sum:Nat):Int))),qj,qj]) (S1:=S) (by simp only[evs,sm])) ?_
  refine xk (x_f (S1:=S) (by simp only[evs,gt]) rfl) (zP (gP (by simp only[evs,hc0,kN,kJ])))
 unfold iB dF;show((xx C CX aN hB [qq (.d P),qj,qj,qj,qj] S).bind _).bind _=_;rw[e];show qq (W.d _,S.take S.length)=_;rw[yBp]
theorem tb1:aN "TooMany" "TooMany" = qq true:=by kernel_rfl
theorem tb2:aN "TooMany" "BitsError" = qq true:=by kernel_rfl
theorem tb3:gF aN "TooMany" ["ValueError"]=qq true:=by kernel_rfl
theorem tb4:gF aN "TooMany" ["TooMany"]=qq true:=by kernel_rfl
theorem tb5:gF aN "TooMany" ["NoFit", "NoLine", "NoNumber", "NoRow", "NoWidth"]=qq false:=by kernel_rfl
theorem eq3:bS .Eq (.list [.bool true,.bool true,.bool false]) (.list [.bool true,.bool true,.bool false])=qq (.bool true):=by kernel_rfl
theorem aBA(d:Nat)(rs:List Rq)(o:D)(hl:rs.length<=100)(h8:¬ (bB rs).sum<=8)(S:aB):cA fns gns aN (d+2) 7 [.d (.tuple [.tuple (rs.map Rq.d),o])] S=qq (.d (.bool true),S):=by
 have tr:=λ S=>aCw d rs o hl h8 S
 rw[show cA fns gns aN (d+2) 7=cA fns gns aN (d+2) (fns.length+1) from rfl,nQ rfl (d+1) _ S rfl]
 generalize yBg [.tuple (rs.map Rq.d),o]=P at *;have cx:∀ env S,env[0]? = qq (qq (.d P))->xx (aG fns gns aN (d+1)).1 (aG fns gns aN (d+1)).2 aN (.seq (.cal 6 (.cons (.var 0) .nil)) .skip) env S=qq (.ex env "TooMany" .none,S):=λ env S h=>by
  refine sC ?_;show oH (gJ (aG fns gns aN (d+1)).2 6 (av (aG fns gns aN (d+1)).1 (.cons (.var 0) .nil))) env S=_;have:av (aG fns gns aN (d+1)).1 (.cons (.var 0) .nil) env S=qq ([.d P],S):=by simp only[evs,h]
  unfold oH;rw[aCb,this,oB,tr];rfl
 unfold dG;show iB (dF (xx (aG fns gns aN (d+1)).1 (aG fns gns aN (d+1)).2 aN mQ) 4) [.d P] S=_;generalize (aG fns gns aN (d+1)).1=C at *;generalize (aG fns gns aN (d+1)).2=CX at *;have e:xx C CX aN mQ [qq (.d P),qj,qj,qj] S=qq (.fl (.rt (.d (.bool true))),S++[qq [],qq [.bool true,.bool true,.bool false]]):=by
  refine xk (gP (fl:=.nx [qq (.d P),qq (.d (.bool false)),qj,qj]) (S1:=S) (by simp only[evs])) ?_
  refine xk (gP (fl:=.nx [qq (.d P),qq (.d (.bool false)),qq (.loc S.length),qj]) (S1:=S++[qq []]) (by simp only[evs,cB])) ?_
  refine xk (e1:=[qq (.d P),qq (.d (.bool true)),qq (.loc S.length),qj]) (S1:=S++[qq []]) ?_ ?_
  ·show jI aN _ _ _ _=_;unfold jI;rw[cx _ _ rfl,oB];show(cI aN "TooMany" .none _ _ _).bind _=_;simp only[evs,yAj,yDj,cI,tb1,jF,dX,hv]
  refine xk (e1:=[qq (.d P),qq (.d (.bool true)),qq (.loc (S++[qq []]).length),qj]) (S1:=S++[qq [],qq [.bool true,.bool true,.bool false]]) ?_ ?_
  ·show jI aN _ _ _ _=_;unfold jI;rw[cx _ _ rfl,oB];show(cI aN "TooMany" .none _ _ _).bind _=_;have ap:bW ((S++[qq []])++[qq [.bool true,.bool true]]) (.loc (S++[qq []]).length) (.d (.bool false))=qq (.d .none,(S++[qq []])++[qq ([.bool true,.bool true]++[.bool false])]):=qV _ _ _ (by simp)
   have as:(S++[qq []])++[qq ([yCi true,.bool true]++[.bool false])]=S++[qq [],qq [.bool true,.bool true,.bool false]]:=by simp
   rw[as] at ap;simp only[evs,yAj,yDj,cI,tb2,jF,dX,hv,gU,lQ,tb3,tb4,tb5,cB,cE,ap,pF]
  refine zP (gP ?_);have ga:(S++[qq [],qq [yCi true,.bool true,.bool false]])[(S++[qq ([]:List D)]).length]? = qq (qq [.bool true,.bool true,.bool false]):=by
   rw[show S++[qq [],qq [yCi true,.bool true,.bool false]]=(S++[qq []])++[qq [.bool true,.bool true,.bool false]] by simp]
   exact cY _ _
  simp only[evs,ga,eq3]
 unfold iB dF;show((xx C CX aN mQ [qq (.d P),qj,qj,qj] S).bind _).bind _=_;rw[e];show qq (W.d (.bool true),(S++_).take S.length)=_;rw[yCx]
theorem zD:∀ L:List Nat,yCp (L.map nD) (L.map nD)=true
 | []=>by simp[yCp]
 | a::r=>by
   have ih:=zD r;simp[yAj,yCp,ih,nD,yCm]
theorem zM:∀ L:List (List Nat),yCp (L.map tN) (L.map tN)=true
 | []=>by simp[yCp]
 | a::r=>by
   have ih:=zM r;have h:=zD a;simp[yAj,yCp,ih,tN,yCm,h]
theorem yB:∀ L:List (List Nat),yBh (L.map tN)=true
 | []=>rfl
 | a::r=>by
   have ih:=yB r;have h:=nT a;simp only[yAj,yBh,ih,yDd,tN,PyData.canLay0,h]
theorem wL:∀ L:List (List Nat),yAv (L.map tN)<=1
 | []=>by decide
 | a::r=>by
   have ih:=wL r;have h:=mZ a;simp only[yAj,yAv,tN,PyData.depth,h];omega
theorem aDE(L:List (List Nat)):bS .NotEq (.tuple (L.map tN)) (.tuple (L.map tN))=qq (.bool false):=by
 have h1:(yBg (L.map tN)).canLay0=true:=yB L;have h2:(yBg (L.map tN)).depth<=60:=by
  have:=wL L;show yAv (L.map tN)+1<=60;omega
 have h3:=zM L;unfold bS iI;simp only[];rw[if_pos ⟨h1,h1,h2⟩];simp[yCm,h3]
theorem aBL(n:Nat):hV (yAb n (yCi true))=qq (yAb n true):=by
 induction n with
 | zero=>rfl
 | succ n ih=>simp only[yAo,hV,ih,yAn]
theorem aFi(d:Nat)(ns:List Int):cA fns gns aN (d+4) 8 [.d (.list (ns.map yAf))] []=qq (.d (.bool true),[]):=by
 obtain⟨ws,hw,hl,h65⟩:=aB3 (d+1) ns [];obtain⟨rs,o,hp,hin,hrl⟩:=aBK (d+1) ns ws hl [];have hw':cA fns gns aN (d+3) 3 [.d (.list (ns.map yAf))] []=qq (.d (.list (ws.map nD)),[]):=by rw[nU (d+2) 3 _ _ (by decide)];exact hw
 have hp':cA fns gns aN (d+3) 4 [.d (.list (ns.map yAf)),.d (.list (ws.map nD))] []=qq (.d (.tuple [.tuple (rs.map Rq.d),o]),[]):=by rw[nU (d+2) 4 _ _ (by decide)];exact hp
 have sm:=nJ ws;rw[show cA fns gns aN (d+4) 8=cA fns gns aN (d+4) (fns.length+2) from rfl,nQ rfl (d+3) _ _ rfl]
 show bY (xs (aG fns gns aN (d+3)).1 oQ) 6 [.d (.list (ns.map yAf))] []=_
 by_cases h8:ws.sum<=8
 ·have gt:bS .Gt (.int ((ws.sum:Nat):Int)) (.int 8)=qq (.bool false):=by rw[fU,dqF (by omega)]
  have tr:=aCy d rs o hrl (by rw[hin];exact h8) (by rw[hin];omega) []
  rw[hin] at tr;have du:cA fns gns aN (d+3) 5 [.d (.list (ws.map nD))] []=qq (.d (.tuple ((yAg (2^ws.sum)).map λ c=>tN (aP c ws))),[]):=by rw[nU (d+2) 5 _ _ (by decide)];exact aFd (d+2) ws (by omega) h8 []
  have ne:bS .NotEq (.tuple ((yAg (2^ws.sum)).map λ c=>tN (aP c ws))) (.tuple ((yAg (2^ws.sum)).map λ c=>tN (aP c ws)))=qq (.bool false):=by
   have:=aDE ((yAg (2^ws.sum)).map λ c=>aP c ws)
   rw[yDv] at this;exact this
  have bL:∀ c,(aP c ws).length<=20:=λ c=>by rw[uZ];exact hl
  generalize hA:(yAg (2^ws.sum)).map (λ c=>tN (aP c ws))=A at *
  generalize yBg [.tuple (rs.map Rq.d),o]=P at *;obtain⟨aE,p1,a4,a5,rfl⟩:=aFc (t:=.one 4) (fi:=lv (aG fns gns aN (d+3)).1 nH) (fb:=xs (aG fns gns aN (d+3)).1 nC) (env:=[qq (.d (.list (ns.map yAf))),qq (.d (.list (ws.map nD))),qq (.d P),qq (.d (.tuple A)),qj,qj]) (S:=[]) (S1:=[]) (ds:=A)
   (λ env=>∃ a4 a5,env=[qq (.d (.list (ns.map yAf))),qq (.d (.list (ws.map nD))),qq (.d P),qq (.d (.tuple A)),a4,a5])
   (by simp only[evs,nH,gY]) ⟨qj,qj,rfl⟩ (by
     rintro dd hd env ⟨a4,a5,rfl⟩;rw[<- hA] at hd;obtain⟨c,hc,rfl⟩:=List.mem_map.mp hd;refine⟨[qq (.d (.list (ns.map yAf))),qq (.d (.list (ws.map nD))),qq (.d P),qq (.d (.tuple A)),qq (.d (tN (aP c ws))),a5],[qq (.d (.list (ns.map yAf))),qq (.d (.list (ws.map nD))),qq (.d P),qq (.d (.tuple A)),qq (.d (tN (aP c ws))),a5],rfl,?_,_,_,rfl⟩;have hl':=bL c;generalize aP c ws=l at *;have hc0:lv (aG fns gns aN (d+3)).1 xN [qq (.d (.list (ns.map yAf))),qq (.d (.list (ws.map nD))),qq (.d P),qq (.d (.tuple A)),qq (.d (tN l)),a5] []=qq (yAb l.length (.bool true),[]):=by
      have e:yAb l.length (yCi true)=l.map λ _=>yCi true:=by rw[List.map_const']
      rw[e];refine xQ (fi:=lv (aG fns gns aN (d+3)).1 (.it (.var 4))) (fe:=ev (aG fns gns aN (d+3)).1 (.and (.isi (.var 5) .int) (.not (.isi (.var 5) .bool)))) nD (λ _=>.bool true) l ?_ (by rw[jy];omega) λ n hn=>?_
      ·simp only[evs,gY,tN]
      ·refine⟨_,rfl,λ S'=>?_⟩
       simp only[evs,nD,clr,yBs,List.foldl_nil]
     have al:pE [.list (yAb l.length (.bool true))]=qq (.bool true):=by
      show(hV _).bind _=_;rw[aBL,oB];simp
     have it:eH .tup (tN l)=qq (.bool true):=rfl;generalize tN l=tl at *;simp only[evs,nC,it,hc0,al])
  have p1':eI (.one 4) (lv (aG fns gns aN (d+3)).1 nH) (xs (aG fns gns aN (d+3)).1 nC) [qq (.d (.list (ns.map yAf))),qq (.d (.list (ws.map nD))),qq (.d P),qq (.d (.tuple A)),qj,qj] []=qq (.nx [qq (.d (.list (ns.map yAf))),qq (.d (.list (ws.map nD))),qq (.d P),qq (.d (.tuple A)),a4,a5],[]):=p1;simp only[evs,bY,oQ,qH,hw',hp',sm,gt,tr,du,ne,p1']
 ·have gt:bS .Gt (.int ((ws.sum:Nat):Int)) (.int 8)=qq (.bool true):=by rw[fU,dqT (by omega)]
  have re:=aBA (d+1) rs o hrl (by rw[hin];exact h8) []
  generalize yBg [.tuple (rs.map Rq.d),o]=P at *;simp only[evs,bY,oQ,qH,hw',hp',sm,gt,re]
theorem main:∀ ns:List Int,ns.length<=63->(∀ i∈ns,yAh i<=1048576)->∃ call S',(aG fns gns (iK xl) 12).1 (fns.length+2)=qq (1,call)/\call [.d (.list (ns.map yAf))] []=qq (.d (.bool true),S'):=λ ns _ _ =>
 aCm (d:=11) rfl rfl (aFi 8 ns)
theorem oks:∀ F∈fns,lF fns tbs F=true:=by decide +kernel
theorem oksX:∀ G∈gns,oI fns gns tbs xz G=true:=by decide +kernel
theorem bok:∀ F∈fns,nZ F=true:=by decide +kernel
theorem aG5:∀ G∈gns,nZ G.fn=true:=by decide +kernel
theorem binds:∀ F∈fns,iV F:=λ F hF=>wO (bok F hF)
theorem bindsX:∀ G∈gns,iV G.fn:=λ G hG=>wO (aG5 G hG)
end K82
structure PySem.W.Fast:Prop where (tw17167894952830963246 tw12344165971229939272 tw11728947229860179405 tw12984249276408375312 tw15052481650989659018 tw3244114641156234125 tw15676178653924966750 tw8627006411053976632 tw7216468315587931284 tw3662478601146060677 tw4756615194913549609 tw8953808876891729905 tw12250372862534570991 tw13225863656314460273 tw16432661985818177506 tw5012515203513727802 tw6051523599972961404 tw11743602575420634840 tw9287663121750479727 tw13387228403860484002 tw8798878176776985438 tw10558150359464642666 tw1811243813018139867 tw4884544462553338534 tw11390998464287598438 tw7382422509375191425 tw10252271646358620791 tw14364187019209126053 tw6034819065740128518 tw2644252238892383096 tw1913773639392255292 tw15116096922853367121 tw15720915053576879837 tw8600182788906930028 tw2096199847438415441 tw3650045196660887804 tw15277717186712897019 tw15569962799886821721 tw6857691895869373745 tw8257737032718701743 tw10866849346319250492 tw7249858158270531787 tw4409657677521296741 tw1427318661034239105 tw8850380830267960137 tw10125473278795240372 tw16541342155283892896 tw2144028739607945727 tw16269278712091590645 tw10551800979997553629 tw10524405299045807226 tw5283252962107142873 tw16605071404989729069 tw5285359937756914738 tw16020076360930620315 tw8324281079553652088 tw1146145714704703787 tw17157493769759319462 tw16912960327066951710 tw11366977264540465 tw11946684563701837126 tw227431522165433483 tw8184594625678254871 tw11140231832190529926 tw11118055832326789052 tw5207048820805578465 tw134985034086246180 tw5647730878172459523 tw7931364876852614836 tw3248167001745244545 tw9287798085122248554 tw6063231148366742597 tw15247097710698006406 tw8676713639642347405 tw15580745738841801534 tw6641821079671374507 tw3564367226800472035 tw10204883808165422346 tw7521662576029783411 tw1362749506614107123 tw17909876443788788852 tw13470397529957135548 tw12681985161998537189 tw16776231570968008885 tw3782376405053467315 tw15021578017080685335 tw16723273652087885245 tw3018264771714264668 tw6406248949380761853 tw16578891278218225584 tw15698690101795911290 tw11044111049191201759 tw11163512994476468357 tw7059492680301905175 tw4309906609345840111 tw15579245403885924543 tw5481892834458033606 tw3226672148411541470 tw6481890875186151939 tw3981322182329530255 tw5898666931931337184 tw13474445266463476866 tw17233437143335478159 tw13094000605628863219 tw16686759087993613918 tw3776034989153904107 tw16398425742906631901 tw16191153404275985723 tw8685885568457394427 tw10943144022762974072 tw12652945745253501488 tw7581402559247069653 tw1893155832036925620 tw16289440603763930475 tw9647246356933756884 tw15074079356981537157 tw518377639837868800 tw6601718250899946247 tw1150125273167097561 tw7059901832910301598 tw14987407646442041307 tw12226984069125749291 tw38800902952512944 tw18364542510538643254 tw7856059831530143605 tw4931349754574370888 tw490714302659758738 tw17846844681453290524 tw6587853480291589569 tw16169381295176160797 tw13437720113482290052 tw15253429018334591128 tw9782865513810355978 tw17457989860430046955 tw10140901131561414645 tw14344979681363384261 tw4961512342098112982 tw15215435048640182165 tw539956431951930532 tw2322173993670865239 tw16917764782595142014 tw13934959918539404438 tw1121372049514173772 tw15301185898383892164 tw2522797437638944058 tw17991716234241175014 tw14677839648289705783 tw501989862821165949 tw16396346337895247816 tw386637622455205856 tw1961687627108572757 tw16901587898643812017 tw3569802357748933157 tw17194407625490412475 tw2119680358238449673 tw16137612177193570478 tw12042597708746145436 tw11866109317090708617 tw13191590666003438225 tw4819793282070826420 tw10171740799790151672 tw14313576150246685864 tw2173574200174893466 tw5351186823531721992 tw18287422175367146195 tw2956275876173070882 tw2807436566958630001 tw1154977022824966846 tw17210960990966662456 tw11484534869466872350 tw8042893982223899904 tw10192203266655095104 tw3186614988225523306 tw1953857336832372050 tw4328684575579200608 tw8289889763934256461 tw1368264072219187481 tw12558748538024623715 tw8986511549595278342 tw7579696091640395652 tw2346447195959367867 tw17800665869710334232 tw415597241601887399 tw5095959694632946691 tw15520622614244013103 tw16410381778021570852 tw17365259064106264488 tw11389679830266781904 tw18349585442705040189 tw13323189207814671718 tw16117444271299821209 tw151153896841980982 tw9718508416077308279 tw12482843796897195472 tw13086992920085688661 tw5238171165401700203 tw14592292653975104637 tw10949460214705325661:True)
set_option maxRecDepth 100000 in
set_option maxHeartbeats 0 in
theorem PySem.Challenge.cw_fewbits_k82_all_tries_holds : PySem.Challenge.rw_fewbits_k82_all_tries.Holds := by
 w_on;o_law;k_head;(case hw=>w_witness2)
 k_fill
 refine EV.law_ofX (l:=PySem.Challenge.rw_fewbits_k82_all_tries) K82.fns K82.gns K82.tbs K82.xz K82.xl 2 12 _ "_law_script" rfl rfl ⟨rfl,by decide,by decide⟩ (λ w h Y=>PySem.W.kIn_of Y) K82.oks K82.oksX K82.binds K82.bindsX rfl rfl rfl ?top ?topX ?tbl ?cnl ?tbn ?ent ?rct ?xot ?xbt K82.main
 case top =>
  intro w h KX F hF;simp only[K82.fns,yBd,yBb,or_false] at hF;rcases hF with rfl | rfl | rfl | rfl | rfl | rfl
  all_goals
   refine' EV.top_mk ?a1 ?l1 ?c1 ?k1
   (case a1=>k_is)
   (case l1=>k_is)
   (case c1=>k_is)
   (case k1=>k_is)
 case topX =>
  intro w h KX F hF;simp only[K82.gns,yBd,yBb,or_false] at hF;rcases hF with rfl | rfl | rfl
  all_goals
   refine' EV.topX_mk ?a1 ?l1 ?c1 ?k1
   (case a1=>k_is)
   (case l1=>k_is)
   (case c1=>k_is)
   (case k1=>k_is)
 case ent =>
  intro w h KX e he;simp only[K82.xl,yBd,yBb,or_false] at he;rcases he with rfl | rfl | rfl | rfl | rfl | rfl | rfl | rfl
  all_goals first
   | (refine' EV.ent_own ?a1 ?a2 ?a3 ?a4 ?a5 ?a6 ?a7 ?a8 ?a9 ?b1 ?b2 ?b3
      (case a1=>k_is)
      (case a2=>k_is)
      (case a3=>k_is)
      (case a4=>k_is)
      (case a5=>k_is)
      (case a6=>k_is)
      (case a7=>k_is)
      (case a8=>k_is)
      (case a9=>k_is)
      (case b1=>k_is)
      (case b2=>kts_exm)
      (case b3=>kit_is))
   | (refine' EV.ent_blt ?a1 ?a2 ?a3 ?a4 ?a5 ?a6 ?a7 ?a8 ?a9 ?b1 (PyProof.Rows.Boot.«ValueError») (by decide) ?b3
      (case a1=>k_is)
      (case a2=>k_is)
      (case a3=>k_is)
      (case a4=>k_is)
      (case a5=>k_is)
      (case a6=>k_is)
      (case a7=>k_is)
      (case a8=>k_is)
      (case a9=>k_is)
      (case b1=>k_is)
      (case b3=>kit_is))
 case rct =>
  intro w h KX c hc;simp only[K82.xz,yBd,yBb,or_false] at hc;rcases hc with rfl
  all_goals
   refine' EV.rc_mk ?a1 ?a2
   (case a1=>k_is)
   (case a2=>k_exc)
 case xot =>
  intro w h KX c hc;simp only[K82.xz,yBd,yBb,or_false] at hc;rcases hc with rfl | rfl | rfl | rfl | rfl | rfl | rfl
  all_goals
   refine' EV.xo_mk ?a1
   (case a1=>k_is)
 case xbt =>
  intro w h KX c hc;simp only[K82.xz,yBd,yBb,or_false] at hc;rcases hc with rfl
  all_goals
   refine' EV.xb_mk ?a1 (PyProof.Rows.Boot.«ValueError») (by decide)
   (case a1=>k_is)
 case tbl =>
  intro w h KX t ht;cases ht
 case cnl =>
  intro w h KX t ht;cases ht
 case tbn =>
  intro w h KX x hx;simp only[EV.bltNames,yBd,yBb,or_false] at hx;rcases hx with rfl | rfl | rfl | rfl | rfl | rfl | rfl | rfl | rfl | rfl | rfl | rfl | rfl | rfl | rfl | rfl | rfl | rfl
  all_goals k_is
