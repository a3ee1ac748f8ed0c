import PyProof.Rows.All
import Wide.All
import OpenK.AllK
import Wide.FinOn
import Lean
import PyProof.EqAt
import PyProof.EqKinds
import PyProof.TupleCall
import PyProof.ListMulRoad
import PyProof.FactsAll.tuple
import PyProof.MaxThree
import PyProof.SeqI3
import PyProof.Draws
import PyProof.ZipIter
import PyProof.NeKinds
import PyProof.Rows.SortShell
import PyProof.ListRange
import PyProof.DictTable
import PyProof.Rows.Range3
import PyProof.FactsAll.range_2
import PyProof.Rows.SeqMore2
import PySem.Challenge.RW_fewbits_k22_looked_at
set_option compiler.extract_closed false
set_option genInjectivity false
set_option genSizeOf false
open List renaming getElem?_eq_getElem->yAa,size_toArray->yAb,replicate->yAd,getElem?_append_right->yAe,length_map->yAg,foldl_cons->yAi,getElem?_set_ne->yAj,take_length->yAk,getElem?_set_self->yAl,map_cons->yAm,not_mem_nil->yAn,length_set->yAo,replicate_succ->yAp,foldl_nil->yAq,mem_cons->yAr,getD_cons_succ->yAt,getD_cons_zero->yAu,append_nil->yAv,range->yAy,lookup_cons->yAz,take_of_length_le->yBd,length_take->yBe,getElem?_cons_zero->yBi,map_append->yBm,set_cons_zero->yBo,set_cons_succ->yBp,getElem?_cons_succ->yBs,filterMap_cons->yBu,drop_eq_getElem_cons->yBy,flatten_cons->yCa,length_nil->yCc,map_nil->yCf,length_cons->yCi,filter_cons->yCj,drop_zero->yCk,getElem?_eq_none->yCl,getD_eq_getElem?_getD->yCq,all_cons->yDb,mem_singleton->yDc,nil_append->yDe,reverse_cons->yDh,append_assoc->yDi,length_replicate->yDl,length_drop->yDn,drop_length->yDq,any_eq_true->yDr,mem_append_left->yDs,nodup_append->yEc,any_cons->yEe,map_take->yEg,getElem_inj->yEh,set_set->yEq
open Nat renaming le_refl->yAc,lt_irrefl->yBb,add_sub_cancel_left->yCh,lt_succ_self->yCu,le_of_lt->yDk,lt_or_ge->yDm,le_of_not_lt->yDp,pow_lt_pow_right->yDt,min_eq_left->yDv,lt_of_le_of_lt->yDz,zero_le->yEd,min_eq_right->yEi,le_of_eq->yEk,zero_add->yEm,sub_self->yEn,sub_zero->yEp
open Int renaming le_trans->yEo
open Bool renaming false_ne_true->yAs,false_eq_true->yAx,eq_false_or_eq_true->yBf,and_eq_true->yBq,false_and->yEa
open Option renaming bind_some->yBa,bind->yCn,getD_none->yDo
open PySem.Builtin.Int renaming intBits->yAf
open PyProof.Rows renaming slot_tuple_getitem->yBk,callWith_type1->yDu
open PySem.Heap renaming get?_update_other->yBc,get?_update_self->yBv,get?_none_of_le->yCr,SameBut->yEj
open PySem.PyData renaming int->yAh,list->yAw,bool->yBh,canLayAll0->yCb,depthAll->yCd,str->yCe,eqv->yCx,tuple->yCy
open PySem.W renaming keepIn->yBg,emptyDict->yBj,fnOf->yBl,InstAt->yBt,nsIn->yBw,instObj->yBz,kia_one->yCo,codeIn->yCs,callWith_K->yCz,findIn->yDj,methodObj->yEb,mg_of->yEf,OpenLaw->yEl,lookIn->yEr
open PySem.F renaming slot_int_rmul->yCm,excBase_ValueError->yCp,args_tuple_add_2->yCv,args_tuple_mul_2->yCw,entry_tuple_add->yDa,entry_tuple_mul->yDd,slot_tuple_add->yDf,slot_tuple_mul->yDg
open PySem.Builtin renaming divisionGoesByPylong->yBr
open PySem.Builtin.Slice renaming slicePlaces->yBx,sliceAdjust->yCt,sliceApplied->yDw
open PySem.Builtin.Tuple renaming tupleExact->yBn,tupleItemsOf->yDx,tupleTooMany->yDy
open Array renaming length_toList->yCg
open PySem renaming Value->qx,Shared->qj,Addr->qv,Expr->qw,mainGlobals->qy,sizeLine->qk,wpAny->qu,Program->qo,World->zq,Around->zx,starEach->zj,Scope->zv,sizeLine_eq->zw,Stmt->zy,bootBuiltins->zk,binaryOp->zu,wpAny_holding->zo,assignEach->xq,wpAny_Call_Name_kw->xj,FuncData->xw,foldedSetIterable->xy,wpAny_newObj_type->xu,compareOp->jq,wpAny_truthy_bool->jz,wpAny_field->jx,rawInt->jj,behindInMarks->jv,wpAny_pyIter_list->jw,NameKind->jy,Operator->jk,wpAny_standAt->ju,wpAny_passesOwn->jo,sliceBounds->vq,CmpOp->vz,codeAny->vx,wpAny_pyNext_list_item->vj,wpAny_pyNext_list_end->vv,call_meets->vw,letOwnedTupleGo->vy,shortFactorBits->vk,wpAny_binaryOp_repeat_ref->vo,swappedStores->wq,typeIs_int->wz,UnaryOp->wj
open Option renaming some->qq,none->qz
abbrev wB:=@PySem.wpAny_bind
abbrev wP:=@PySem.wpAny_pure
abbrev hpS:=@PySem.Heap.get?_push_of_some
theorem gIm {α:Type _}{l:List α}{i:Nat}{a:α}:l[i]? = qq a->∃ h,l[i]=a:=List.getElem?_eq_some_iff.mp
abbrev dqF:=@decide_eq_false
abbrev dqT:=@decide_eq_true
abbrev oqT:=@of_decide_eq_true
abbrev FrG:=PySem.W.Frag
abbrev xAa:=@PySem.Heap.lt_size
abbrev xAb:=@List.getElem?_map
abbrev xAc:=@Nat.lt_of_lt_of_le
abbrev xAd:=@List.mem_cons_self
abbrev xAe:=@PySem.Heap.get?_push_size
abbrev xAf:=@List.mem_cons_of_mem
abbrev xAg:=@Nat.le_trans
abbrev xAh:=@Nat.ne_of_lt
abbrev xAi:=@List.mem_of_getElem?
abbrev xAj:=@List.getElem?_append_left
abbrev xAk:=@List.length_append
abbrev xAl:=@List.mem_append_right
abbrev xAm:=@Int.toNat_natCast
set_option Elab.async false
set_option linter.all false
set_option maxRecDepth 100000
namespace L2
open PySem PySem.Spec PyProof.Rows
abbrev dO:=Sum Int Str
noncomputable def lP:dO->qx->Bool
 | .inl k,v=>Value.isInt k v
 | .inr x,v=>Value.isStrOf x v
noncomputable def aLy(w:zq):dO->Int
 | .inl k=>hashInt k
 | .inr x=>hashStr w x
theorem jJ:∀ {k:dO}{v:qx},lP k v=true->(∃ i t,k=Sum.inl i/\v=Value.int i t)\/(∃ x t,k=Sum.inr x/\v=Value.str x t)
 | .inl i,v,h=>by
   obtain⟨t,e⟩:=Value.isInt_shape (k:=i) (v:=v) h;exact .inl ⟨i,t,rfl,e⟩
 | .inr x,v,h=>by
   obtain⟨t,e⟩:=Value.isStrOf_shape (x:=x) (v:=v) h;exact .inr ⟨x,t,rfl,e⟩
theorem aA4(x:Str)(t:Tok):lP (.inr x) (.str x t)=true:=by simp[lP,Value.isStrOf]
theorem aIH(a b:Int):decide ((Sum.inl a:dO)=Sum.inl b)=(a==b):=by
 by_cases e:a=b
 ·subst e;simp
 ·have h:¬ (Sum.inl a:dO)=Sum.inl b:=λ q=>e (Sum.inl.inj q)
  rw[dqF h];exact(beq_eq_false_iff_ne.mpr e).symm
theorem aIT(a b:Str):decide ((Sum.inr a:dO)=Sum.inr b)=decide (a=b):=by
 by_cases e:a=b
 ·subst e;simp
 ·have h:¬ (Sum.inr a:dO)=Sum.inr b:=λ q=>e (Sum.inr.inj q)
  rw[dqF h,dqF e]
theorem aIp(a:Int)(b:Str):decide ((Sum.inl a:dO)=Sum.inr b)=false:=dqF (λ q=>nomatch q)
theorem aHS(a:Str)(b:Int):decide ((Sum.inr a:dO)=Sum.inl b)=false:=dqF (λ q=>nomatch q)
noncomputable def kG(prog:qo)(w:zq):PySem.KeyKind prog w dO where
 is:=lP
 hash:=aLy w
 inj:=λ v a b ha hb=>by
  rcases jJ ha with ⟨i,t,rfl,rfl⟩ | ⟨x,t,rfl,rfl⟩
  ·rcases jJ hb with ⟨j,u,rfl,e⟩ | ⟨y,u,rfl,e⟩
   ·injection e with e1 _;rw[e1]
   ·exact nomatch e
  ·rcases jJ hb with ⟨j,u,rfl,e⟩ | ⟨y,u,rfl,e⟩
   ·exact nomatch e
   ·injection e with e1 _;rw[e1]
 byValue:=λ k v h=>by
  rcases jJ h with ⟨i,t,rfl,rfl⟩ | ⟨x,t,rfl,rfl⟩<;>rfl
 pyHash:=λ hv h=>by
  rcases jJ hv with ⟨i,t,rfl,rfl⟩ | ⟨x,t,rfl,rfl⟩
  ·exact wpAny_pyHash_int h
  ·exact wpAny_pyHash_str h
 eqBool:=λ hu hv h=>by
  rcases jJ hu with ⟨i,t,rfl,rfl⟩ | ⟨x,t,rfl,rfl⟩
  ·rcases jJ hv with ⟨j,u,rfl,rfl⟩ | ⟨y,u,rfl,rfl⟩
   ·rw[aIH] at h;exact wpAny_eqBool_int h
   ·rw[aIp] at h;exact SeqAt.EqAt.int_str i t y u _ _ _ _ h
  ·rcases jJ hv with ⟨j,u,rfl,rfl⟩ | ⟨y,u,rfl,rfl⟩
   ·rw[aHS] at h;exact SeqAt.EqAt.str_int x t j u _ _ _ _ h
   ·rw[aIT] at h;exact wpAny_eqBool_str h
 «strs»:=λ k x t v h=>by
  rcases jJ h with ⟨i,u,rfl,e⟩ | ⟨y,u,rfl,e⟩
  ·exact nomatch e
  ·injection e with e1 _
   subst e1;cases v<;>rfl
end L2
namespace L2
open PySem PySem.Spec PyProof.Rows
inductive V where
 | non | bl (b:Bool) | int (i:Int) | str (x:Str) | byt (b:Array UInt8) | flt (b:UInt64) | ref (a:qv) | ty (n:String)
 deriving DecidableEq
noncomputable def aP:V->qx->Prop
 | .non,u=>u=Value.none
 | .bl b,u=>u=Value.bool b
 | .int i,u=>∃ t,u=Value.int i t
 | .str x,u=>∃ t,u=Value.str x t
 | .byt b,u=>∃ t,u=Value.bytes b t
 | .flt b,u=>∃ t,u=Value.float b t
 | .ref a,u=>u=Value.ref a
 | .ty n,u=>u=Value.type n
noncomputable abbrev aM:List V->List qx->Prop:=Paired aP
theorem aM.length{xs:List V}{us:List qx}(r:aM xs us):xs.length=us.length:=Paired.length r
theorem aM.get:∀ {xs:List V}{us:List qx}{i:Nat}{x:V},aM xs us->xs[i]? = qq x->∃ u,us[i]? = qq u/\aP x u
 | _,_,_,_,.nil,e=>by simp at e
 | _,_,0,_,.cons r _,e=>by simp at e;subst e;exact⟨_,rfl,r⟩
 | _,_,i+1,x,.cons _ t,e=>by
   obtain⟨u,h1,h2⟩:=aM.get (i:=i) (x:=x) t (by simpa using e)
   exact⟨u,by simpa using h1,h2⟩
theorem aM.set{x:V}{u:qx}(r:aP x u):∀ {xs:List V}{us:List qx} (i:Nat),aM xs us->aM (xs.set i x) (us.set i u)
 | _,_,_,.nil=>.nil
 | _,_,0,.cons _ t=>.cons r t
 | _,_,i+1,.cons q t=>.cons q (aM.set r i t)
theorem aM.append:∀ {xs ys:List V}{us ws:List qx},aM xs us->aM ys ws->aM (xs++ys) (us++ws)
 | _,_,_,_,.nil,s=>s
 | _,_,_,_,.cons r t,s=>.cons r (aM.append t s)
theorem aM.take:∀ {xs:List V}{us:List qx} (n:Nat),aM xs us->aM (xs.take n) (us.take n)
 | _,_,0,_=>.nil
 | _,_,_+1,.nil=>.nil
 | _,_,n+1,.cons r t=>.cons r (aM.take n t)
theorem aM.drop:∀ {xs:List V}{us:List qx} (n:Nat),aM xs us->aM (xs.drop n) (us.drop n)
 | _,_,0,r=>r
 | _,_,_+1,.nil=>.nil
 | _,_,n+1,.cons _ t=>aM.drop n t
noncomputable def qN:Option V->Option qx->Prop
 | some v,qq u=>aP v u
 | none,qz=>True
 | _,_=>False
noncomputable def KV{κ:Type}:List (κ×V)->List (κ×qx)->Prop:=Paired λ(p:κ×V) (q:κ×qx)=>p.1=q.1/\aP p.2 q.2
noncomputable def kV:dO->V
 | .inl i=>.int i
 | .inr x=>.str x
inductive HO where
 | lst (xs:List V)
 | tup (xs:List V)
 | dK (aN:List (dO×V)) | dT (aN:List (List dO×V))
 | set (S:Int->Bool) (n:Nat)
 | ins (C dx:qv) (fs:List (Str×V))
 | own (x:qv)
 | xd (fs:List (Str×V))
 | met (f x:qv)
 | rng (lo hi:Int)
 | frz (o:Obj) (u:HO)
 | tbl (ps:Array qx)
 | ext (φ:Heap->Prop)
abbrev Hp:=qv->Option HO
noncomputable def aT(H:Hp)(a:qv)(o:HO):Hp:=λ b=>if b=a then qq o else H b
theorem bO{H:Hp}{a:qv}{o:HO}:aT H a o a=qq o:=by unfold aT;rw[if_pos rfl]
theorem aX{H:Hp}{a b:qv}{o:HO}(h:b≠a):aT H a o b=H b:=by unfold aT;rw[if_neg h]
theorem eB{H:Hp}{a b:qv}{o:HO}(h:H a=qq o)(h':H b=qz):a≠b:=by
 intro e;subst e;rw[h] at h';cases h'
section
variable (P : qo)(w : zq)
noncomputable def eD(H:Hp)(h:Heap)(a:qv):HO->Prop
 | .lst xs=>xs.length<=qk/\∃ (aC:List qx) (n:Nat),aM xs aC/\h.get? a=qq {cls:=.type "list",data:=.seq aC.toArray n }
 | .tup xs=>xs.length<=qk/\∃ aC:List qx,aM xs aC/\IsTup h a aC.toArray
 | .dK aN=>aN.length<=qk/\(a==sysModules)=false/\∃ vs,KV aN vs/\h.DictOf (kG P w) a vs
 | .dT aN=>aN.length<=qk/\(a==sysModules)=false/\∃ xs:List (List dO×qv×qx),
    Paired (λ(p:List dO×V) (q:List dO×qv×qx)=>p.1=q.1/\H q.2.1=qq (.tup (p.1.map kV))/\aP p.2 q.2.2) aN xs /\
    ∃ o es ep,h.get? a=qq o/\o.ExactDict/\o.data=.dict es ep/\es.toList=xs.map (entryOfKey (tupleKind (kG P w)))/\(xs.map (·.1)).Nodup
 | .set S n=>h.SetOf (intKind P w) a S n
 | .ins C dx fs=>H dx=qq (.own a)/\fs.length<=1000/\dx≠a/\h.get? a=qq (yBz C dx) /\
    ∃ mA,h.Ns1 dx mA/\(∀ f,qN (fs.lookup f) (mA f))/\PySem.Within mA (fs.map (·.1))
 | .own _=>∃ o,h.get? a=qq o
 | .xd fs=>∃ mA,h.Ns1 a mA/\∀ f,qN (fs.lookup f) (mA f)
 | .rng lo hi=>∃ t u v,h.get? a=qq {cls:=.type "range",data:=.fields #[.int lo t,.int hi u,.int 1 v] }
 | .frz o u=>h.get? a=qq o/\eD H h a u
 | .tbl ps=>h.get? a=qq {cls:=.none,data:=.fields ps }
 | .met f x=>h.get? a=qq (yEb (.ref f) (.ref x))
 | .ext φ=>φ h/\(∃ o,h.get? a=qq o)/\∀ h1 h2:Heap,φ h1->(∀ o,h1.get? a=qq o->h2.get? a=qq o)->φ h2
def cE(H:Hp)(h:Heap):Prop:=∀ a o,H a=qq o->eD P w H h a o
end
section
variable {P : qo}{w : zq}{H H' : Hp}{h h' : Heap}{a : qv}{o : HO}
theorem eD.lt(x:eD P w H h a o):a<h.objs.size:=by
 cases o with
 | lst xs=>obtain⟨_,_,_,_,e⟩:=x;exact xAa e
 | tup xs=>obtain⟨_,_,_,p⟩:=x;exact p.lt
 | dK aN=>obtain⟨_,_,_,_,o,_,_,e,_⟩:=x;exact xAa e
 | dT aN=>obtain⟨_,_,_,_,o,_,_,e,_⟩:=x;exact xAa e
 | set S n=>obtain⟨o,_,_,_,e,_⟩:=x;exact xAa e
 | ins C dx fs=>obtain⟨_,_,_,e,_⟩:=x;exact xAa e
 | own y=>obtain⟨_,e⟩:=x;exact xAa e
 | xd fs=>obtain⟨_,⟨_,_,_,e,_⟩,_⟩:=x;exact xAa e
 | rng lo hi=>obtain⟨_,_,_,e⟩:=x;exact xAa e
 | frz ob u=>obtain⟨e,_⟩:=x;exact xAa e
 | tbl ps=>exact xAa (show h.get? a=qq _ from x)
 | met f y=>exact xAa (show h.get? a=qq _ from x)
 | ext φ=>obtain⟨_,⟨_,e⟩,_⟩:=x;exact xAa e
theorem Paired.mapP{α β:Type}{F G:α->β->Prop}:∀ {l₁:List α}{l₂:List β},Paired F l₁ l₂->(∀ a b,F a b->G a b)->Paired G l₁ l₂
 | _,_,.nil,_=>.nil
 | _,_,.cons r t,f=>.cons (f _ _ r) (Paired.mapP t f)
theorem eD.stay(x:eD P w H h a o)(k:∀ b u,(b=a\/H b=qq (.own a))->h.get? b=qq u->h'.get? b=qq u)
 (ho:∀ b,H b=qq (.own a)->H' b=qq (.own a)) (ht:∀ b xs,H b=qq (.tup xs)->H' b=qq (.tup xs)):eD P w H' h' a o:=by
 induction o with
 | lst xs=>obtain⟨z,aC,n,r,e⟩:=x;exact⟨z,aC,n,r,k _ _ (.inl rfl) e⟩
 | tup xs=>obtain⟨z,aC,r,ob,e,c⟩:=x;exact⟨z,aC,r,ob,k _ _ (.inl rfl) e,c⟩
 | dK aN=>obtain⟨z,y,vs,r,ob,es,ep,e,c⟩:=x;exact⟨z,y,vs,r,ob,es,ep,k _ _ (.inl rfl) e,c⟩
 | dT aN =>
   obtain⟨z,y,xs,r,ob,es,ep,e,c⟩:=x;exact⟨z,y,xs,Paired.mapP r λ p q z=>⟨z.1,ht _ _ z.2.1,z.2.2⟩,ob,es,ep,k _ _ (.inl rfl) e,c⟩
 | set S n=>obtain⟨ob,es,ep,t,e,c⟩:=x;exact⟨ob,es,ep,t,k _ _ (.inl rfl) e,c⟩
 | ins C dx fs =>
   obtain⟨d,z,ne,e,mA,⟨od,es,ep,e2,c⟩,r⟩:=x;exact⟨ho _ d,z,ne,k _ _ (.inl rfl) e,mA,⟨od,es,ep,k _ _ (.inr d) e2,c⟩,r⟩
 | own y=>obtain⟨ob,e⟩:=x;exact⟨ob,k _ _ (.inl rfl) e⟩
 | xd fs=>obtain⟨mA,⟨od,es,ep,e,c⟩,r⟩:=x;exact⟨mA,⟨od,es,ep,k _ _ (.inl rfl) e,c⟩,r⟩
 | rng lo hi=>obtain⟨t,u,v,e⟩:=x;exact⟨t,u,v,k _ _ (.inl rfl) e⟩
 | frz ob u ih=>obtain⟨e,q⟩:=x;exact⟨k _ _ (.inl rfl) e,ih q⟩
 | tbl ps =>
   have e:h.get? a=qq {cls:=.none,data:=.fields ps }:=x;show h'.get? a=qq {cls:=.none,data:=.fields ps };exact k a _ (.inl rfl) e
 | met f y =>
   have e:h.get? a=qq (yEb (.ref f) (.ref y)):=x;show h'.get? a=qq (yEb (.ref f) (.ref y));exact k a _ (.inl rfl) e
 | ext φ=>obtain⟨p,⟨o,e⟩,st⟩:=x;exact⟨st _ _ p λ o q=>k _ _ (.inl rfl) q,⟨o,k _ _ (.inl rfl) e⟩,st⟩
theorem cE.lt(x:cE P w H h)(e:H a=qq o):a<h.objs.size:=(x a o e).lt
theorem cE.fresh(x:cE P w H h)(e:h.objs.size<=a):H a=qz:=by
 cases q:H a with
 | none=>rfl
 | some u=>exact absurd (xAc (x.lt q) e) (yBb _)
theorem cE.kept(x:cE P w H h)(k:∀ b u,h.get? b=qq u->h'.get? b=qq u):cE P w H h':=λ a o e =>
 (x a o e).stay (λ b u _ q=>k b u q) (λ _ q=>q) λ _ _ q=>q
theorem cE.laid(x:cE P w H h)(k:∀ b u,h.get? b=qq u->h'.get? b=qq u)(hp:h.objs.size<=a)(new:eD P w (aT H a o) h' a o):cE P w (aT H a o) h':=λ b u e=>by
 have hn:=x.fresh hp
 by_cases hb:b=a
 ·subst hb;rw[bO] at e;cases e;exact new
 ·rw[aX hb] at e;exact(x b u e).stay (λ c v _ q=>k c v q) (λ c q=>by rw[aX (eB q hn)];exact q) λ c xs q=>by rw[aX (eB q hn)];exact q
end
def Rd(H:Hp)(a:qv)(u:HO):Prop:=H a=qq u\/∃ o,H a=qq (.frz o u)
theorem Rd.of{H:Hp}{a:qv}{u:HO}(h:H a=qq u):Rd H a u:=.inl h
theorem Rd.ok{P:qo}{w:zq}{H:Hp}{h:Heap}{a:qv}{u:HO}(r:Rd H a u)(x:cE P w H h):eD P w H h a u:=by
 rcases r with r | ⟨o,r⟩
 ·exact x a u r
 ·obtain⟨_,q⟩:=x a _ r;exact q
noncomputable def uQ:Option HO->Prop
 | some (.lst _)=>True
 | some (.dK _)=>True
 | some (.dT _)=>True
 | some (.set _ _)=>True
 | some (.ins _ _ _)=>True
 | some (.ext _)=>True
 | _=>False
section
variable {P : qo}{w : zq}{H : Hp}{h h' : Heap}{x e : qv}{o' : HO}
theorem cE.write(ok:cE P w H h)(mu:uQ (H x))(he:e=x\/H e=qq (.own x))(k:∀ b u,b≠e->h.get? b=qq u->h'.get? b=qq u)(heo:∃ u,h'.get? e=qq u)
 (new:eD P w (aT H x o') h' x o'):cE P w (aT H x o') h':=λ b u q=>by
 have nown:∀ c y,H c=qq (.own y)->c≠x:=λ c y r z=>by subst z;rw[r] at mu;exact mu
 have ntup:∀ c xs,H c=qq (.tup xs)->c≠x:=λ c xs r z=>by subst z;rw[r] at mu;exact mu
 by_cases hb:b=x
 ·subst hb;rw[bO] at q;cases q;exact new
 ·rw[aX hb] at q
  by_cases hbe:b=e
  ·have q':H b=qq (.own x):=by
    rcases he with z | z
    ·exact absurd (hbe.trans z) hb
    ·rw[hbe];exact z
   rw[q] at q';cases q';obtain⟨v,hv⟩:=heo;exact⟨v,by rw[hbe];exact hv⟩
  ·refine(ok b u q).stay (λ c v hc r=>k c v ?_ r) (λ c r=>by rw[aX (nown c b r)];exact r) λ c xs r=>by rw[aX (ntup c xs r)];exact r
   rcases hc with rfl | hc
   ·exact hbe
   ·rintro rfl;rcases he with z | z
    ·exact nown c b hc z
    ·rw[hc] at z;cases z;exact hb rfl
end
structure Un(fs ex:List qv)(H H':Hp)(h h':Heap):Prop where
 keep:∀ b o,h.get? b=qq o->H b=qz->b ∉ fs->b ∉ ex->h'.get? b=qq o
 slot:∀ b o,h.get? b=qq o->H b=qz->b∈fs->b ∉ ex->∃ sl,h'.get? b=qq {o with slots:=sl }
 free:∀ b o,h.get? b=qq o->H b=qz->b ∉ ex->H' b=qz
 there:∀ b o,h.get? b=qq o->b ∉ ex->∃ o',h'.get? b=qq o'
 tups:∀ b xs,H b=qq (.tup xs)->H' b=qq (.tup xs)
 frzs:∀ b o u,H b=qq (.frz o u)->H' b=qq (.frz o u)
 tbls:∀ b ps,H b=qq (.tbl ps)->∃ more,H' b=qq (.tbl (ps++more))
section
variable {fs fs' ex ex' : List qv}{H H1 H2 : Hp}{h h1 h2 h' : Heap}{a x e : qv}{o : HO}
theorem Un.any(u:Un fs ex H H1 h h1){b:qv}{ob:Obj}(q:h.get? b=qq ob)(n:H b=qz)(hx:b ∉ ex):∃ sl,h1.get? b=qq {ob with slots:=sl }:=by
 by_cases hb:b∈fs
 ·exact u.slot b ob q n hb hx
 ·exact⟨ob.slots,u.keep b ob q n hb hx⟩
theorem Un.trans(a:Un fs ex H H1 h h1)(b:Un fs ex H1 H2 h1 h2):Un fs ex H H2 h h2 where
 keep:=λ c ob q n hc hx=>b.keep c ob (a.keep c ob q n hc hx) (a.free c ob q n hx) hc hx
 slot:=λ c ob q n hc hx=>by
  obtain⟨sl,e1⟩:=a.slot c ob q n hc hx;obtain⟨sl',e2⟩:=b.slot c _ e1 (a.free c ob q n hx) hc hx;exact⟨sl',e2⟩
 free:=λ c ob q n hx=>by
  obtain⟨o',e1⟩:=a.there c ob q hx;exact b.free c o' e1 (a.free c ob q n hx) hx
 there:=λ c ob q hx=>by
  obtain⟨o',e1⟩:=a.there c ob q hx;exact b.there c o' e1 hx
 tups:=λ c xs q=>b.tups c xs (a.tups c xs q)
 frzs:=λ c ob xs q=>b.frzs c ob xs (a.frzs c ob xs q)
 tbls:=λ c ps q=>by
  obtain⟨m1,e1⟩:=a.tbls c ps q;obtain⟨m2,e2⟩:=b.tbls c _ e1;exact⟨m1++m2,by rw[e2,Array.append_assoc]⟩
theorem Un.kept(k:∀ b u,h.get? b=qq u->h'.get? b=qq u):Un fs ex H H h h':=
 ⟨λ b ob q _ _ _=>k b ob q,λ b ob q _ _ _=>⟨ob.slots,k b ob q⟩,λ _ _ _ n _=>n,λ b ob q _=>⟨ob,k b ob q⟩,λ _ _ q=>q,λ _ _ _ q=>q,λ _ ps q=>⟨#[],by rw[q];simp⟩⟩
theorem Un.refl:Un fs ex H H h h:=Un.kept λ _ _ q=>q
theorem Un.laid(k:∀ b u,h.get? b=qq u->h'.get? b=qq u)(hp:h.objs.size<=a)(hn:H a=qz):Un fs ex H (aT H a o) h h' where
 keep:=λ b u q _ _ _=>k b u q
 slot:=λ b u q _ _ _=>⟨u.slots,k b u q⟩
 free:=λ b u q n _=>by rw[aX (xAh (xAc (xAa q) hp))];exact n
 there:=λ b u q _=>⟨u,k b u q⟩
 tups:=λ b xs q=>by rw[aX (eB q hn)];exact q
 frzs:=λ b u xs q=>by rw[aX (eB q hn)];exact q
 tbls:=λ b ps q=>⟨#[],by rw[aX (eB q hn),q];simp⟩
theorem Un.write(mu:uQ (H x))(he:e=x\/H e=qq (.own x))(k:∀ b u,b≠e->h.get? b=qq u->h'.get? b=qq u)(heo:∃ u,h'.get? e=qq u):Un fs ex H (aT H x o) h h':=by
 have hx:∀ b,H b=qz->b≠x:=λ b n z=>by subst z;rw[n] at mu;exact mu
 have hb:∀ b,H b=qz->b≠e:=λ b n z=>by
  subst z;rcases he with r | r
  ·exact hx b n r
  ·rw[n] at r;cases r
 have hm:∀ b u,H b=qq u->¬ uQ (qq u)->b≠x:=λ b u q nm z=>by subst z;rw[q] at mu;exact nm mu
 refine⟨λ b u q n _ _=>k b u (hb b n) q,λ b u q n _ _=>⟨u.slots,k b u (hb b n) q⟩,λ b u q n _=>by rw[aX (hx b n)];exact n,λ b u q _=>?_,
  λ b xs q=>by rw[aX (hm b _ q λ z=>z)];exact q,λ b u xs q=>by rw[aX (hm b _ q λ z=>z)];exact q,λ b ps q=>⟨#[],by rw[aX (hm b _ q λ z=>z),q];simp⟩⟩
 by_cases hbe:b=e
 ·subst hbe;exact heo
 ·exact⟨u,k b u hbe q⟩
theorem Un.mono(u:Un fs ex H H1 h h1)(hs:∀ b∈fs,b∈fs')(hx:∀ b∈ex,b∈ex'):Un fs' ex' H H1 h h1:=
 ⟨λ b ob q n hb he=>u.keep b ob q n (λ z=>hb (hs b z)) λ z=>he (hx b z),λ _ _ q n _ he=>u.any q n λ z=>he (hx _ z),λ b ob q n he=>u.free b ob q n λ z=>he (hx b z),λ b ob q he=>u.there b ob q λ z=>he (hx b z),u.tups,u.frzs,u.tbls⟩
end
noncomputable def uP(h:Heap)(H:Hp):List qv:=(yAy h.objs.size).filter λ a=>(H a).isSome
noncomputable def jY(h:Heap)(H:Hp):Heap:=PySem.W.hideAll h (uP h H)
theorem aFL(h:Heap)(H:Hp):(jY h H).objs.size=h.objs.size:=PySem.W.hideAll_size _ _
theorem aGa{h:Heap}{H:Hp}{b:qv}{o:Obj}(e:h.get? b=qq o)(n:H b=qz):(jY h H).get? b=qq o:=
 PySem.W.hideAll_get _ e λ hm=>by
  have q:(H b).isSome=true:=(List.mem_filter.mp hm).2;rw[n] at q;simp at q
theorem aGI{h:Heap}{H:Hp}{b:qv}{o:Obj}(e:(jY h H).get? b=qq o):h.get? b=qq o/\H b=qz:=by
 have e':h.get? b=qq o:=PySem.W.of_hideAll (uP h H) e;refine⟨e',?_⟩;cases q:H b with
 | none=>rfl
 | some x =>
   have hm:b∈uP h H:=List.mem_filter.mpr ⟨List.mem_range.mpr (xAa e'),by simp[q]⟩
   have z:(jY h H).get? b=qz:=PySem.W.hideAll_none (uP h H) hm;rw[z] at e;cases e
noncomputable def aGW(g h:Heap)(L:qv):List (qv×Obj):=(yAy h.objs.size).filterMap λ a=>if a=L\/(g.get? a).isSome=true then qz else (h.get? a).map λ o=>(a,o)
noncomputable def bG(g h:Heap)(L d:qv):List (qv×Obj):=(aGW g h L).filter λ p=>decide (p.1≠d)
end L2
namespace L2
open PySem PySem.Spec PyProof.Rows
structure Mod(K:FrG)(mg:Str->Option qx)(base:Heap):Prop where
 kin:K.In base
 glob:base.Ns qy mg
 blt:∃ mb,base.Ns builtinsNs mb/\∀ x:Str,x ≠ "__name__" -> mb x=zk x
 nolimit:base.NoLimit
structure Cx where
 prog:qo
 w:zq
 K:FrG
 mg:Str->Option qx
 base:Heap
 A:zx
 N:List Str
 s₀:qj
 H₀:Hp
 env:Env
 outer:List Env
 stack:List Env
 ex:List qv
 fn:Str->Bool
 calm:Bool
 pn:List (qv×Obj)
 xe:qx->qj->Prop
noncomputable def cQ(l:List Env):List qv:=l.filterMap (·.frame)
noncomputable abbrev Cx.fs(X:Cx):List qv:=cQ X.outer
def kC(sc:zv)(x:Str):Prop:=sc.names.lookup x=qq .local\/sc.names.lookup x=qq .cell\/sc.names.lookup x=qq .free
def Loc(sc:zv)(x:Str):Prop:=sc.names.lookup x=qq .local\/sc.names.lookup x=qq .cell
def aLJ(env:Env)(h:Heap)(m:Str->Option qx)(x:Str)(u:qx):Prop:=
 (env.kindOf x=qq .local/\m x=qq u)\/((env.kindOf x=qq .cell\/env.kindOf x=qq .free)/\∃ c,env.cells.lookup x=qq c/\h.IsCell c (qq u))
structure Cx.Ok(X:Cx):Prop where
 mod:Mod X.K X.mg X.base
 kind:X.env.scope.kind=.function
 glob:X.env.globals=qy
 blt:X.env.builtins=builtinsNs
 above:X.s₀.heap.objs.size<=X.env.locals
 inj:∀ x y c,X.env.cells.lookup x=qq c->X.env.cells.lookup y=qq c->x=y
 has:∀ x,(X.env.kindOf x=qq .cell\/X.env.kindOf x=qq .free)->∃ c,X.env.cells.lookup x=qq c
 cab:∀ x c,X.fn x=true->X.env.cells.lookup x=qq c->X.s₀.heap.objs.size<=c
 hd:X.calm=true->X.A.handled=qz
 frames:X.A.frames=qq X.stack
 stk:X.stack=X.outer\/(X.stack=X.env::X.outer/\X.env.frame=qq X.env.locals)
 exf:∀ b∈X.ex,b≠X.env.locals/\∀ x c,X.env.cells.lookup x=qq c->c≠b
 bs:∀ b o,X.base.get? b=qq o->X.s₀.heap.get? b=qq o/\X.H₀ b=qz
 bsz:X.base.objs.size<=X.s₀.heap.objs.size
 noex:∀ b o,X.base.get? b=qq o->b ∉ X.ex
 exfs:∀ b∈X.ex,b ∉ X.fs
 funs:X.s₀.heap.FunFrames X.base X.outer
 frf:∀ b∈X.fs,X.H₀ b=qz
structure Inv(X:Cx)(aA:List (qv×Obj))(σ:List (Option V))(H:Hp)(s:qj):Prop where
 ok:X.Ok
 os:s.os=X.s₀.os
 bare:AllBare s.gens
 base:Un X.fs X.ex X.H₀ H X.s₀.heap s.heap
 loc:∃ m,s.heap.Ns X.env.locals m/\∀ (i:Nat) (x:Str) (v:V),X.N[i]? = qq x->σ[i]? = qq (qq v)->kC X.env.scope x->∃ u,aP v u/\aLJ X.env s.heap m x u
 cell:∀ x c,X.env.cells.lookup x=qq c->∃ v,s.heap.IsCell c v
 free:H X.env.locals=qz
 freeC:∀ x c,X.env.cells.lookup x=qq c->H c=qz
 pin:∀ p∈X.pn++aA,s.heap.get? p.1=qq p.2/\H p.1=qz/\p.1≠X.env.locals/\p.1 ∉ X.fs/\∀ v,p.2.data≠.cell v
 hok:cE X.prog X.w H s.heap
 len:σ.length=X.N.length
section
variable {X : Cx}{aA : List (qv×Obj)}{σ : List (Option V)}{H H' : Hp}{s : qj}{h' : Heap}
theorem Cx.Ok.nofr(ok:X.Ok){b:qv}{o:Obj}(e:X.base.get? b=qq o):b ∉ X.fs:=λ hb=>by
 have:=(ok.funs.mem hb).1;rw[e] at this;cases this
theorem Inv.bs(I:Inv X aA σ H s):∀ b o,X.base.get? b=qq o->s.heap.get? b=qq o/\H b=qz:=λ b o e =>
 ⟨I.base.keep b o (I.ok.bs b o e).1 (I.ok.bs b o e).2 (I.ok.nofr e) (I.ok.noex b o e),I.base.free b o (I.ok.bs b o e).1 (I.ok.bs b o e).2 (I.ok.noex b o e)⟩
theorem Inv.bk(I:Inv X aA σ H s):∀ b o,X.base.get? b=qq o->s.heap.get? b=qq o:=λ b o e=>(I.bs b o e).1
theorem Inv.mod(I:Inv X aA σ H s):Mod X.K X.mg X.base:=I.ok.mod
theorem Inv.kIn(I:Inv X aA σ H s):X.K.In s.heap:=I.ok.mod.kin.keeps I.bk
theorem Inv.nolimit(I:Inv X aA σ H s):s.heap.NoLimit:=I.ok.mod.nolimit.keeps I.bk
theorem Inv.fr(I:Inv X aA σ H s):∃ m,Fr X.base X.env.locals s.heap m:=
 let ⟨m,hn,_⟩:=I.loc
 ⟨m,hn,I.bk,xAg I.ok.bsz I.ok.above⟩
theorem Inv.lt(I:Inv X aA σ H s):X.env.locals<s.heap.objs.size:=let ⟨_,hn,_⟩:=I.loc;hn.lt
theorem Inv.sz(I:Inv X aA σ H s):X.s₀.heap.objs.size<=s.heap.objs.size:=xAg I.ok.above (yDk I.lt)
theorem Inv.nofs(I:Inv X aA σ H s){a:qv}(h:s.heap.objs.size<=a):a ∉ X.fs:=λ hb=>by
 obtain⟨_,o,ho,_⟩:=I.ok.funs.mem hb;exact absurd (xAc (xAa ho) (xAg I.sz h)) (yBb _)
theorem Inv.cne(I:Inv X aA σ H s):∀ x c,X.env.cells.lookup x=qq c->c≠X.env.locals:=λ x c e z=>by
 obtain⟨v,o,ho,hd⟩:=I.cell x c e;obtain⟨m,⟨o',es,ep,ho',hd',_⟩,_⟩:=I.loc;rw[z,ho'] at ho;cases ho;rw[hd'] at hd;cases hd
theorem Inv.funs(I:Inv X aA σ H s):s.heap.FunFrames X.base X.outer:=by
 have all:∀ (l:List Env),(∀ b∈cQ l,b∈X.fs)->X.s₀.heap.FunFrames X.base l->s.heap.FunFrames X.base l:=by
  intro l
  induction l with
  | nil=>intro _ _;trivial
  | cons env r ih =>
    intro hs hl;obtain⟨hk,⟨L,o,hf,hn,ho,hd⟩,hr⟩:=hl;have hL:L∈X.fs:=hs L (by unfold cQ;rw[yBu,hf];exact xAd)
    obtain⟨sl,e⟩:=I.base.slot L o ho (I.ok.frf L hL) hL λ z=>I.ok.exfs L z hL
    exact⟨hk,⟨L,_,hf,hn,e,hd⟩,ih (λ b hb=>hs b (by unfold cQ;rw[yBu,hf];exact xAf _ hb)) hr⟩
 exact all X.outer (λ _ hb=>hb) I.ok.funs
theorem Inv.stack(I:Inv X aA σ H s):s.heap.FunFrames X.base X.stack:=by
 rcases I.ok.stk with e | ⟨e,hf⟩
 ·rw[e];exact I.funs
 ·rw[e];obtain⟨m,hn,_⟩:=I.loc;refine .cons (by rw[I.ok.kind];decide) hf hn ?_ I.funs
  exact yCr (xAg I.ok.bsz I.ok.above)
theorem Inv.stkSub(I:Inv X aA σ H s):∀ b∈cQ X.stack,b∈X.env.locals::X.fs:=λ b hb=>by
 rcases I.ok.stk with e | ⟨e,hf⟩
 ·rw[e] at hb;exact xAf _ hb
 ·rw[e] at hb;unfold cQ at hb;rw[yBu,hf] at hb;exact hb
theorem Inv.stkFree(I:Inv X aA σ H s):∀ b∈cQ X.stack,H b=qz:=λ b hb=>by
 rcases List.mem_cons.mp (I.stkSub b hb) with e | hb
 ·rw[e];exact I.free
 ·obtain⟨_,o,ho,_⟩:=I.ok.funs.mem hb;exact I.base.free b o ho (I.ok.frf b hb) λ z=>I.ok.exfs b z hb
theorem Inv.step{g':Array GenState}{t':Nat}{d':Drawn}{ch:List qv}(I:Inv X aA σ H s)
 (hch:∀ b∈ch,(b∈X.ex\/X.s₀.heap.objs.size<=b)/\b≠X.env.locals/\(∀ x c,X.env.cells.lookup x=qq c->c≠b)/\∀ p∈X.pn++aA,p.1≠b)
 (keep:∀ b o,b≠X.env.locals->b ∉ X.fs->b ∉ ch->s.heap.get? b=qq o->H b=qz->h'.get? b=qq o)
 (slot:∀ b o,b≠X.env.locals->b∈X.fs->b ∉ ch->s.heap.get? b=qq o->H b=qz->∃ sl,h'.get? b=qq {o with slots:=sl }) (free:∀ b o,b ∉ ch->s.heap.get? b=qq o->H b=qz->H' b=qz)
 (there:∀ b o,b ∉ ch->s.heap.get? b=qq o->∃ o',h'.get? b=qq o')
 (tups:∀ b xs,H b=qq (.tup xs)->H' b=qq (.tup xs)) (frzs:∀ b o u,H b=qq (.frz o u)->H' b=qq (.frz o u)) (tbls:∀ b ps,H b=qq (.tbl ps)->∃ more,H' b=qq (.tbl (ps++more)))
 (ns:∀ m,s.heap.Ns X.env.locals m->h'.Ns X.env.locals m) (hok:cE X.prog X.w H' h') (hg:AllBare g') :
 Inv X aA σ H' {s with heap:=h',gens:=g',drawn:=d',toks:=t' }:=by
 have neL:∀ b o,X.s₀.heap.get? b=qq o->b≠X.env.locals:=λ b o e=>xAh (xAc (xAa e) I.ok.above)
 have neC:∀ b o,X.s₀.heap.get? b=qq o->b ∉ X.ex->b ∉ ch:=λ b o e hx hb=>by
  rcases (hch b hb).1 with z | z
  ·exact hx z
  ·exact absurd (xAc (xAa e) z) (yBb _)
 have cellK:∀ x c,X.env.cells.lookup x=qq c->∀ v,s.heap.IsCell c v->h'.IsCell c v:=λ x c e v aO=>by
  obtain⟨o,ho,hd⟩:=aO;have nch:c ∉ ch:=λ z=>(hch c z).2.2.1 x c e rfl
  by_cases hc:c∈X.fs
  ·obtain⟨sl,q⟩:=slot c o (I.cne x c e) hc nch ho (I.freeC x c e);exact⟨_,q,hd⟩
  ·exact⟨o,keep c o (I.cne x c e) hc nch ho (I.freeC x c e),hd⟩
 refine⟨I.ok,I.os,hg,⟨λ b o e n hb hx=>?_,λ b o e n hb hx=>?_,λ b o e n hx=>?_,λ b o e hx=>?_,λ b xs e=>tups b xs (I.base.tups b xs e),λ b o xs e=>frzs b o xs (I.base.frzs b o xs e),λ b ps e=>?_⟩,?_,λ x c e=>?_,?_,λ x c e=>?_,λ p hp=>?_,hok,I.len⟩
 ·exact keep b o (neL b o e) hb (neC b o e hx) (I.base.keep b o e n hb hx) (I.base.free b o e n hx)
 ·obtain⟨sl,e1⟩:=I.base.slot b o e n hb hx;obtain⟨sl',e2⟩:=slot b _ (neL b o e) hb (neC b o e hx) e1 (I.base.free b o e n hx);exact⟨sl',e2⟩
 ·obtain⟨o',e1⟩:=I.base.there b o e hx;exact free b o' (neC b o e hx) e1 (I.base.free b o e n hx)
 ·obtain⟨o',e1⟩:=I.base.there b o e hx;exact there b o' (neC b o e hx) e1
 ·obtain⟨m1,e1⟩:=I.base.tbls b ps e;obtain⟨m2,e2⟩:=tbls b _ e1;exact⟨m1++m2,by rw[e2,Array.append_assoc]⟩
 ·obtain⟨m,hn,hl⟩:=I.loc;refine⟨m,ns m hn,λ i x v e1 e2 e3=>?_⟩
  obtain⟨u,r,l⟩:=hl i x v e1 e2 e3;refine⟨u,r,?_⟩;rcases l with l | ⟨k,c,e,z⟩
  ·exact .inl l
  ·exact .inr ⟨k,c,e,cellK x c e _ z⟩
 ·obtain⟨v,z⟩:=I.cell x c e;exact⟨v,cellK x c e v z⟩
 ·obtain⟨m,⟨o,_,_,ho,_⟩,_⟩:=I.loc;exact free _ o (λ z=>(hch _ z).2.1 rfl) ho I.free
 ·obtain⟨v,o,ho,hd⟩:=I.cell x c e;exact free c o (λ z=>(hch c z).2.2.1 x c e rfl) ho (I.freeC x c e)
 ·obtain⟨e,n,ne,nf,d⟩:=I.pin p hp;have nch:p.1 ∉ ch:=λ z=>(hch p.1 z).2.2.2 p hp rfl
  exact⟨keep p.1 p.2 ne nf nch e n,free p.1 p.2 nch e n,ne,nf,d⟩
theorem Inv.un{t':Nat}(I:Inv X aA σ H s)(u:Un X.fs [] H H' s.heap h')(hok:cE X.prog X.w H' h'):Inv X aA σ H' {s with heap:=h',toks:=t' }:=by
 obtain⟨m,⟨o,es,ep,ho,r⟩,_⟩:=id I.loc;obtain⟨sl,hL⟩:=u.any ho I.free (by simp)
 exact I.step (g':=s.gens) (d':=s.drawn) (ch:=[]) (λ _ z=>nomatch z) (λ b o _ hb _ e n=>u.keep b o e n hb (by simp)) (λ b o _ hb _ e n=>u.slot b o e n hb (by simp)) (λ b o _ e n=>u.free b o e n (by simp)) (λ b o _ e=>u.there b o e (by simp)) u.tups u.frzs u.tbls (λ m' hm=>by
  obtain⟨o',es',ep',ho',r'⟩:=hm;rw[ho] at ho';cases ho';exact⟨_,es',ep',hL,r'⟩) hok I.bare
theorem Inv.call{g':Array GenState}{t':Nat}{d':Drawn}{ch:List qv}(I:Inv X aA σ H s)(u:Un (cQ X.stack) ch H H' s.heap h')(hok:cE X.prog X.w H' h')(hg:AllBare g')
 (hch:∀ b∈ch,(b∈X.ex\/X.s₀.heap.objs.size<=b)/\b≠X.env.locals/\(∀ x c,X.env.cells.lookup x=qq c->c≠b)/\∀ p∈X.pn++aA,p.1≠b) :
 Inv X aA σ H' {s with heap:=h',gens:=g',drawn:=d',toks:=t' }:=by
 obtain⟨m,⟨o,es,ep,ho,r⟩,_⟩:=id I.loc;obtain⟨sl,hL⟩:=u.any ho I.free λ z=>(hch _ z).2.1 rfl
 exact I.step (ch:=ch) hch (λ b o hL hb hc e n=>u.keep b o e n (λ z=>(List.mem_cons.mp (I.stkSub b z)).elim hL hb) hc) (λ b o _ _ hc e n=>u.any e n hc) (λ b o hc e n=>u.free b o e n hc) (λ b o hc e=>u.there b o e hc) u.tups u.frzs u.tbls (λ m' hm=>by
  obtain⟨o',es',ep',ho',r'⟩:=hm;rw[ho] at ho';cases ho';exact⟨_,es',ep',hL,r'⟩) hok hg
theorem Inv.turned{t':Nat}{it:qv}(I:Inv X aA σ H s)(k:∀ b o,b≠it->s.heap.get? b=qq o->h'.get? b=qq o)(hn:H it=qz)(hL:it≠X.env.locals)
 (h1:it∈X.ex\/X.s₀.heap.objs.size<=it) (h2:∀ x c,X.env.cells.lookup x=qq c->c≠it) (h3:∀ p∈X.pn++aA,p.1≠it):Inv X aA σ H {s with heap:=h',toks:=t' }:=by
 have nit:∀ b u,H b=qq u->b≠it:=λ b u e z=>by rw[z,hn] at e;cases e
 refine I.step (g':=s.gens) (d':=s.drawn) (ch:=[it]) (λ b hb=>?_) (λ b o _ _ hc e _=>k b o (λ z=>hc (by simp[z])) e) (λ b o _ _ hc e _=>⟨o.slots,k b o (λ z=>hc (by simp[z])) e⟩) (λ _ _ _ _ n=>n)
  (λ b o hc e=>⟨o,k b o (λ z=>hc (by simp[z])) e⟩) (λ _ _ e=>e) (λ _ _ _ e=>e) (λ b ps e=>⟨#[],by rw[e];simp⟩) (λ m hm=>?_) (λ b u e=>?_) I.bare
 ·have e:b=it:=by simpa using hb
  subst e;exact⟨h1,hL,h2,h3⟩
 ·obtain⟨o,es,ep,ho,r⟩:=hm;exact⟨o,es,ep,k _ o (Ne.symm hL) ho,r⟩
 ·refine(I.hok b u e).stay (λ c v hc q=>k c v ?_ q) (λ _ q=>q) λ _ _ q=>q
  rcases hc with z | z
  ·rw[z];exact nit b u e
  ·exact nit c _ z
theorem Inv.tok(I:Inv X aA σ H s)(t:Nat):Inv X aA σ H {s with toks:=t }:=I.un (h':=s.heap) (t':=t) Un.refl I.hok
theorem Inv.kept{t':Nat}(I:Inv X aA σ H s)(k:∀ b u,s.heap.get? b=qq u->h'.get? b=qq u):Inv X aA σ H {s with heap:=h',toks:=t' }:=I.un (Un.kept k) (I.hok.kept k)
theorem Inv.laid{a:qv}{o:HO}{t':Nat}(I:Inv X aA σ H s)(k:∀ b u,s.heap.get? b=qq u->h'.get? b=qq u)(hp:s.heap.objs.size<=a)(new:eD X.prog X.w (aT H a o) h' a o) :
 Inv X aA σ (aT H a o) {s with heap:=h',toks:=t' }:=I.un (Un.laid k hp (I.hok.fresh hp)) (I.hok.laid k hp new)
theorem Inv.write{x e:qv}{o:HO}{t':Nat}(I:Inv X aA σ H s)(mu:uQ (H x))(he:e=x\/H e=qq (.own x))(k:∀ b u,b≠e->s.heap.get? b=qq u->h'.get? b=qq u)(heo:∃ u,h'.get? e=qq u)
 (new:eD X.prog X.w (aT H x o) h' x o):Inv X aA σ (aT H x o) {s with heap:=h',toks:=t' }:=I.un (Un.write mu he k heo) (I.hok.write mu he k heo new)
theorem Inv.weak{σ':List (Option V)}(I:Inv X aA σ H s)(hl:σ'.length=σ.length)(w:∀ (i:Nat) v,σ'[i]? = qq (qq v)->σ[i]? = qq (qq v)):Inv X aA σ' H s:=
 ⟨I.ok,I.os,I.bare,I.base,let ⟨m,hn,hl'⟩:=I.loc;⟨m,hn,λ i x v e1 e2 e3=>hl' i x v e1 (w i v e2) e3⟩,I.cell,I.free,I.freeC,I.pin,I.hok,hl.trans I.len⟩
theorem Inv.pins_of{pins':List (qv×Obj)}(I:Inv X aA σ H s)(h:∀ p∈pins',s.heap.get? p.1=qq p.2/\H p.1=qz/\p.1≠X.env.locals/\p.1 ∉ X.fs/\∀ v,p.2.data≠.cell v):Inv X pins' σ H s:=
 ⟨I.ok,I.os,I.bare,I.base,I.loc,I.cell,I.free,I.freeC,λ p hp=>(List.mem_append.mp hp).elim (λ z=>I.pin p (yDs _ z)) (h p),I.hok,I.len⟩
theorem wT{N:List Str}(hN:N.Nodup){i j:Nat}{x:Str}(a:N[i]? = qq x)(b:N[j]? = qq x):i=j:=by
 obtain⟨h1,e1⟩:=gIm a;obtain⟨h2,e2⟩:=gIm b;exact(yEh hN).mp (e1.trans e2.symm)
theorem aFz{M:Model}{A:zx}{E:qx->qj->Prop}{i:Nat}{x:Str}{v:V}{u:qx}{Q:Unit->qj->Prop}(I:Inv X aA σ H s)(hN:X.N.Nodup)(hi:X.N[i]? = qq x)(hx:Loc X.env.scope x)(r:aP v u)
 (h:∀ s',Inv X aA (σ.set i (qq v)) H s'->(∃ a,yEj a s.heap s'.heap/\(a=X.env.locals\/X.env.cells.lookup x=qq a))->Q () s') (hf:X.fn x=true\/X.env.scope.names.lookup x=qq .local:=by first | exact .inl rfl | exact .inr rfl | assumption):qu M A (storeName X.env x u) Q E s:=by
 obtain⟨m,hn,hl⟩:=id I.loc;have hcls:(X.env.scope.kind==.class||(X.env.scope.kind==.module&&X.env.locals != X.env.globals))=false:=by rw[I.ok.kind];rfl
 have hiσ:i<σ.length:=by rw[I.len];exact(gIm hi).1
 have cne:=I.cne;have tracked:∀ {a:qv}{h':Heap},(∃ o,s.heap.get? a=qq o/\H a=qz)->yEj a s.heap h'->cE X.prog X.w H h':=λ {a h'} ha hs b ob e=>by
  obtain⟨_,_,hfree⟩:=ha;refine(I.hok b ob e).stay (λ c w' hc q=>(hs.2 c ?_).trans q) (λ _ q=>q) λ _ _ q=>q
  rintro rfl;rcases hc with rfl | hc
  ·rw[hfree] at e;cases e
  ·rw[hfree] at hc;cases hc
 rcases hx with hk | hk
 ·refine wpAny_storeName_local hk hn (λ h' hn' hs=>?_) hcls
  obtain⟨oL,_,_,hoL,_⟩:=id hn;refine h _ ⟨I.ok,I.os,I.bare,⟨λ b o e n hb hx=>?_,λ b o e n hb hx=>?_,I.base.free,λ b o e hx=>?_,I.base.tups,I.base.frzs,I.base.tbls⟩,⟨_,hn',λ j y v' e1 e2 e3=>?_⟩,λ y c e=>?_,I.free,I.freeC,λ p hp=>?_,tracked ⟨oL,hoL,I.free⟩ hs,by simpa using I.len⟩ ⟨_,hs,.inl rfl⟩
  ·exact(hs.2 b (xAh (xAc (xAa e) I.ok.above))).trans (I.base.keep b o e n hb hx)
  ·obtain⟨sl,e1⟩:=I.base.slot b o e n hb hx;exact⟨sl,(hs.2 b (xAh (xAc (xAa e) I.ok.above))).trans e1⟩
  ·obtain⟨o',e1⟩:=I.base.there b o e hx;exact⟨o',(hs.2 b (xAh (xAc (xAa e) I.ok.above))).trans e1⟩
  ·by_cases hj:j=i
   ·subst hj;rw[hi] at e1;cases e1;rw[yAl hiσ] at e2;cases e2;exact⟨u,r,.inl ⟨hk,by simp⟩⟩
   ·rw[yAj (Ne.symm hj)] at e2;obtain⟨u',r',q⟩:=hl j y v' e1 e2 e3;refine⟨u',r',?_⟩;rcases q with ⟨k,e⟩ | ⟨k,c,e,z⟩
    ·refine .inl ⟨k,?_⟩;have:y≠x:=λ e=>hj (wT hN e1 (e▸hi))
     simp[this,e]
    ·exact .inr ⟨k,c,e,z.sameBut hs (cne y c e)⟩
  ·obtain⟨w',z⟩:=I.cell y c e;exact⟨w',z.sameBut hs (cne y c e)⟩
  ·obtain⟨e,n,ne,nf,d⟩:=I.pin p hp;exact⟨(hs.2 p.1 ne).trans e,n,ne,nf,d⟩
 ·have hfn:X.fn x=true:=by
   rcases hf with z | z
   ·exact z
   ·rw[z] at hk;cases hk
  obtain⟨c,hc⟩:=I.ok.has x (.inl hk);obtain⟨w',z⟩:=I.cell x c hc;refine wpAny_storeName_cell I.ok.kind hk hc z (λ h' hc' hs=>?_)
  obtain⟨oc,hoc,hocd⟩:=id z;refine h {s with heap:=h' } ⟨I.ok,I.os,I.bare,⟨λ b o e n hb hx=>?_,λ b o e n hb hx=>?_,I.base.free,λ b o e hx=>?_,I.base.tups,I.base.frzs,I.base.tbls⟩,⟨m,hn.sameBut hs (Ne.symm (cne x c hc)),λ j y v' e1 e2 e3=>?_⟩,λ y c' e=>?_,I.free,I.freeC,λ p hp=>?_,tracked ⟨oc,hoc,I.freeC x c hc⟩ hs,by simpa using I.len⟩ ⟨c,hs,.inr hc⟩
  ·exact(hs.2 b (xAh (xAc (xAa e) (I.ok.cab x c hfn hc)))).trans (I.base.keep b o e n hb hx)
  ·obtain⟨sl,e1⟩:=I.base.slot b o e n hb hx;exact⟨sl,(hs.2 b (xAh (xAc (xAa e) (I.ok.cab x c hfn hc)))).trans e1⟩
  ·obtain⟨o',e1⟩:=I.base.there b o e hx;exact⟨o',(hs.2 b (xAh (xAc (xAa e) (I.ok.cab x c hfn hc)))).trans e1⟩
  ·by_cases hj:j=i
   ·subst hj;rw[hi] at e1;cases e1;rw[yAl hiσ] at e2;cases e2;exact⟨u,r,.inr ⟨.inl hk,c,hc,hc'⟩⟩
   ·rw[yAj (Ne.symm hj)] at e2;obtain⟨u',r',q⟩:=hl j y v' e1 e2 e3;refine⟨u',r',?_⟩;rcases q with q | ⟨k,c',e,z'⟩
    ·exact .inl q
    ·refine .inr ⟨k,c',e,z'.sameBut hs ?_⟩;rintro rfl;exact hj (wT hN e1 (I.ok.inj _ _ _ e hc▸hi))
  ·by_cases hcc:c'=c
   ·subst hcc;exact⟨_,hc'⟩
   ·obtain⟨w2,z2⟩:=I.cell y c' e;exact⟨w2,z2.sameBut hs hcc⟩
  ·obtain⟨e,n,ne,nf,d⟩:=I.pin p hp;refine⟨(hs.2 p.1 ?_).trans e,n,ne,nf,d⟩;intro q;rw[q,hoc] at e;have q':oc=p.2:=Option.some.inj e;exact d w' (by rw[<- q'];exact hocd)
theorem wQ{M:Model}{A:zx}{E:qx->qj->Prop}{i:Nat}{x:Str}{v:V}{u:qx}{Q:Unit->qj->Prop}(I:Inv X aA σ H s)(hN:X.N.Nodup)(hi:X.N[i]? = qq x)(hx:Loc X.env.scope x)(r:aP v u)
 (h:∀ s',Inv X aA (σ.set i (qq v)) H s'->Q () s') (hf:X.fn x=true\/X.env.scope.names.lookup x=qq .local:=by first | exact .inl rfl | exact .inr rfl | assumption):qu M A (storeName X.env x u) Q E s:=
 aFz I hN hi hx r (λ s' I' _=>h s' I') hf
theorem Inv.call'{s':qj}{ch:List qv}(I:Inv X aA σ H s)(ho:s'.os=s.os)(u:Un (cQ X.stack) ch H H' s.heap s'.heap)(hok:cE X.prog X.w H' s'.heap)(hg:AllBare s'.gens)
 (hch:∀ b∈ch,(b∈X.ex\/X.s₀.heap.objs.size<=b)/\b≠X.env.locals/\(∀ x c,X.env.cells.lookup x=qq c->c≠b)/\∀ p∈X.pn++aA,p.1≠b):Inv X aA σ H' s':=by
 obtain⟨h',g',d',t',o'⟩:=s';have e:o'=s.os:=ho;subst e;exact I.call (g':=g') (t':=t') (d':=d') u hok hg hch
end
abbrev XK:=qx->Option qv->Hp->Prop
abbrev St:=List (Option V)
abbrev VK:=V->Hp->Prop
abbrev TE:=St->Hp->VK->Prop
abbrev TT:=St->Hp->(Bool->Hp->Prop)->Prop
abbrev TA:=St->Hp->(List V->Hp->Prop)->Prop
structure Ends where
 nx:St->Hp->Prop
 rt:VK
 bk:St->Hp->Prop:=λ _ _=>False
 ct:St->Hp->Prop:=λ _ _=>False
abbrev TS:=Ends->St->Hp->Prop
def EP(X:Cx)(aA:List (qv×Obj))(σ:St)(Q:VK)(u:qx)(s':qj):Prop:=∃ v H',Inv X aA σ H' s'/\aP v u/\Q v H'
def TP(X:Cx)(aA:List (qv×Obj))(σ:St)(Q:Bool->Hp->Prop)(b:Bool)(s':qj):Prop:=∃ H',Inv X aA σ H' s'/\Q b H'
def AP(X:Cx)(aA:List (qv×Obj))(σ:St)(Q:List V->Hp->Prop)(us:List qx)(s':qj):Prop:=∃ vs H',Inv X aA σ H' s'/\aM vs us/\Q vs H'
def SP(X:Cx)(aA:List (qv×Obj))(D:Ends)(f:Flow)(s':qj):Prop:=
 match f with
 | .next=>∃ σ' H',Inv X aA σ' H' s'/\D.nx σ' H'
 | .brk=>∃ σ' H',Inv X aA σ' H' s'/\D.bk σ' H'
 | .cont=>∃ σ' H',Inv X aA σ' H' s'/\D.ct σ' H'
 | .ret u=>∃ v σ' H',Inv X aA σ' H' s'/\aP v u/\D.rt v H'
def PE(X:Cx)(e:qw)(t:TE):Prop:=
 ∀ (aA:List (qv×Obj)) (s:qj) (σ:St) (H:Hp) (Q:VK),Inv X aA σ H s->t σ H Q->qu (model X.prog X.w) X.A (eval e X.env) (EP X aA σ Q) X.xe s
def PT(X:Cx)(e:qw)(t:TT):Prop:=
 ∀ (aA:List (qv×Obj)) (s:qj) (σ:St) (H:Hp) (Q:Bool->Hp->Prop),Inv X aA σ H s->t σ H Q->qu (model X.prog X.w) X.A (isTrue e X.env (eval e X.env)) (TP X aA σ Q) X.xe s
def PW(X:Cx)(e:qw)(t:TT):Prop:=
 ∀ (dG:Sem qx) (aA:List (qv×Obj)) (s:qj) (σ:St) (H:Hp) (Q:Bool->Hp->Prop),Inv X aA σ H s->t σ H Q->qu (model X.prog X.w) X.A (isTrue e X.env dG) (TP X aA σ Q) X.xe s
theorem PW.pt{X:Cx}{e:qw}{t:TT}(h:PW X e t):PT X e t:=h _
def PA(X:Cx)(es:List qw)(t:TA):Prop:=
 ∀ (pos:Pos) (aA:List (qv×Obj)) (s:qj) (σ:St) (H:Hp) (Q:List V->Hp->Prop),Inv X aA σ H s->t σ H Q->qu (model X.prog X.w) X.A (spliced (backTo pos (zj es X.env))) (AP X aA σ Q) X.xe s
def PS(X:Cx)(st:zy)(t:TS):Prop:=
 ∀ (aA:List (qv×Obj)) (s:qj) (σ:St) (H:Hp) (D:Ends),Inv X aA σ H s->t D σ H->qu (model X.prog X.w) X.A (exec st X.env) (SP X aA D) X.xe s
def bI(X:Cx)(st:List zy)(t:TS):Prop:=
 ∀ (aA:List (qv×Obj)) (s:qj) (σ:St) (H:Hp) (D:Ends),Inv X aA σ H s->t D σ H->qu (model X.prog X.w) X.A (execs st X.env) (SP X aA D) X.xe s
theorem aY{α:Type}{t:Sem α}{Q Q':α->qj->Prop}{M:Model}{A:zx}{E:qx->qj->Prop}{s:qj}(h:qu M A t Q E s)(hQ:∀ a s,Q a s->Q' a s):qu M A t Q' E s:=wpAny_mono h hQ λ _ _ x=>x
end L2
namespace L2
open PySem PySem.Spec PyProof.Rows
section
variable {X : Cx}
theorem bin{a b:qw}{ta tb:TE}(ha:PE X a ta)(hb:PE X b tb){aA:List (qv×Obj)}{s:qj}{σ:St}{H:Hp}{R:V->V->Hp->Prop}(I:Inv X aA σ H s)(h:ta σ H λ x H1=>tb σ H1 λ y H2=>R x y H2)
 {α:Type}{Q:α->qj->Prop}{f:qx->qx->Sem α}
 (hf:∀ v u s2 x y H2,Inv X aA σ H2 s2->aP x v->aP y u->R x y H2->qu (model X.prog X.w) X.A (f v u) Q X.xe s2) :
 qu (model X.prog X.w) X.A (eval a X.env) (λ v s₁=>qu (model X.prog X.w) X.A (eval b X.env) (λ u s₂=>qu (model X.prog X.w) X.A (f v u) Q X.xe s₂) X.xe s₁) X.xe s:=by
 refine aY (ha aA s σ H _ I h) λ v s1 hPq0=>?_
 obtain⟨x,H1,I1,r1,q1⟩:=hPq0;refine aY (hb aA s1 σ H1 _ I1 q1) λ u s2 hPq1=>?_
 obtain⟨y,H2,I2,r2,q2⟩:=hPq1;exact hf v u s2 x y H2 I2 r1 r2 q2
def aL0(i:Nat):TE:=λ σ H Q=>∃ v,σ[i]? = qq (qq v)/\Q v H
def tC(v:V):TE:=λ _ H Q=>Q v H
theorem xY{i:Nat}{x:Str}{pos:Pos}(hN:X.N[i]? = qq x)(hv:kC X.env.scope x)(hd:(x==("__debug__" : Str))=false:=by decide)(hcd:(x==("__classdict__" : Str))=false:=by decide):PE X (.Name x pos) (aL0 i):=by
 intro aA s σ H Q I h;obtain⟨v,e,h⟩:=h;obtain⟨m,hn,hl⟩:=I.loc;obtain⟨u,r,l⟩:=hl i x v hN e hv;have bB:EP X aA σ Q u s:=⟨v,H,I,r,h⟩;rcases l with ⟨hk,hm⟩ | ⟨hk,c,hc,hcell⟩
 ·exact wpAny_Name (wpAny_loadName_local I.ok.kind hk hn hm bB) hd
 ·rcases hk with hk | hk
  ·exact wpAny_Name (wpAny_loadName_cell I.ok.kind hk hc hcell bB) hd
  ·exact wpAny_Name (wpAny_loadName_free I.ok.kind hk hc hcell bB hcd) hd
theorem aJi{i j pos}:PE X (.Constant (.int i) j pos) (tC (.int i)):=λ _ _ _ H _ I h=>wpAny_Constant_int ⟨.int i,H,I.tok _,⟨_,rfl⟩,h⟩
theorem aKq{b j pos}:PE X (.Constant (.bool b) j pos) (tC (.bl b)):=λ _ _ _ H _ I h=>Constant_bool ⟨.bl b,H,I,rfl,h⟩
theorem aJK{j pos}:PE X (.Constant .none j pos) (tC .non):=λ _ _ _ H _ I h=>Constant_none ⟨.non,H,I,rfl,h⟩
theorem aCN{x j pos}:PE X (.Constant (.str x) j pos) (tC (.str x)):=λ _ _ _ H _ I h=>Calls.Constant_str ⟨.str x,H,I.tok _,⟨_,rfl⟩,h⟩
def Gl(X:Cx)(x:Str):Prop:=X.env.kindOf x=qq .globalImplicit
theorem jN{E:qx->qj->Prop}{aA:List (qv×Obj)}{s:qj}{σ:St}{H:Hp}{x:Str}{u:qx}{pos:Pos}{Q:qx->qj->Prop}(I:Inv X aA σ H s)(hg:Gl X x)(hm:X.mg x=qq u)(h:Q u s)
 (hd:(x==("__debug__" : Str))=false:=by decide):qu (model X.prog X.w) X.A (eval (.Name x pos) X.env) Q E s:=
 Calls.Name_function_global I.ok.kind hg (Calls.loadGlobal_global (by rw[I.ok.glob];exact I.mod.glob.keeps I.bk) hm h) hd
theorem sJ{E:qx->qj->Prop}{aA:List (qv×Obj)}{s:qj}{σ:St}{H:Hp}{x:Str}{u:qx}{pos:Pos}{Q:qx->qj->Prop}(I:Inv X aA σ H s)(hg:Gl X x)(hm:X.mg x=qz)(hv:zk x=qq u)(h:Q u s)
 (hn:x ≠ "__name__":=by decide) (hd:(x==("__debug__" : Str))=false:=by decide):qu (model X.prog X.w) X.A (eval (.Name x pos) X.env) Q E s:=by
 obtain⟨mb,h1,h2⟩:=I.mod.blt;exact Calls.Name_function_global I.ok.kind hg (Calls.loadGlobal_builtin (by rw[I.ok.glob];exact I.mod.glob.keeps I.bk) hm (by rw[I.ok.blt];exact h1.keeps I.bk) ((h2 x hn).trans hv) h) hd
theorem xT{x:Str}{v:V}{u:qx}{pos:Pos}(hg:Gl X x)(hm:X.mg x=qq u)(r:aP v u)(hd:(x==("__debug__" : Str))=false:=by decide):PE X (.Name x pos) (tC v):=
 λ _ _ _ H _ I h=>jN I hg hm ⟨v,H,I,r,h⟩ hd
theorem aCu{x:Str}{v:V}{u:qx}{pos:Pos}(hg:Gl X x)(hm:X.mg x=qz)(hv:zk x=qq u)(r:aP v u)(hn:x ≠ "__name__":=by decide)(hd:(x==("__debug__" : Str))=false:=by decide):PE X (.Name x pos) (tC v):=
 λ _ _ _ H _ I h=>sJ I hg hm hv ⟨v,H,I,r,h⟩ hn hd
variable {a b : qw}{ta tb : TE}{pos : Pos}
variable {tA tB' : TT}{bG : List qw}
def aD2(t u:TT):TT:=λ σ H Q=>t σ H λ c H1=>if c=true then u σ H1 Q else Q false H1
def tOr(t u:TT):TT:=λ σ H Q=>t σ H λ c H1=>if c=true then Q true H1 else u σ H1 Q
def aLz(t:TT):TT:=λ σ H Q=>t σ H λ c H1=>Q (!c) H1
theorem aHk(ha:PT X a tA):PW X (.BoolOp .And [a] pos) tA:=by
 intro wh aA s σ H Q I h;refine isTrue_and (aY (ha aA s σ H Q I h) λ c s1 e=>?_)
 cases c with
 | true=>exact isTrue_and_nil e
 | false=>exact e
theorem aI1(ha:PT X a tA):PW X (.BoolOp .Or [a] pos) tA:=by
 intro wh aA s σ H Q I h;refine isTrue_or (aY (ha aA s σ H Q I h) λ c s1 e=>?_)
 cases c with
 | false=>exact isTrue_or_nil e
 | true=>exact e
theorem aCE(ha:PT X a tA)(hb:PW X (.BoolOp .And (b::bG) pos) tB'):PW X (.BoolOp .And (a::b::bG) pos) (aD2 tA tB'):=by
 intro wh aA s σ H Q I h;refine isTrue_and (aY (ha aA s σ H _ I h) λ c s1 hPq2=>?_)
 obtain⟨H1,I1,q1⟩:=hPq2;cases c with
 | true=>exact hb wh aA s1 σ H1 Q I1 q1
 | false=>exact⟨H1,I1,q1⟩
theorem aDs(ha:PT X a tA)(hb:PW X (.BoolOp .Or (b::bG) pos) tB'):PW X (.BoolOp .Or (a::b::bG) pos) (tOr tA tB'):=by
 intro wh aA s σ H Q I h;refine isTrue_or (aY (ha aA s σ H _ I h) λ c s1 hPq3=>?_)
 obtain⟨H1,I1,q1⟩:=hPq3;cases c with
 | true=>exact⟨H1,I1,q1⟩
 | false=>exact hb wh aA s1 σ H1 Q I1 q1
theorem aIy(ha:PT X a tA):PT X (.UnaryOp .Not a pos) (aLz tA):=by
 intro aA s σ H Q I h;exact isTrue_not (ha aA s σ H (λ c H1=>Q (!c) H1) I h)
def aDI(ta tb:TE):TE:=λ σ H Q=>ta σ H λ x H1=>∃ c,x=.bl c/\if c=true then tb σ H1 Q else Q (.bl false) H1
def aD8(ta tb:TE):TE:=λ σ H Q=>ta σ H λ x H1=>∃ c,x=.bl c/\if c=true then Q (.bl true) H1 else tb σ H1 Q
def aKU(ta:TE):TE:=λ σ H Q=>ta σ H λ x H1=>∃ c,x=.bl c/\Q (.bl (!c)) H1
theorem yB{op}{t:TE}(h:PE X a t):PE X (.BoolOp op [a] pos) t:=λ aA s σ H Q I hw=>BoolOp_one (h aA s σ H Q I hw)
theorem sN(ha:PE X a ta)(hb:PE X (.BoolOp .And (b::bG) pos) tb):PE X (.BoolOp .And (a::b::bG) pos) (aDI ta tb):=by
 intro aA s σ H Q I h;refine BoolOp_and (aY (ha aA s σ H _ I h) λ v s1 hPq4=>?_)
 obtain⟨x,H1,I1,r1,q1⟩:=hPq4;obtain⟨c,rfl,q1⟩:=q1;cases r1;refine jz ?_;cases c with
 | true=>exact hb aA s1 σ H1 Q I1 q1
 | false=>exact⟨.bl false,H1,I1,rfl,q1⟩
theorem aDb(ha:PE X a ta)(hb:PE X (.BoolOp .Or (b::bG) pos) tb):PE X (.BoolOp .Or (a::b::bG) pos) (aD8 ta tb):=by
 intro aA s σ H Q I h;refine BoolOp_or (aY (ha aA s σ H _ I h) λ v s1 hPq5=>?_)
 obtain⟨x,H1,I1,r1,q1⟩:=hPq5;obtain⟨c,rfl,q1⟩:=q1;cases r1;refine jz ?_;cases c with
 | false=>exact hb aA s1 σ H1 Q I1 q1
 | true=>exact⟨.bl true,H1,I1,rfl,q1⟩
theorem aHX(ha:PE X a ta):PE X (.UnaryOp .Not a pos) (aKU ta):=by
 intro aA s σ H Q I h;refine UnaryOp_ (aY (ha aA s σ H _ I h) λ v s1 hPq6=>?_)
 obtain⟨x,H1,I1,r1,q1⟩:=hPq6;obtain⟨c,rfl,q1⟩:=q1;cases r1;exact not_of (jz ⟨.bl (!c),H1,I1,rfl,q1⟩)
end
end L2
namespace L2
open PySem PySem.Spec PyProof.Rows
def bK(K:FrG)(H:Hp)(a:qv)(xs:List V):Prop:=
 Rd H a (.lst xs) \/
  ∃ (o:Obj) (aC:Array qx) (n:Nat),K.lookup a=qq o/\o.cls=.type "list" /\ o.dict=qz/\o.data=.seq aC n/\aC.size<=qk/\aM xs aC.toList
def bR(K:FrG)(H:Hp)(a:qv)(xs:List V):Prop:=
 Rd H a (.tup xs) \/
  ∃ (o:Obj) (aC:Array qx) (n:Nat),K.lookup a=qq o/\o.cls=.type "tuple" /\ o.data=.seq aC n/\aC.size<=qk/\aM xs aC.toList
noncomputable def aLG:qx->Option V
 | .none=>qq .non
 | .bool b=>qq (.bl b)
 | .int i _=>qq (.int i)
 | .str x _=>qq (.str x)
 | .bytes b _=>qq (.byt b)
 | .float b _=>qq (.flt b)
 | .ref a=>qq (.ref a)
 | .type n=>qq (.ty n)
 | _=>qz
theorem aP.abs{x:V}{u:qx}(r:aP x u):aLG u=qq x:=by
 cases x with
 | non=>cases r;rfl
 | bl _=>cases r;rfl
 | int _=>obtain⟨t,rfl⟩:=r;rfl
 | str _=>obtain⟨t,rfl⟩:=r;rfl
 | byt _=>obtain⟨t,rfl⟩:=r;rfl
 | flt _=>obtain⟨t,rfl⟩:=r;rfl
 | ref _=>cases r;rfl
 | ty _=>cases r;rfl
theorem aP.inj{x y:V}{u:qx}(r:aP x u)(q:aP y u):x=y:=Option.some.inj (r.abs.symm.trans q.abs)
theorem aM.inj:∀ {xs ys:List V}{us:List qx},aM xs us->aM ys us->xs=ys
 | _,_,_,.nil,.nil=>rfl
 | _,_,_,.cons r t,.cons r' t'=>by rw[r.inj r',aM.inj t t']
section
variable {X : Cx}{aA : List (qv×Obj)}{σ : St}{H : Hp}{s : qj}{a : qv}{xs ys : List V}
theorem bK.of{K:FrG}(h:H a=qq (.lst xs)):bK K H a xs:=.inl (.inl h)
theorem bR.of{K:FrG}(h:H a=qq (.tup xs)):bR K H a xs:=.inl (.inl h)
theorem Inv.list(I:Inv X aA σ H s)(h:bK X.K H a xs):∃ aC:List qx,aM xs aC/\PlainL s.heap a aC.toArray/\xs.length<=qk:=by
 rcases h with h | ⟨o,aC,n,hk,hc,hd,hs,hz,r⟩
 ·obtain⟨z,aC,n,r,e⟩:=h.ok I.hok;exact⟨aC,r,⟨_,n,e,rfl,rfl,rfl⟩,z⟩
 ·refine⟨aC.toList,r,⟨o,n,I.kIn a o hk,hc,hd,by simpa using hs⟩,?_⟩
  have e:=r.length;simp only[yCg] at e;omega
theorem Inv.tuple(I:Inv X aA σ H s)(h:bR X.K H a xs):∃ aC:List qx,aM xs aC/\IsTup s.heap a aC.toArray/\xs.length<=qk:=by
 rcases h with h | ⟨o,aC,n,hk,hc,hs,hz,r⟩
 ·obtain⟨z,aC,r,p⟩:=h.ok I.hok;exact⟨aC,r,p,z⟩
 ·refine⟨aC.toList,r,⟨o,I.kIn a o hk,hc,n,by simpa using hs⟩,?_⟩
  have e:=r.length;simp only[yCg] at e;omega
theorem Inv.list_inj(I:Inv X aA σ H s)(h:bK X.K H a xs)(h':bK X.K H a ys):xs=ys:=by
 obtain⟨aC,r,⟨o,n,e,_,_,d⟩,_⟩:=I.list h;obtain⟨its',r',⟨o',n',e',_,_,d'⟩,_⟩:=I.list h';rw[e] at e';cases e';rw[d] at d';injection d' with d1 _
 have:aC=its':=by simpa using congrArg Array.toList d1
 subst this;exact r.inj r'
theorem Inv.tuple_inj(I:Inv X aA σ H s)(h:bR X.K H a xs)(h':bR X.K H a ys):xs=ys:=by
 obtain⟨aC,r,⟨o,e,_,n,d⟩,_⟩:=I.tuple h;obtain⟨its',r',⟨o',e',_,n',d'⟩,_⟩:=I.tuple h';rw[e] at e';cases e';rw[d] at d';injection d' with d1 _
 have:aC=its':=by simpa using congrArg Array.toList d1
 subst this;exact r.inj r'
end
noncomputable abbrev Cx.wish(X:Cx)(E:qx->qj->Prop):Cx:={X with xe:=E }
noncomputable abbrev Cx.nox(X:Cx):Cx:=X.wish λ _ _=>False
theorem Cx.Ok.wish{X:Cx}(ok:X.Ok)(E:qx->qj->Prop):(X.wish E).Ok:=
 ⟨ok.mod,ok.kind,ok.glob,ok.blt,ok.above,ok.inj,ok.has,ok.cab,ok.hd,ok.frames,ok.stk,ok.exf,ok.bs,ok.bsz,ok.noex,ok.exfs,ok.funs,ok.frf⟩
theorem Cx.Ok.unwish{X:Cx}{E:qx->qj->Prop}(ok:(X.wish E).Ok):X.Ok:=
 ⟨ok.mod,ok.kind,ok.glob,ok.blt,ok.above,ok.inj,ok.has,ok.cab,ok.hd,ok.frames,ok.stk,ok.exf,ok.bs,ok.bsz,ok.noex,ok.exfs,ok.funs,ok.frf⟩
section
variable {X : Cx}{aA : List (qv×Obj)}{σ : St}{H : Hp}{s : qj}{E : qx -> qj -> Prop}
theorem Inv.wish(I:Inv X aA σ H s)(E:qx->qj->Prop):Inv (X.wish E) aA σ H s:=⟨I.ok.wish E,I.os,I.bare,I.base,I.loc,I.cell,I.free,I.freeC,I.pin,I.hok,I.len⟩
theorem Inv.unwish(I:Inv (X.wish E) aA σ H s):Inv X aA σ H s:=⟨I.ok.unwish,I.os,I.bare,I.base,I.loc,I.cell,I.free,I.freeC,I.pin,I.hok,I.len⟩
theorem SP.unwish{D:Ends}{f:Flow}{s':qj}(h:SP (X.wish E) aA D f s'):SP X aA D f s':=by
 cases f with
 | next=>obtain⟨σ',H',I,q⟩:=h;exact⟨σ',H',I.unwish,q⟩
 | brk=>obtain⟨σ',H',I,q⟩:=h;exact⟨σ',H',I.unwish,q⟩
 | cont=>obtain⟨σ',H',I,q⟩:=h;exact⟨σ',H',I.unwish,q⟩
 | ret u=>obtain⟨v,σ',H',I,r,q⟩:=h;exact⟨v,σ',H',I.unwish,r,q⟩
theorem PE.nox{e:qw}{t:TE}(h:PE X.nox e t):PE X e t:=λ aA s σ H Q I hw =>
 wpAny_mono (h aA s σ H Q (I.wish _) hw) (λ _ _ hPr0=>by obtain⟨v,H',I',r,q⟩:=hPr0;exact⟨v,H',I'.unwish,r,q⟩) λ _ _ z=>False.elim z
theorem PT.nox{e:qw}{t:TT}(h:PT X.nox e t):PT X e t:=λ aA s σ H Q I hw =>
 wpAny_mono (h aA s σ H Q (I.wish _) hw) (λ _ _ hPr1=>by obtain⟨H',I',q⟩:=hPr1;exact⟨H',I'.unwish,q⟩) λ _ _ z=>False.elim z
theorem bI.nox{st:List zy}{t:TS}(h:bI X.nox st t):bI X st t:=λ aA s σ H D I hw =>
 wpAny_mono (h aA s σ H D (I.wish _) hw) (λ _ _ q=>q.unwish) λ _ _ z=>False.elim z
end
section
variable {X : Cx}{st : zy}{bG : List zy}{t u : TS}{e : qw}{te : TE}{pos : Pos}
def aKt:TS:=λ D σ H=>D.nx σ H
def aLF(t u:TS):TS:=λ D σ H=>t {D with nx:=u D } σ H
theorem xR:bI X [] aKt:=λ _ _ σ H _ I h=>wpAny_execs_nil ⟨σ,H,I,h⟩
theorem wS(h1:PS X st t)(h2:bI X bG u):bI X (st::bG) (aLF t u):=by
 intro aA s σ H D I h;refine wpAny_execs_cons (aY (h1 aA s σ H {D with nx:=u D } I h) λ f s1 q=>?_)
 cases f with
 | next =>
   obtain⟨σ',H',I',q⟩:=q;exact h2 aA s1 σ' H' D I' q
 | ret v=>exact q
 | brk=>exact q
 | cont=>exact q
theorem Inv.quiet{aA:List (qv×Obj)}{σ:St}{H:Hp}{s:qj}(I:Inv X aA σ H s):interactive X.env=false:=by simp[interactive,I.ok.kind]
def aKf(te:TE):TS:=λ D σ H=>te σ H λ _ H1=>D.nx σ H1
theorem aCq(he:PE X e te)(hs:swapsWith e qz pos.line X.env=pure false:=by rfl):PS X (.Expr e pos) (aKf te):=by
 intro aA s σ H D I h;exact wpAny_Expr_any (aY (he aA s σ H _ I h) λ v s1 ⟨x,H1,I1,r1,q1⟩=>⟨σ,H1,I1,q1⟩) I.quiet hs
def aLC(te:TE):TS:=λ D σ H=>te σ H D.rt
theorem aJj(he:PE X e te):PS X (.Return (qq e) pos) (aLC te):=by
 intro aA s σ H D I h;exact wpAny_Return_some (aY (he aA s σ H _ I h) λ v s1 ⟨x,H1,I1,r1,q1⟩=>⟨x,σ,H1,I1,r1,q1⟩)
def aLU(c:TT)(t u:TS):TS:=λ D σ H=>c σ H λ b H1=>if b=true then t D σ H1 else u D σ H1
theorem aDl{c:qw}{a b:List zy}{tc:TT}(hc:PT X c tc)(ha:bI X a t)(hb:bI X b u):PS X (.If c a b pos) (aLU tc t u):=by
 intro aA s σ H D I h;refine wpAny_If (aY (hc aA s σ H _ I h) λ d s1 hPq7=>?_)
 obtain⟨H1,I1,q1⟩:=hPq7;cases d with
 | true=>exact ha aA s1 σ H1 D I1 q1
 | false=>exact hb aA s1 σ H1 D I1 q1
end
abbrev TG:=V->St->Hp->(St->Hp->Prop)->Prop
abbrev fU:=List V->St->Hp->(St->Hp->Prop)->Prop
def PG(X:Cx)(target:qw)(t:TG):Prop:=
 ∀ (aA:List (qv×Obj)) (s:qj) (σ:St) (H:Hp) (v:V) (u:qx) (Q:St->Hp->Prop),Inv X aA σ H s->aP v u->t v σ H Q ->
  qu (model X.prog X.w) X.A (assign target X.env u) (λ _ s'=>∃ σ' H',Inv X aA σ' H' s'/\Q σ' H') X.xe s
def mB(X:Cx)(ts:List qw)(t:fU):Prop:=
 ∀ (aA:List (qv×Obj)) (s:qj) (σ:St) (H:Hp) (vs:List V) (us:List qx) (Q:St->Hp->Prop),Inv X aA σ H s->aM vs us->t vs σ H Q ->
  qu (model X.prog X.w) X.A (assignInOrder ((xq ts X.env).map (·.2)) us) (λ _ s'=>∃ σ' H',Inv X aA σ' H' s'/\Q σ' H') X.xe s
abbrev aAh:=V->V->V->Hp->(Hp->Prop)->Prop
def aDU(X:Cx)(t:aAh):Prop:=
 ∀ (aA:List (qv×Obj)) (s:qj) (σ:St) (H:Hp) (o i v:V) (ov iv u:qx) (Q:Hp->Prop),Inv X aA σ H s->aP o ov->aP i iv->aP v u->t o i v H Q ->
  qu (model X.prog X.w) X.A (setItem ov iv u) (λ _ s'=>∃ H',Inv X aA σ H' s'/\Q H') X.xe s
section
variable {X : Cx}{pos : Pos}
def kN(i:Nat):TG:=λ v σ H Q=>Q (σ.set i (qq v)) H
theorem xL{i:Nat}{x:Str}(hN:X.N.Nodup)(hi:X.N[i]? = qq x)(hx:Loc X.env.scope x)(hf:X.fn x=true\/X.env.scope.names.lookup x=qq .local:=by first | exact .inl rfl | exact .inr rfl | assumption):PG X (.Name x pos) (kN i):=by
 intro aA s σ H v u Q I r h;exact wpAny_assign_Name (wQ I hN hi hx r (λ s' I'=>⟨_,H,I',h⟩) hf)
noncomputable def zQ:fU:=λ vs σ H Q=>vs=[]/\Q σ H
noncomputable def yS(t:TG)(u:fU):fU:=λ vs σ H Q=>∃ v r,vs=v::r/\t v σ H λ σ' H'=>u r σ' H' Q
theorem aHe:mB X [] zQ:=by
 intro aA s σ H vs us Q I r h;obtain⟨e,h⟩:=h;subst e;cases r;exact assignInOrder_nil ⟨σ,H,I,h⟩
theorem aGn{e:qw}{es:List qw}{t:TG}{u:fU}(h1:PG X e t)(h2:mB X es u)
 (hs:(xq (e::es) X.env).map (·.2)=assign e X.env::(xq es X.env).map (·.2):=by rfl):mB X (e::es) (yS t u):=by
 intro aA s σ H vs us Q I r h;obtain⟨v,vr,e1,h⟩:=h;subst e1;cases r with
 | cons r rr =>
   rw[hs];refine assignInOrder_cons (aY (h1 aA s σ H _ _ _ I r h) λ _ s1 hPq8=>?_)
   obtain⟨σ1,H1,I1,q1⟩:=hPq8;exact h2 aA s1 σ1 H1 _ _ Q I1 rr q1
def aLL(K:FrG)(n:Nat)(t:fU):TG:=λ v σ H Q=>∃ a xs,v=.ref a/\bR K H a xs/\xs.length=n/\t xs σ H Q
theorem aJy{es:List qw}{k:Nat}{t:fU}{n:Nat}(hc:X.calm=true)(h:mB X es t)
 (hn:(xq es X.env).length=n:=by rfl) (eY:(xq es X.env).findIdx? (·.1)=qz:=by rfl):PG X (.Tuple es k pos) (aLL X.K n t):=by
 intro aA s σ H v u Q I r hw;obtain⟨a,xs,e1,hq,hl,hw⟩:=hw;subst e1;cases r;obtain⟨aC,rv,ht,hz⟩:=I.tuple hq;refine assign_Tuple_tuple (I.ok.hd hc) ht (by simp[hn,<- hl,rv.length]) eY λ h' hx=>?_
 have I1:Inv X aA σ H {s with heap:=h' }:=I.kept (t':=s.toks) λ b o e=>hx b o (xAh (xAa e)) e
 exact h aA _ σ H xs _ Q I1 (by simpa using rv) hw
def aDV(to ti:TE)(t:aAh):TG:=λ v σ H Q=>to σ H λ o H1=>ti σ H1 λ i H2=>t o i v H2 λ H3=>Q σ H3
theorem aJM{o i:qw}{to ti:TE}{t:aAh}(ho:PE X o to)(hi:PE X i ti)(hs:aDU X t)
 (ha:∀ v,assign (.Subscript o i pos) X.env v=(do
   let ov <- holding [v] (eval o X.env)
   let iv <- holding [v,ov] (eval i X.env)
   standAt pos
   holding [v,ov,iv] (setItem ov iv v)
   release [v,ov,iv] []):=by intro _;rfl):PG X (.Subscript o i pos) (aDV to ti t):=by
 intro aA s σ H v u Q I r h;rw[ha];refine wB (zo (aY (ho aA s σ H _ I h) λ ov s1 hPq9=>?_))
 obtain⟨x,H1,I1,r1,q1⟩:=hPq9;refine wB (zo (aY (hi aA s1 σ H1 _ I1 q1) λ iv s2 hPq10=>?_))
 obtain⟨y,H2,I2,r2,q2⟩:=hPq10;refine wB (ju (wB (zo (aY (hs aA s2 σ H2 x y v ov iv u _ I2 r1 r2 r q2) λ _ s3 hPq11=>?_))))
 obtain⟨H3,I3,q3⟩:=hPq11;exact wpAny_release ⟨σ,H3,I3,q3⟩
def qP(te:TE)(g:TG):TS:=λ D σ H=>te σ H λ x H1=>g x σ H1 D.nx
theorem aCz{tg e:qw}{te:TE}{g:TG}(he:PE X e te)(hg:PG X tg g)(hs:swapsWithSole [tg] e pos.line X.env=pure false:=by rfl)(hw:wq [tg] e X.env=pure qz:=by rfl)
 (h1:(xq [tg] X.env).map (·.2)=[assign tg X.env]:=by rfl):PS X (.Assign [tg] e pos) (qP te g):=by
 intro aA s σ H D I h;refine wpAny_Assign_stores (aY (he aA s σ H _ I h) λ v s1 hPq12=>?_) hs hw
 obtain⟨x,H1,I1,r1,q1⟩:=hPq12;rw[h1];exact aY (hg aA s1 σ H1 x v _ I1 r1 q1) λ _ s2 q=>q
theorem aCP{i:Nat}{x:Str}{e:qw}{te:TE}{pos':Pos}(hN:X.N.Nodup)(hi:X.N[i]? = qq x)(hx:Loc X.env.scope x)(he:PE X e te)(hs:swapsWith e (qq (.Name x pos')) pos.line X.env=pure false:=by rfl)(hf:X.fn x=true\/X.env.scope.names.lookup x=qq .local:=by first | exact .inl rfl | exact .inr rfl | assumption) :
 PS X (.Assign [.Name x pos'] e pos) (qP te (kN i)):=by
 intro aA s σ H D I h;refine wpAny_Assign_Name (aY (he aA s σ H _ I h) λ v s1 hPq13=>?_) hs
 obtain⟨y,H1,I1,r1,q1⟩:=hPq13;exact wQ I1 hN hi hx r1 (λ s2 I2=>⟨_,H1,I2,q1⟩) hf
end
section
variable {X : Cx}{pos : Pos}
end
structure It where
 go:Nat->Hp->Prop
 yld:Nat->Hp->V->Hp->Prop
 stop:Nat->Hp->Prop
def fQ(X:Cx)(aA:List (qv×Obj))(H:Hp)(b:qv):Prop:=
 H b=qz/\b≠X.env.locals/\b ∉ X.fs/\(b∈X.ex\/X.s₀.heap.objs.size<=b)/\(∀ x c,X.env.cells.lookup x=qq c->c≠b)/\∀ p∈X.pn++aA,p.1≠b
theorem Inv.fpOk{X:Cx}{aA:List (qv×Obj)}{σ:St}{H H':Hp}{s:qj}{b:qv}(I:Inv X aA σ H s)(hb:s.heap.objs.size<=b)(hn:H' b=qz):fQ X aA H' b:=by
 refine⟨hn,Nat.ne_of_gt (xAc I.lt hb),I.nofs hb,.inr (xAg I.sz hb),λ x c e z=>?_,λ p hp z=>?_⟩
 ·obtain⟨v,q⟩:=I.cell x c e;exact absurd (xAc q.lt (by rw[z];exact hb)) (yBb _)
 ·exact absurd (xAc (xAa (I.pin p hp).1) (by rw[z];exact hb)) (yBb _)
structure Turn(P:qo)(w:zq)(K:FrG)(tg:qw)(J:It)(fp:List qv)(it:qv)(tn:Nat->Heap->Prop):Prop where
 mem:it∈fp
 obj:∀ i h,tn i h->∀ b∈fp,∃ o,h.get? b=qq o/\∀ v,o.data≠.cell v
 keep:∀ i h h',tn i h->(∀ b∈fp,∀ o,h.get? b=qq o->h'.get? b=qq o)->tn i h'
 item:∀ (X:Cx),X.prog=P->X.w=w->X.K=K->X.calm=true->∀ (i:Nat) (aA:List (qv×Obj)) (s:qj) (σ:St) (H:Hp) (E:qx->qj->Prop),Inv X aA σ H s->(∀ b∈fp,fQ X aA H b)->tn i s.heap->J.go i H ->
  qu (model P w) X.A (pyNext (.ref it)) (λ r s1=>∃ u,r=qq u /\
   qu (model P w) X.A (vy tg (.ref it) u) (λ _ s2=>∃ x H',Inv X aA σ H' s2/\aP x u/\J.yld i H x H'/\tn (i+1) s2.heap/\∀ b∈fp,H' b=qz) E s1) E s
 done:∀ (X:Cx),X.prog=P->X.w=w->X.K=K->X.calm=true->∀ (i:Nat) (aA:List (qv×Obj)) (s:qj) (σ:St) (H:Hp) (E:qx->qj->Prop),Inv X aA σ H s->(∀ b∈fp,fQ X aA H b)->tn i s.heap->J.stop i H ->
  qu (model P w) X.A (pyNext (.ref it)) (λ r s1=>r=qz/\Inv X aA σ H s1) E s
 self:∀ (A:zx) (i:Nat) (s:qj) (Q:qx->qj->Prop) (E:qx->qj->Prop),tn i s.heap->Q (.ref it) s->qu (model P w) A (pyIter (.ref it)) Q E s
abbrev TI:=St->Hp->(It->Hp->Prop)->Prop
def PIE(X:Cx)(aA:List (qv×Obj))(σ:St)(tg:qw)(R:It->Hp->Prop)(itv:qx)(s2:qj):Prop:=
 ∃ (it:qv) (fp:List qv) (tn:Nat->Heap->Prop) (J:It) (H':Hp),itv=.ref it/\Inv X aA σ H' s2/\Turn X.prog X.w X.K tg J fp it tn/\tn 0 s2.heap/\(∀ b∈fp,fQ X aA H' b)/\R J H'
def PI(X:Cx)(tg iter:qw)(wi:TI):Prop:=
 ∀ (aA:List (qv×Obj)) (s:qj) (σ:St) (H:Hp) (R:It->Hp->Prop),Inv X aA σ H s->wi σ H R ->
  qu (model X.prog X.w) X.A (eval iter X.env) (λ v s1=>qu (model X.prog X.w) X.A (pyIter v) (PIE X aA σ tg R) X.xe s1) X.xe s
theorem zA{M:Model}{A:zx}{E:qx->qj->Prop}{s:qj}{tg:qw}{it:qv}{u:qx}{o:Obj}{n:String}{vs:Array qx}{Q:Unit->qj->Prop}(ho:s.heap.get? it=qq o)(hc:o.cls=.type n)(hd:o.data=.fields vs)
 (hn:["enumerate", "zip", "dict_itemiterator", "dict_reverseitemiterator", "odict_iterator", "itertools.zip_longest", "itertools.pairwise"].contains n=false) (hQ:Q () s):qu M A (vy tg (.ref it) u) Q E s:=by
 unfold vy;cases tg<;>first
  | exact wP hQ
  | (cases u<;>first
      | exact wP hQ
      | (refine wB (wpAny_load ho ?_)
         rw[hc,hd];show qu M A (if (["enumerate", "zip", "dict_itemiterator", "dict_reverseitemiterator", "odict_iterator", "itertools.zip_longest", "itertools.pairwise"].contains n&&vs[0]?==qq (jj _))=true then _ else _) Q E s
         rw[if_neg (by intro h;rw[hn,yEa] at h;cases h)]
         exact wP hQ))
noncomputable def Itl(K:FrG)(a:qv):It:=
 ⟨λ i H=>∃ xs x,bK K H a xs/\xs[i]? = qq x,λ i H x H'=>H'=H/\∀ xs,bK K H a xs->xs[i]? = qq x,λ i H=>∃ xs,bK K H a xs/\xs.length<=i⟩
noncomputable def Itt(K:FrG)(a:qv):It:=
 ⟨λ i H=>∃ xs x,bR K H a xs/\xs[i]? = qq x,λ i H x H'=>H'=H/\∀ xs,bR K H a xs->xs[i]? = qq x,λ i H=>∃ xs,bR K H a xs/\xs.length<=i⟩
noncomputable def uY(lo:Int)(n:Nat):It:=⟨λ i _=>i<n,λ i H x H'=>H'=H/\x=.int (lo+i),λ i _=>n<=i⟩
theorem aFK{P:qo}{w:zq}{K:FrG}{tg:qw}(a it:qv):Turn P w K tg (Itl K a) [it] it (λ i h=>h.IsListIter it a i) where
 mem:=by simp
 obj:=λ i h st b hb=>by
  have e:b=it:=by simpa using hb
  subst e;obtain⟨o,e,c,d⟩:=st;exact⟨o,e,λ v z=>by rw[d] at z;cases z⟩
 keep:=λ i h h' st k=>st.at λ o e=>k it (by simp) o e
 item:=by
  intro X hP hw hK hc i aA s σ H E I hf st hg;subst hP hw hK;obtain⟨xs,x,hq,hx⟩:=hg;obtain⟨aC,rv,p,hz⟩:=I.list hq;obtain⟨u,hu,ru⟩:=rv.get hx;obtain⟨f0,f1,f2,f3,f4,f5⟩:=hf it (by simp)
  refine vj st p.isList (x:=u) (by simpa using hu) λ h' st' sb=>?_
  have I1:Inv X aA σ H {s with heap:=h' }:=I.turned (t':=s.toks) (λ b o hb e=>(sb.2 b hb).trans e) f0 f1 f3 f4 f5
  obtain⟨o,e,c,d⟩:=id st';exact⟨u,rfl,zA (s:={s with heap:=h' }) e c d (by decide) ⟨x,H,I1,ru,⟨rfl,λ ys hy=>by rw[I.list_inj hy hq];exact hx⟩,st',λ b hb=>(hf b hb).1⟩⟩
 done:=by
  intro X hP hw hK hc i aA s σ H E I hf st hg;subst hP hw hK;obtain⟨xs,hq,hx⟩:=hg;obtain⟨aC,rv,p,hz⟩:=I.list hq;obtain⟨f0,f1,f2,f3,f4,f5⟩:=hf it (by simp)
  have hl:=rv.length;exact vv (I.ok.hd hc) st p.isList (by simp;omega) λ h' eb=>⟨rfl,I.turned (t':=s.toks) (λ b o hb e=>eb b o hb e) f0 f1 f3 f4 f5⟩
 self:=λ _ _ _ _ _ st h=>wpAny_pyIter_listiter st h
theorem aE9{P:qo}{w:zq}{K:FrG}{tg:qw}(a it:qv):Turn P w K tg (Itt K a) [it] it (λ i h=>h.IsTupleIter it a i) where
 mem:=by simp
 obj:=λ i h st b hb=>by
  have e:b=it:=by simpa using hb
  subst e;obtain⟨o,e,c,d⟩:=st;exact⟨o,e,λ v z=>by rw[d] at z;cases z⟩
 keep:=λ i h h' st k=>st.at λ o e=>k it (by simp) o e
 item:=by
  intro X hP hw hK hc i aA s σ H E I hf st hg;subst hP hw hK;obtain⟨xs,x,hq,hx⟩:=hg;obtain⟨aC,rv,p,hz⟩:=I.tuple hq;obtain⟨u,hu,ru⟩:=rv.get hx;obtain⟨f0,f1,f2,f3,f4,f5⟩:=hf it (by simp)
  refine wpAny_pyNext_tuple_item st (show s.heap.IsTuple a aC.toArray from p) (x:=u) (by simpa using hu) λ h' st' sb=>?_
  have I1:Inv X aA σ H {s with heap:=h' }:=I.turned (t':=s.toks) (λ b o hb e=>(sb.2 b hb).trans e) f0 f1 f3 f4 f5
  obtain⟨o,e,c,d⟩:=id st';exact⟨u,rfl,zA (s:={s with heap:=h' }) e c d (by decide) ⟨x,H,I1,ru,⟨rfl,λ ys hy=>by rw[I.tuple_inj hy hq];exact hx⟩,st',λ b hb=>(hf b hb).1⟩⟩
 done:=by
  intro X hP hw hK hc i aA s σ H E I hf st hg;subst hP hw hK;obtain⟨xs,hq,hx⟩:=hg;obtain⟨aC,rv,p,hz⟩:=I.tuple hq;obtain⟨f0,f1,f2,f3,f4,f5⟩:=hf it (by simp)
  have hl:=rv.length;exact wpAny_pyNext_tuple_end (I.ok.hd hc) st (show s.heap.IsTuple a aC.toArray from p) (by simp;omega) λ h' eb=>⟨rfl,I.turned (t':=s.toks) (λ b o hb e=>eb b o hb e) f0 f1 f3 f4 f5⟩
 self:=λ _ _ _ _ _ st h=>wpAny_pyIter_tupleiter st h
theorem aFo{P:qo}{w:zq}{K:FrG}{tg:qw}(it:qv)(lo:Int)(n:Nat):Turn P w K tg (uY lo n) [it] it (λ i h=>IsRangeIter h it (lo+(i:Nat)*1) ((n:Int)-(i:Nat)) 1) where
 mem:=by simp
 obj:=λ i h st b hb=>by
  have e:b=it:=by simpa using hb
  subst e;exact⟨_,st,λ v z=>by
   have z':Data.fields _=Data.cell v:=z;cases z'⟩
 keep:=λ i h h' st k=>k it (by simp) _ st
 item:=by
  intro X hP hw hK hc i aA s σ H E I hf st hg;subst hP hw hK;obtain⟨f0,f1,f2,f3,f4,f5⟩:=hf it (by simp)
  have W:=Walks.range (prog:=X.prog) (w:=X.w) (I.ok.hd hc) it lo 1 n;refine W.item i s _ _ hg st λ v h' tk hv st' kk=>?_
  obtain⟨t,rfl⟩:=hv;have I1:Inv X aA σ H {s with heap:=h',toks:=tk }:=I.turned (λ b o hb e=>kk b o (by simpa using hb) e) f0 f1 f3 f4 f5
  refine⟨_,rfl,zA (s:={s with heap:=h',toks:=tk }) (n:="range_iterator") st' rfl rfl (by decide) ⟨.int (lo+i),H,I1,⟨t,?_⟩,⟨rfl,rfl⟩,st',λ b hb=>(hf b hb).1⟩⟩
  rw[Int.mul_one]
 done:=by
  intro X hP hw hK hc i aA s σ H E I hf st hg;subst hP hw hK;obtain⟨f0,f1,f2,f3,f4,f5⟩:=hf it (by simp)
  exact wpAny_pyNext_range_end (I.ok.hd hc) st (by have:n<=i:=hg;omega) λ h' eb=>⟨rfl,I.turned (t':=s.toks) (λ b o hb e=>eb b o hb e) f0 f1 f3 f4 f5⟩
 self:=λ _ _ _ _ _ st h=>wpAny_pyIter_rangeiter st h
end L2
namespace L2
open PySem PySem.Spec PyProof.Rows
section
variable {X : Cx}{tg : qw}
def aKy(K:FrG)(tl:TE):TI:=λ σ H R=>tl σ H λ x H1=>∃ a,x=.ref a/\(∃ xs,bK K H1 a xs)/\R (Itl K a) H1
def aLl(K:FrG)(tl:TE):TI:=λ σ H R=>tl σ H λ x H1=>∃ a,x=.ref a/\(∃ xs,bR K H1 a xs)/\R (Itt K a) H1
theorem aG4{l:qw}{tl:TE}(hl:PE X l tl):PI X tg l (aKy X.K tl):=by
 intro aA s σ H R I h;refine aY (hl aA s σ H _ I h) λ v s1 hPq14=>?_
 obtain⟨x,H1,I1,r1,q1⟩:=hPq14;obtain⟨a,e,⟨xs,hq⟩,q⟩:=q1;subst e;cases r1;obtain⟨aC,rv,p,hz⟩:=I1.list hq;refine jw p.isList ?_;refine⟨s1.heap.objs.size,[s1.heap.objs.size],_,_,H1,rfl,I1.kept (t':=s1.toks) λ b o e=>hpS _ e,aFK a _,⟨_,xAe _ rfl,rfl,rfl⟩,λ b hb=>?_,q⟩
 have e:b=s1.heap.objs.size:=by simpa using hb
 subst e;exact I1.fpOk (yAc _) (I1.hok.fresh (yAc _))
theorem aJE{l:qw}{tl:TE}(hl:PE X l tl):PI X tg l (aLl X.K tl):=by
 intro aA s σ H R I h;refine aY (hl aA s σ H _ I h) λ v s1 hPq15=>?_
 obtain⟨x,H1,I1,r1,q1⟩:=hPq15;obtain⟨a,e,⟨xs,hq⟩,q⟩:=q1;subst e;cases r1;obtain⟨aC,rv,p,hz⟩:=I1.tuple hq;refine wpAny_pyIter_tuple (show s1.heap.IsTuple a aC.toArray from p) ?_
 refine⟨s1.heap.objs.size,[s1.heap.objs.size],_,_,H1,rfl,I1.kept (t':=s1.toks) λ b o e=>hpS _ e,aE9 a _,⟨_,xAe _ rfl,rfl,rfl⟩,λ b hb=>?_,q⟩
 have e:b=s1.heap.objs.size:=by simpa using hb
 subst e;exact I1.fpOk (yAc _) (I1.hok.fresh (yAc _))
theorem aF6{aA:List (qv×Obj)}{σ:St}{H:Hp}{s:qj}{R:It->Hp->Prop}{E:qx->qj->Prop}{lo hi:Int}{t u v:Tok}{tk:Nat}(I:Inv X aA σ H s)(h1 : -(2^62)<=lo)(h2:lo<2^62)(h3 : -(2^62)<=hi)(h4:hi<2^62)
 (q:R (uY lo (hi-lo).toNat) H):qu (model X.prog X.w) X.A (pyIter (.ref s.heap.objs.size)) (PIE X aA σ tg R) E {s with heap:=s.heap.push {cls:=.type "range",data:=.fields #[.int lo t,.int hi u,.int 1 v] },toks:=tk }:=by
 refine wpAny_pyIter_range (IsRange.new ..) (small_one h1 h2 h3 h4) ?_;have I1:Inv X aA σ H {s with heap:=s.heap.push {cls:=.type "range",data:=.fields #[.int lo t,.int hi u,.int 1 v] },toks:=tk }:=I.kept λ b o e=>hpS _ e
 refine⟨(s.heap.push {cls:=.type "range",data:=.fields #[.int lo t,.int hi u,.int 1 v] }).objs.size,[(s.heap.push {cls:=.type "range",data:=.fields #[.int lo t,.int hi u,.int 1 v] }).objs.size],_,_,H,rfl,
  I1.kept (t':=tk) λ b o e=>hpS _ e,aFo _ lo (hi-lo).toNat,?_,λ b hb=>?_,q⟩
 ·have e1:lo+((0:Nat):Int)*1=lo:=by simp
  have e2:(((hi-lo).toNat:Nat):Int)-((0:Nat):Int)=Builtin.Range.rangeSize lo hi 1:=by rw[rangeSize_one];split<;>omega
  show IsRangeIter _ _ (lo+((0:Nat):Int)*1) ((((hi-lo).toNat:Nat):Int)-((0:Nat):Int)) 1;rw[e1,e2];exact xAe _ rfl
 ·have e:b=(s.heap.push {cls:=.type "range",data:=.fields #[.int lo t,.int hi u,.int 1 v] }).objs.size:=by simpa using hb
  subst e;exact I1.fpOk (yAc _) (I1.hok.fresh (yAc _))
def aDv(ta:TA):TI:=λ σ H R=>ta σ H λ vs H1=>∃ j:Int,vs=[.int j] /\ -(2^62)<=j/\j<2^62/\R (uY 0 j.toNat) H1
theorem aFE{a:qw}{ta:TA}{p pos:Pos}(hg:Gl X "range")(hm:X.mg "range" = qz)(ha:PA X [a] ta)(hs:zj [a] X.env=[(false,eval a X.env)]:=by rfl):PI X tg (.Call (.Name "range" p) [a] [] pos) (aDv ta):=by
 intro aA s σ H R I h;refine Call_ (sJ I hg hm boot_range (yDu (aY (ha pos aA s σ H _ I h) λ us s1 hPq16=>?_) hs rfl))
 obtain⟨vs,H1,I1,r1,q1⟩:=hPq16;obtain⟨j,e,q1,q2,q⟩:=q1;subst e;cases r1 with
 | cons r rr =>
   cases rr;obtain⟨t,rfl⟩:=r;exact call_range_1 (aF6 I1 (by omega) (by omega) q1 q2 (by simpa using q))
def aLp(wi:TI)(g:TG)(tb:TS):TS:=λ D σ H=>wi σ H λ J H1=>∃ W:Nat->Nat->St->Hp->Prop,(∃ m,W 0 m σ H1)/\∀ i m σ H,W i m σ H ->
 (J.stop i H/\D.nx σ H)\/(J.go i H/\∃ N:St->Hp->Prop,(∀ σ' H',N σ' H'->∃ m',m'<m/\W (i+1) m' σ' H')/\∀ x H',J.yld i H x H'->g x σ H' λ σ2 H2=>tb {D with nx:=N,ct:=N,bk:=D.nx } σ2 H2)
noncomputable def pH(fp:List qv)(h:Heap):List (qv×Obj):=fp.filterMap λ b=>(h.get? b).map λ o=>(b,o)
theorem oK{fp:List qv}{h:Heap}{b:qv}{o:Obj}(hb:b∈fp)(e:h.get? b=qq o):(b,o)∈pH fp h:=List.mem_filterMap.mpr ⟨b,hb,by rw[e];rfl⟩
theorem aFT{fp:List qv}{h:Heap}{p:qv×Obj}(hp:p∈pH fp h):p.1∈fp/\h.get? p.1=qq p.2:=by
 obtain⟨b,hb,e⟩:=List.mem_filterMap.mp hp;cases q:h.get? b with
 | none=>rw[q] at e;cases e
 | some o =>
   rw[q] at e;have e':(b,o)=p:=Option.some.inj e;subst e';exact⟨hb,q⟩
theorem Inv.pinned{aA:List (qv×Obj)}{σ:St}{H:Hp}{s:qj}{fp:List qv}(I:Inv X aA σ H s)(hf:∀ b∈fp,fQ X aA H b)(ho:∀ b∈fp,∃ o,s.heap.get? b=qq o/\∀ v,o.data≠.cell v):Inv X (aA++pH fp s.heap) σ H s:=
 I.pins_of λ p hp=>(List.mem_append.mp hp).elim (λ z=>I.pin p (xAl _ z)) λ z=>by
  obtain⟨hb,e⟩:=aFT z;obtain⟨f0,f1,f2,_⟩:=hf p.1 hb;obtain⟨o,e',d⟩:=ho p.1 hb;rw[e] at e';cases e';exact⟨e,f0,f1,f2,d⟩
theorem Inv.unpinned{aA pl:List (qv×Obj)}{σ:St}{H:Hp}{s:qj}(I:Inv X (aA++pl) σ H s):Inv X aA σ H s:=I.pins_of λ p hp=>I.pin p (xAl _ (yDs _ hp))
theorem aCM{iter:qw}{body:List zy}{wi:TI}{g:TG}{tb:TS}{pos:Pos}(hp:PassesOwn (model X.prog X.w) X.A X.env X.xe)(hc:X.calm=true)(hi:PI X tg iter wi)(hg:PG X tg g)(hb:bI X body tb)
 (hs:∀ x,xy iter X.env x=pure x:=by intro _;rfl):PS X (.For tg iter body [] pos) (aLp wi g tb):=by
 intro aA s σ H D I h;refine wpAny_For (aY (hi aA s σ H _ I h) λ v s1 h1=>aY h1 λ itv s2 h2=>?_) hs
 obtain⟨it,fp,tn,J,H2,e,I2,T,st2,f2,W,⟨m0,w0⟩,turn⟩:=h2;subst e;have stat:∀ {H':Hp},(∀ b∈fp,H' b=qz)->∀ b∈fp,fQ X aA H' b:=λ hn b hb=>⟨hn b hb,(f2 b hb).2⟩
 refine codeAny_forLoop_any (λ n s'=>∃ i σ' H',Inv X aA σ' H' s'/\tn i s'.heap/\(∀ b∈fp,H' b=qz)/\W i n σ' H') ?_ m0 ⟨0,σ,H2,I2,st2,λ b hb=>(f2 b hb).1,w0⟩
 rintro n s3 ⟨i,σ3,H3,I3,st3,fr3,w3⟩;rcases turn i n σ3 H3 w3 with ⟨stop,qn⟩ | ⟨go,N,hN,step⟩
 ·refine jo hp (aY (T.done X rfl rfl rfl hc i aA s3 σ3 H3 X.xe I3 (stat fr3) st3 stop) λ r s4 hPq17=>?_)
  obtain⟨hr,I4⟩:=hPq17;subst hr;exact wpAny_execs_nil ⟨σ3,H3,I4,qn⟩
 ·refine jo hp (aY (T.item X rfl rfl rfl hc i aA s3 σ3 H3 X.xe I3 (stat fr3) st3 go) λ r s4 hPq18=>?_)
  obtain⟨u,hr,h4⟩:=hPq18;subst hr;refine jo hp (aY h4 λ _ s5 hPq19=>?_)
  obtain⟨x,H5,I5,r5,y5,st5,fr5⟩:=hPq19;have I5':=I5.pinned (stat fr5) (T.obj _ _ st5);refine jo hp (aY (hg _ s5 σ3 H5 x u _ I5' r5 (step x H5 y5)) λ _ s6 hPq20=>?_)
  obtain⟨σ6,H6,I6,q6⟩:=hPq20;refine jo hp (aY (hb _ s6 σ6 H6 _ I6 q6) λ f s7 q7=>?_)
  have again:∀ {σ7:St}{H7:Hp},Inv X (aA++pH fp s5.heap) σ7 H7 s7->N σ7 H7->∃ m,m<n/\∃ i σ' H',Inv X aA σ' H' s7/\tn i s7.heap/\(∀ b∈fp,H' b=qz)/\W i m σ' H':=λ {σ7 H7} I7 n7=>by
   obtain⟨m',hm,w7⟩:=hN σ7 H7 n7;refine⟨m',hm,i+1,σ7,H7,I7.unpinned,T.keep _ _ _ st5 λ b hb o e=>(I7.pin (b,o) (xAl _ (xAl _ (oK hb e)))).1,λ b hb=>?_,w7⟩
   obtain⟨o,e,d⟩:=T.obj _ _ st5 b hb;exact(I7.pin (b,o) (xAl _ (xAl _ (oK hb e)))).2.1
  cases f with
  | next=>obtain⟨σ7,H7,I7,n7⟩:=q7;exact again I7 n7
  | cont=>obtain⟨σ7,H7,I7,n7⟩:=q7;exact again I7 n7
  | brk=>obtain⟨σ7,H7,I7,q7⟩:=q7;exact⟨σ7,H7,I7.unpinned,q7⟩
  | ret v=>obtain⟨x7,σ7,H7,I7,r7,q7⟩:=q7;exact⟨x7,σ7,H7,I7.unpinned,r7,q7⟩
end
end L2
namespace L2
open PySem PySem.Spec PyProof.Rows
abbrev R2:=V->V->Hp->VK->Prop
def bX(X:Cx)(f:qx->qx->Sem qx)(r:R2):Prop:=
 ∀ (aA:List (qv×Obj)) (s:qj) (σ:St) (H:Hp) (x y:V) (v u:qx) (Q:VK),Inv X aA σ H s->aP x v->aP y u->r x y H Q ->
  qu (model X.prog X.w) X.A (f v u) (EP X aA σ Q) X.xe s
def cD(X:Cx)(f:qx)(r:List V->Hp->VK->Prop):Prop:=
 ∀ (aA:List (qv×Obj)) (s:qj) (σ:St) (H:Hp) (xs:List V) (us:List qx) (Q:VK),Inv X aA σ H s->aM xs us->r xs H Q ->
  qu (model X.prog X.w) X.A (call f us) (EP X aA σ Q) X.xe s
def aLS(X:Cx)(r:V->Hp->(Bool->Hp->Prop)->Prop):Prop:=
 ∀ (aA:List (qv×Obj)) (s:qj) (σ:St) (H:Hp) (x:V) (v:qx) (Q:Bool->Hp->Prop),Inv X aA σ H s->aP x v->r x H Q ->
  qu (model X.prog X.w) X.A (truthy v) (TP X aA σ Q) X.xe s
def qY(r:R2)(ta tb:TE):TE:=λ σ H Q=>ta σ H λ x H1=>tb σ H1 λ y H2=>r x y H2 Q
noncomputable def rI(C:Int->Int->Prop)(g:Int->Int->V):R2:=λ x y H Q=>∃ i j,x=.int i/\y=.int j/\C i j/\Q (g i j) H
noncomputable def gK(g:Int->Int->V):R2:=λ x y H Q=>∃ i j,x=.int i/\y=.int j/\Q (g i j) H
section
variable {X : Cx}{a b c : qw}{ta tb tc : TE}{pos : Pos}
theorem zO(ha:PE X a ta)(hb:PE X b tb){aA:List (qv×Obj)}{s:qj}{σ:St}{H:Hp}{R:V->V->Hp->Prop}(I:Inv X aA σ H s)
 (h:ta σ H λ x H1=>tb σ H1 λ y H2=>R x y H2) {Q:qx->qj->Prop}{f:qx->qx->Sem qx}
 (hf:∀ v u s2 x y H2,Inv X aA σ H2 s2->aP x v->aP y u->R x y H2->qu (model X.prog X.w) X.A (f v u) Q X.xe s2) :
 qu (model X.prog X.w) X.A (eval a X.env) (λ v s₁=>qu (model X.prog X.w) X.A (eval b X.env) (λ u s₂=>qu (model X.prog X.w) X.A (f v u) Q X.xe s₂) X.xe s₁) X.xe s:=by
 refine aY (ha aA s σ H _ I h) λ v s1 hPq21=>?_
 obtain⟨x,H1,I1,r1,q1⟩:=hPq21;refine aY (hb aA s1 σ H1 _ I1 q1) λ u s2 hPq22=>?_
 obtain⟨y,H2,I2,r2,q2⟩:=hPq22;exact hf v u s2 x y H2 I2 r1 r2 q2
theorem aDo{op:jk}{r:R2}(ho:bX X (zu op) r)(ha:PE X a ta)(hb:PE X b tb):PE X (.BinOp a op b pos) (qY r ta tb):=by
 intro aA s σ H Q I h;exact wpAny_BinOp (zO ha hb I h λ v u s2 x y H2 I2 rx ry q=>ho aA s2 σ H2 x y v u Q I2 rx ry q)
theorem rF{f:qx->qx->Sem qx}{C:Int->Int->Prop}{g:Int->Int->Int}
 (rule:∀ (i j:Int) (t u:Tok) (s:qj) (Q:qx->qj->Prop) (E:qx->qj->Prop),C i j->Q (.int (g i j) s.toks) {s with toks:=s.toks+1 }->qu (model X.prog X.w) X.A (f (.int i t) (.int j u)) Q E s) :
 bX X f (rI C λ i j=>.int (g i j)):=by
 intro aA s σ H x y v u Q I rx ry h;obtain⟨i,j,rfl,rfl,hc,q⟩:=h;obtain⟨t,rfl⟩:=rx;obtain⟨t',rfl⟩:=ry;exact rule i j t t' s _ _ hc ⟨.int (g i j),H,I.tok _,⟨_,rfl⟩,q⟩
theorem qD{f:qx->qx->Sem qx}{g:Int->Int->Int}
 (rule:∀ (i j:Int) (t u:Tok) (s:qj) (Q:qx->qj->Prop) (E:qx->qj->Prop),Q (.int (g i j) s.toks) {s with toks:=s.toks+1 }->qu (model X.prog X.w) X.A (f (.int i t) (.int j u)) Q E s) :
 bX X f (gK λ i j=>.int (g i j)):=by
 intro aA s σ H x y v u Q I rx ry h;obtain⟨i,j,rfl,rfl,q⟩:=h;obtain⟨t,rfl⟩:=rx;obtain⟨t',rfl⟩:=ry;exact rule i j t t' s _ _ ⟨.int (g i j),H,I.tok _,⟨_,rfl⟩,q⟩
theorem uA{f:qx->qx->Sem qx}{g:Int->Int->Bool}
 (rule:∀ (i j:Int) (t u:Tok) (s:qj) (Q:qx->qj->Prop) (E:qx->qj->Prop),Q (.bool (g i j)) s->qu (model X.prog X.w) X.A (f (.int i t) (.int j u)) Q E s) :
 bX X f (gK λ i j=>.bl (g i j)):=by
 intro aA s σ H x y v u Q I rx ry h;obtain⟨i,j,rfl,rfl,q⟩:=h;obtain⟨t,rfl⟩:=rx;obtain⟨t',rfl⟩:=ry;exact rule i j t t' s _ _ ⟨.bl (g i j),H,I,rfl,q⟩
def aLE(i j:Int):Prop:=0<=j/\j<=1000000/\i.natAbs<2^64
def aD4(i j:Int):Prop:=(-(2^64)<i/\i<2^64)\/(-(2^64)<j/\j<2^64)
theorem aD4.ok{i j:Int}(h:aD4 i j):IntMulOk i j:=by
 rcases h with ⟨h1,h2⟩ | ⟨h1,h2⟩
 ·exact .of_left (intBits_le_64 h1 h2)
 ·exact .of_right (intBits_le_64 h1 h2)
theorem aE7(k:Nat):(0:Int)<=2^k:=by
 rw[two_pow_cast];exact Int.natCast_nonneg _
theorem aJv:bX X (zu .Add) (gK λ i j=>.int (i+j)):=qD λ _ _ _ _ _ _ _ q=>add_int q
theorem aJz:bX X (zu .Sub) (gK λ i j=>.int (i-j)):=qD λ _ _ _ _ _ _ _ q=>sub_int q
theorem aGV:bX X (zu .Mod) (rI (λ _ j=>j≠0) λ i j=>.int (i.fmod j)):=rF λ _ _ _ _ _ _ _ hc q=>mod_int' hc q
theorem aIj:bX X (zu .Pow) (rI aLE λ i j=>.int (i^j.toNat)):=rF λ _ _ _ _ _ _ _ hc q=>pow_int_small hc.1 hc.2.1 hc.2.2 q
theorem aI6:bX X (zu .RShift) (rI (λ _ j=>0<=j) λ i j=>.int (i/2^j.toNat)):=rF λ i j _ _ _ _ _ hc q =>
 rshift_int hc (by rw[Int.fdiv_eq_ediv_of_nonneg i (aE7 _)];exact q)
theorem aJh:bX X (zu .BitAnd) (gK λ i j=>.int (Builtin.bitAnd i j)):=qD λ _ _ _ _ _ _ _ q=>and_int q
theorem aK0:bX X (zu .BitOr) (gK λ i j=>.int (Builtin.bitOr i j)):=qD λ _ _ _ _ _ _ _ q=>or_int q
theorem aI3:bX X (zu .BitXor) (gK λ i j=>.int (Builtin.bitXor i j)):=qD λ _ _ _ _ _ _ _ q=>xor_int q
end
section
variable {X : Cx}{a b c : qw}{ta tb tc : TE}{pos : Pos}
theorem sP{aA:List (qv×Obj)}{σ:St}{H:Hp}{s:qj}{Q:VK}{k k':Bool}(I:Inv X aA σ H s)(q:Q (.bl k) H)(e:k=k'):EP X aA σ Q (.bool k') s:=by
 subst e;exact⟨.bl k,H,I,rfl,q⟩
theorem aKx:bX X (jq .Lt) (gK λ i j=>.bl (decide (i<j))):=uA λ _ _ _ _ _ _ _ q=>lt_int q
theorem aKv:bX X (jq .LtE) (gK λ i j=>.bl (decide (i<=j))):=uA λ _ _ _ _ _ _ _ q=>le_int q
theorem aJ7:bX X (jq .Gt) (gK λ i j=>.bl (decide (j<i))):=uA λ _ _ _ _ _ _ _ q=>gt_int q
theorem aK9:bX X (jq .GtE) (gK λ i j=>.bl (decide (j<=i))):=uA λ _ _ _ _ _ _ _ q=>ge_int q
theorem aJe:bX X (jq .Is) (λ x y H Q=>y=.non/\Q (.bl (decide (x=.non))) H):=by
 intro aA s σ H x y v u Q I rx ry h;obtain⟨rfl,q⟩:=h;cases ry;refine is_none_gen (sP I q ?_);cases x<;>first
  | (cases rx;rfl)
  | (obtain⟨t,rfl⟩:=rx;rfl)
theorem aGA:bX X (jq .IsNot) (λ x y H Q=>y=.non/\Q (.bl (!decide (x=.non))) H):=by
 intro aA s σ H x y v u Q I rx ry h;obtain⟨rfl,q⟩:=h;cases ry;refine isnot_none_gen (sP I q ?_);cases x<;>first
  | (cases rx;rfl)
  | (obtain⟨t,rfl⟩:=rx;rfl)
theorem bX.or{f:qx->qx->Sem qx}{r r':R2}(h:bX X f r)(h':bX X f r'):bX X f (λ x y H Q=>r x y H Q\/r' x y H Q):=by
 intro aA s σ H x y v u Q I rx ry q;rcases q with q | q
 ·exact h aA s σ H x y v u Q I rx ry q
 ·exact h' aA s σ H x y v u Q I rx ry q
theorem aMk(b:qw){op:vz}(h:op≠.In:=by decide)(h2:op≠.NotIn:=by decide):jv op b=false:=by
 have e1:(op==CmpOp.In)=false:=by cases op<;>first | rfl | exact absurd rfl h
 have e2:(op==CmpOp.NotIn)=false:=by cases op<;>first | rfl | exact absurd rfl h2
 cases b<;>simp[jv,e1,e2]
theorem aG8{op:vz}{r:R2}(ho:bX X (jq op) r)(ha:PE X a ta)(hb:PE X b tb)(hm:jv op b=false):PE X (.Compare a [op] [b] pos) (qY r ta tb):=by
 intro aA s σ H Q I h;exact wpAny_Compare1 (zO ha hb I h λ v u s2 x y H2 I2 rx ry q=>ho aA s2 σ H2 x y v u Q I2 rx ry q) hm
def aJR(t:TE):TT:=λ σ H Q=>t σ H λ x H'=>∃ k,x=.bl k/\Q k H'
theorem aGK{op:vz}{r:R2}(ho:bX X (jq op) r)(ha:PE X a ta)(hb:PE X b tb)(hm:jv op b=false):PT X (.Compare a [op] [b] pos) (aJR (qY r ta tb)):=by
 intro aA s σ H Q I h;refine wpAny_isTrue_Compare1 (aY (ha aA s σ H _ I h) λ v s1 ⟨x,H1,I1,r1,q1⟩=>aY (hb aA s1 σ H1 _ I1 q1) λ u s2 ⟨y,H2,I2,r2,q2⟩ =>
  aY (ho aA s2 σ H2 x y v u _ I2 r1 r2 q2) λ c s3 ⟨z,H3,I3,r3,k,e,q3⟩=>?_) hm
 subst e;cases r3;exact jz ⟨H3,I3,q3⟩
def aAd(K:FrG)(x:V)(H:Hp)(k:Bool):Prop:=
 match x with
 | .non=>k=false
 | .bl b=>k=b
 | .int i=>k=(i != 0)
 | .str y=>y.length<=qk/\k=((y.length:Int) != 0)
 | .byt y=>y.size<=qk/\k=((y.size:Int) != 0)
 | .ref p=>(∃ xs,bK K H p xs/\k = !xs.isEmpty)\/(∃ xs,bR K H p xs/\k = !xs.isEmpty)\/∃ aN,H p=qq (.dK aN)/\k = !aN.isEmpty
 | _=>False
theorem aFe{κ:Type}{aN:List (κ×V)}{vs:List (κ×qx)}(r:KV aN vs):(!vs.isEmpty) = !aN.isEmpty:=by
 cases r<;>rfl
theorem aA1{xs:List V}{aC:List qx}(r:aM xs aC):(!aC.toArray.isEmpty) = !xs.isEmpty:=by
 cases r<;>simp
theorem lH:(qk:Nat)<2^63:=by rw[zw];decide
theorem aJu:aLS X (λ x H Q=>∃ k,aAd X.K x H k/\Q k H):=by
 intro aA s σ H x v Q I rx h;obtain⟨k,e,q⟩:=h;have hl:=lH;have hs:qk=16777216:=zw;cases x with
 | non =>
   cases rx;have e':k=false:=e;subst e';exact truthy_none ⟨H,I,q⟩
 | bl b =>
   cases rx;have e':k=b:=e;subst e';exact jz ⟨H,I,q⟩
 | int i =>
   obtain⟨t,rfl⟩:=rx;have e':k=(i != 0):=e;subst e';exact PySem.P.truthy_int ⟨H,I,q⟩
 | str y =>
   obtain⟨t,rfl⟩:=rx;obtain⟨hy,e'⟩:y.length<=qk/\k=((y.length:Int) != 0):=e;subst e';exact PySem.P.truthy_str (by omega) ⟨H,I.tok _,q⟩
 | byt y =>
   obtain⟨t,rfl⟩:=rx;obtain⟨hy,e'⟩:y.size<=qk/\k=((y.size:Int) != 0):=e;subst e';exact PySem.W.truthy_bytes (by omega) ⟨H,I.tok _,q⟩
 | ref p =>
   cases rx;have e':(∃ xs,bK X.K H p xs/\k = !xs.isEmpty)\/(∃ xs,bR X.K H p xs/\k = !xs.isEmpty)\/∃ aN,H p=qq (.dK aN)/\k = !aN.isEmpty:=e;rcases e' with ⟨xs,hx,e'⟩ | ⟨xs,hx,e'⟩ | ⟨aN,hx,e'⟩
   ·subst e';obtain⟨aC,r,pl,hz⟩:=I.list hx;have bS:=r.length;exact wpAny_truthy_list pl.isList (by simp only[yAb];omega) ⟨H,I.tok _,by rw[aA1 r];exact q⟩
   ·subst e';obtain⟨aC,r,pl,hz⟩:=I.tuple hx;have bS:=r.length;exact truthy_tuple pl (by simp only[yAb];omega) ⟨H,I.tok _,by rw[aA1 r];exact q⟩
   ·subst e';obtain⟨hz,hS,vs,r,m⟩:aN.length<=qk/\(p==sysModules)=false/\∃ vs,KV aN vs/\s.heap.DictOf (kG X.prog X.w) p vs:=I.hok p _ hx;have bS:aN.length=vs.length:=Paired.length r;exact wpAny_truthy_dict hS m (by omega) ⟨H,I.tok _,by rw[aFe r];exact q⟩
 | _=>exact(show False from e).elim
theorem aGd(ha:PE X a ta)(he:∀ dG,isTrue a X.env dG=(do let v <- dG;standAt a.pos;holding [v] (truthy v))) :
 PT X a (λ σ H Q=>ta σ H λ x H'=>∃ k,aAd X.K x H' k/\Q k H'):=by
 intro aA s σ H Q I h;exact isTrue_plain (aY (ha aA s σ H _ I h) λ v s1 ⟨x,H1,I1,r1,q1⟩=>aJu aA s1 σ H1 x v Q I1 r1 q1) (he _)
theorem aFa:bX X (zu .Add) (λ x y H Q=>∃ i j,x=.str i/\y=.str j/\i.length+j.length<=qk/\Q (.str (i++j)) H):=by
 intro aA s σ H x y v u Q I rx ry h;obtain⟨i,j,rfl,rfl,hz,q⟩:=h;obtain⟨t,rfl⟩:=rx;obtain⟨t',rfl⟩:=ry;exact add_str (λ t' tk=>⟨.str (i++j),H,I.tok _,⟨_,rfl⟩,q⟩) hz
theorem eT{x:V}{us:List qx}(r:aM [x] us):∃ u,us=[u]/\aP x u:=by
 cases r with
 | cons r1 r2=>cases r2;exact⟨_,rfl,r1⟩
theorem pQ{x y:V}{us:List qx}(r:aM [x,y] us):∃ u w',us=[u,w']/\aP x u/\aP y w':=by
 cases r with
 | cons r1 r2 =>
   cases r2 with
   | cons r3 r4=>cases r4;exact⟨_,_,rfl,r1,r3⟩
theorem aF5:cD X (.builtin "abs") (λ xs H Q=>∃ i,xs=[.int i]/\Q (.int (if i<0 then -i else i)) H):=by
 intro aA s σ H xs us Q I r h;obtain⟨i,rfl,q⟩:=h;obtain⟨u,rfl,t,rfl⟩:=eT r;exact call_abs_int λ u tk=>⟨.int (if i<0 then -i else i),H,I.tok _,⟨_,rfl⟩,q⟩
theorem aFY(hc:X.calm=true):cD X (.builtin "max") (λ xs H Q=>∃ i j,xs=[.int i,.int j]/\Q (.int (if j>i then j else i)) H):=by
 intro aA s σ H xs us Q I r h;obtain⟨i,j,rfl,q⟩:=h;obtain⟨u,w',rfl,⟨t,rfl⟩,⟨t',rfl⟩⟩:=pQ r;refine max_two_ints (I.ok.hd hc) λ h' tk k=>⟨_,H,I.kept k,?_,q⟩
 by_cases hj:j>i
 ·rw[if_pos hj,if_pos hj];exact⟨_,rfl⟩
 ·rw[if_neg hj,if_neg hj];exact⟨_,rfl⟩
theorem aFV(hc:X.calm=true):cD X (.builtin "min") (λ xs H Q=>∃ i j,xs=[.int i,.int j]/\Q (.int (if j<i then j else i)) H):=by
 intro aA s σ H xs us Q I r h;obtain⟨i,j,rfl,q⟩:=h;obtain⟨u,w',rfl,⟨t,rfl⟩,⟨t',rfl⟩⟩:=pQ r;refine min_two_ints (I.ok.hd hc) λ h' tk k=>⟨_,H,I.kept k,?_,q⟩
 by_cases hj:j<i
 ·rw[if_pos hj,if_pos hj];exact⟨_,rfl⟩
 ·rw[if_neg hj,if_neg hj];exact⟨_,rfl⟩
theorem aBo:cD X (.type "int") (λ xs H Q=>(∃ i,xs=[.int i]/\Q (.int i) H)\/∃ k,xs=[.bl k]/\Q (.int (if k then 1 else 0)) H):=by
 intro aA s σ H xs us Q I r h;rcases h with ⟨i,rfl,q⟩ | ⟨k,rfl,q⟩
 ·obtain⟨u,rfl,t,rfl⟩:=eT r;exact call_int_int ⟨.int i,H,I,⟨_,rfl⟩,q⟩
 ·obtain⟨u,rfl,r1⟩:=eT r;cases r1;exact call_int_bool ⟨.int (if k then 1 else 0),H,I.tok _,⟨_,rfl⟩,q⟩
end
end L2
namespace L2
open PySem PySem.Spec PyProof.Rows
structure ObjM(h:Heap)(x dx C:qv)(mA:Str->Option qx):Prop where
 obj:h.get? x=qq (yBz C dx)
 ns:h.Ns1 dx mA
 ne:dx≠x
theorem aBn{h:Heap}{dx:qv}{mA:Str->Option qx}(n:h.Ns1 dx mA):∃ od,h.get? dx=qq od/\∀ name,yEr name od=qq (mA name):=by
 obtain⟨o,es,ep,ho,hd,hk,_,hm⟩:=n;refine⟨o,ho,λ name=>?_⟩
 have e:=hm name;unfold nsFind findBy at e;rw[<- Array.find?_toList] at e;unfold yEr;rw[hd];dsimp only
 split
 ·rename_i y q;rw[q] at e;exact congrArg qq e
 ·rename_i q;rw[q] at e;have a:es.toList.any (·.refKey)=false:=by
   rw[List.any_eq_false];intro y hy;obtain⟨z,t,hkey⟩:=hk y (Array.mem_toList_iff.mp hy);simp[DictEntry.refKey,hkey]
  have a':¬ es.toList.any (·.refKey)=true:=by rw[a];exact yAs
  rw[if_neg a'];exact congrArg qq e
theorem ObjM.look{h:Heap}{x dx C:qv}{mA:Str->Option qx}(I:ObjM h x dx C mA):∃ od,yBt h x (yBz C dx) C (qq od)/\∀ name,yEr name od=qq (mA name):=
 let ⟨od,ho,hl⟩:=aBn I.ns
 ⟨od,⟨I.obj,rfl,rfl,ho⟩,hl⟩
section
variable {prog : qo}{w : zq}{A : zx}{E : qx -> qj -> Prop}{s : qj}{K : FrG}{x dx C f : qv}{mA : Str -> Option qx}{name : Str}{v : qx}
end
theorem qN.some_of{v:V}{o:Option qx}(r:qN (qq v) o):∃ u,o=qq u/\aP v u:=by
 cases o with
 | none=>exact(show False from r).elim
 | some u=>exact⟨u,rfl,r⟩
section
variable {P : qo}{w : zq}{H H' : Hp}{h h' : Heap}{a C dx : qv}{fs fs' : List (Str×V)}
end
structure Cls(K:FrG)(C:qv):Prop where
 pg:PySem.W.plainGet K C Str.empty=true
 hd:PySem.W.hasDictIn K C=true
 po:PySem.W.plainOver K C=true
 sa:yDj K (.ref C) "__setattr__" = qq (qq (.builtin "object.__setattr__"))
theorem Cls.get{K:FrG}{C:qv}(c:Cls K C)(f:Str):PySem.W.plainGet K C f=true:=c.pg
structure Con(K:FrG)(C:qv)(f:Str)(v:V)(u:qx):Prop where
 at_:yDj K (.ref C) f=qq (qq u)
 rel:aP v u
 get:PySem.W.specialIn K u "__get__" = qq qz
 cp:PySem.W.copiedNames.contains f=false
structure Meth(K:FrG)(C:qv)(m:Str)(f:qv):Prop where
 at_:yDj K (.ref C) m=qq (qq (.ref f))
 fn:PySem.W.isFn K (.ref f)=true
 kp:yBg K (.ref f)=true
section
variable {X : Cx}{aA : List (qv×Obj)}{σ : St}{H : Hp}{s : qj}{a C dx : qv}{fs : List (Str×V)}{f : Str}{v : V}{A : zx}{E : qx -> qj -> Prop}
theorem Inv.made(I:Inv X aA σ H s):Inv X aA σ (aT (aT H s.heap.objs.size (.own (s.heap.objs.size+1))) (s.heap.objs.size+1) (.ins C s.heap.objs.size []))
 {s with heap:=(s.heap.push yBj).push (yBz C s.heap.objs.size) }:=by
 have e1:(s.heap.push yBj).get? s.heap.objs.size=qq yBj:=xAe s.heap rfl;have e2:((s.heap.push yBj).push (yBz C s.heap.objs.size)).get? (s.heap.objs.size+1)=qq (yBz C s.heap.objs.size):=by
  have:=xAe (s.heap.push yBj) (o:=yBz C s.heap.objs.size) rfl;rwa [Heap.size_push] at this
 have e3:(s.heap.push yBj).Ns s.heap.objs.size (λ _=>qz):=⟨yBj,#[],_,e1,rfl,(λ e he=>absurd he (by simp)),λ _=>rfl⟩
 have I1:=I.laid (a:=s.heap.objs.size) (o:=.own (s.heap.objs.size+1)) (h':=s.heap.push yBj) (t':=s.toks) (λ b u q=>hpS _ q) (yAc _) ⟨_,e1⟩
 refine I1.laid (a:=s.heap.objs.size+1) (o:=.ins C s.heap.objs.size []) (t':=s.toks) (λ b u q=>hpS _ q) (yEk (Heap.size_push _ _)) ?_
 have ne:s.heap.objs.size≠s.heap.objs.size+1:=xAh (yCu _);refine⟨by rw[aX ne,bO],yEd _,ne,e2,λ _=>qz,(Heap.Ns1.of_empty e3).at λ o q=>hpS _ q,λ _=>True.intro,λ y hy=>absurd rfl hy⟩
end
section
variable {X : Cx}{o e value : qw}{f : Str}{pos pos' tpos : Pos}{ta tv : TE}
end
section
variable {X : Cx}{aA : List (qv×Obj)}{σ : St}{H : Hp}{s : qj}{A : zx}{E : qx -> qj -> Prop}{Q : qx -> qj -> Prop}{c : qx}{b : Bool}
inductive TyOf (K:FrG) (H:Hp):V->qx->Prop where
 | non:TyOf K H .non (.type "NoneType")
 | bl (x:Bool):TyOf K H (.bl x) (.type "bool")
 | int (i:Int):TyOf K H (.int i) (.type "int")
 | str (x:Str):TyOf K H (.str x) (.type "str")
 | flt (x:UInt64):TyOf K H (.flt x) (.type "float")
 | lst {a:qv}{xs:List V} (e:H a=qq (.lst xs)):TyOf K H (.ref a) (.type "list")
 | frz {a:qv}{o:Obj}{xs:List V} (e:H a=qq (.frz o (.lst xs))):TyOf K H (.ref a) (.type "list")
 | tup {a:qv}{xs:List V} (e:H a=qq (.tup xs)):TyOf K H (.ref a) (.type "tuple")
 | dK {a:qv}{aN:List (dO×V)} (e:H a=qq (.dK aN)):TyOf K H (.ref a) (.type "dict")
 | dT {a:qv}{aN:List (List dO×V)} (e:H a=qq (.dT aN)):TyOf K H (.ref a) (.type "dict")
 | ins {a C dx:qv}{fs:List (Str×V)} (e:H a=qq (.ins C dx fs)) (cl:Cls K C) (ha:yDj K (.ref C) "__class__" = qq (qq (.builtin "object.__class__")))
    (hn:PySem.W.specialIn K (.builtin "object.__class__") "__get__" = qq (qq (.builtin "getset_descriptor.__get__"))) (htk:PySem.W.takesIn K (.builtin "object.__class__")=qq true)
    (hm:PySem.W.mroIn K C (.type "object")=qq true):TyOf K H (.ref a) (.ref C)
end
end L2
namespace L2
open PySem PySem.Spec PyProof.Rows
structure Room(k:Nat)(A:zx):Prop where
 hd:A.handled=qz
 dp:A.depth+3*k+5<recursionLimit
 un:A.units+16*k+200<cLine
theorem Room.mono{j k:Nat}{A:zx}(r:Room k A)(h:j<=k):Room j A:=⟨r.hd,by have:=r.dp;omega,by have:=r.un;omega⟩
theorem Room.deeper{k:Nat}{A:zx}(r:Room (k+1) A)(env:Env):Room k (A.deeper env):=
 ⟨r.hd,by have:=r.dp;show A.depth+1+3*k+5<_;omega,by have:=r.un;show A.units+3+16*k+200<_;omega⟩
theorem Room.in1{k:Nat}{A:zx}(r:Room (k+1) A):Room k A.in1:=
 ⟨r.hd,by have:=r.dp;show A.depth+3*k+5<_;omega,by have:=r.un;show A.units+1+16*k+200<_;omega⟩
theorem aFc{A:zx}{C:qv}{us:List qx}{kw:List (Str×qx)}:(A.under (.builtin "type.__call__" ⟨.ref C::us,kw⟩)).depth=A.depth+1:=by
 first | rfl | simp[Around.under,Code.weight,Code.isCreation,Code.isGuard,Code.isCaller,Code.frames,Code.isFrame,guardIds]
theorem aFk{A:zx}{C:qv}{us:List qx}{kw:List (Str×qx)}:(A.under (.builtin "type.__call__" ⟨.ref C::us,kw⟩)).units=A.units+1:=by
 first | rfl | simp[Around.under,Code.cUnits,Code.frames,Code.isFrame]
theorem Room.make{k:Nat}{A:zx}(r:Room (k+1) A)(C:qv)(us:List qx)(kw:List (Str×qx)):Room k (A.under (.builtin "type.__call__" ⟨.ref C::us,kw⟩)):=
 ⟨r.hd,by have:=r.dp;rw[aFc];omega,by have:=r.un;rw[aFk];omega⟩
theorem Room.depth{k:Nat}{A:zx}(r:Room k A):A.depth<recursionLimit:=by have:=r.dp;omega
theorem Room.units{k:Nat}{A:zx}(r:Room k A):A.units+64<cLine:=by have:=r.un;omega
def aD9:TA:=λ _ H Q=>Q [] H
def aK3(ta:TE)(tr:TA):TA:=λ σ H Q=>ta σ H λ x H1=>tr σ H1 λ xs H2=>Q (x::xs) H2
section
variable {X : Cx}{e : qw}{es : List qw}{te : TE}{t : TA}{pos : Pos}
theorem mS:PA X [] aD9:=λ _ _ _ _ H Q I h=>Calls.spliced_nil ⟨[],H,I,.nil,h⟩
theorem iE(ha:PE X e te)(hr:PA X es t)(hs:zj (e::es) X.env=(false,eval e X.env)::zj es X.env:=by rfl):PA X (e::es) (aK3 te t):=by
 intro pos aA s σ H Q I h;rw[hs];show qu _ _ (spliced ((false,eval e X.env)::backTo pos (zj es X.env))) _ _ s;refine Calls.spliced_cons (aY (ha aA s σ H _ I h) λ u s1 hPq23=>?_)
 obtain⟨x,H1,I1,r1,q1⟩:=hPq23;exact aY (hr pos aA s1 σ H1 _ I1 q1) λ us s2 ⟨xs,H2,I2,r2,q2⟩=>⟨x::xs,H2,I2,.cons r1 r2,q2⟩
def aLw(t:TA):TE:=λ σ H Q=>t σ H λ xs H1=>xs.length<=qk/\∀ p,H1 p=qz->Q (.ref p) (aT H1 p (.tup xs))
def aL1(t:TA):TE:=λ σ H Q=>t σ H λ xs H1=>xs.length<=qk/\∀ p,H1 p=qz->Q (.ref p) (aT H1 p (.lst xs))
theorem yD{x1}(h:PA X es t):PE X (.Tuple es x1 pos) (aLw t):=by
 intro aA s σ H Q I hq;refine wpAny_Tuple_spliced (aY (h pos aA s σ H _ I hq) λ us s1 ⟨xs,H1,I1,r,z,q⟩=>⟨by rw[<- r.length];exact z,?_⟩)
 have hf:H1 s1.heap.objs.size=qz:=I1.hok.fresh (yAc _);refine⟨.ref s1.heap.objs.size,aT H1 s1.heap.objs.size (.tup xs),I1.laid (t':=s1.toks) (λ b u e=>hpS _ e) (yAc _) ?_,rfl,q _ hf⟩
 exact⟨z,us,r,⟨_,xAe _ rfl,rfl,_,rfl⟩⟩
theorem aHW(h:PA X es t):PE X (.List es pos) (aL1 t):=by
 intro aA s σ H Q I hq;refine wpAny_List_spliced (aY (h pos aA s σ H _ I hq) λ us s1 ⟨xs,H1,I1,r,z,q⟩=>⟨by rw[<- r.length];exact z,?_⟩)
 have hf:H1 s1.heap.objs.size=qz:=I1.hok.fresh (yAc _);refine⟨.ref s1.heap.objs.size,aT H1 s1.heap.objs.size (.lst xs),I1.laid (t':=s1.toks) (λ b u e=>hpS _ e) (yAc _) ?_,rfl,q _ hf⟩
 exact⟨z,us,0,r,xAe _ rfl⟩
end
abbrev Sp:=List V->Hp->VK->XK->Prop
abbrev fW:=List Env->Hp->qj->XK->qx->qj->Prop
structure Env0(P:qo)(w:zq)(K:FrG)(mg:Str->Option qx)(base:Heap)(A:zx)(outer:List Env)(s:qj)(H:Hp):Prop where
 frames:A.frames=qq outer
 mod:Mod K mg base
 bs:∀ b o,base.get? b=qq o->s.heap.get? b=qq o/\H b=qz
 bsz:base.objs.size<=s.heap.objs.size
 funs:s.heap.FunFrames base outer
 frf:∀ b∈cQ outer,H b=qz
 hok:cE P w H s.heap
 bare:AllBare s.gens
def CE(outer:List Env)(P:qo)(w:zq)(H:Hp)(s:qj)(Q:VK)(u:qx)(s':qj):Prop:=
 ∃ v H',s'.os=s.os/\AllBare s'.gens/\Un (cQ outer) [] H H' s.heap s'.heap/\cE P w H' s'.heap/\aP v u/\Q v H'
def CR(CX:fW)(outer:List Env)(P:qo)(w:zq)(H:Hp)(s:qj)(Q:VK)(E:XK)(r:Result)(s':qj):Prop:=
 match r with
 | .ok (.ret u)=>CE outer P w H s Q u s'
 | .ok _=>False
 | .error e=>CX outer H s E e s'
structure FnOk(P:qo)(w:zq)(K:FrG)(mg:Str->Option qx)(base:Heap)(CX:fW)(k:Nat)(f:qv)(fd:xw)(ps:List Str)(sp:Sp):Prop where
 len:∀ vs H Q E,sp vs H Q E->vs.length=ps.length
 run:∀ (A:zx) (outer:List Env) (s:qj) (H:Hp) (args:Args) (us:List qx) (vs:List V) (Q:VK) (E:XK),Room k A->Env0 P w K mg base A outer s H->BindsTo s fd args (ps.zip us)->aM vs us->sp vs H Q E ->
  vx (model P w) A (.call (.ref f) args) (CR CX outer P w H s Q E) s
theorem FnOk.mono{P:qo}{w:zq}{K:FrG}{mg:Str->Option qx}{base:Heap}{CX:fW}{j k:Nat}{f:qv}{fd:xw}{ps:List Str}{sp:Sp}(F:FnOk P w K mg base CX j f fd ps sp)(h:j<=k) :
 FnOk P w K mg base CX k f fd ps sp:=⟨F.len,λ A outer s H args us vs Q E hr=>F.run A outer s H args us vs Q E (hr.mono h)⟩
theorem Env0.make{P:qo}{w:zq}{K:FrG}{mg:Str->Option qx}{base:Heap}{A:zx}{outer:List Env}{s:qj}{H:Hp}(e:Env0 P w K mg base A outer s H)(C:qv)(us:List qx)(kw:List (Str×qx)) :
 Env0 P w K mg base (A.under (.builtin "type.__call__" ⟨.ref C::us,kw⟩)) outer s H:=⟨by first | exact e.frames | (simpa [Around.under,Code.envs,Code.isFrame,pushEnvs] using e.frames),e.mod,e.bs,e.bsz,e.funs,e.frf,e.hok,e.bare⟩
theorem Env0.in1{P:qo}{w:zq}{K:FrG}{mg:Str->Option qx}{base:Heap}{A:zx}{outer:List Env}{s:qj}{H:Hp}(e:Env0 P w K mg base A outer s H) :
 Env0 P w K mg base A.in1 outer s H:=⟨e.frames,e.mod,e.bs,e.bsz,e.funs,e.frf,e.hok,e.bare⟩
section
variable {X : Cx}{aA : List (qv×Obj)}{σ : St}{H : Hp}{s s' : qj}
theorem Inv.env0(I:Inv X aA σ H s):Env0 X.prog X.w X.K X.mg X.base X.A X.stack s H:=
 ⟨I.ok.frames,I.ok.mod,I.bs,xAg I.ok.bsz I.sz,I.stack,I.stkFree,I.hok,I.bare⟩
theorem Inv.after{Q:VK}{u:qx}(I:Inv X aA σ H s)(h:CE X.stack X.prog X.w H s Q u s'):EP X aA σ Q u s':=by
 obtain⟨v,H',os,bare,un,hok,r,q⟩:=h;obtain⟨hh,g,d,t,os'⟩:=s';obtain rfl:os'=s.os:=os;exact⟨v,H',I.call (h':=hh) (g':=g) (d':=d) (t':=t) (ch:=[]) un hok bare (λ b z=>absurd z (by simp)),r,q⟩
end
def tE(sp:Sp)(dvs:List V)(E:XK)(t:TA):TE:=λ σ H Q=>t σ H λ vs H1=>sp (vs++dvs) H1 Q E
def cS(K:FrG)(fd:xw)(ps:List Str)(ds:List qx):Prop:=
 ∀ (s:qj) (us:List qx),K.In s.heap->(us++ds).length=ps.length->BindsTo s fd ⟨us,[]⟩ (ps.zip (us++ds))
theorem cS.all{K:FrG}{fd:xw}{ps:List Str}(h:∀ us:List qx,us.length=ps.length->bindArgs fd ⟨us,[]⟩=pure (ps.zip us)):cS K fd ps []:=λ s us _ hl=>by
 rw[yAv] at hl ⊢;exact .of_eq (h us hl)
def sH(CX:fW)(X:Cx)(E:XK):Prop:=∀ (aA:List (qv×Obj)) (σ:St) (H:Hp) (s:qj) (e:qx) (s':qj),Inv X aA σ H s->CX X.stack H s E e s'->X.xe e s'
section
variable {X : Cx}{CX : fW}{k : Nat}{f C : qv}{fd : xw}{ps : List Str}{sp : Sp}{dvs : List V}{ds : List qx}{E : XK}{x m : Str}{p pos apos : Pos}{e o : qw}{es : List qw}{ta : TE}{t : TA}
theorem aCF{aA:List (qv×Obj)}{σ:St}{H:Hp}{s:qj}{Q:VK}{us:List qx}{vs:List V}(F:FnOk X.prog X.w X.K X.mg X.base CX k f fd ps sp)(hr:Room k X.A)(hb:cS X.K fd ps ds)(hd:aM dvs ds)(hx:sH CX X E)
 (I:Inv X aA σ H s) (r:aM vs us) (h:sp (vs++dvs) H Q E):qu (model X.prog X.w) X.A (call (.ref f) us) (EP X aA σ Q) X.xe s:=by
 have r2:aM (vs++dvs) (us++ds):=r.append hd;have hl:(us++ds).length=ps.length:=by rw[<- r2.length];exact F.len _ _ _ _ h
 refine wpAny_call (codeAny_mono (F.run X.A X.stack s H ⟨us,[]⟩ (us++ds) (vs++dvs) Q E hr I.env0 (hb s us I.kIn hl) r2 h) λ r s' hq=>?_)
 cases r with
 | error e=>exact hx aA σ H s e s' I hq
 | ok fl =>
   cases fl with
   | ret u=>exact I.after hq
   | next=>exact False.elim hq
   | brk=>exact False.elim hq
   | cont=>exact False.elim hq
theorem aHh(F:FnOk X.prog X.w X.K X.mg X.base CX k f fd ps sp)(hr:Room k X.A)(hg:Gl X x)(hm:X.mg x=qq (.ref f))(hk:yBg X.K (.ref f)=true)(hb:cS X.K fd ps ds)(hd:aM dvs ds)(hx:sH CX X E)
 (ha:PA X (e::es) t) (hdb:(x==("__debug__" : Str))=false:=by decide) (he:zj (e::es) X.env=(false,eval e X.env)::zj es X.env:=by rfl) (hpl:(backTo pos (zj es X.env)).any (·.1)=false:=by rfl) :
 PE X (.Call (.Name x p) (e::es) [] pos) (tE sp dvs E t):=by
 intro aA s σ H Q I h;refine xj (jN I hg hm ?_ hdb);refine yCz (h₀:=X.base) I.ok.mod.kin hk (aY (ha pos aA s σ H _ I h) λ us s1 ⟨vs,H1,I1,r,q⟩=>⟨I1.kIn,?_⟩) he hpl
 exact aCF F hr hb hd hx I1 r q
theorem aGt(F:FnOk X.prog X.w X.K X.mg X.base CX k f fd ps sp)(hr:Room k X.A)(hg:Gl X x)(hm:X.mg x=qq (.ref f))(hk:yBg X.K (.ref f)=true)(hb:cS X.K fd ps ds)(hd:aM dvs ds)(hx:sH CX X E)
 (hdb:(x==("__debug__" : Str))=false:=by decide):PE X (.Call (.Name x p) [] [] pos) (tE sp dvs E aD9):=by
 intro aA s σ H Q I h;refine xj (jN I hg hm ?_ hdb);exact PySem.W.callWith_K0 I.kIn hk (aCF (us:=[]) F hr hb hd hx I .nil h)
structure Mk(K:FrG)(C f:qv):Prop where
 makes:PySem.W.makesIn K C=true
 init:yDj K (.ref C) "__init__" = qq (qq (.ref f))
 fn:PySem.W.isFn K (.ref f)=true
 kp:yBg K (.ref C)=true
end
section
variable {X : Cx}{CX : fW}{k : Nat}{f C : qv}{fd : xw}{ps ks : List Str}{sp : Sp}{E : XK}{x m : Str}{p pos apos kpos : Pos}{e o : qw}{es : List qw}{kws : List Keyword}{te ta : TE}{t tk : TA}{nm : Option Str}
structure KBinds(K:FrG)(fd:xw)(ps ks:List Str)(g:List qx->List qx->List qx)(gV:List V->List V->List V):Prop where
 to:∀ (s:qj) (us ws:List qx),K.In s.heap->(g us ws).length=ps.length->BindsTo s fd ⟨us,ks.zip ws⟩ (ps.zip (g us ws))
 rel:∀ {vs:List V}{us:List qx}{zs:List V}{ws:List qx},aM vs us->aM zs ws->aM (gV vs zs) (g us ws)
variable {g : List qx -> List qx -> List qx}{gV : List V -> List V -> List V}
end
structure FnScope(N P:List Str)(sc:zv):Prop where
 kind:sc.kind=.function
 co:sc.isCoroutine=false
 gen:sc.isGenerator=false
 nd:N.Nodup
 pre:N.take P.length=P
 par:∀ x∈P,sc.names.lookup x=qq .local\/sc.names.lookup x=qq .cell
 nofree:∀ y∈sc.names,y.2≠.free
theorem aA8{kindOf:Str->Option jy}{x:Str}:∀ {binds:List (Str×qx)}{m:Str->Option qx},(∀ v,(x,v) ∉ binds)->bindL kindOf binds m x=m x
 | [],_,_=>rfl
 | (n,v)::r,m,h=>by
   unfold bindL;rw[aA8 λ w hw=>h w (xAf _ hw)]
   split
   ·have:x≠n:=by rintro rfl;exact h v xAd
    simp[this]
   ·rfl
theorem aA5{kindOf:Str->Option jy}{x:Str}:∀ {binds:List (Str×qx)}{m:Str->Option qx},(∀ v,(x,v) ∉ binds)->bindC kindOf binds m x=m x
 | [],_,_=>rfl
 | (n,v)::r,m,h=>by
   unfold bindC;rw[aA5 λ w hw=>h w (xAf _ hw)]
   split
   ·rfl
   ·have:x≠n:=by rintro rfl;exact h v xAd
    simp[this]
theorem aBc{kindOf:Str->Option jy}{x:Str}{v:qx}:∀ {P:List Str}{vs:List qx}{i:Nat}{m:Str->Option qx},P.Nodup->P[i]? = qq x->vs[i]? = qq v->kindOf x=qq .local ->
 bindL kindOf (P.zip vs) m x=qq v
 | [],_,_,_,_,h,_,_=>by simp at h
 | _::_,[],_,_,_,_,h,_=>by simp at h
 | p::P,w::vs,0,m,nd,h1,h2,hk=>by
   simp at h1 h2;subst h1;subst h2;show bindL kindOf ((p,w)::P.zip vs) m p=_;unfold bindL;rw[aA8 λ v hv=>(List.nodup_cons.mp nd).1 (List.of_mem_zip hv).1,if_pos hk]
   simp
 | p::P,w::vs,i+1,m,nd,h1,h2,hk=>by
   show bindL kindOf ((p,w)::P.zip vs) m x=_;unfold bindL;exact aBc (i:=i) (List.nodup_cons.mp nd).2 (by simpa using h1) (by simpa using h2) hk
theorem aA9{kindOf:Str->Option jy}{x:Str}{v:qx}:∀ {P:List Str}{vs:List qx}{i:Nat}{m:Str->Option qx},P.Nodup->P[i]? = qq x->vs[i]? = qq v->kindOf x≠qq .local ->
 bindC kindOf (P.zip vs) m x=qq v
 | [],_,_,_,_,h,_,_=>by simp at h
 | _::_,[],_,_,_,_,h,_=>by simp at h
 | p::P,w::vs,0,m,nd,h1,h2,hk=>by
   simp at h1 h2;subst h1;subst h2;show bindC kindOf ((p,w)::P.zip vs) m p=_;unfold bindC;rw[aA5 λ v hv=>(List.nodup_cons.mp nd).1 (List.of_mem_zip hv).1,if_neg hk]
   simp
 | p::P,w::vs,i+1,m,nd,h1,h2,hk=>by
   show bindC kindOf ((p,w)::P.zip vs) m x=_;unfold bindC;exact aA9 (i:=i) (List.nodup_cons.mp nd).2 (by simpa using h1) (by simpa using h2) hk
noncomputable def start(N:List Str)(vs:List V):St:=vs.map qq++yAd (N.length-vs.length) qz
noncomputable def fR(CX:fW)(P:qo)(w:zq)(K:FrG)(mg:Str->Option qx)(base:Heap)(N:List Str)(bA:Str)(scope:zv)(f:qv)(cd:qx)(A:zx)(outer:List Env)(s:qj)(H:Hp)(E:XK):Cx where
 prog:=P
 w:=w
 K:=K
 mg:=mg
 base:=base
 A:=A.deeper (envOfC bA scope s.heap.objs.size f cd)
 N:=N
 s₀:=s
 H₀:=H
 env:=envOfC bA scope s.heap.objs.size f cd
 outer:=outer
 stack:=envOfC bA scope s.heap.objs.size f cd::outer
 ex:=[]
 calm:=true
 fn:=λ _=>true
 pn:=[]
 xe:=λ e s'=>qu (model P w) (A.deeper (envOfC bA scope s.heap.objs.size f cd)) (leaving (envOfC bA scope s.heap.objs.size f cd) e) (λ _ s''=>CX outer H s E e s'') (λ e' s''=>CX outer H s E e' s'') s'
theorem aBv{sc:zv}{n:Nat}{x:Str}(h:sc.names.lookup x=qq .cell):∃ c,(cellsFrom n sc.names []).lookup x=qq c:=by
 have q:=PySem.W.cellsFrom_some sc.names n [] (.inl h);exact Option.isSome_iff_exists.mp q
theorem aFS{CX:fW}{P:qo}{w:zq}{K:FrG}{mg:Str->Option qx}{base:Heap}{N ps:List Str}{bA:Str}{scope:zv}{f:qv}{cd:qx}{A:zx}{outer:List Env}{s s1:qj}{H:Hp}{E:XK}{us:List qx}{vs:List V}
 (S:FnScope N ps scope) (hd:A.handled=qz) (e0:Env0 P w K mg base A outer s H) (hl:vs.length=ps.length) (r:aM vs us)
 (x:InCallC s s.heap.objs.size (bindL (envOfC bA scope s.heap.objs.size f cd).kindOf (ps.zip us) λ _=>qz) (cellsFrom (s.heap.objs.size+1) scope.names []) (bindC (envOfC bA scope s.heap.objs.size f cd).kindOf (ps.zip us) λ _=>qz) s1) :
 Inv (fR CX P w K mg base N bA scope f cd A outer s H E) [] (start N vs) H s1:=by
 have hpl:ps.length<=N.length:=by have:=congrArg List.length S.pre;rw[yBe] at this;omega
 obtain⟨h1,tk,rfl,hk⟩:=x.done;have noA:∀ b:qv,b ∉ (fR CX P w K mg base N bA scope f cd A outer s H E).ex:=λ b z=>absurd (show b∈([]:List qv) from z) (by simp)
 refine⟨⟨e0.mod,S.kind,rfl,rfl,yAc _,λ y z c h1 h2=>?_,λ y hy=>?_,λ y c _ h=>?_,λ _=>hd,Around.frames_deeper e0.frames,.inr ⟨rfl,rfl⟩,λ b z=>absurd z (noA b),e0.bs,e0.bsz,λ b _ _=>noA b,λ b z=>absurd z (noA b),e0.funs,e0.frf⟩,
  rfl,e0.bare,Un.kept hk,⟨_,x.toInCall.ns,λ i y v h1 h2 h3=>?_⟩,λ y c h=>⟨_,x.cell y c h⟩,e0.hok.fresh (yAc _),λ y c h=>?_,λ p hp=>absurd (show p∈([]:List (qv×Obj)) from hp) (by simp),e0.hok.kept hk,?_⟩
 ·exact name_of_addr x.apart (PySem.mem_of_lookup h1) (PySem.mem_of_lookup h2)
 ·have hy:scope.names.lookup y=qq .cell\/scope.names.lookup y=qq .free:=hy;rcases hy with hy | hy
  ·exact aBv hy
  ·exact absurd rfl (S.nofree _ (PySem.mem_of_lookup hy))
 ·exact yDk (x.above y c (PySem.mem_of_lookup h))
 ·have hi:i<vs.length:=by
   unfold start at h2
   by_cases hi:i<vs.length
   ·exact hi
   ·rw[yAe (by simpa using hi)] at h2
    rw[List.getElem?_replicate] at h2
    split at h2<;>cases h2
  have ha:vs[i]? = qq v:=by
   unfold start at h2;rw[xAj (by simpa using hi),xAb] at h2
   cases e:vs[i]? with
   | none=>rw[e] at h2;cases h2
   | some a=>rw[e] at h2;cases h2;rfl
  obtain⟨u,hu,rv⟩:=r.get ha;have hp:ps[i]? = qq y:=by
   rw[<- S.pre,List.getElem?_take_of_lt (by omega)];exact h1
  have ndP:ps.Nodup:=by rw[<- S.pre];exact S.nd.sublist (List.take_sublist _ _)
  refine⟨u,rv,?_⟩;rcases S.par y (xAi hp) with k | k
  ·exact .inl ⟨k,aBc ndP hp hu k⟩
  ·obtain⟨c,e⟩:=aBv (n:=s.heap.objs.size+1) k;refine .inr ⟨.inl k,c,e,?_⟩;have q:=x.cell y c e;rw[aA9 ndP hp hu (by show scope.names.lookup y≠_;rw[k];decide)] at q
   exact q
 ·exact e0.hok.fresh (yDk (x.above y c (PySem.mem_of_lookup h)))
 ·unfold start;show _=N.length;rw[xAk,yAg,yDl];omega
theorem aDj{CX:fW}{P:qo}{w:zq}{K:FrG}{mg:Str->Option qx}{base:Heap}{k:Nat}{f:qv}{name bA:Str}{params:Arguments}{body:List zy}{scope:zv}{dV kV doc pm cdv ct oc:qx}{an od:Option qv}
 {osl:Array (Option qx)}{N ps:List Str}{sp:Sp} (lk:K.lookup f=qq ⟨oc,od,.func (yBl name bA params body scope dV kV doc pm an cdv ct),osl⟩) (hcd:yCs K cdv bA=true) (S:FnScope N ps scope)
 (len:∀ vs H Q E,sp vs H Q E->vs.length=ps.length)
 (hbody:∀ (A:zx) (outer:List Env) (s:qj) (H:Hp) (vs:List V) (Q:VK) (E:XK),Room k (A.deeper (envOfC bA scope s.heap.objs.size f cdv))->sp vs H Q E ->
   ∃ t,bI (fR CX P w K mg base N bA scope f cdv A outer s H E) body t/\t {nx:=λ _ H'=>Q .non H',rt:=Q } (start N vs) H) :
 FnOk P w K mg base CX (k+1) f (yBl name bA params body scope dV kV doc pm an cdv ct) ps sp:=by
 refine⟨len,λ A outer s H args us vs Q E hr e0 hb r hsp=>?_⟩
 have hl:=len _ _ _ _ hsp;have KX:K.In s.heap:=e0.mod.kin.keeps λ b o e=>(e0.bs b o e).1
 have lim:s.heap.NoLimit:=e0.mod.nolimit.keeps λ b o e=>(e0.bs b o e).1
 have hkind:∀ y∈ps.zip us,scope.names.lookup y.1=qq .local\/(scope.names.lookup y.1=qq .cell/\((cellsFrom (s.heap.objs.size+1) scope.names []).lookup y.1).isSome=true):=λ aO hy=>by
  obtain⟨n,v⟩:=aO;rcases S.par n (List.of_mem_zip hy).1 with q | q
  ·exact .inl q
  ·exact .inr ⟨q,PySem.W.cellsFrom_some _ _ _ (.inl q)⟩
 refine codeAny_call_function hr.depth (KX _ _ lk) rfl S.co S.gen rfl (PySem.W.codeRec_of KX hcd) (hb _ _ _ _ ?_);refine wpAny_newFunctionEnv_cells S.kind hkind λ env he s1 x=>?_
 subst he;refine⟨lim.keeps x.toInCall.keep,codeAny_func ?_⟩;obtain⟨t,ht,hq⟩:=hbody A outer s H vs Q E (hr.deeper _) hsp;have I:Inv (fR CX P w K mg base N bA scope f cdv A outer s H E) [] (start N vs) H s1:=aFS S hr.hd e0 hl r x;refine wpAny_mono (ht [] s1 (start N vs) H _ I hq) (λ fl s' hs=>?_) λ e s' hs=>hs
 have bB:∀ {σ':St}{H':Hp}{v:V}{u:qx},Inv (fR CX P w K mg base N bA scope f cdv A outer s H E) [] σ' H' s'->aP v u->Q v H'->CE outer P w H s Q u s':=
  λ {σ' H' v u} J rv q=>⟨v,H',J.os,J.bare,J.base,J.hok,rv,q⟩
 cases fl with
 | ret u =>
   obtain⟨v,σ',H',J,rv,q⟩:=hs;exact bB J rv q
 | next =>
   obtain⟨σ',H',J,q⟩:=hs;exact bB (v:=V.non) (u:=Value.none) J rfl q
 | brk =>
   obtain⟨_,_,_,q⟩:=hs;exact False.elim q
 | cont =>
   obtain⟨_,_,_,q⟩:=hs;exact False.elim q
end L2
namespace L2
open PySem PySem.Spec PyProof.Rows
section
variable {X : Cx}{x : Str}{p pos : Pos}{e : qw}{es : List qw}{t : TA}{id T : String}{r : List V -> Hp -> VK -> Prop}
def uM(r:List V->Hp->VK->Prop)(t:TA):TE:=λ σ H Q=>t σ H λ vs H1=>r vs H1 Q
theorem iC(hc:cD X (.builtin id) r)(hg:Gl X x)(hm:X.mg x=qz)(hv:zk x=qq (.builtin id))(ha:PA X (e::es) t)(hn:x ≠ "__name__":=by decide)(hdb:(x==("__debug__" : Str))=false:=by decide)
 (he:zj (e::es) X.env=(false,eval e X.env)::zj es X.env:=by rfl) (hpl:(backTo pos (zj es X.env)).any (·.1)=false:=by rfl):PE X (.Call (.Name x p) (e::es) [] pos) (uM r t):=by
 intro aA s σ H Q I h;refine xj (sJ I hg hm hv ?_ hn hdb);exact PyProof.Rows.callWith_builtin1 (aY (ha pos aA s σ H _ I h) λ us s1 ⟨vs,H1,I1,r1,q1⟩=>hc aA s1 σ H1 vs us Q I1 r1 q1) he hpl
theorem wA(hc:cD X (.type T) r)(hg:Gl X x)(hm:X.mg x=qz)(hv:zk x=qq (.type T))(ha:PA X (e::es) t)(hn:x ≠ "__name__":=by decide)(hdb:(x==("__debug__" : Str))=false:=by decide)
 (he:zj (e::es) X.env=(false,eval e X.env)::zj es X.env:=by rfl) (hpl:(backTo pos (zj es X.env)).any (·.1)=false:=by rfl):PE X (.Call (.Name x p) (e::es) [] pos) (uM r t):=by
 intro aA s σ H Q I h;refine xj (sJ I hg hm hv ?_ hn hdb);exact yDu (aY (ha pos aA s σ H _ I h) λ us s1 ⟨vs,H1,I1,r1,q1⟩=>hc aA s1 σ H1 vs us Q I1 r1 q1) he hpl
end
end L2
namespace HT
open PySem PyProof.Rows
section
open PySem.SeqAt
open PySem.AutoSeq1 (wpAny_loadPart')
open PySem.MeetsSeq PySem.MeetsSeq2 PySem.MeetsSeq3
end
section
variable {prog : qo}{w : zq}{A : zx}{E : qx -> qj -> Prop}{s : qj}
theorem cat_tup{t b:qv}{vs ws:List qx}{Q:qx->qj->Prop}(ht:IsTup s.heap t vs.toArray)(hb:IsTup s.heap b ws.toArray)(hv:vs≠[])
 (h1:ws=[]->Q (.ref t) s) (h2:ws≠[]->Q (.ref s.heap.objs.size) {s with heap:=s.heap.push {cls:=.type "tuple",data:=.seq (vs++ws).toArray } })
 (hsz:vs.length+ws.length<=qk):qu (model prog w) A (zu .Add (.ref t) (.ref b)) Q E s:=by
 obtain⟨⟨cls,dd,data,sl⟩,ho,hc,n,hd⟩:=id ht;obtain⟨⟨cls2,dd2,data2,sl2⟩,ho2,hc2,n2,hd2⟩:=id hb;simp only at hc hd hc2 hd2;subst hc hd hc2 hd2;have e:vs.toArray++ws.toArray=(vs++ws).toArray:=by simp
 by_cases hw:ws=[]
 ·exact concat_meets ⟨_,ho,rfl⟩ ⟨_,ho2,rfl⟩ noFill_tuple_add seq_tuple_add yDf yDa (yCv _ _)
   (tuple_addW1 t b vs.toArray ws.toArray n n2 dd dd2 sl sl2 (by simpa using hv) (by simp[hw])) ⟨ho,ho2,h1 hw⟩
 ·refine concat_meets ⟨_,ho,rfl⟩ ⟨_,ho2,rfl⟩ noFill_tuple_add seq_tuple_add yDf yDa (yCv _ _)
   (tuple_addW2 t b vs.toArray ws.toArray n n2 dd dd2 sl sl2 (by simpa using hv) (by simpa using hw) (by rw[yAb,yAb];exact hsz)) ⟨ho,ho2,?_⟩
  rw[e];exact h2 hw
noncomputable def sIx(n d:Nat):Option Int->Nat
 | none=>d
 | some v=>if v<0 then (v+(n:Int)).toNat else min v.toNat n
theorem sIx_none(n d:Nat):sIx n d qz=d:=rfl
theorem sIx_nat(n d k:Nat):sIx n d (qq (k:Int))=min k n:=by
 show(if (k:Int)<0 then ((k:Int)+(n:Int)).toNat else min (k:Int).toNat n)=min k n
 rw[if_neg (by omega),xAm]
theorem aJs(n d:Nat)(hd:d<=n)(o:Option Int):sIx n d o<=n:=by
 cases o with
 | none=>exact hd
 | some v =>
   show(if v<0 then (v+(n:Int)).toNat else min v.toNat n)<=n
   by_cases hv:v<0
   ·rw[if_pos hv];omega
   ·rw[if_neg hv];exact Nat.min_le_right _ _
theorem aCi(v:Int)(n d:Nat):(if v<0 then max (v+(n:Int)) 0 else min v (n:Int))=((sIx n d (qq v):Nat):Int):=by
 show(if v<0 then max (v+(n:Int)) 0 else min v (n:Int))=(((if v<0 then (v+(n:Int)).toNat else min v.toNat n):Nat):Int)
 by_cases hv:v<0
 ·simp only[if_pos hv];omega
 ·simp only[if_neg hv];omega
theorem aFj(lo hi:Option Int)(n:Nat):yCt lo hi 1 (n:Int)=(((sIx n 0 lo:Nat):Int),((sIx n n hi:Nat):Int)):=by
 have h1:¬ ((1:Int)<0):=by omega
 unfold yCt;simp only[h1,if_false];refine Prod.ext ?_ ?_
 ·cases lo with
  | none=>rfl
  | some v=>exact aCi v n 0
 ·cases hi with
  | none=>rfl
  | some v=>exact aCi v n n
theorem aFq(i j:Nat):yBx (i:Int) (j:Int) 1=j-i:=by
 unfold yBx;have h1:(1:Int)>0:=by omega
 simp only[h1,if_true,Int.ediv_one]
 split<;>omega
theorem aA0{v:qx}{o:Option Int}{Q:Option Int->qj->Prop}(p:IsPart v o)(h:Q o s):qu (model prog w) A (Builtin.Slice.slicePartIndex v) Q E s:=by
 cases p with
 | none=>exact slicePart_none h
 | int i t=>exact slicePart_int h
theorem sliceApplied_gen{sl:qv}{vl vu:qx}{lo hi:Option Int}{n:Nat}{Q:Int×Int×Nat->qj->Prop}(hs:s.heap.IsSliceOf sl vl vu .none)(pl:IsPart vl lo)(pu:IsPart vu hi)
 (h:Q (((sIx n 0 lo:Nat):Int),1,sIx n n hi-sIx n 0 lo) s):qu (model prog w) A (yDw (.ref sl) (pure (n:Int))) Q E s:=by
 obtain⟨os,hos,hcs,hds⟩:=id hs;unfold yDw Builtin.Slice.sliceFields;refine wB (wB (jx hos hds (x:=vl) rfl (wB (jx hos hds (x:=vu) rfl (wB (jx hos hds (x:=.none) rfl (wP ?_)))))));refine wB (slicePart_none ?_);show qu _ _ (if ((1:Int)==0)=true then _ else _) _ _ s
 rw[if_neg (by decide)]
 refine wB (aA0 pl (wB (aA0 pu (wB (wP ?_)))));show qu _ _ (match yCt lo hi 1 (n:Int) with | (lo,hi)=>pure (lo,(1:Int),yBx lo hi 1)) _ _ s
 rw[aFj lo hi n];show qu _ _ (pure (((sIx n 0 lo:Nat):Int),(1:Int),yBx ((sIx n 0 lo:Nat):Int) ((sIx n n hi:Nat):Int) 1)) _ _ s;rw[aFq];exact wP h
theorem aF7(xs:Array qx)(i k:Nat):((yAy k).filterMap λ(m:Nat)=>xs[((i:Int)+(m:Int)*1).toNat]?).toArray=((xs.toList.drop i).take k).toArray:=by
 have e:(λ(m:Nat)=>xs[((i:Int)+(m:Int)*1).toNat]?)=λ m=>xs[i+m]?:=by
  funext m
  have:((i:Int)+(m:Int)*1).toNat=i+m:=by omega
  rw[this]
 rw[e];have:=pick_run xs i k;rw[List.filterMap_map] at this;have e2:((λ x=>xs[x]?) ∘ λ x=>i+x)=λ m=>xs[i+m]?:=rfl
 rw[e2] at this;rw[this]
theorem getItem_tuple_cut{t sl:qv}{aS:Array qx}{vl vu:qx}{lo hi:Option Int}{Q:qx->qj->Prop}(ht:IsTup s.heap t aS)(hs:s.heap.IsSliceOf sl vl vu .none)(pl:IsPart vl lo)(pu:IsPart vu hi)
 (hw:¬ (sIx aS.size 0 lo=0/\sIx aS.size aS.size hi=aS.size))
 (h:Q (.ref s.heap.objs.size) {s with heap:=s.heap.push {cls:=.type "tuple",data:=.seq ((aS.toList.drop (sIx aS.size 0 lo)).take (sIx aS.size aS.size hi-sIx aS.size 0 lo)).toArray } })
 (hsz:aS.size<=qk):qu (model prog w) A (getItem (.ref t) (.ref sl)) Q E s:=by
 have htake:sizeOk (.seq ((aS.toList.drop (sIx aS.size 0 lo)).take (sIx aS.size aS.size hi-sIx aS.size 0 lo)).toArray):=by
  show((aS.toList.drop (sIx aS.size 0 lo)).take (sIx aS.size aS.size hi-sIx aS.size 0 lo)).toArray.size<=qk;rw[yAb,yBe,yDn,yCg];omega
 have hj:sIx aS.size aS.size hi<=aS.size:=aJs _ _ (yAc _) hi;obtain⟨os,hos,hcs,hds⟩:=id hs;have hTs:s.TypeIs (.ref sl) "slice":=⟨os,hos,hcs⟩;unfold getItem
 try with_reducible refine zo ?_
 first | refine wB (wP ?_) | skip
 refine wB (wpAny_sequenceKey ht.typeIs (by decide) ?_)
 refine wB (wpAny_callSpecial?_slot (name:=Str.ofString "__getitem__") ht.typeIs yBk
  (wpAny_call_entry yBk ht.typeIs entry_tuple_getitem ?_ (args_tuple_getitem _ _)))
 show qu _ _ (yDx (.ref t) >>= _) _ _ s;refine wB (tupleItemsOf_ ht ?_);refine wB (wpAny_typeOf hTs ?_);rw[if_pos (by decide)]
 refine wB (sliceApplied_gen hs pl pu ?_);have hno:¬ ((((sIx aS.size 0 lo:Nat):Int)==0&&(1:Int)==1&&(sIx aS.size aS.size hi-sIx aS.size 0 lo)==aS.size)=true):=by
  intro q;rw[yBq,yBq] at q;have q1:((sIx aS.size 0 lo:Nat):Int)=0:=eq_of_beq q.1.1;have q2:sIx aS.size aS.size hi-sIx aS.size 0 lo=aS.size:=eq_of_beq q.2;exact hw ⟨by omega,by omega⟩
 show qu _ _ (if (((sIx aS.size 0 lo:Nat):Int)==0&&(1:Int)==1&&(sIx aS.size aS.size hi-sIx aS.size 0 lo)==aS.size)=true then _ else _) _ _ s
 rw[if_neg hno,aF7]
 first
  | exact wB (m:=yBn _) (xu (wP ⟨_,rfl,wP h⟩) htake)
  | exact wB (m:=yBn _) (xu (wB (wP (wP ⟨_,rfl,wP h⟩))) htake)
  | exact wB (wB (m:=yBn _) (xu (wP (wP ⟨_,rfl,wP h⟩)) htake))
  | exact wB (wB (m:=yBn _) (xu (wP ⟨_,rfl,wP h⟩) htake))
end
end HT
namespace L2
open PySem PySem.Spec PyProof.Rows
abbrev TO:=St->Hp->(Option Int->Hp->Prop)->Prop
def PO(X:Cx)(e:Option qw)(t:TO):Prop:=
 ∀ (aA:List (qv×Obj)) (s:qj) (σ:St) (H:Hp) (Q:Option Int->Hp->Prop),Inv X aA σ H s->t σ H Q ->
  qu (model X.prog X.w) X.A (evalPart e X.env) (λ u s'=>∃ o H',Inv X aA σ H' s'/\IsPart u o/\Q o H') X.xe s
def aGX:TO:=λ _ H Q=>Q qz H
def aK5(t:TE):TO:=λ σ H Q=>t σ H λ x H1=>∃ i,x=.int i/\Q (qq i) H1
section
variable {X : Cx}{e : qw}{te : TE}{lo hi : Option qw}{tl th : TO}{pos p2 : Pos}
theorem aHO:PO X qz aGX:=by
 intro aA s σ H Q I h;rw[evalPart_none];exact wP ⟨qz,H,I,.none,h⟩
theorem aHl(h:PE X e te):PO X (qq e) (aK5 te):=by
 intro aA s σ H Q I hw;rw[evalPart_some];refine aY (h aA s σ H _ I hw) λ u s1 hPq24=>?_
 obtain⟨x,H1,I1,r1,q1⟩:=hPq24;obtain⟨i,rfl,q⟩:=q1;obtain⟨t,rfl⟩:=r1;exact⟨qq i,H1,I1,.int i t,q⟩
def kW(X:Cx)(r:V->Option Int->Option Int->Hp->VK->Prop):Prop:=
 ∀ (aA:List (qv×Obj)) (s:qj) (σ:St) (H:Hp) (x:V) (v vl vu:qx) (lo hi:Option Int) (sl:qv) (Q:VK),Inv X aA σ H s->aP x v->s.heap.IsSliceOf sl vl vu .none->IsPart vl lo->IsPart vu hi->r x lo hi H Q ->
  ∃ T id,typeLookup (.type T) "__getitem__" = pure (qq (.builtin id))/\s.TypeIs v T/\qu (model X.prog X.w) X.A (getItem v (.ref sl)) (EP X aA σ Q) X.xe s
theorem kW.or{r r':V->Option Int->Option Int->Hp->VK->Prop}(h:kW X r)(h':kW X r'):kW X (λ x lo hi H Q=>r x lo hi H Q\/r' x lo hi H Q):=by
 intro aA s σ H x v vl vu lo hi sl Q I rx hs pl pu q;rcases q with q | q
 ·exact h aA s σ H x v vl vu lo hi sl Q I rx hs pl pu q
 ·exact h' aA s σ H x v vl vu lo hi sl Q I rx hs pl pu q
def tSl(r:V->Option Int->Option Int->Hp->VK->Prop)(te:TE)(tl th:TO):TE:=λ σ H Q=>te σ H λ x H1=>tl σ H1 λ l H2=>th σ H2 λ u H3=>r x l u H3 Q
theorem aBO{r:V->Option Int->Option Int->Hp->VK->Prop}(hr:kW X r)(he:PE X e te)(hl:PO X lo tl)(hu:PO X hi th):PE X (.Subscript e (.Slice lo hi qz p2) pos) (tSl r te tl th):=by
 intro aA s σ H Q I h;refine Subscript_ (aY (he aA s σ H _ I h) λ v s1 hPq25=>?_)
 obtain⟨x,H1,I1,r1,q1⟩:=hPq25;refine wpAny_Slice (aY (hl aA s1 σ H1 _ I1 q1) λ vl s2 ⟨l,H2,I2,pl,q2⟩=>aY (hu aA s2 σ H2 _ I2 q2) λ vu s3 hPq26=>?_)
 obtain⟨u,H3,I3,pu,q3⟩:=hPq26;rw[evalPart_none];refine wP ?_;have I4:Inv X aA σ H3 {s3 with heap:=s3.heap.push {cls:=.type "slice",data:=.fields #[vl,vu,.none] } }:=I3.kept (t':=s3.toks) λ b ob q=>hpS _ q
 obtain⟨T,id,hT,ht,hg⟩:=hr aA {s3 with heap:=s3.heap.push {cls:=.type "slice",data:=.fields #[vl,vu,.none] } } σ H3 x v vl vu l u s3.heap.objs.size Q I4 r1 (Heap.IsSliceOf.new ..) pl pu q3
 show qu (model X.prog X.w) X.A (subscriptTail e (.Slice lo hi qz p2) v (.ref s3.heap.objs.size)) (EP X aA σ Q) X.xe {s3 with heap:=s3.heap.push {cls:=.type "slice",data:=.fields #[vl,vu,.none] } }
 exact tail_any (ops:=[.ref s3.heap.objs.size,v]) ht hT hg (by with_unfolding_all rfl)
noncomputable def jU(xs:List V)(lo hi:Option Int):List V:=(xs.drop (HT.sIx xs.length 0 lo)).take (HT.sIx xs.length xs.length hi-HT.sIx xs.length 0 lo)
theorem aAW(xs:List V)(lo hi:Option Int):(jU xs lo hi).length<=xs.length:=by
 unfold jU;rw[yBe,yDn];omega
noncomputable def aLr(K:FrG):V->Option Int->Option Int->Hp->VK->Prop:=λ x lo hi H Q=>∃ a xs,x=.ref a/\bR K H a xs /\
 ¬ (HT.sIx xs.length 0 lo=0/\HT.sIx xs.length xs.length hi=xs.length)/\∀ p,H p=qz->Q (.ref p) (aT H p (.tup (jU xs lo hi)))
theorem aJD:kW X (aLr X.K):=by
 intro aA s σ H x v vl vu lo hi sl Q I rx hs pl pu h;obtain⟨a,xs,rfl,hx,hw,q⟩:=h;cases rx;obtain⟨aC,r,ht,hz⟩:=I.tuple hx;have bS:aC.toArray.size=xs.length:=by rw[yAb];exact r.length.symm
 refine⟨"tuple",_,PyProof.Rows.slot_tuple_getitem.lookup,ht.typeIs,?_⟩;refine HT.getItem_tuple_cut ht hs pl pu (by rw[bS];exact hw) ?_ (by rw[bS];exact hz)
 rw[bS];refine⟨.ref s.heap.objs.size,_,I.laid (t':=s.toks) (o:=.tup (jU xs lo hi)) (λ b ob q=>hpS _ q) (yAc _) ?_,rfl,q _ (I.hok.fresh (yAc _))⟩
 exact⟨xAg (aAW xs lo hi) hz,_,(r.drop (HT.sIx xs.length 0 lo)).take (HT.sIx xs.length xs.length hi-HT.sIx xs.length 0 lo),IsTup.new _ _⟩
noncomputable def aKR(K:FrG):R2:=λ x y H Q=>∃ a b xs ys,x=.ref a/\y=.ref b/\bR K H a xs/\bR K H b ys/\xs≠[]/\xs.length+ys.length<=qk /\
 (ys=[]->Q (.ref a) H)/\(ys≠[]->∀ p,H p=qz->Q (.ref p) (aT H p (.tup (xs++ys))))
theorem aM.nil_iff{xs:List V}{us:List qx}(r:aM xs us):us=[] ↔ xs=[]:=by
 cases r with
 | nil=>simp
 | cons _ _=>simp
theorem aGF:bX X (zu .Add) (aKR X.K):=by
 intro aA s σ H x y v u Q I rx ry h;obtain⟨a,b,xs,ys,rfl,rfl,ha,hb,hx,hz,q1,q2⟩:=h;cases rx;cases ry;obtain⟨aC,r1,p1,_⟩:=I.tuple ha;obtain⟨oF,r2,p2,_⟩:=I.tuple hb;refine HT.cat_tup p1 p2 (λ z=>hx (r1.nil_iff.mp z)) (λ z=>⟨.ref a,H,I,rfl,q1 (r2.nil_iff.mp z)⟩) (λ z=>?_) (by rw[<- r1.length,<- r2.length];exact hz)
 refine⟨.ref s.heap.objs.size,_,I.laid (t':=s.toks) (o:=.tup (xs++ys)) (λ b ob q=>hpS _ q) (yAc _) ?_,rfl,q2 (λ w=>z (r2.nil_iff.mpr w)) _ (I.hok.fresh (yAc _))⟩
 exact⟨by rw[xAk];exact hz,_,r1.append r2,IsTup.new _ _⟩
end
end L2
namespace L2
open PySem PySem.Spec PyProof.Rows
noncomputable def hZ(n:Nat)(i:Int):Option Nat:=if 0<=i then (if i<n then qq i.toNat else qz) else if -(n:Int)<=i then qq (i+n).toNat else qz
noncomputable def hJ{α:Type}(xs:List α)(i:Int):Option α:=(hZ xs.length i).bind λ j=>xs[j]?
theorem aBU{n:Nat}{i:Int}{j:Nat}(h:hZ n i=qq j):seqIndex? i n=qq j/\j<n /\ -(n:Int)<=i/\i<n:=by
 unfold hZ at h
 by_cases h0:0<=i
 ·rw[if_pos h0] at h
  by_cases h1:i<n
  ·rw[if_pos h1] at h;have e:i.toNat=j:=Option.some.inj h;exact⟨by rw[seqIndex_of h0 h1,e],by omega,by omega,h1⟩
  ·rw[if_neg h1] at h;cases h
 ·rw[if_neg h0] at h
  by_cases h1 : -(n:Int)<=i
  ·rw[if_pos h1] at h;have e:(i+n).toNat=j:=Option.some.inj h;exact⟨by rw[seqIndex_neg (by omega) h1,e],by omega,h1,by omega⟩
  ·rw[if_neg h1] at h;cases h
theorem xH{α:Type}{xs:List α}{i:Int}{v:α}(h:hJ xs i=qq v):∃ j,seqIndex? i xs.length=qq j/\xs[j]? = qq v/\j<xs.length /\ -(xs.length:Int)<=i/\i<xs.length:=by
 unfold hJ at h;cases e:hZ xs.length i with
 | none=>rw[e] at h;cases h
 | some j =>
   rw[e] at h;obtain⟨h1,h2,h3,h4⟩:=aBU e;exact⟨j,h1,h,h2,h3,h4⟩
def sE(b:qw):Prop:=∀ o i,subscripted b false o i=operate [o,i] (getItem o i)
def jD(X:Cx)(r:R2):Prop:=
 ∀ (value fX:qw) (aA:List (qv×Obj)) (s:qj) (σ:St) (H:Hp) (x y:V) (v u:qx) (Q:VK),Inv X aA σ H s->aP x v->aP y u->r x y H Q ->
  subscripted fX false v u=operate [v,u] (getItem v u)->qu (model X.prog X.w) X.A (subscriptTail value fX v u) (EP X aA σ Q) X.xe s
def rB(X:Cx)(id:String)(r:V->List V->Hp->VK->Prop):Prop:=
 ∀ (aA:List (qv×Obj)) (s:qj) (σ:St) (H:Hp) (x:V) (xs:List V) (v:qx) (us:List qx) (Q:VK),Inv X aA σ H s->aP x v->aM xs us->r x xs H Q ->
  qu (model X.prog X.w) X.A (call (.builtin id) (v::us)) (EP X aA σ Q) X.xe s
section
variable {X : Cx}{a b : qw}{ta tb : TE}{pos : Pos}
theorem jD.or{r r':R2}(h:jD X r)(h':jD X r'):jD X (λ x y H Q=>r x y H Q\/r' x y H Q):=by
 intro value fX aA s σ H x y v u Q I rx ry q hs;rcases q with q | q
 ·exact h value fX aA s σ H x y v u Q I rx ry q hs
 ·exact h' value fX aA s σ H x y v u Q I rx ry q hs
theorem rB.or{id:String}{r r':V->List V->Hp->VK->Prop}(h:rB X id r)(h':rB X id r'):rB X id (λ x xs H Q=>r x xs H Q\/r' x xs H Q):=by
 intro aA s σ H x xs v us Q I rx rs q;rcases q with q | q
 ·exact h aA s σ H x xs v us Q I rx rs q
 ·exact h' aA s σ H x xs v us Q I rx rs q
theorem aDc{r:R2}(hr:jD X r)(ha:PE X a ta)(hb:PE X b tb)(hs:sE b):PE X (.Subscript a b pos) (qY r ta tb):=by
 intro aA s σ H Q I h;exact Subscript_ (zO ha hb I h λ v u s2 x y H2 I2 rx ry q=>hr a b aA s2 σ H2 x y v u Q I2 rx ry q (hs _ _))
noncomputable def aLx(K:FrG):R2:=λ x y H Q=>∃ p xs i v,x=.ref p/\y=.int i/\bK K H p xs/\hJ xs i=qq v/\Q v H
noncomputable def aLN(K:FrG):R2:=λ x y H Q=>∃ p xs i v,x=.ref p/\y=.int i/\bR K H p xs/\hJ xs i=qq v/\Q v H
noncomputable def aLk:R2:=λ x y H Q=>∃ z i c,x=.str z/\y=.int i/\z.length<=qk/\hJ z.cps.toList i=qq c/\Q (.str ⟨#[c]⟩) H
theorem aG7:jD X (aLx X.K):=by
 intro value fX aA s σ H x y v u Q I rx ry h hs;obtain⟨p,xs,i,z,rfl,rfl,hq,he,q⟩:=h;cases rx;obtain⟨t,rfl⟩:=ry;obtain⟨aC,r,pl,hz⟩:=I.list hq;obtain⟨j,h1,h2,h3,h4,h5⟩:=xH he;obtain⟨w,ew,rw'⟩:=r.get h2;have hl:=r.length;have hn:=lH;have bB:EP X aA σ Q w s:=⟨z,H,I,rw',q⟩
 by_cases h0:0<=i
 ·have hj:i.toNat=j:=by
   rw[seqIndex_of h0 h5] at h1;exact Option.some.inj h1
  exact item_listR pl.isList h0 (by omega) (by rw[hj];simpa using ew) bB hs
 ·have hj:(i+(aC.toArray.size:Int)).toNat=j:=by
   rw[seqIndex_neg (by omega) h4] at h1
   rw[yAb,<- hl];exact Option.some.inj h1
  exact subscriptTail_builtinR (x:=w) pl.isList.typeIs slot_list_getitem.lookup
   (wpAny_getItem_list_neg (Q:=λ r s'=>r=w/\EP X aA σ Q r s') pl.isList (by omega) (by rw[yAb]<;>omega) (by omega) (by rw[hj];simpa using ew) ⟨rfl,bB⟩) hs
theorem aIt:jD X (aLN X.K):=by
 intro value fX aA s σ H x y v u Q I rx ry h hs;obtain⟨p,xs,i,z,rfl,rfl,hq,he,q⟩:=h;cases rx;obtain⟨t,rfl⟩:=ry;obtain⟨aC,r,pl,hz⟩:=I.tuple hq;obtain⟨j,h1,h2,h3,h4,h5⟩:=xH he;obtain⟨w,ew,rw'⟩:=r.get h2;have hl:=r.length;have hn:=lH;have bB:EP X aA σ Q w s:=⟨z,H,I,rw',q⟩;exact subscriptTail_builtinR (x:=w) pl.typeIs slot_tuple_getitem.lookup
  (getItem_tuple (j:=j) (Q:=λ r s'=>r=w/\EP X aA σ Q r s') pl (by omega) (by omega) (by rw[yAb,<- hl];exact h1) (by simpa using ew) ⟨rfl,bB⟩) hs
theorem aIh:jD X aLk:=by
 intro value fX aA s σ H x y v u Q I rx ry h hs;obtain⟨z,i,c,rfl,rfl,hz,he,q⟩:=h;obtain⟨t,rfl⟩:=rx;obtain⟨t',rfl⟩:=ry;obtain⟨j,h1,h2,h3,h4,h5⟩:=xH he;have hl:z.cps.toList.length=z.length:=by simp[Str.length]
 rw[hl] at h1 h4 h5;have hn:=lH;exact tail_any (typeIs_str s z t) slot_str_getitem.lookup (getItem_str (c:=c) (by
  have e1:decide (i < -(2^63:Int))=false:=dqF (by omega)
  have e2:decide (i ≥ 2^63)=false:=dqF (by omega)
  rw[e1,e2,Bool.or_false]) (by rw[h1];simpa using h2) ⟨.str ⟨#[c]⟩,H,I.tok _,⟨_,rfl⟩,q⟩) hs
theorem aFs(aC:List qx)(n j:Nat)(u:qx):Obj.mapSeq (·.setIfInBounds j u) {cls:=.type "list",data:=.seq aC.toArray n }={cls:=.type "list",data:=.seq (aC.set j u).toArray n }:=by
 simp[Obj.mapSeq]
theorem Inv.lst{aA:List (qv×Obj)}{σ:St}{H:Hp}{s:qj}{p:qv}{xs:List V}(I:Inv X aA σ H s)(h:H p=qq (.lst xs)) :
 ∃ (aC:List qx) (n:Nat),aM xs aC/\s.heap.get? p=qq {cls:=.type "list",data:=.seq aC.toArray n }/\xs.length<=qk:=by
 obtain⟨z,aC,n,r,e⟩:=I.hok p _ h;exact⟨aC,n,r,e,z⟩
theorem Inv.lstUpd{aA:List (qv×Obj)}{σ:St}{H:Hp}{s:qj}{p:qv}{xs ys:List V}{aC its':List qx}{n n':Nat}{f:Obj->Obj}(I:Inv X aA σ H s)(h:H p=qq (.lst xs))
 (ho:s.heap.get? p=qq {cls:=.type "list",data:=.seq aC.toArray n }) (hf:f {cls:=.type "list",data:=.seq aC.toArray n }={cls:=.type "list",data:=.seq its'.toArray n' }) (r:aM ys its') (hz:ys.length<=qk) (t:Nat) :
 Inv X aA σ (aT H p (.lst ys)) {s with heap:=s.heap.update p f,toks:=t }:=by
 have e:(s.heap.update p f).get? p=qq {cls:=.type "list",data:=.seq its'.toArray n' }:=by
  rw[yBv f ho (by rw[hf]<;>rfl),hf]
 refine I.write (x:=p) (e:=p) (by rw[h];trivial) (.inl rfl) (λ b u hb q=>(yBc _ _ (Ne.symm hb)).trans q) ⟨_,e⟩ ?_
 exact⟨hz,its',n',r,e⟩
noncomputable def aDu:V->V->V->Hp->(Hp->Prop)->Prop:=λ o i v H Q=>∃ p xs k j,o=.ref p/\i=.int k/\H p=qq (.lst xs)/\hZ xs.length k=qq j/\Q (aT H p (.lst (xs.set j v)))
theorem aF0:aDU X aDu:=by
 intro aA s σ H o i v ov iv u Q I ro ri rv h;obtain⟨p,xs,k,j,rfl,rfl,hp,hj,q⟩:=h;cases ro;obtain⟨t,rfl⟩:=ri;obtain⟨aC,n,r,ho,hz⟩:=I.lst hp;obtain⟨h1,h2,h3,h4⟩:=aBU hj;have hl:=r.length;have hn:=lH;have I':Inv X aA σ (aT H p (.lst (xs.set j v))) {s with heap:=s.heap.update p (Obj.mapSeq (·.setIfInBounds j u)) }:=
  I.lstUpd hp ho (aFs aC n j u) (r.set rv j) (by rw[yAo];exact hz) s.toks
 by_cases h0:0<=k
 ·have hk:k.toNat=j:=by
   rw[seqIndex_of h0 h4] at h1;exact Option.some.inj h1
  exact PySem.W.ki_setAt ho h0 (by omega) (by rw[yAb,<- hl];exact h4) (by rw[hk];exact⟨_,I',q⟩)
 ·have hk:(k+(aC.toArray.size:Int)).toNat=j:=by
   rw[seqIndex_neg (by omega) h3] at h1
   rw[yAb,<- hl];exact Option.some.inj h1
  exact PySem.W.ki_setBack ho (by omega) (by rw[yAb,<- hl];exact h3) (by omega) (by rw[hk];exact⟨_,I',q⟩)
theorem aEW(lo hi:Option Int)(n:Nat):(vq lo hi qz n).1=((HT.sIx n 0 lo:Nat):Int)/\(vq lo hi qz n).2.1=((HT.sIx n n hi:Nat):Int)/\(vq lo hi qz n).2.2=1:=by
 refine⟨?_,?_,rfl⟩
 ·cases lo with
  | none=>simp[vq,HT.sIx]
  | some i =>
    simp only[vq,HT.sIx,yDo,show(1:Int)>0 by decide,if_true]
    by_cases h:i<0
    ·simp only[h,if_true]<;>omega
    ·simp only[h,if_false]<;>omega
 ·cases hi with
  | none=>simp[vq,HT.sIx]
  | some i =>
    simp only[vq,HT.sIx,yDo,show(1:Int)>0 by decide,if_true]
    by_cases h:i<0
    ·simp only[h,if_true]<;>omega
    ·simp only[h,if_false]<;>omega
theorem aEK(aC:List qx)(lo hi:Option Int):slicePick aC.toArray lo hi qz=((aC.drop (HT.sIx aC.length 0 lo)).take (HT.sIx aC.length aC.length hi-HT.sIx aC.length 0 lo)).toArray:=by
 obtain⟨h1,h2,h3⟩:=aEW lo hi aC.toArray.size;unfold slicePick;rw[h1,h2,h3];simp only[sliceRange_one,pick_run,yAb]<;>rfl
noncomputable def aLK(K:FrG):V->Option Int->Option Int->Hp->VK->Prop:=λ x lo hi H Q=>∃ a xs,x=.ref a/\bK K H a xs/\∀ p,H p=qz->Q (.ref p) (aT H p (.lst (jU xs lo hi)))
theorem aHj:kW X (aLK X.K):=by
 intro aA s σ H x v vl vu lo hi sl Q I rx hs pl pu h;obtain⟨a,xs,rfl,hx,q⟩:=h;cases rx;obtain⟨aC,r,ht,hz⟩:=I.list hx;have bS:=r.length;refine⟨"list",_,slot_list_getitem.lookup,ht.isList.typeIs,?_⟩;refine wpAny_getItem_list_slice ht.isList hs pl pu .none (by simp) ?_ (by rw[yAb]<;>omega)
 rw[aEK,<- bS];refine⟨.ref s.heap.objs.size,_,I.laid (t':=s.toks) (o:=.lst (jU xs lo hi)) (λ b ob q=>hpS _ q) (yAc _) ?_,rfl,q _ (I.hok.fresh (yAc _))⟩
 exact⟨xAg (aAW xs lo hi) hz,_,0,(r.drop (HT.sIx xs.length 0 lo)).take (HT.sIx xs.length xs.length hi-HT.sIx xs.length 0 lo),xAe _ rfl⟩
noncomputable def iM:V->Bool
 | .non=>true
 | .bl _=>true
 | .int _=>true
 | .str _=>true
 | _=>false
noncomputable def kB:V->V->Bool
 | .non,.non=>true
 | .bl a,.bl b=>a==b
 | .bl a,.int b=>(if a then 1 else 0)==b
 | .int a,.bl b=>a==(if b then 1 else 0)
 | .int a,.int b=>a==b
 | .str a,.str b=>a==b
 | _,_=>false
theorem aI8{A:zx}{s:qj}{y x:V}{u v:qx}(ry:aP y u)(rx:aP x v)(fy:iM y=true)(fx:iM x=true):SeqAt.EqAt A s u v (kB y x):=by
 cases y with
 | non =>
   cases ry;cases x with
   | non=>cases rx;exact SeqAt.EqAt.same _
   | bl b=>cases rx;exact SeqAt.EqAt.none_bool b
   | int b=>obtain⟨t,rfl⟩:=rx;exact SeqAt.EqAt.none_int b t
   | str b=>obtain⟨t,rfl⟩:=rx;exact SeqAt.EqAt.none_str b t
   | _=>exact absurd (show false=true from fx) yAs
 | bl a =>
   cases ry;cases x with
   | non=>cases rx;exact SeqAt.EqAt.bool_none a
   | bl b=>cases rx;exact SeqAt.EqAt.bool_bool a b
   | int b=>obtain⟨t,rfl⟩:=rx;exact SeqAt.EqAt.bool_int a b t
   | str b=>obtain⟨t,rfl⟩:=rx;exact SeqAt.EqAt.bool_str a b t
   | _=>exact absurd (show false=true from fx) yAs
 | int a =>
   obtain⟨t',rfl⟩:=ry;cases x with
   | non=>cases rx;exact SeqAt.EqAt.int_none a t'
   | bl b=>cases rx;exact SeqAt.EqAt.int_bool a t' b
   | int b=>obtain⟨t,rfl⟩:=rx;exact SeqAt.EqAt.int_int a t' b t
   | str b=>obtain⟨t,rfl⟩:=rx;exact SeqAt.EqAt.int_str a t' b t
   | _=>exact absurd (show false=true from fx) yAs
 | str a =>
   obtain⟨t',rfl⟩:=ry;cases x with
   | non=>cases rx;exact SeqAt.EqAt.str_none a t'
   | bl b=>cases rx;exact SeqAt.EqAt.str_bool a t' b
   | int b=>obtain⟨t,rfl⟩:=rx;exact SeqAt.EqAt.str_int a t' b t
   | str b=>obtain⟨t,rfl⟩:=rx;exact SeqAt.EqAt.str_str a t' b t
   | _=>exact absurd (show false=true from fx) yAs
 | _=>exact absurd (show false=true from fy) yAs
noncomputable def eO(x:V)(u:qx):Bool:=match u with
 | .none=>kB .non x
 | .bool b=>kB (.bl b) x
 | .int i _=>kB (.int i) x
 | .str z _=>kB (.str z) x
 | _=>false
theorem aCG{x y:V}{u:qx}(r:aP y u)(f:iM y=true):eO x u=kB y x:=by
 cases y with
 | non=>cases r;rfl
 | bl b=>cases r;rfl
 | int i=>obtain⟨t,rfl⟩:=r;rfl
 | str z=>obtain⟨t,rfl⟩:=r;rfl
 | _=>exact absurd (show false=true from f) yAs
theorem pB{x:V}:∀ {xs:List V}{us:List qx},aM xs us->xs.all iM=true->us.any (eO x)=xs.any λ y=>kB y x
 | _,_,.nil,_=>rfl
 | y::xs,u::us,.cons r t,f=>by
   rw[yDb,yBq] at f;rw[yEe,yEe,aCG r f.1,pB t f.2]
theorem oS{A:zx}{s:qj}{x:V}{v:qx}(rx:aP x v)(fx:iM x=true):∀ {xs:List V}{us:List qx},aM xs us->xs.all iM=true->∀ u∈us,SeqAt.EqAt A s u v (eO x u)
 | _,_,.nil,_=>λ u hu=>by cases hu
 | y::xs,u::us,.cons r t,f=>λ u' hu=>by
   rw[yDb,yBq] at f;rcases List.mem_cons.mp hu with rfl | hu
   ·rw[aCG r f.1];exact aI8 r rx f.1 fx
   ·exact oS rx fx t f.2 u' hu
noncomputable def nX(x:V)(xs:List V):Bool:=xs.any λ y=>kB y x
noncomputable def rIn(K:FrG)(neg:Bool):R2:=λ x y H Q=>∃ p xs,y=.ref p/\(bK K H p xs\/bR K H p xs)/\iM x=true/\xs.all iM=true/\Q (.bl (if neg then !nX x xs else nX x xs)) H
theorem aFP:bX X (jq .In) (rIn X.K false):=by
 intro aA s σ H x y v u Q I rx ry h;obtain⟨p,xs,rfl,hq,fx,fs,q⟩:=h;cases ry;rcases hq with hq | hq
 ·obtain⟨aC,r,pl,hz⟩:=I.list hq;refine SeqAt.in_listAt (eO x) pl.isList (λ w hw=>oS rx fx r fs w (by simpa using hw)) ⟨.bl _,H,I,rfl,?_⟩
  rw[show aC.toArray.any (eO x)=aC.any (eO x) by simp,pB r fs]
  exact q
 ·obtain⟨aC,r,pl,hz⟩:=I.tuple hq;refine SeqAt.in_tupleAt (eO x) pl (λ w hw=>oS rx fx r fs w (by simpa using hw)) ⟨.bl _,H,I,rfl,?_⟩
  rw[show aC.toArray.any (eO x)=aC.any (eO x) by simp,pB r fs]
  exact q
theorem aEU:bX X (jq .NotIn) (rIn X.K true):=by
 intro aA s σ H x y v u Q I rx ry h;obtain⟨p,xs,rfl,hq,fx,fs,q⟩:=h;cases ry;rcases hq with hq | hq
 ·obtain⟨aC,r,pl,hz⟩:=I.list hq;refine SeqAt.notIn_listAt (eO x) pl.isList (λ w hw=>oS rx fx r fs w (by simpa using hw)) ⟨.bl _,H,I,rfl,?_⟩
  rw[show aC.toArray.any (eO x)=aC.any (eO x) by simp,pB r fs]
  exact q
 ·obtain⟨aC,r,pl,hz⟩:=I.tuple hq;refine SeqAt.notIn_tupleAt (eO x) pl (λ w hw=>oS rx fx r fs w (by simpa using hw)) ⟨.bl _,H,I,rfl,?_⟩
  rw[show aC.toArray.any (eO x)=aC.any (eO x) by simp,pB r fs]
  exact q
theorem aAO:cD X (.builtin "len") (λ xs H Q=>∃ p ys,xs=[.ref p]/\(bK X.K H p ys\/bR X.K H p ys)/\Q (.int ys.length) H):=by
 intro aA s σ H xs us Q I r h;obtain⟨p,ys,rfl,hq,q⟩:=h;obtain⟨u,rfl,rx⟩:=eT r;cases rx;have hn:=lH;rcases hq with hq | hq
 ·obtain⟨aC,r',pl,hz⟩:=I.list hq;have bS:=r'.length;exact Calls.call_len_list pl.isList (by simp only[yAb]<;>omega) ⟨.int ys.length,H,I.tok _,⟨s.toks+1,by rw[yAb,bS]⟩,q⟩
 ·obtain⟨aC,r',pl,hz⟩:=I.tuple hq;have bS:=r'.length;exact len_tuple pl (by simp only[yAb]<;>omega) ⟨.int ys.length,H,I.tok _,⟨s.toks+1,by rw[yAb,bS]⟩,q⟩
theorem aEV:cD X (.builtin "len") (λ xs H Q=>∃ z,xs=[.str z]/\z.length<=qk/\Q (.int z.length) H):=by
 intro aA s σ H xs us Q I r h;obtain⟨z,rfl,hz,q⟩:=h;obtain⟨u,rfl,t,rfl⟩:=eT r;have hn:=lH;exact len_str (by omega) ⟨.int z.length,H,I.tok _,⟨_,rfl⟩,q⟩
theorem cD.or{f:qx}{r r':List V->Hp->VK->Prop}(h:cD X f r)(h':cD X f r'):cD X f (λ xs H Q=>r xs H Q\/r' xs H Q):=by
 intro aA s σ H xs us Q I rs q;rcases q with q | q
 ·exact h aA s σ H xs us Q I rs q
 ·exact h' aA s σ H xs us Q I rs q
theorem aER:cD X (.type "list") (λ xs H Q=>∃ p ys,xs=[.ref p]/\(bK X.K H p ys\/bR X.K H p ys)/\∀ l,H l=qz->Q (.ref l) (aT H l (.lst ys))):=by
 intro aA s σ H xs us Q I r h;obtain⟨p,ys,rfl,hq,q⟩:=h;obtain⟨u,rfl,rx⟩:=eT r;cases rx;have bB:∀ (aC:List qx),aM ys aC->ys.length<=qk->∀ (h':Heap) (c':Nat),(∀ b o',s.heap.get? b=qq o'->h'.get? b=qq o') ->
  h'.get? s.heap.objs.size=qq {cls:=.type "list",dict:=qz,data:=.seq aC.toArray c',slots:=#[] }->EP X aA σ Q (.ref s.heap.objs.size) {s with heap:=h' }:=λ aC r' hz h' c' kp e =>
  ⟨.ref s.heap.objs.size,_,I.laid (t':=s.toks) kp (yAc _) (show eD X.prog X.w _ h' _ (.lst ys) from ⟨hz,aC,c',r',e⟩),rfl,q _ (I.hok.fresh (yAc _))⟩
 rcases hq with hq | hq
 ·obtain⟨aC,r',pl,hz⟩:=I.list hq;have bS:=r'.length;obtain⟨o,ho,hc,n,hd⟩:=pl.isList;exact call_list_seq p (.inl rfl) ho hc hd (λ h' c' kp e=>bB aC r' hz h' c' kp e) (by simp only[yAb]<;>omega)
 ·obtain⟨aC,r',pl,hz⟩:=I.tuple hq;have bS:=r'.length;obtain⟨o,ho,hc,n,hd⟩:=pl;exact call_list_seq p (.inr rfl) ho hc hd (λ h' c' kp e=>bB aC r' hz h' c' kp e) (by simp only[yAb]<;>omega)
theorem aAJ:cD X (.type "tuple") (λ xs H Q=>∃ p ys,xs=[.ref p]/\((bK X.K H p ys/\∀ l,H l=qz->Q (.ref l) (aT H l (.tup ys)))\/(bR X.K H p ys/\Q (.ref p) H))):=by
 intro aA s σ H xs us Q I r h;obtain⟨p,ys,rfl,h⟩:=h;obtain⟨u,rfl,rx⟩:=eT r;cases rx;rcases h with ⟨hq,q⟩ | ⟨hq,q⟩
 ·obtain⟨aC,r',pl,hz⟩:=I.list hq;have bS:=r'.length;refine call_tuple_list pl.isList (λ h' kp=>?_) (by simp only[yAb]<;>omega)
  have I1:Inv X aA σ H {s with heap:=h' }:=I.kept (t':=s.toks) kp
  have I2:Inv X aA σ (aT H h'.objs.size (.tup ys)) {s with heap:=h'.push {cls:=.type "tuple",data:=.seq aC.toArray } }:=
   I1.laid (t':=s.toks) (λ b o e=>hpS _ e) (yAc _) (show eD X.prog X.w _ _ _ (.tup ys) from ⟨hz,aC,r',IsTup.new _ _⟩)
  exact⟨.ref h'.objs.size,_,I2,rfl,q _ (I1.hok.fresh (yAc _))⟩
 ·obtain⟨aC,r',pl,hz⟩:=I.tuple hq;exact call_tuple_same pl ⟨.ref p,H,I,rfl,q⟩
def tyV(K:FrG)(T:String)(x:V)(H:Hp):Prop:=match x with
 | .str _=>T = "str"
 | .int _=>T = "int"
 | .ref p=>(T = "list" /\ ∃ xs,bK K H p xs)\/(T = "tuple" /\ ∃ o,K.lookup p=qq o/\o.cls=.type "tuple" /\ o.dict=qz) \/
    (T = "dict" /\ ((∃ aN,H p=qq (.dK aN))\/∃ aN,H p=qq (.dT aN)))\/(T = "set" /\ ∃ S n,H p=qq (.set S n))
 | _=>False
theorem aJc{aA:List (qv×Obj)}{σ:St}{H:Hp}{s:qj}{T:String}{x:V}{v:qx}(I:Inv X aA σ H s)(r:aP x v)(ty:tyV X.K T x H) :
 s.TypeIs v T/\∀ a,v=.ref a->∃ ob,s.heap.get? a=qq ob/\ob.dict=qz:=by
 cases x with
 | str z =>
   obtain⟨t,rfl⟩:=r;cases (show T = "str" from ty)
   exact⟨typeIs_str s z t,λ _ e=>nomatch e⟩
 | int i =>
   obtain⟨t,rfl⟩:=r;cases (show T = "int" from ty)
   exact⟨wz s i t,λ _ e=>nomatch e⟩
 | ref p =>
   cases r;rcases ty with ⟨rfl,xs,hq⟩ | ⟨rfl,o,hk,hc,hd⟩ | ⟨rfl,hk⟩ | ⟨rfl,S,n,hk⟩
   ·obtain⟨aC,_,pl,_⟩:=I.list hq;refine⟨pl.isList.typeIs,λ a e=>?_⟩
    cases e;obtain⟨o,n,e,c,hd,_⟩:=pl;exact⟨o,e,hd⟩
   ·refine⟨⟨o,I.kIn p o hk,hc⟩,λ a e=>?_⟩
    cases e;exact⟨o,I.kIn _ o hk,hd⟩
   ·have z:∃ o,s.heap.get? p=qq o/\o.ExactDict:=by
     rcases hk with ⟨aN,hk⟩ | ⟨aN,hk⟩
     ·obtain⟨_,_,_,_,o,_,_,e,ex,_⟩:=I.hok p _ hk;exact⟨o,e,ex⟩
     ·obtain⟨_,_,_,_,o,_,_,e,ex,_⟩:=I.hok p _ hk;exact⟨o,e,ex⟩
    obtain⟨o,e,ex⟩:=z;refine⟨⟨o,e,ex.1⟩,λ a e2=>?_⟩
    cases e2;exact⟨o,e,ex.2.1⟩
   ·obtain⟨o,_,_,_,e,ex,_⟩:=I.hok p _ hk;refine⟨⟨o,e,ex.1⟩,λ a e2=>?_⟩
    cases e2;exact⟨o,e,ex.2.1⟩
 | _=>exact False.elim ty
def tBM(K:FrG)(T:String)(r:V->List V->Hp->VK->Prop)(to:TE)(t:TA):TE:=λ σ H Q=>to σ H λ x H1=>tyV K T x H1/\t σ H1 λ xs H2=>r x xs H2 Q
variable {o e : qw}{es : List qw}{to : TE}{t : TA}{name : Str}{apos cpos : Pos}{T id : String}{r : V -> List V -> Hp -> VK -> Prop}
theorem aDk(pa:PlainAttrs T)(slot:Slot T name id)(hty:typeOf (.builtin id)=pure (.type "method_descriptor"))(hm:rB X id r)(ho:PE X o to)(ha:PA X (e::es) t)
 (hbase:attributeBase o name X.env (eval o X.env)=eval o X.env:=by rfl)
 (hfew:((backTo cpos (zj (e::es) X.env)).all (λ x=>!x.1)&&(backToKw cpos (keywordEach [] X.env)).all (λ x=>x.1.isSome)
   && decide ((e::es).length+([]:List Keyword).length+(if ([]:List Keyword).isEmpty then 0 else 1)<30))=true:=by rfl)
 (hline:(apos.endLine==cpos.line)=true:=by rfl) (hs:zj (e::es) X.env=(false,eval e X.env)::zj es X.env:=by rfl) (hplain:(backTo cpos (zj es X.env)).any (·.1)=false:=by rfl) :
 PE X (.Call (.Attribute o name apos) (e::es) [] cpos) (tBM X.K T r to t):=by
 intro aA s σ H Q I h;refine wpAny_Call_method_late hbase hfew hline rfl (aY (ho aA s σ H _ I h) λ v s1 hPq27=>?_)
 obtain⟨x,H1,I1,r1,ty,q1⟩:=hPq27;obtain⟨h1,h2⟩:=aJc I1 r1 ty;refine⟨T,id,pa,slot,hty,h1,h2,?_⟩;have hA:=ha cpos aA s1 σ H1 _ I1 q1;rw[hs] at hA ⊢;refine Calls.callWith_builtin (by show(false||(backTo cpos (zj es X.env)).any (·.1))=false;rw[hplain]<;>rfl) (Calls.evalArgs_plain ?_)
 exact aY hA λ us s2 ⟨vs,H2,I2,r2,q2⟩=>hm aA s2 σ H2 x vs v us Q I2 r1 r2 q2
end
end L2
namespace L2
open PySem PySem.Spec PyProof.Rows
def MtM(X:Cx)(id:String)(r:V->List V->Hp->VK->Prop):Prop:=
 ∀ (aA:List (qv×Obj)) (s:qj) (σ:St) (H:Hp) (x:V) (xs:List V) (v:qx) (us:List qx) (Q:VK),Inv X aA σ H s->aP x v->aM xs us->r x xs H Q ->
  qu (model X.prog X.w) X.A (call (.builtin id) (v::us)) (EP X aA σ Q) X.xe s
theorem aM.one:∀ {x:V}{us:List qx},aM [x] us->∃ u,us=[u]/\aP x u
 | _,_,.cons r .nil=>⟨_,rfl,r⟩
theorem aM.two:∀ {x y:V}{us:List qx},aM [x,y] us->∃ u v,us=[u,v]/\aP x u/\aP y v
 | _,_,_,.cons r (.cons q .nil)=>⟨_,_,rfl,r,q⟩
theorem aM.zero:∀ {us:List qx},aM [] us->us=[]
 | _,.nil=>rfl
theorem aM.reverse{xs:List V}{us:List qx}(h:aM xs us):aM xs.reverse us.reverse:=by
 induction h with
 | nil=>exact .nil
 | cons r t ih=>rw[yDh,yDh];exact aM.append ih (.cons r .nil)
theorem aM.rep{xs:List V}{us:List qx}(h:aM xs us):∀ k:Nat,aM (yAd k xs).flatten (yAd k us).flatten
 | 0=>.nil
 | k+1=>by
   rw[yAp,yAp,yCa,yCa];exact aM.append h (aM.rep h k)
theorem rT(aC:List qx):∀ (k:Nat) (aW:List qx),
 List.foldl (λ x1 x2=>x1++x2) aW.toArray (yAd k aC.toArray)=(aW++(yAd k aC).flatten).toArray
 | 0,aW=>by simp
 | k+1,aW=>by
   have e:aW.toArray++aC.toArray=(aW++aC).toArray:=by simp
   have e2:(aW++aC)++(yAd k aC).flatten=aW++(yAd (k+1) aC).flatten:=by
    rw[yAp,yCa,yDi]
   rw[<- e2,<- rT aC k (aW++aC),<- e,yAp,yAi]
section
variable {X : Cx}{aA : List (qv×Obj)}{σ : St}{H : Hp}{s : qj}{l b : qv}{xs ys zs : List V}
theorem Inv.lset{aC its':List qx}{n:Nat}{f:Array qx->Array qx}{t':Nat}(I:Inv X aA σ H s)(hH:H l=qq (.lst xs))
 (e:s.heap.get? l=qq {cls:=.type "list",data:=.seq aC.toArray n }) (hf:f aC.toArray=its'.toArray) (hv:aM ys its') (hz:ys.length<=qk) :
 Inv X aA σ (aT H l (.lst ys)) {s with heap:=s.heap.update l (Obj.mapSeq f),toks:=t' }:=by
 have q:=PySem.IsL.update e f;rw[hf] at q;refine I.write (x:=l) (e:=l) (by rw[hH];exact trivial) (.inl rfl) (λ b' u hb hu=>(yBc s.heap (Obj.mapSeq f) (Ne.symm hb)).trans hu) ⟨_,q⟩ ?_
 exact⟨hz,its',_,hv,q⟩
theorem Inv.lnew{aC:List qx}{t':Nat}(I:Inv X aA σ H s)(hv:aM ys aC)(hz:ys.length<=qk) :
 Inv X aA σ (aT H s.heap.objs.size (.lst ys)) {s with heap:=s.heap.push {cls:=.type "list",data:=.seq aC.toArray },toks:=t' }:=
 I.laid (λ _ _ q=>hpS _ q) (yAc _) ⟨hz,aC,0,hv,xAe _ rfl⟩
theorem Inv.fresh(I:Inv X aA σ H s):H s.heap.objs.size=qz:=I.hok.fresh (yAc _)
theorem Inv.lstM(I:Inv X aA σ H s)(hH:H l=qq (.lst xs)):xs.length<=qk/\∃ (aC:List qx) (n:Nat),aM xs aC/\xs.length=aC.length/\s.heap.get? l=qq {cls:=.type "list",data:=.seq aC.toArray n }:=by
 obtain⟨z,aC,n,r,e⟩:=I.hok l _ hH;exact⟨z,aC,n,r,r.length,e⟩
end
section
variable {X : Cx}
noncomputable def aB8:V->List V->Hp->VK->Prop:=λ x vs H Q=>∃ l xs y,x=.ref l/\vs=[y]/\H l=qq (.lst xs)/\xs.length<qk/\Q .non (aT H l (.lst (xs++[y])))
theorem wD:MtM X "list.append" aB8:=by
 intro aA s σ H x vs v us Q I rx rv h;obtain⟨l,xs,y,rfl,rfl,hH,hz,q⟩:=h;cases rx;obtain⟨u,rfl,ru⟩:=rv.one;obtain⟨z,aC,n,r,hl,e⟩:=I.lstM hH;refine vw F.slot_list_append ⟨_,e,rfl⟩ F.entry_list_append (F.args_list_append_2 _ _) (PySem.list_append l aC.toArray n u (by rw[yAb];omega)) ⟨e,?_⟩
 refine⟨.non,_,I.lset (its':=aC++[u]) hH e (by simp) (r.append (.cons ru .nil)) ?_,rfl,q⟩
 rw[xAk,List.length_singleton];omega
theorem aHr{α:Type}(xs:List α)(k:Nat):(yAd k xs).flatten.length=k*xs.length:=by
 induction k with
 | zero=>simp
 | succ k ih=>rw[yAp,yCa,xAk,ih,Nat.succ_mul,Nat.add_comm]
end
section
variable {prog : qo}{w : zq}{A : zx}{E : qx -> qj -> Prop}{s : qj}
end
section
variable {X : Cx}
end
end L2
namespace Att
open PySem PySem.W PySem.Calls PyProof.Rows
theorem aEF{P:Params}{h:Heap}:∀ (ns:List Int) (vs:List qx),WellAll P h vs (ns.map WData.int)->IntsAre vs ns:=by
 intro ns
 induction ns with
 | nil =>
   intro vs w;rw[yCf] at w;cases w;exact .nil
 | cons n ns ih =>
   intro vs w;rw[yAm] at w;cases w with
   | cons a b =>
     cases a;exact .cons _ _ (ih _ b)
theorem script_of{l:OpenLaw}{n:Nat}(hn:l.most=qq n){P:Params}{h:Heap}{args:List WData}{vals:List qx}
 (hpre:l.row.toRowW.claim.pre args=true) (hwl:WellAll P h vals args) :
 ∃ a vs ns,vals=[Value.ref a]/\args=[WData.list (ns.map WData.int)]/\h.get? a=qq {cls:=.type "list",data:=.seq vs.toArray }/\IntsAre vs ns/\ns.length<=n:=by
 have hsh:WShape.hasAll [] args [.list .int]=true:=(pre_splitW hpre).1;have hc:l.pre.holds [] {args:=args }=true:=(pre_splitW hpre).2;obtain⟨d,r,rfl,h1,h2⟩:=hasAllW_cons hsh;obtain rfl:=hasAllW_nil h2;obtain⟨xs,rfl,h3⟩:=hasW_list h1;obtain⟨ns,rfl⟩:=items_int h3;have bS:ns.length<=n:=by
  unfold OpenLaw.pre at hc;have h4:(WTm.not (.lt (.lit (.int (n:Int))) (.len (.arg 0)))).holds [] {args:=[.list (ns.map .int)] }=true:=by
   have h4:=(holds_andW hc).1;rw[hn] at h4;exact h4
  have h5:=condW_of h4 (w_not (w_lt w_lit (w_len_list (w_arg rfl))));rw[yAg] at h5;refine yDp λ q=>?_
  have q':(n:Int)<((ns.length:Nat):Int):=by omega
  first
   | (rw[dqT q'] at h5;exact absurd h5 (by decide))
   | (simp at h5;omega)
 cases hwl with
 | cons w1 w2 =>
   cases w2;cases w1 with
   | list ho hall=>exact⟨_,_,ns,rfl,rfl,ho,aEF ns _ hall,bS⟩
theorem post_true(l:OpenLaw)(args:List WData):l.row.toRowW.claim.post args (.bool true) args=true:=
 postW_of (r:=l.row.toRowW) (X:=(true==true))
  (show WShape.has [] (.bool true) .bool=true by first | rfl | decide | simp[WShape.has,WShape.arms,WShape.armsAll])
  (show(WTm.eq .res (.lit (.bool true))).value [] {args:=args,res:=qq (.bool true),after:=args }=qq (.bool (true==true)) from w_eq_bool (w_res rfl) w_lit) rfl
theorem attach_call{l:OpenLaw}{n:Nat}{q:qo}{loose:List Str}{XP:(Str->Option qx)->Heap->Prop}{YP:zq->Heap->Prop}{d:DefRec}
 (hn:l.most=qq n) (hdf:d.params.defaults=[])
 (call:∀ (w:zq) (s₀ s₁:qj) (mg mb:Str->Option qx) (fa:qv) (o:Obj) (pm cd doc:qx) (a:qv) (vs:List qx) (ns:List Int),
   Ground q loose [] XP w s₀ mg mb s₁.heap->YP w s₁.heap ->
   s₁.heap.get? fa=qq o->o.data=.func (docDef d.name d.params d.body d.scope pm cd doc)->s₁.heap.CodeRec cd d.name->mg d.name=qq (.ref fa) ->
   s₁.heap.get? a=qq {cls:=.type "list",data:=.seq vs.toArray }->IntsAre vs ns->ns.length<=n->s₁.gens = #[] ->
   vx (model l.prog w) callerA (.call (.ref fa) ⟨[.ref a],[]⟩) (λ r s'=>r=.ok (.ret (.bool true))/\OldK s₁.heap s'.heap/\s'.os=s₁.os/\AllBare s'.gens) s₁) :
 WalkO q loose XP YP l.row.toRowW d [] (λ f vs=>PySem.call f vs):=by
 intro w s₀ s₁ mg mb G Y fa o pm cd doc dV kV ho hd hcd hD hmg hg args vals as hpre hlay hrd hwl hlo;obtain rfl:dV=.none:=Dflts.none hD hdf;obtain rfl:kV=.none:=Dflts.noKw hD;obtain⟨a,vs,ns,rfl,rfl,hobj,hints,bS⟩:=script_of hn hpre hwl;refine enter_call (codeAny_mono (call w s₀ s₁ mg mb fa o pm cd doc a vs ns G Y ho (fd_plain hd) hcd hmg hobj hints bS hg) λ r s' hq=>?_)
 obtain⟨rfl,h2,h3,h4⟩:=hq;exact⟨.inl ⟨.bool true,.bool true,[],rfl,λ _=>rfl,.bool true,post_true l _,λ _=>⟨List.Pairwise.nil,λ _ hm=>(nomatch hm)⟩⟩,h2,h3,h4⟩
section
variable {prog : qo}{w : zq}{A : zx}{E : qx -> qj -> Prop}{s : qj}{K : Frag}
noncomputable def aMj(h:Heap)(L d:qv):List (qv×Obj):=(yAy h.objs.size).filterMap λ a=>if a=L\/a=d then qz else (h.get? a).map λ o=>(a,o)
end
end Att
namespace L2
open PySem PySem.Spec PyProof.Rows
theorem aBb:∀ {vs:List qx}{ns:List Int},IntsAre vs ns->aM (ns.map V.int) vs
 | _,_,.nil=>.nil
 | _,_,.cons n t h=>.cons ⟨t,rfl⟩ (aBb h)
def zR(H:Hp):Prop:=∀ b,H b=qz\/∃ o xs,H b=qq (.frz o (.lst xs))
theorem law_call{P:qo}{w:zq}{K:FrG}{mg mb:Str->Option qx}{CX:fW}{k:Nat}{fa a:qv}{fd:xw}{x:Str}{sp:Sp}{s₁:qj}{vs:List qx}{ns:List Int}
 (KX:K.In s₁.heap) (hns:s₁.heap.Ns qy mg) (hb:s₁.heap.Ns builtinsNs mb) (hbb:∀ x:Str,x ≠ "__name__" -> mb x=zk x) (hlim:s₁.heap.NoLimit) (hg:s₁.gens = #[])
 (ha:s₁.heap.get? a=qq {cls:=.type "list",data:=.seq vs.toArray }) (hi:IntsAre vs ns) (hl:ns.length<=qk) (hr:Room k callerA)
 (F:∀ base:Heap,K.In base->base.Ns qy mg->FnOk P w K mg base CX k fa fd [x] sp) (hbind:∀ (s:qj) (u:qx),BindsTo s fd ⟨[u],[]⟩ [(x,u)])
 (hsp:∀ H:Hp,zR H->bK K H a (ns.map V.int)->sp [.ref a] H (λ v _=>v=.bl true) λ _ _ _=>False)
 (hCX:∀ H e s',CX [] H s₁ (λ _ _ _=>False) e s'->False) :
 vx (model P w) callerA (.call (.ref fa) ⟨[.ref a],[]⟩) (λ r s'=>r=.ok (.ret (.bool true))/\OldK s₁.heap s'.heap/\s'.os=s₁.os/\AllBare s'.gens) s₁:=by
 have rv:=aBb hi;have lenV:=hi.length;have core:∀ H:Hp,zR H->bK K H a (ns.map V.int)->cE P w H s₁.heap->(∀ b,H b≠qz->b=a)->(H a≠qz->K.lookup a=qz) ->
  vx (model P w) callerA (.call (.ref fa) ⟨[.ref a],[]⟩) (λ r s'=>r=.ok (.ret (.bool true))/\OldK s₁.heap s'.heap/\s'.os=s₁.os/\AllBare s'.gens) s₁:=by
  intro H hO hS hok hA hK;have oX:∀ {b:qv}{o:Obj},s₁.heap.get? b=qq o->H b=qz->(jY s₁.heap H).get? b=qq o:=λ e n=>aGa e n
  have noA:∀ {b:qv}{o:Obj}{es:Array DictEntry}{ep:Nat},s₁.heap.get? b=qq o->o.data=.dict es ep->H b=qz:=λ {b o es ep} e d=>by
   cases q:H b with
   | none=>rfl
   | some u =>
     have e':b=a:=hA b (by rw[q];simp)
     subst e';rw[ha] at e;cases e;have d':Data.seq vs.toArray _=Data.dict es ep:=d;cases d'
  have nsK:∀ {b:qv}{m:Str->Option qx},s₁.heap.Ns b m->(jY s₁.heap H).Ns b m:=λ {b m} ⟨o,es,ep,e,d,r⟩=>⟨o,es,ep,oX e (noA e d),d,r⟩
  have hKb:K.In (jY s₁.heap H):=λ b o e=>oX (KX b o e) (by
   cases q:H b with
   | none=>rfl
   | some u =>
     have e':b=a:=hA b (by rw[q];simp)
     subst e';rw[hK (by rw[q];simp)] at e;cases e)
  have hM:Mod K mg (jY s₁.heap H):=⟨hKb,nsK hns,⟨mb,nsK hb,hbb⟩,let ⟨mc,h1,h2⟩:=hlim;⟨mc,nsK h1,h2⟩⟩;have e0:Env0 P w K mg (jY s₁.heap H) callerA [] s₁ H:=⟨rfl,hM,λ b o e=>aGI e,yEk (aFL _ _),trivial,λ b hb=>absurd (show b∈([]:List qv) from hb) (by simp),hok,.of_eq hg⟩
  refine codeAny_mono ((F _ hKb (nsK hns)).run callerA [] s₁ H ⟨[.ref a],[]⟩ [.ref a] [.ref a] _ _ hr e0 (hbind s₁ (.ref a)) (.cons rfl .nil) (hsp H hO hS)) λ r s' h=>?_
  cases r with
  | error e=>exact(hCX H e s' h).elim
  | ok fl =>
    cases fl with
    | next=>exact False.elim h
    | brk=>exact False.elim h
    | cont=>exact False.elim h
    | ret u =>
      obtain⟨v,H',os,bare,un,hok',r',q⟩:=h;have q':v=.bl true:=q;subst q';obtain rfl:u=Value.bool true:=r';refine⟨rfl,OldK.of_keep λ b o e=>?_,os,bare⟩
      cases q:H b with
      | none=>exact un.keep b o e q (by intro z;exact absurd (show b∈([]:List qv) from z) (by simp)) (by simp)
      | some u =>
        rcases hO b with z | ⟨ob,xs,z⟩
        ·rw[q] at z;cases z
        ·have z2:=un.frzs b ob _ z;obtain⟨e1,_⟩:=hok b _ z;obtain⟨e2,_⟩:=hok' b _ z2;rw[e] at e1;cases e1;exact e2
 cases hk:K.lookup a with
 | some o =>
   have e:=KX a o hk;rw[ha] at e;cases e;refine core (λ _=>qz) (λ _=>.inl rfl) (.inr ⟨_,vs.toArray,_,hk,rfl,rfl,rfl,by rw[yAb,lenV];exact hl,by simpa using rv⟩) (λ b u z=>by have z':(qz:Option HO)=qq u:=z;cases z') (λ b z=>absurd rfl z) λ z=>absurd rfl z
 | none =>
   refine core (λ b=>if b=a then qq (.frz {cls:=.type "list",data:=.seq vs.toArray } (.lst (ns.map V.int))) else qz) (λ b=>?_) (.inl (.inr ⟨{cls:=.type "list",data:=.seq vs.toArray },if_pos rfl⟩)) (λ b u z=>?_) (λ b z=>?_) λ _=>hk
   ·by_cases hb:b=a
    ·exact .inr ⟨_,_,if_pos hb⟩
    ·exact .inl (if_neg hb)
   ·by_cases hb:b=a
    ·have z':=(if_pos hb).symm.trans z;cases z';subst hb;exact⟨ha,by rw[yAg];exact hl,vs,_,rv,ha⟩
    ·have z':=(if_neg hb).symm.trans z;cases z'
   ·by_cases hb:b=a
    ·exact hb
    ·exact absurd (if_neg hb) z
end L2
namespace L2
open PySem PySem.Spec PyProof.Rows
noncomputable abbrev KOf{K:FrG}{h:Heap}(_:K.In h):FrG:=K
theorem aMi{l:yEl}{n k:Nat}{q:qo}{loose:List Str}{XP:(Str->Option qx)->Heap->Prop}{YP:zq->Heap->Prop}{d:DefRec}{K:Params->FrG}{CX:zq->fW}{sp:zq->Sp}{x:Str}
 (hn:l.most=qq n) (hn2:n<=qk) (hdf:d.params.defaults=[]) (hr:Room k callerA)
 (hY:∀ (w:zq) (h:Heap),YP w h->(K w.params).In h)
 (F:∀ (w:zq) (mg:Str->Option qx) (fa:qv) (h:Heap),(K w.params).In h->h.Ns qy mg->mg d.name=qq (.ref fa) ->
   ∃ fd:xw,(∀ (s:qj) (u:qx),BindsTo s fd ⟨[u],[]⟩ [(x,u)]) /\
    ∀ base:Heap,(K w.params).In base->base.Ns qy mg->FnOk l.prog w (K w.params) mg base (CX w) k fa fd [x] (sp w))
 (hsp:∀ (w:zq) (H:Hp) (a:qv) (ns:List Int),ns.length<=n->zR H->bK (K w.params) H a (ns.map V.int)->sp w [.ref a] H (λ v _=>v=.bl true) λ _ _ _=>False)
 (hCX:∀ (w:zq) (H:Hp) (s:qj) (e:qx) (s':qj),CX w [] H s (λ _ _ _=>False) e s'->False) :
 PySem.W.WalkO q loose XP YP l.row.toRowW d [] (λ f vs=>PySem.call f vs):=by
 refine Att.attach_call hn hdf λ w s₀ s₁ mg mb fa o pm cd doc a vs ns G Y ho hd hcd hmg hobj hints bS hg=>?_
 have KX:=hY w _ Y;obtain⟨fd,hb,hF⟩:=F w mg fa _ KX G.T.g hmg;exact law_call KX G.T.g G.T.b G.T.builtins G.T.nolimit hg hobj hints (xAg bS hn2) hr hF hb (λ H hO hS=>hsp w H a ns bS hO hS) λ H e s'=>hCX w H s₁ e s'
end L2
namespace L2
open PySem PySem.Spec PyProof.Rows
noncomputable def oY(s:zy)(j:Nat):zy:=match s with
 | .ClassDef _ _ _ body _ _ _ _ _ _ _=>body.getD j (.Pass ⟨0,0,0,0⟩)
 | _=>.Pass ⟨0,0,0,0⟩
noncomputable def fH(s:zy):Arguments:=match s with
 | .FunctionDef _ a _ _ _ _ _ _ _ _=>a
 | _=>{posonlyargs:=[],args:=[],vararg:=qz,kwonlyargs:=[],kw_defaults:=[],kwarg:=qz,defaults:=[] }
noncomputable def cY(s:zy):List zy:=match s with
 | .FunctionDef _ _ b _ _ _ _ _ _ _=>b
 | _=>[]
noncomputable def bD(s:zy):zv:=match s with
 | .FunctionDef _ _ _ _ _ _ sc _ _ _=>sc
 | _=>{kind:=.function,names:=[],isGenerator:=false,isCoroutine:=false }
noncomputable abbrev eA:fW:=λ _ _ _ _ _ _=>False
noncomputable abbrev E0:XK:=λ _ _ _=>False
theorem aDC{X:Cx}:sH eA X E0:=λ _ _ _ _ _ _ _ h=>h.elim
structure Fun(K:FrG)(x bA:Str)(st:zy)(f:qv)(fd:xw):Prop where
 ex:∃ (oc:qx) (od:Option qv) (kV doc pm:qx) (an:Option qv) (cdv ct:qx) (osl:Array (Option qx)),
  fd=yBl x bA (fH st) (cY st) (bD st) .none kV doc pm an cdv ct/\K.lookup f=qq ⟨oc,od,.func fd,osl⟩/\yCs K cdv bA=true
 kp:yBg K (.ref f)=true
section
variable {P : qo}{w : zq}{K : FrG}{mg : Str -> Option qx}{base : Heap}
theorem Fun.ok{x bA:Str}{st:zy}{f:qv}{fd:xw}{N ps:List Str}{k:Nat}{sp:Sp}(F:Fun K x bA st f fd)(S:FnScope N ps (bD st))(len:∀ vs H Q E,sp vs H Q E->vs.length=ps.length)
 (hbody:∀ (cdv:qx) (A:zx) (outer:List Env) (s:qj) (H:Hp) (vs:List V) (Q:VK) (E:XK),Room k (A.deeper (envOfC bA (bD st) s.heap.objs.size f cdv))->sp vs H Q E ->
   ∃ t,bI (fR eA P w K mg base N bA (bD st) f cdv A outer s H E).nox (cY st) t/\t {nx:=λ _ H'=>Q .non H',rt:=Q } (start N vs) H):FnOk P w K mg base eA (k+1) f fd ps sp:=by
 obtain⟨oc,od,kV,doc,pm,an,cdv,ct,osl,rfl,lk,hcd⟩:=F.ex;refine aDj lk hcd S len λ A outer s H vs Q E hr hsp=>?_
 obtain⟨t,h,q⟩:=hbody cdv A outer s H vs Q E hr hsp;exact⟨t,h.nox,q⟩
theorem Fun.binds{x bA:Str}{st:zy}{f:qv}{fd:xw}{ps:List Str}(F:Fun K x bA st f fd)
 (h:∀ (kV doc pm:qx) (an:Option qv) (cdv ct:qx) (us:List qx),us.length=ps.length->bindArgs (yBl x bA (fH st) (cY st) (bD st) .none kV doc pm an cdv ct) ⟨us,[]⟩=pure (ps.zip us)):cS K fd ps []:=by
 obtain⟨oc,od,kV,doc,pm,an,cdv,ct,osl,rfl,lk,hcd⟩:=F.ex;exact .all (h kV doc pm an cdv ct)
theorem aC3{x bA:Str}{st:zy}{f:qv}{oc:qx}{od an:Option qv}{osl:Array (Option qx)}{kV doc pm cdv ct:qx}(l:K.lookup f=qq ⟨oc,od,.func (yBl x bA (fH st) (cY st) (bD st) .none kV doc pm an cdv ct),osl⟩)
 (c:yCs K cdv bA=true) (k:yBg K (.ref f)=true):Fun K x bA st f (yBl x bA (fH st) (cY st) (bD st) .none kV doc pm an cdv ct):=⟨⟨oc,od,kV,doc,pm,an,cdv,ct,osl,rfl,l,c⟩,k⟩
end
section
variable {X : Cx}
end
theorem nO{A B:Prop}(h:B):if false=true then A else B:=by
 rw[if_neg yAs];exact h
theorem nV{A B:Prop}(h:A):if true=true then A else B:=by
 rw[if_pos rfl];exact h
def bL(H H':Hp):Prop:=∀ b o,H b=qq o->H' b=qq o
theorem bL.refl(H:Hp):bL H H:=λ _ _ h=>h
theorem bL.trans{H H1 H2:Hp}(a:bL H H1)(b:bL H1 H2):bL H H2:=λ c o h=>b c o (a c o h)
theorem bL.free{H H':Hp}(e:bL H H'){l:qv}(h:H' l=Option.none):H l=Option.none:=by
 cases q:H l with
 | none=>rfl
 | some o =>
   rw[e l o q] at h;cases h
theorem bL.seq{K:FrG}{H H':Hp}{a:qv}{xs:List V}(e:bL H H')(h:bK K H a xs):bK K H' a xs:=by
 rcases h with (h | ⟨o,h⟩) | h
 ·exact .inl (.inl (e _ _ h))
 ·exact .inl (.inr ⟨o,e _ _ h⟩)
 ·exact .inr h
end L2
set_option maxHeartbeats 4000000
namespace EV
open PySem L2 PySem.Spec PyProof.Rows
abbrev D:=PyData
inductive W where
 | d (x:D) | loc (n:Nat) | exc (c:Str) (r:D)
abbrev aB:=List (Option (List D))
abbrev aQ:=List (Option W)
abbrev St:=L2.St
noncomputable def qA(F:Hp)(d:Option qv):D->Prop
 | .none=>d=qz
 | .int i=>∃ dx,d=qq dx/\F dx=qq (.xd [("row",.int i)])
 | _=>False
def gJ(K:FrG)(F:Hp)(a:qv)(c:Str)(r:D):Prop:=∃ C oe,F a=qq (.ext λ h=>h.get? a=qq oe)/\oe.cls=.ref C/\PySem.W.notCls oe=true/\yBw K qy c=qq (qq (.ref C))/\qA F oe.dict r
theorem qA.mono{F F':Hp}(e:bL F F'){d:Option qv}{r:D}(h:qA F d r):qA F' d r:=by
 cases r with
 | none=>exact h
 | int i=>obtain⟨dx,h1,h2⟩:=h;exact⟨dx,h1,e _ _ h2⟩
 | _=>exact h
theorem gJ.mono{K:FrG}{F F':Hp}(e:bL F F'){a:qv}{c:Str}{r:D}(h:gJ K F a c r):gJ K F' a c r:=by
 obtain⟨C,oe,h1,h2,h3,h4,h5⟩:=h;exact⟨C,oe,e _ _ h1,h2,h3,h4,h5.mono e⟩
section
variable (K : FrG)(F : Hp)
mutual
inductive Den:D->V->Prop
 | non:Den .none .non
 | bl (b:Bool):Den (.bool b) (.bl b)
 | int (i:Int):Den (.int i) (.int i)
 | str (x:Str):Den (.str x) (.str x)
 | lst {a:qv}{xs:List V}{ds:List D}:bK K F a xs->DenL ds xs->Den (.list ds) (.ref a)
 | tup {a:qv}{xs:List V}{ds:List D}:bR K F a xs->DenL ds xs->Den (.tuple ds) (.ref a)
 | exc {a:qv}{c:Str}{r:D}:gJ K F a c r->Den (.dict [(.str c,r)]) (.ref a)
inductive DenL:List D->List V->Prop
 | nil:DenL [] []
 | cons {d:D}{ds:List D}{x:V}{xs:List V}:Den d x->DenL ds xs->DenL (d::ds) (x::xs)
end
end
theorem kM{K:FrG}{H H':Hp}{a:qv}{xs:List V}(e:bL H H')(h:bR K H a xs):bR K H' a xs:=by
 rcases h with (h | ⟨o,h⟩) | h
 ·exact .inl (.inl (e _ _ h))
 ·exact .inl (.inr ⟨o,e _ _ h⟩)
 ·exact .inr h
section
variable {K : FrG}{F F' : Hp}
mutual
theorem Den.mono(e:bL F F'):∀ {d:D}{v:V},Den K F d v->Den K F' d v
 | _,_,.non=>.non
 | _,_,.bl b=>.bl b
 | _,_,.int i=>.int i
 | _,_,.str x=>.str x
 | _,_,.lst h r=>.lst (e.seq h) (DenL.mono e r)
 | _,_,.tup h r=>.tup (kM e h) (DenL.mono e r)
 | _,_,.exc h=>.exc (h.mono e)
theorem DenL.mono(e:bL F F'):∀ {ds:List D}{xs:List V},DenL K F ds xs->DenL K F' ds xs
 | _,_,.nil=>.nil
 | _,_,.cons h r=>.cons (Den.mono e h) (DenL.mono e r)
end
theorem DenL.length:∀ {ds:List D}{xs:List V},DenL K F ds xs->ds.length=xs.length
 | _,_,.nil=>rfl
 | _,_,.cons _ r=>congrArg (· + 1) (DenL.length r)
theorem DenL.get:∀ {ds:List D}{xs:List V}{i:Nat}{d:D},DenL K F ds xs->ds[i]? = qq d->∃ x,xs[i]? = qq x/\Den K F d x
 | _,_,_,_,.nil,e=>by simp at e
 | _,_,0,_,.cons h _,e=>by simp at e;subst e;exact⟨_,rfl,h⟩
 | _,_,i+1,d,.cons _ r,e=>by
   obtain⟨x,h1,h2⟩:=DenL.get (i:=i) (d:=d) r (by simpa using e)
   exact⟨x,by simpa using h1,h2⟩
theorem DenL.append:∀ {ds es:List D}{xs ys:List V},DenL K F ds xs->DenL K F es ys->DenL K F (ds++es) (xs++ys)
 | _,_,_,_,.nil,s=>s
 | _,_,_,_,.cons h r,s=>.cons h (DenL.append r s)
theorem DenL.take:∀ {ds:List D}{xs:List V} (n:Nat),DenL K F ds xs->DenL K F (ds.take n) (xs.take n)
 | _,_,0,_=>.nil
 | _,_,_+1,.nil=>.nil
 | _,_,n+1,.cons h r=>.cons h (DenL.take n r)
theorem DenL.drop:∀ {ds:List D}{xs:List V} (n:Nat),DenL K F ds xs->DenL K F (ds.drop n) (xs.drop n)
 | _,_,0,r=>r
 | _,_,_+1,.nil=>.nil
 | _,_,n+1,.cons _ r=>DenL.drop n r
theorem DenL.set:∀ {ds:List D}{xs:List V} (i:Nat) {d:D}{x:V},DenL K F ds xs->Den K F d x->DenL K F (ds.set i d) (xs.set i x)
 | _,_,_,_,_,.nil,_=>.nil
 | _,_,0,_,_,.cons _ r,h=>.cons h r
 | _,_,i+1,_,_,.cons q r,h=>.cons q (DenL.set i r h)
theorem DenL.reverse:∀ {ds:List D}{xs:List V},DenL K F ds xs->DenL K F ds.reverse xs.reverse
 | _,_,.nil=>.nil
 | _,_,.cons h r=>by
   rw[yDh,yDh];exact DenL.append (DenL.reverse r) (.cons h .nil)
theorem DenL.rep{ds:List D}{xs:List V}(h:DenL K F ds xs):∀ n:Nat,DenL K F (yAd n ds).flatten (yAd n xs).flatten
 | 0=>.nil
 | n+1=>by
   rw[yAp,yAp,yCa,yCa];exact h.append (DenL.rep h n)
theorem DenL.of_ints:∀ (ns:List Int),DenL K F (ns.map yAh) (ns.map V.int)
 | []=>.nil
 | n::r=>.cons (.int n) (DenL.of_ints r)
end
structure Rel(K:FrG)(F:Hp)(L:List qv)(S:aB)(H:Hp):Prop where
 sub:bL F H
 nd:L.Nodup
 len:L.length=S.length
 loc:∀ (n:Nat) (a:qv) (ds:List D),L[n]? = qq a->S[n]? = qq (qq ds)->F a=qz/\∃ xs,H a=qq (.lst xs)/\DenL K F ds xs
 tr:∀ (n:Nat) (a:qv),L[n]? = qq a->∃ xs,H a=qq (.lst xs)
noncomputable def dM(K:FrG)(F:Hp)(L:List qv):W->V->Prop
 | .d x,v=>Den K F x v
 | .loc n,v=>∃ a,L[n]? = qq a/\v=.ref a
 | .exc c r,v=>∃ a,v=.ref a/\gJ K F a c r
structure EnvR(K:FrG)(F:Hp)(L:List qv)(env:aQ)(σ:St):Prop where
 len:env.length=σ.length
 get:∀ (i:Nat) (w:W),env[i]? = qq (qq w)->∃ v,σ[i]? = qq (qq v)/\dM K F L w v
structure Gr(F:Hp)(L:List qv)(F':Hp)(L':List qv):Prop where
 f:bL F F'
 l:∃ M,L'=L++M
section
variable {K : FrG}{F F' F'' H H' : Hp}{L L' L'' : List qv}{S S' : aB}
theorem Gr.refl:Gr F L F L:=⟨bL.refl _,[],by simp⟩
theorem Gr.trans(a:Gr F L F' L')(b:Gr F' L' F'' L''):Gr F L F'' L'':=by
 obtain⟨f1,M,rfl⟩:=a;obtain⟨f2,N,rfl⟩:=b;exact⟨f1.trans f2,M++N,by rw[yDi]⟩
theorem Gr.get(g:Gr F L F' L'){n:Nat}{a:qv}(h:L[n]? = qq a):L'[n]? = qq a:=by
 obtain⟨_,M,rfl⟩:=g;rw[xAj (gIm h).1];exact h
theorem dM.mono(g:Gr F L F' L'){w:W}{v:V}(h:dM K F L w v):dM K F' L' w v:=by
 cases w with
 | d x=>exact Den.mono g.f h
 | loc n=>obtain⟨a,e,r⟩:=h;exact⟨a,g.get e,r⟩
 | exc c r=>obtain⟨a,e,h⟩:=h;exact⟨a,e,h.mono g.f⟩
theorem EnvR.mono(g:Gr F L F' L'){env:aQ}{σ:St}(h:EnvR K F L env σ):EnvR K F' L' env σ:=
 ⟨h.len,λ i w e=>let ⟨v,e1,r⟩:=h.get i w e;⟨v,e1,r.mono g⟩⟩
theorem EnvR.set{env:aQ}{σ:St}(h:EnvR K F L env σ)(i:Nat){w:W}{v:V}(r:dM K F L w v):EnvR K F L (env.set i (qq w)) (σ.set i (qq v)):=by
 refine⟨by rw[yAo,yAo];exact h.len,λ j u e=>?_⟩
 by_cases hj:i=j
 ·subst hj;have hl:i<env.length:=by
   rcases yDm i env.length with q | q
   ·exact q
   ·rw[yCl (by rw[yAo];exact q)] at e;cases e
  rw[yAl hl] at e;cases e;exact⟨v,yAl (by rw[<- h.len];exact hl),r⟩
 ·rw[yAj hj] at e;obtain⟨x,e1,r1⟩:=h.get j u e;exact⟨x,by rw[yAj hj];exact e1,r1⟩
theorem eP{p:qv}{o:HO}(h:H p=qz):bL H (aT H p o):=λ b u q=>by rw[aX (eB q h)];exact q
theorem Rel.new(r:Rel K F L S H){p:qv}{o:HO}(h:H p=qz):Rel K (aT F p o) L S (aT H p o):=by
 have hF:F p=qz:=r.sub.free h;refine⟨λ b u q=>?_,r.nd,r.len,λ n a ds e1 e2=>?_,λ n a e=>?_⟩
 ·by_cases hb:b=p
  ·subst hb;rw[bO] at q ⊢;exact q
  ·rw[aX hb] at q ⊢;exact r.sub _ _ q
 ·obtain⟨f,xs,e3,dl⟩:=r.loc n a ds e1 e2;have ne:a≠p:=eB e3 h;exact⟨by rw[aX ne];exact f,xs,by rw[aX ne];exact e3,DenL.mono (eP hF) dl⟩
 ·obtain⟨xs,hx⟩:=r.tr n a e;exact⟨xs,by rw[aX (eB hx h)];exact hx⟩
theorem Gr.new{p:qv}{o:HO}(h:F p=qz):Gr F L (aT F p o) L:=⟨eP h,[],by simp⟩
theorem Rel.newLoc(r:Rel K F L S H){p:qv}{xs:List V}{ds:List D}(h:H p=qz)(dl:DenL K F ds xs):Rel K F (L++[p]) (S++[qq ds]) (aT H p (.lst xs)):=by
 have hF:F p=qz:=r.sub.free h;refine⟨λ b u q=>?_,?_,by rw[xAk,xAk,r.len]<;>rfl,λ n a es e1 e2=>?_,λ n a e=>?_⟩
 ·rw[aX (eB q hF)];exact r.sub _ _ q
 ·rw[yEc];refine⟨r.nd,by simp,λ a ha b hb=>?_⟩
  rw[yDc] at hb;subst hb;obtain⟨n,hn⟩:=List.getElem?_of_mem ha;obtain⟨xs,hx⟩:=r.tr n a hn;exact eB hx h
 ·by_cases hn:n<L.length
  ·rw[xAj hn] at e1;rw[xAj (by rw[<- r.len];exact hn)] at e2
   obtain⟨f,ys,e3,dl'⟩:=r.loc n a es e1 e2;exact⟨f,ys,by rw[aX (eB e3 h)];exact e3,dl'⟩
  ·rw[yAe (by omega)] at e1
   rw[yAe (by rw[<- r.len];omega)] at e2
   have z:n-L.length=0:=by
    have:=(gIm e1).1;simp at this;omega
   rw[<- r.len] at e2;rw[z] at e1 e2;simp at e1 e2;subst e1 e2;exact⟨hF,xs,bO,dl⟩
 ·by_cases hn:n<L.length
  ·rw[xAj hn] at e;obtain⟨ys,hy⟩:=r.tr n a e;exact⟨ys,by rw[aX (eB hy h)];exact hy⟩
  ·rw[yAe (by omega)] at e
   have z:a=p:=by
    have h1:=xAi e;simpa using h1
   exact⟨xs,by rw[z];exact bO⟩
theorem Rel.lay(r:Rel K F L S H){p:qv}{o:HO}(h:H p=qz):Rel K F L S (aT H p o):=by
 refine⟨λ b u q=>by rw[aX (eB q (r.sub.free h))];exact r.sub _ _ q,r.nd,r.len,λ n a ds e1 e2=>?_,λ n a e=>?_⟩
 ·obtain⟨f,xs,e3,dl⟩:=r.loc n a ds e1 e2;exact⟨f,xs,by rw[aX (eB e3 h)];exact e3,dl⟩
 ·obtain⟨xs,hx⟩:=r.tr n a e;exact⟨xs,by rw[aX (eB hx h)];exact hx⟩
theorem Rel.notin(r:Rel K F L S H){p:qv}(h:H p=qz):p ∉ L:=λ hp=>by
 obtain⟨n,hn⟩:=List.getElem?_of_mem hp;obtain⟨xs,hx⟩:=r.tr n p hn;rw[h] at hx;cases hx
theorem Rel.adopt(r:Rel K F L S H){p:qv}{xs:List V}(hF:F p=qz)(hL:p ∉ L)(hH:H p=qq (.lst xs)):Rel K (aT F p (.lst xs)) L S H:=by
 refine⟨λ b u q=>?_,r.nd,r.len,λ n a ds e1 e2=>?_,r.tr⟩
 ·by_cases hb:b=p
  ·subst hb;rw[bO] at q;rw[hH];exact q
  ·rw[aX hb] at q;exact r.sub _ _ q
 ·obtain⟨f,ys,e3,dl⟩:=r.loc n a ds e1 e2;have ne:a≠p:=λ z=>hL (by rw[<- z];exact xAi e1)
  exact⟨by rw[aX ne];exact f,ys,e3,dl.mono (eP hF)⟩
theorem Rel.adoptLoc(r:Rel K F L S H){p:qv}{xs:List V}{ds:List D}(hF:F p=qz)(hL:p ∉ L)(hH:H p=qq (.lst xs))(dl:DenL K F ds xs):Rel K F (L++[p]) (S++[qq ds]) H:=by
 refine⟨r.sub,?_,by rw[xAk,xAk,r.len]<;>rfl,λ n a es e1 e2=>?_,λ n a e=>?_⟩
 ·rw[yEc];refine⟨r.nd,by simp,λ a ha b hb=>?_⟩
  rw[yDc] at hb;subst hb;exact λ z=>hL (z▸ha)
 ·by_cases hn:n<L.length
  ·rw[xAj hn] at e1;rw[xAj (by rw[<- r.len];exact hn)] at e2
   exact r.loc n a es e1 e2
  ·rw[yAe (by omega)] at e1
   rw[yAe (by rw[<- r.len];omega)] at e2
   have z:n-L.length=0:=by
    have:=(gIm e1).1;simp at this;omega
   rw[<- r.len] at e2;rw[z] at e1 e2;simp at e1 e2;subst e1 e2;exact⟨hF,xs,hH,dl⟩
 ·by_cases hn:n<L.length
  ·rw[xAj hn] at e;exact r.tr n a e
  ·rw[yAe (by omega)] at e
   have z:a=p:=by
    have h1:=xAi e;simpa using h1
   exact⟨xs,by rw[z];exact hH⟩
theorem Gr.newLoc{p:qv}:Gr F L F (L++[p]):=⟨bL.refl _,[p],rfl⟩
theorem Rel.put(r:Rel K F L S H){n:Nat}{a:qv}{ys:List V}{es:List D}(e:L[n]? = qq a)(hF:F a=qz)(dl:DenL K F es ys):Rel K F L (S.set n (qq es)) (aT H a (.lst ys)):=by
 refine⟨λ b u q=>by rw[aX (eB q hF)];exact r.sub _ _ q,r.nd,by rw[yAo];exact r.len,λ m b fs e1 e2=>?_,λ m b e1=>?_⟩
 ·by_cases hm:n=m
  ·subst hm;rw[e] at e1;cases e1;have hl:n<S.length:=by rw[<- r.len];exact(gIm e).1
   rw[yAl hl] at e2;cases e2;exact⟨hF,ys,bO,dl⟩
  ·rw[yAj hm] at e2;have ne:b≠a:=λ z=>by
    subst z;have h1:=(gIm e);have h2:=(gIm e1);obtain⟨l1,g1⟩:=h1;obtain⟨l2,g2⟩:=h2;exact hm ((yEh r.nd).mp (g1.trans g2.symm))
   obtain⟨f,xs,e3,d3⟩:=r.loc m b fs e1 e2;exact⟨f,xs,by rw[aX ne];exact e3,d3⟩
 ·by_cases hb:b=a
  ·exact⟨ys,by rw[hb];exact bO⟩
  ·obtain⟨zs,hz⟩:=r.tr m b e1;exact⟨zs,by rw[aX hb];exact hz⟩
theorem Rel.freeze(r:Rel K F L S H){n:Nat}{a:qv}{ds:List D}(e:L[n]? = qq a)(es:S[n]? = qq (qq ds)) :
 ∃ F',Gr F L F' L/\Rel K F' L (S.set n qz) H/\Den K F' (.list ds) (.ref a):=by
 obtain⟨hF,xs,e3,dl⟩:=r.loc n a ds e es;refine⟨aT F a (.lst xs),Gr.new hF,⟨λ b u q=>?_,r.nd,by rw[yAo];exact r.len,λ m b fs e1 e2=>?_,r.tr⟩,.lst (bK.of bO) (dl.mono (eP hF))⟩
 ·by_cases hb:b=a
  ·subst hb;rw[bO] at q;rw[e3];exact q
  ·rw[aX hb] at q;exact r.sub _ _ q
 ·by_cases hm:n=m
  ·subst hm;have hl:n<S.length:=(gIm es).1;rw[yAl hl] at e2;cases e2
  ·rw[yAj hm] at e2;have ne:b≠a:=λ z=>by
    subst z;obtain⟨l1,g1⟩:=gIm e;obtain⟨l2,g2⟩:=gIm e1;exact hm ((yEh r.nd).mp (g1.trans g2.symm))
   obtain⟨f,ys,e4,d4⟩:=r.loc m b fs e1 e2;exact⟨by rw[aX ne];exact f,ys,e4,d4.mono (eP hF)⟩
theorem Rel.cut{M:List qv}(r:Rel K F (L++M) S H):Rel K F L (S.take L.length) H:=by
 have hl:L.length<=S.length:=by have:=r.len;rw[xAk] at this;omega
 refine⟨r.sub,(List.nodup_append.mp r.nd).1,by rw[yBe];omega,λ n a ds e1 e2=>?_,λ n a e1=>?_⟩
 ·have hn:n<L.length:=(gIm e1).1;rw[List.getElem?_take_of_lt hn] at e2;exact r.loc n a ds (by rw[xAj hn];exact e1) e2
 ·have hn:n<L.length:=(gIm e1).1;exact r.tr n a (by rw[xAj hn];exact e1)
end
def bF(K:FrG)(F H:Hp)(x:D)(v:V):Prop:=Den K F x v\/∃ ds a xs,x=.list ds/\v=.ref a/\H a=qq (.lst xs)/\DenL K F ds xs
noncomputable def dr(S:aB):W->Option D
 | .d x=>qq x
 | .loc n=>match S[n]? with
   | some (qq ds)=>qq (.list ds)
   | _=>qz
 | .exc _ _=>qz
theorem iF{K:FrG}{F H:Hp}{L:List qv}{S:aB}{w:W}{x:D}{v:V}(r:Rel K F L S H)(h:dM K F L w v)(e:dr S w=qq x):bF K F H x v:=by
 cases w with
 | d y=>cases e;exact .inl h
 | exc c r=>cases e
 | loc n =>
   obtain⟨a,e1,rfl⟩:=h;cases e2:S[n]? with
   | none=>simp[dr,e2] at e
   | some o =>
     cases o with
     | none=>simp[dr,e2] at e
     | some ds =>
       simp[dr,e2] at e;subst e;obtain⟨f,xs,e3,dl⟩:=r.loc n a ds e1 e2;exact .inr ⟨ds,a,xs,rfl,rfl,e3,dl⟩
section
variable {K : FrG}{F H : Hp}{v : V}
theorem bF.non(h:bF K F H .none v):v=.non:=by
 rcases h with h | ⟨_,_,_,e,_⟩
 ·cases h;rfl
 ·cases e
theorem bF.bl{b:Bool}(h:bF K F H (.bool b) v):v=.bl b:=by
 rcases h with h | ⟨_,_,_,e,_⟩
 ·cases h;rfl
 ·cases e
theorem bF.int{i:Int}(h:bF K F H (.int i) v):v=.int i:=by
 rcases h with h | ⟨_,_,_,e,_⟩
 ·cases h;rfl
 ·cases e
theorem bF.str{x:Str}(h:bF K F H (.str x) v):v=.str x:=by
 rcases h with h | ⟨_,_,_,e,_⟩
 ·cases h;rfl
 ·cases e
theorem bF.lst{ds:List D}(s:bL F H)(h:bF K F H (.list ds) v):∃ a xs,v=.ref a/\bK K H a xs/\DenL K F ds xs:=by
 rcases h with h | ⟨_,a,xs,e,e2,e3,dl⟩
 ·cases h with
  | lst q r=>exact⟨_,_,rfl,s.seq q,r⟩
 ·cases e;exact⟨a,xs,e2,bK.of e3,dl⟩
theorem bF.tup{ds:List D}(s:bL F H)(h:bF K F H (.tuple ds) v):∃ a xs,v=.ref a/\bR K H a xs/\DenL K F ds xs:=by
 rcases h with h | ⟨_,_,_,e,_⟩
 ·cases h with
  | tup q r=>exact⟨_,_,rfl,kM s q,r⟩
 ·cases e
end
theorem aED:fillsNumberSlot (.type "tuple") "mul" = pure false:=
 PySem.fillsNumberSlot_seq (id:="tuple.__mul__") (r:=qq (.builtin "tuple.__rmul__")) PySem.F.slot_tuple_mul.lookup (by decide +kernel) PySem.F.slot_tuple_rmul.lookup (by decide +kernel)
theorem aET:seqRepeat? (.type "tuple")=pure (qq (.builtin "tuple.__mul__")):=by
 unfold seqRepeat?;rw[PySem.seqSlot_of (T:="tuple") (name:="__mul__") (id:="tuple.__mul__") PySem.F.slot_tuple_mul.lookup (by decide +kernel),PySem.seqSlot_of (T:="tuple") (name:="__rmul__") (id:="tuple.__rmul__") PySem.F.slot_tuple_rmul.lookup (by decide +kernel)]
 rfl
theorem aEI(a:Int)(t:Tok)(l:qv)(aS:Array qx)(n:Nat)(d:Option qv)(sl:Array (Option qx)) :
 Meets (Builtin.«int.__rmul__» ⟨[.int a t,.ref l],[]⟩) (λ _ R s=>s.heap.get? l=qq {cls:=.type "tuple",dict:=d,data:=.seq aS n,slots:=sl }/\R (.ok (.ret Value.notImplemented)) s):=
 .of_wp λ prog w A R s h=>by obtain⟨hp,g,d,tk,os⟩:=s;obtain⟨hl,h⟩:=h;wp_walk;exact⟨_,rfl,h⟩
theorem aEL(l:qv)(aS:Array qx)(n:Nat)(d:Option qv)(sl:Array (Option qx))(t:Tok) :
 Meets (Builtin.«tuple.__mul__» ⟨[.ref l,.int 1 t],[]⟩) (λ _ R s=>s.heap.get? l=qq {cls:=.type "tuple",dict:=d,data:=.seq aS n,slots:=sl }/\R (.ok (.ret (.ref l))) s):=
 .of_wp λ prog w A R s h=>by
  obtain⟨hp,g,d,tk,os⟩:=s;obtain⟨hl,h⟩:=h
  wp_walk
  exact⟨_,rfl,h⟩
theorem aEH(l:qv)(x:qx)(n:Nat)(d:Option qv)(sl:Array (Option qx))(t:Tok) :
 Meets (Builtin.«tuple.__mul__» ⟨[.ref l,.int 0 t],[]⟩) (λ _ R s=>s.heap.get? l=qq {cls:=.type "tuple",dict:=d,data:=.seq #[x] n,slots:=sl }/\R (.ok (.ret (.ref s.heap.objs.size))) {s with heap:=s.heap.push {cls:=.type "tuple",data:=.seq #[] } }):=
 .of_wp λ prog w A R s h=>by
  obtain⟨hp,g,d,tk,os⟩:=s;obtain⟨hl,h⟩:=h
  wp_walk
  exact⟨_,rfl,h⟩
theorem rT(x:qx):∀ (k:Nat) (aW:Array qx),(yAd k #[x]).foldl (· ++ ·) aW=aW++(yAd k x).toArray
 | 0,aW=>by simp
 | k+1,aW=>by
   rw[yAp,yAi,rT x k];apply Array.ext';simp[yAp]
theorem aEJ(l:qv)(x:qx)(n:Nat)(d:Option qv)(sl:Array (Option qx))(k:Nat)(hk:2<=k)(hk2:k<=1000)(t:Tok) :
 Meets (Builtin.«tuple.__mul__» ⟨[.ref l,.int k t],[]⟩) (λ _ R s=>s.heap.get? l=qq {cls:=.type "tuple",dict:=d,data:=.seq #[x] n,slots:=sl }/\R (.ok (.ret (.ref s.heap.objs.size))) {s with heap:=s.heap.push {cls:=.type "tuple",data:=.seq (yAd k x).toArray } }):=
 .of_wp λ prog w A R s h=>by
  obtain⟨hp,g,d,tk,os⟩:=s;obtain⟨hl,h⟩:=h;have c1:(decide (((k:Nat):Int) < -(2^63))||decide (((k:Nat):Int) ≥ 2^63))=false:=by simp;omega
  have c2:(((k:Nat):Int)==1)=false:=by rw[beq_eq_false_iff_ne];omega
  have c3:decide (((k:Nat):Int)<=0)=false:=dqF (by omega)
  have c4:((#[x]:Array qx).isEmpty||(((k:Nat):Int)==1))=false:=by rw[c2];rfl
  have c5:(decide (((k:Nat):Int)<=0)||(#[x]:Array qx).isEmpty)=false:=by rw[c3];rfl
  have c6:¬ (((#[x]:Array qx).size:Int)*((k:Nat):Int)>(2^63-1)/8):=by
   show ¬ (((1:Nat):Int)*((k:Nat):Int)>(2^63-1)/8);omega
  have hsz:qk=16777216:=by decide
  have c7:yDy (((#[x]:Array qx).size:Int)*((k:Nat):Int))=false:=by
   unfold yDy;refine dqF ?_;show ¬ (((1:Nat):Int)*((k:Nat):Int)>((qk:Nat):Int));omega
  wp_walk
  rw[if_neg (by rw[c1];exact yAs)]
  refine wB (wpAny_tupleItemsOf hl rfl ?_);simp only[c4,c5,c6,c7,yAx,if_false];rw[xAm,rT,show(#[]:Array qx)++(yAd k x).toArray=(yAd k x).toArray by simp]
  refine wB (m:=yBn _) (xu (wP ⟨_,rfl,h⟩) ?_);show(yAd k x).toArray.size<=qk;rw[yAb,yDl,hsz];omega
section
variable {X : Cx}{aA : List (qv×Obj)}{σ : L2.St}{H : Hp}{s : qj}{Q : VK}
theorem aBu{x:V}{u:qx}(r:aP x u):∀ k:Nat,aM (yAd k x) (yAd k u)
 | 0=>.nil
 | k+1=>.cons r (aBu r k)
theorem aLm{a:qv}{x:V}{k:Nat}{t:Tok}(I:Inv X aA σ H s)(ha:bR X.K H a [x])(hk:k<=1000)
 (q1:k=1->Q (.ref a) H) (q:∀ p,H p=qz->Q (.ref p) (aT H p (.tup (yAd k x)))):qu (model X.prog X.w) X.A (zu .Mult (.ref a) (.int k t)) (EP X aA σ Q) X.xe s:=by
 obtain⟨aC,r1,p1,_⟩:=I.tuple ha;obtain⟨u,rfl,ru⟩:∃ u,aC=[u]/\aP x u:=by
  cases r1 with
  | cons r r'=>cases r';exact⟨_,rfl,r⟩
 obtain⟨⟨cls,d,data,sl⟩,ho,hcl,n,hd⟩:=p1;simp only at hcl hd;subst hcl hd;have hsz:qk=16777216:=by decide
 have bB:∀ (aC:List qx),aC=yAd k u->EP X aA σ Q (.ref s.heap.objs.size) {s with heap:=s.heap.push {cls:=.type "tuple",data:=.seq aC.toArray } }:=λ aC e=>by
  subst e;exact⟨.ref _,_,I.laid (t':=s.toks) (o:=.tup (yAd k x)) (λ b ob q=>hpS _ q) (yAc _) ⟨by rw[yDl,hsz];omega,_,aBu ru k,⟨_,xAe _ rfl,rfl,0,rfl⟩⟩,rfl,q _ (I.hok.fresh (yAc _))⟩
 refine vo (T:="tuple") (U:="int") (by decide) ⟨_,ho,rfl⟩ (λ s'=>wz s' k t) aED PySem.F.fills_int_mul yCm aET PySem.F.slot_int_index.lookup
  (vw yCm (wz s k t) PySem.F.entry_int_rmul (PySem.F.args_int_rmul_2 _ _) (aEI k t a _ n d sl)
    ⟨ho,rfl,⟨_,ho,rfl⟩,?_⟩)
 by_cases h1:k=1
 ·subst h1;exact vw yDg ⟨_,ho,rfl⟩ yDd (yCw _ _) (aEL a _ n d sl t) ⟨ho,.ref a,H,I,rfl,q1 rfl⟩
 ·by_cases h0:k=0
  ·subst h0;exact vw yDg ⟨_,ho,rfl⟩ yDd (yCw _ _) (aEH a u n d sl t) ⟨ho,bB [] rfl⟩
  ·exact vw yDg ⟨_,ho,rfl⟩ yDd (yCw _ _) (aEJ a u n d sl k (by omega) hk t) ⟨ho,bB _ rfl⟩
end
noncomputable def kO(i j:Int):Bool:=!(decide (yAf i>vk)&&decide (yAf j>vk)&&Builtin.Int.intTooBig (yAf i+yAf j))
noncomputable def aEb{α:Type}(n:Nat)(xs:List α):List α:=(yAd n xs).flatten
noncomputable def zY:D->D->Option D
 | .int i,.int j=>qq (.int (i+j))
 | .str x,.str y=>if x.length+y.length<=qk then qq (.str (x++y)) else qz
 | .tuple [],.tuple ys=>qq (.tuple ys)
 | .tuple xs,.tuple ys=>if xs.isEmpty=false/\xs.length+ys.length<=qk then qq (.tuple (xs++ys)) else qz
 | .list xs,.list ys=>if xs.length+ys.length<=qk then qq (.list (xs++ys)) else qz
 | _,_=>qz
noncomputable def aAe:D->D->Option D
 | .int i,.int j=>if kO i j=true then qq (.int (i*j)) else qz
 | .list xs,.int k=>if k<2^63 /\ -(2^63)<=k/\xs.length*k.toNat<=qk then qq (.list (aEb k.toNat xs)) else qz
 | .tuple [x],.int k=>if 0<=k/\k<=1000 then qq (.tuple (yAd k.toNat x)) else qz
 | _,_=>qz
noncomputable def i2{α:Type}(f:Int->Int->Option α):D->D->Option α
 | .int i,.int j=>f i j
 | _,_=>qz
theorem pG{α:Type}{f:Int->Int->Option α}{i j:Int}:i2 f (.int i) (.int j)=f i j:=rfl
theorem fJ{α:Type}{f:Int->Int->Option α}{x y:D}{z:α}(h:i2 f x y=qq z):∃ i j,x=.int i/\y=.int j/\f i j=qq z:=by
 cases x<;>first | (cases h;done) | skip
 cases y<;>first | (cases h;done) | exact⟨_,_,rfl,rfl,h⟩
noncomputable def gE:D->Bool
 | .none=>true
 | _=>false
theorem aBH{x:D}(h:gE x=true):x=.none:=by cases x<;>first | rfl | cases h
noncomputable def bW(op:jk)(x y:D):Option D:=match op with
 | .Add=>zY x y
 | .Sub=>i2 (λ i j=>qq (.int (i-j))) x y
 | .Mult=>aAe x y
 | .MatMult=>qz
 | .Div=>qz
 | .Mod=>i2 (λ i j=>if j≠0 then qq (.int (i.fmod j)) else qz) x y
 | .Pow=>i2 (λ i j=>if 0<=j/\j<=1000000/\i.natAbs<2^64 then qq (.int (i^j.toNat)) else qz) x y
 | .LShift=>i2 (λ i j=>if 0<=j/\(yAf i:Int)+j<=2^27 then qq (.int (i*2^j.toNat)) else qz) x y
 | .RShift=>i2 (λ i j=>if 0<=j then qq (.int (i/2^j.toNat)) else qz) x y
 | .BitOr=>i2 (λ i j=>qq (.int (Builtin.bitOr i j))) x y
 | .BitXor=>i2 (λ i j=>qq (.int (Builtin.bitXor i j))) x y
 | .BitAnd=>i2 (λ i j=>qq (.int (Builtin.bitAnd i j))) x y
 | .FloorDiv=>i2 (λ i j=>if j≠0/\yBr i j=false then qq (.int (i.fdiv j)) else qz) x y
noncomputable def unD:wj->D->Option D
 | .USub,.int i=>qq (.int (-i))
 | .Invert,.int i=>qq (.int (Builtin.bitNot i))
 | _,_=>qz
noncomputable def gF:D->Bool
 | .none | .bool _ | .int _ | .str _=>true
 | _=>false
noncomputable def lB:List D->Bool
 | []=>true
 | d::r=>gF d&&lB r
noncomputable def uO(x:D):List D->Bool
 | []=>false
 | y::r=>yCx y x||uO x r
noncomputable def pV:D->Option (List D)
 | .list xs=>qq xs
 | .tuple xs=>qq xs
 | _=>qz
noncomputable def nQ:D->D->Option Bool
 | .bool a,.bool b=>qq (a==b)
 | _,_=>qz
theorem aA3{x y:D}{b:Bool}(h:nQ x y=qq b):∃ p q,x=.bool p/\y=.bool q/\b=(p==q):=by
 unfold nQ at h
 split at h
 ·rename_i p q;exact⟨p,q,rfl,rfl,(Option.some.inj h).symm⟩
 ·cases h
noncomputable def jT(op:vz)(x y:D):Option Bool:=match op with
 | .Eq=>if x.canLay0=true/\y.canLay0=true/\x.depth<=60 then qq (yCx x y) else qz
 | .NotEq=>if x.canLay0=true/\y.canLay0=true/\x.depth<=60 then qq (!yCx x y) else qz
 | .Lt=>i2 (λ i j=>qq (decide (i<j))) x y
 | .LtE=>i2 (λ i j=>qq (decide (i<=j))) x y
 | .Gt=>i2 (λ i j=>qq (decide (j<i))) x y
 | .GtE=>i2 (λ i j=>qq (decide (j<=i))) x y
 | .Is=>if gE y=true then qq (gE x) else nQ x y
 | .IsNot=>if gE y=true then qq (!gE x) else (nQ x y).bind λ b=>qq (!b)
 | .In=>(pV y).bind λ ys=>if gF x=true/\lB ys=true then qq (uO x ys) else qz
 | .NotIn=>(pV y).bind λ ys=>if gF x=true/\lB ys=true then qq (!uO x ys) else qz
noncomputable def qC:D->Option Bool
 | .none=>qq false
 | .bool b=>qq b
 | .int i=>qq (i != 0)
 | .str x=>if x.length<=qk then qq ((x.length:Int) != 0) else qz
 | .list xs=>qq (!xs.isEmpty)
 | .tuple xs=>qq (!xs.isEmpty)
 | .dict _=>qz
section
variable {X : Cx}{aA : List (qv×Obj)}{s : qj}{σ : L2.St}{H : Hp}{x y : V}{v u : qx}{Q : VK}{F : Hp}{L : List qv}{S : aB}{dx dy z : D}
abbrev eI(X:Cx)(F:Hp)(L:List qv)(S:aB)(z:D)(Q:VK):Prop:=∀ F' H' r,bL F F'->Rel X.K F' L S H'->Den X.K F' z r->Q r H'
abbrev tT(X:Cx)(F:Hp)(H:Hp)(zs:List D)(Q:VK):Prop:=∀ p xs,H p=qz->DenL X.K F zs xs->Q (.ref p) (aT H p (.lst xs))
theorem eI.here(R:Rel X.K F L S H)(q:eI X F L S z Q){r:V}(h:Den X.K F z r):Q r H:=q F H r (bL.refl _) R h
theorem tT.out{zs:List D}(R:Rel X.K F L S H)(q:eI X F L S (.list zs) Q):tT X F H zs Q:=λ p xs hp dl =>
 q _ _ _ (eP (R.sub.free hp)) (R.new hp) (.lst (bK.of bO) (dl.mono (eP (R.sub.free hp))))
theorem eI.tup{zs:List D}(R:Rel X.K F L S H)(q:eI X F L S (.tuple zs) Q){p:qv}{xs:List V}(hp:H p=qz)(dl:DenL X.K F zs xs):Q (.ref p) (aT H p (.tup xs)):=
 q _ _ _ (eP (R.sub.free hp)) (R.new hp) (.tup (bR.of bO) (dl.mono (eP (R.sub.free hp))))
theorem aLH{a b:qv}{xs ys:List V}(I:Inv X aA σ H s)(ha:bK X.K H a xs)(hb:bK X.K H b ys)(hz:xs.length+ys.length<=qk)
 (q:∀ p,H p=qz->Q (.ref p) (aT H p (.lst (xs++ys)))):qu (model X.prog X.w) X.A (zu .Add (.ref a) (.ref b)) (EP X aA σ Q) X.xe s:=by
 obtain⟨aC,r1,p1,_⟩:=I.list ha;obtain⟨oF,r2,p2,_⟩:=I.list hb;obtain⟨⟨cls,dd,data,sl⟩,ho,hc,n,hd⟩:=p1.isList;obtain⟨⟨cls2,dd2,data2,sl2⟩,ho2,hc2,n2,hd2⟩:=p2.isList;simp only at hc hd hc2 hd2;subst hc hd hc2 hd2;have e:aC.toArray++oF.toArray=(aC++oF).toArray:=by simp
 refine concat_meets ⟨_,ho,rfl⟩ ⟨_,ho2,rfl⟩ noFill_list_add seq_list_add PySem.F.slot_list_add PySem.F.entry_list_add (PySem.F.args_list_add_2 _ _) (list_addW a b aC.toArray oF.toArray n n2 dd dd2 sl sl2 (by rw[yAb,yAb,<- r1.length,<- r2.length];exact hz)) ⟨ho,ho2,?_⟩
 rw[e];exact⟨.ref _,_,I.lnew (t':=s.toks) (r1.append r2) (by rw[xAk];omega),rfl,q _ I.fresh⟩
theorem aEc{a:qv}{xs:List V}{k:Int}{t:Tok}(I:Inv X aA σ H s)(ha:bK X.K H a xs)(h1 : -(2^63)<=k)(h2:k<2^63)(hz:xs.length*k.toNat<=qk)
 (q:∀ p,H p=qz->Q (.ref p) (aT H p (.lst (yAd k.toNat xs).flatten))):qu (model X.prog X.w) X.A (zu .Mult (.ref a) (.int k t)) (EP X aA σ Q) X.xe s:=by
 obtain⟨aC,r1,p1,_⟩:=I.list ha;obtain⟨⟨cls,d,data,sl⟩,ho,hcl,n,hd⟩:=p1.isList;simp only at hcl hd;subst hcl hd;have hsz:aC.toArray.size*k.toNat<=2^24:=by
  rw[yAb,<- r1.length];have:qk=2^24:=rfl;rw[<- this];exact hz
 refine vo (T:="list") (U:="int") (by decide) ⟨_,ho,rfl⟩ (λ s'=>wz s' k t) noFill_list_mul PySem.F.fills_int_mul yCm repeat_list PySem.F.slot_int_index.lookup
  (vw yCm (wz s k t) PySem.F.entry_int_rmul (PySem.F.args_int_rmul_2 _ _) (lm_int_rmul_list_any k t a aC.toArray n d sl)
    ⟨ho,rfl,⟨_,ho,rfl⟩,vw PySem.F.slot_list_mul ⟨_,ho,rfl⟩ PySem.F.entry_list_mul (PySem.F.args_list_mul_2 _ _)
     (lm_list_mul_any a aC.toArray n d sl k t (by simp[Builtin.List.listFitsIndex];omega) (by omega) (by simp[Builtin.List.listTooLong,qk];simpa using hsz))
     ⟨ho,?_⟩⟩)
 rw[listMul_foldl_if];exact⟨.ref _,_,I.lnew (t':=s.toks) (r1.rep k.toNat) (by rw[aHr,Nat.mul_comm];exact hz),rfl,q _ I.fresh⟩
theorem aKM{a b:qv}{ys:List V}(I:Inv X aA σ H s)(ha:bR X.K H a [])(hb:bR X.K H b ys)(q:Q (.ref b) H):qu (model X.prog X.w) X.A (zu .Add (.ref a) (.ref b)) (EP X aA σ Q) X.xe s:=by
 obtain⟨aC,r1,p1,_⟩:=I.tuple ha;obtain⟨oF,r2,p2,_⟩:=I.tuple hb;cases r1;obtain⟨⟨cls,dd,data,sl⟩,ho,hc,n,hd⟩:=p1;obtain⟨⟨cls2,dd2,data2,sl2⟩,ho2,hc2,n2,hd2⟩:=p2;simp only at hc hd hc2 hd2;subst hc hd hc2 hd2;exact concat_meets ⟨_,ho,rfl⟩ ⟨_,ho2,rfl⟩ noFill_tuple_add seq_tuple_add yDf yDa (yCv _ _) (tuple_addW0 a b _ oF.toArray n n2 dd dd2 sl sl2 rfl) ⟨ho,ho2,⟨.ref b,H,I,rfl,q⟩⟩
theorem aJm(I:Inv X aA σ H s)(rx:aP x v)(ry:aP y u)(R:Rel X.K F L S H)(nx:bF X.K F H dx x)(ny:bF X.K F H dy y)(e:zY dx dy=qq z)(q:eI X F L S z Q) :
 qu (model X.prog X.w) X.A (zu .Add v u) (EP X aA σ Q) X.xe s:=by
 unfold zY at e
 split at e
 ·rename_i i j;cases e;exact aJv aA s σ H x y v u Q I rx ry ⟨i,j,nx.int,ny.int,q.here R (.int _)⟩
 ·rename_i a b
  split at e
  ·rename_i c;cases e;exact aFa aA s σ H x y v u Q I rx ry ⟨a,b,nx.str,ny.str,c,q.here R (.str _)⟩
  ·cases e
 ·rename_i ys;cases e;obtain⟨a,vs,rfl,h1,d1⟩:=nx.tup R.sub;obtain⟨b,ws,rfl,h2,d2⟩:=ny.tup R.sub;cases d1;cases rx;cases ry;refine aKM I h1 h2 (q F H _ (bL.refl _) R ?_);rcases ny with ny | ⟨_,_,_,e,_⟩
  ·exact ny
  ·cases e
 ·rename_i xs ys _
  split at e
  ·rename_i c;cases e;obtain⟨a,vs,rfl,h1,d1⟩:=nx.tup R.sub;obtain⟨b,ws,rfl,h2,d2⟩:=ny.tup R.sub;have hne:vs≠[]:=λ z=>by
    have:=d1.length;rw[z] at this;cases xs with
    | nil=>simp at c
    | cons _ _=>simp at this
   refine aGF aA s σ H _ _ v u Q I rx ry ⟨a,b,vs,ws,rfl,rfl,h1,h2,hne,by rw[<- d1.length,<- d2.length];exact c.2,λ z=>?_,λ z p hp=>?_⟩
   ·have:ys=[]:=by
     have h:=d2.length;rw[z] at h;exact List.eq_nil_of_length_eq_zero h
    subst this;refine q F H _ (bL.refl _) R ?_;rw[yAv];rcases nx with nx | ⟨_,_,_,e,_⟩
    ·exact nx
    ·cases e
   ·exact q.tup R hp (d1.append d2)
  ·cases e
 ·rename_i xs ys
  split at e
  ·rename_i c;cases e;obtain⟨a,vs,rfl,h1,d1⟩:=nx.lst R.sub;obtain⟨b,ws,rfl,h2,d2⟩:=ny.lst R.sub;cases rx;cases ry;exact aLH I h1 h2 (by rw[<- d1.length,<- d2.length];exact c) λ p hp=>tT.out R q p _ hp (d1.append d2)
  ·cases e
 ·cases e
theorem aBT{K:FrG}{F:Hp}{x:D}{v:V}(h:Den K F x v):∀ k:Nat,DenL K F (yAd k x) (yAd k v)
 | 0=>.nil
 | k+1=>.cons h (aBT h k)
theorem aJr(I:Inv X aA σ H s)(rx:aP x v)(ry:aP y u)(R:Rel X.K F L S H)(nx:bF X.K F H dx x)(ny:bF X.K F H dy y)(e:aAe dx dy=qq z)(q:eI X F L S z Q) :
 qu (model X.prog X.w) X.A (zu .Mult v u) (EP X aA σ Q) X.xe s:=by
 unfold aAe at e
 split at e
 ·rename_i i j
  split at e
  ·rename_i c;cases e;obtain rfl:=nx.int;obtain rfl:=ny.int;obtain⟨t,rfl⟩:=rx;obtain⟨t',rfl⟩:=ry;refine PyProof.Rows.mul_int ⟨.int (i*j),H,I.tok _,⟨_,rfl⟩,q.here R (.int _)⟩ ?_;unfold IntMulOk;unfold kO at c;intro z;rw[z] at c;cases c
  ·cases e
 ·rename_i xs k
  split at e
  ·rename_i c;cases e;obtain⟨a,vs,rfl,h1,d1⟩:=nx.lst R.sub;obtain rfl:=ny.int;cases rx;obtain⟨t',rfl⟩:=ry;exact aEc I h1 c.2.1 c.1 (by rw[<- d1.length];exact c.2.2) λ p hp=>tT.out R q p _ hp (d1.rep _)
  ·cases e
 ·rename_i xd k
  split at e
  ·rename_i c;cases e;obtain⟨a,vs,rfl,h1,d1⟩:=nx.tup R.sub;obtain rfl:=ny.int;cases rx;obtain⟨t',rfl⟩:=ry;obtain⟨kk,rfl⟩:∃ kk:Nat,k=(kk:Nat):=⟨k.toNat,by omega⟩
   rw[xAm] at q;cases d1 with
   | cons dx dn =>
     cases dn;refine aLm I h1 (by omega) (λ hk=>?_) λ p hp=>eI.tup R q hp (aBT dx kk)
     subst hk;refine q F H _ (bL.refl _) R ?_;rcases nx with nx | ⟨_,_,_,z,_⟩
     ·exact nx
     ·cases z
  ·cases e
 ·cases e
theorem pJ{op:jk}{C:Int->Int->Prop}{g:Int->Int->Int}(rule:bX X (zu op) (rI C λ i j=>.int (g i j))){i j:Int}(c:C i j)(I:Inv X aA σ H s)(rx:aP x v)(ry:aP y u)(R:Rel X.K F L S H)
 (nx:bF X.K F H (.int i) x) (ny:bF X.K F H (.int j) y) (q:eI X F L S (.int (g i j)) Q) :
 qu (model X.prog X.w) X.A (zu op v u) (EP X aA σ Q) X.xe s:=
 rule aA s σ H x y v u Q I rx ry ⟨i,j,nx.int,ny.int,c,q.here R (.int _)⟩
theorem rZ{op:jk}{g:Int->Int->Int}(rule:bX X (zu op) (gK λ i j=>.int (g i j))){i j:Int}(I:Inv X aA σ H s)(rx:aP x v)(ry:aP y u)(R:Rel X.K F L S H)
 (nx:bF X.K F H (.int i) x) (ny:bF X.K F H (.int j) y) (q:eI X F L S (.int (g i j)) Q) :
 qu (model X.prog X.w) X.A (zu op v u) (EP X aA σ Q) X.xe s:=
 rule aA s σ H x y v u Q I rx ry ⟨i,j,nx.int,ny.int,q.here R (.int _)⟩
theorem aHm:bX X (zu .FloorDiv) (rI (λ i j=>j≠0/\yBr i j=false) λ i j=>.int (i.fdiv j)):=rF λ _ _ _ _ _ _ _ hc q=>floordiv_int hc.1 q (.inl hc.2)
theorem aLe:bX X (zu .LShift) (rI (λ i j=>0<=j/\(yAf i:Int)+j<=2^27) λ i j=>.int (i*2^j.toNat)):=rF λ _ _ _ _ _ _ _ hc q=>lshift_int hc.1 hc.2 q
theorem bind_some{α β:Type}{o:Option α}{f:α->Option β}{b:β}(h:o.bind f=qq b):∃ a,o=qq a/\f a=qq b:=by
 cases o with
 | none=>cases h
 | some a=>exact⟨a,rfl,h⟩
theorem jR{α:Type}{p:Prop} [Decidable p]{a z:α}(h:(if p then qq a else qz)=qq z):p/\a=z:=by
 split at h
 ·rename_i c;cases h;exact⟨c,rfl⟩
 ·cases h
theorem aI0{op:jk}(I:Inv X aA σ H s)(rx:aP x v)(ry:aP y u)(R:Rel X.K F L S H)(nx:bF X.K F H dx x)(ny:bF X.K F H dy y)(e:bW op dx dy=qq z)(q:eI X F L S z Q) :
 qu (model X.prog X.w) X.A (zu op v u) (EP X aA σ Q) X.xe s:=by
 cases op with
 | Add=>exact aJm I rx ry R nx ny e q
 | Mult=>exact aJr I rx ry R nx ny e q
 | MatMult=>cases e
 | Div=>cases e
 | Sub=>obtain⟨i,j,rfl,rfl,e⟩:=fJ e;cases e;exact rZ aJz I rx ry R nx ny q
 | BitAnd=>obtain⟨i,j,rfl,rfl,e⟩:=fJ e;cases e;exact rZ aJh I rx ry R nx ny q
 | BitOr=>obtain⟨i,j,rfl,rfl,e⟩:=fJ e;cases e;exact rZ aK0 I rx ry R nx ny q
 | BitXor=>obtain⟨i,j,rfl,rfl,e⟩:=fJ e;cases e;exact rZ aI3 I rx ry R nx ny q
 | FloorDiv=>obtain⟨i,j,rfl,rfl,e⟩:=fJ e;obtain⟨c,rfl⟩:=jR e;exact pJ aHm c I rx ry R nx ny q
 | Mod=>obtain⟨i,j,rfl,rfl,e⟩:=fJ e;obtain⟨c,rfl⟩:=jR e;exact pJ aGV c I rx ry R nx ny q
 | Pow=>obtain⟨i,j,rfl,rfl,e⟩:=fJ e;obtain⟨c,rfl⟩:=jR e;exact pJ aIj c I rx ry R nx ny q
 | LShift=>obtain⟨i,j,rfl,rfl,e⟩:=fJ e;obtain⟨c,rfl⟩:=jR e;exact pJ aLe c I rx ry R nx ny q
 | RShift=>obtain⟨i,j,rfl,rfl,e⟩:=fJ e;obtain⟨c,rfl⟩:=jR e;exact pJ aI6 c I rx ry R nx ny q
mutual
theorem aBh(I:Inv X aA σ H s)(sb:bL F H):∀ {d:D}{x:V}{v:qx},Den X.K F d x->aP x v->d.canLay0=true->∃ as,Reads s.heap v d as
 | _,_,v,.non,r,_=>by cases (show v=Value.none from r);exact⟨_,.none⟩
 | _,_,v,.bl b,r,_=>by cases (show v=Value.bool b from r);exact⟨_,.bool b⟩
 | _,_,v,.int i,r,_=>by obtain⟨t,rfl⟩:=(show ∃ t,v=Value.int i t from r);exact⟨_,.int i t⟩
 | _,_,v,.str y,r,_=>by obtain⟨t,rfl⟩:=(show ∃ t,v=Value.str y t from r);exact⟨_,.str y t⟩
 | _,_,v,.lst (a:=a) h dl,r,c=>by
   cases (show v=Value.ref a from r)
   obtain⟨aC,rv,p1,_⟩:=I.list (sb.seq h);obtain⟨o,ho,hc,n,hd⟩:=p1.isList;obtain⟨as,ra⟩:=rP I sb dl rv c;exact⟨_,.list ho hc hd (by simpa using ra)⟩
 | _,_,v,.exc _,_,c=>by cases c
 | _,_,v,.tup (a:=a) h dl,r,c=>by
   cases (show v=Value.ref a from r)
   obtain⟨aC,rv,p1,_⟩:=I.tuple (kM sb h);obtain⟨o,ho,hc,n,hd⟩:=p1;obtain⟨as,ra⟩:=rP I sb dl rv c;exact⟨_,.tuple ho hc hd (by simpa using ra)⟩
theorem rP(I:Inv X aA σ H s)(sb:bL F H):∀ {ds:List D}{xs:List V}{us:List qx},DenL X.K F ds xs->aM xs us->yCb ds=true->∃ as,ReadsAll s.heap us ds as
 | _,_,_,.nil,r,_=>by cases r;exact⟨_,.nil⟩
 | _,_,_,.cons h dl,.cons r rs,c=>by
   obtain⟨c1,c2⟩:=Bool.and_eq_true_iff.mp c;obtain⟨as,ra⟩:=aBh I sb h r c1;obtain⟨bs,rb⟩:=rP I sb dl rs c2;exact⟨_,.cons ra rb⟩
end
theorem rS(I:Inv X aA σ H s)(R:Rel X.K F L S H)(rx:aP x v)(nx:bF X.K F H dx x)(c:dx.canLay0=true):∃ as,Reads s.heap v dx as:=by
 rcases nx with nx | ⟨ds,a,xs,rfl,rfl,e,dl⟩
 ·exact aBh I R.sub nx rx c
 ·cases rx;obtain⟨aC,rv,p1,_⟩:=I.list (bK.of e);obtain⟨o,ho,hc,n,hd⟩:=p1.isList;obtain⟨as,ra⟩:=rP I R.sub dl rv c;exact⟨_,.list ho hc hd (by simpa using ra)⟩
theorem aKj(hu:X.A.units+64<cLine)(I:Inv X aA σ H s)(rx:aP x v)(ry:aP y u)(R:Rel X.K F L S H)(nx:bF X.K F H dx x)(ny:bF X.K F H dy y)
 (c1:dx.canLay0=true) (c2:dy.canLay0=true) (c3:dx.depth<=60) (q:Q (.bl (yCx dx dy)) H):qu (model X.prog X.w) X.A (jq .Eq v u) (EP X aA σ Q) X.xe s:=by
 obtain⟨as,ra⟩:=rS I R rx nx c1;obtain⟨bs,rb⟩:=rS I R ry ny c2;refine SeqAt.compareEq_reads ra rb c1 c2 ?_ ⟨.bl _,H,I,rfl,q⟩;have:min dx.depth dy.depth<=dx.depth:=Nat.min_le_left _ _;omega
theorem aKK(hu:X.A.units+64<cLine)(I:Inv X aA σ H s)(rx:aP x v)(ry:aP y u)(R:Rel X.K F L S H)(nx:bF X.K F H dx x)(ny:bF X.K F H dy y)
 (c1:dx.canLay0=true) (c2:dy.canLay0=true) (c3:dx.depth<=60) (q:Q (.bl (!yCx dx dy)) H):qu (model X.prog X.w) X.A (jq .NotEq v u) (EP X aA σ Q) X.xe s:=by
 obtain⟨as,ra⟩:=rS I R rx nx c1;obtain⟨bs,rb⟩:=rS I R ry ny c2;refine SeqAt.compareNe_reads ra rb c1 c2 ?_ ⟨.bl _,H,I,rfl,q⟩;have:min dx.depth dy.depth<=dx.depth:=Nat.min_le_left _ _;omega
end
theorem aF4{K:FrG}{F:Hp}{d e:D}{x y:V}(h1:Den K F d x)(h2:Den K F e y)(f1:gF d=true)(f2:gF e=true):kB x y=yCx d e:=by
 cases h1<;>first | (simp[gF] at f1;done) | skip
 all_goals cases h2<;>first | (simp[gF] at f2;done) | rfl | skip
theorem wZ{K:FrG}{F:Hp}{d:D}{x:V}(h1:Den K F d x)(f1:gF d=true):iM x=true:=by
 cases h1<;>first | rfl | (simp[gF] at f1;done)
theorem wN{K:FrG}{F:Hp}:∀ {ds:List D}{xs:List V},DenL K F ds xs->lB ds=true->xs.all iM=true
 | _,_,.nil,_=>rfl
 | _,_,.cons h r,f=>by
   simp only[lB,yBq] at f;rw[yDb,wZ h f.1,wN r f.2];rfl
theorem xG{K:FrG}{F:Hp}{e:D}{y:V}(h2:Den K F e y)(f2:gF e=true):∀ {ds:List D}{xs:List V},DenL K F ds xs->lB ds=true->nX y xs=uO e ds
 | _,_,.nil,_=>rfl
 | _,_,.cons h r,f=>by
   simp only[lB,yBq] at f;have ih:=xG h2 f2 r f.2;unfold nX at ih ⊢;rw[yEe,ih,aF4 h h2 f.1 f2];rfl
section
variable {X : Cx}{aA : List (qv×Obj)}{s : qj}{σ : L2.St}{H : Hp}{x y : V}{v u : qx}{Q : VK}{F : Hp}{L : List qv}{S : aB}{dx dy : D}{b : Bool}
theorem bF.flat{d:D}{z:V}(h:bF X.K F H d z)(f:gF d=true):Den X.K F d z:=by
 rcases h with h | ⟨ds,_,_,rfl,_⟩
 ·exact h
 ·simp[gF] at f
theorem xJ{d:D}{ys:List D}{z:V}(sb:bL F H)(h:bF X.K F H d z)(e:pV d=qq ys):∃ p xs,z=.ref p/\(bK X.K H p xs\/bR X.K H p xs)/\DenL X.K F ys xs:=by
 cases d with
 | list l=>cases e;obtain⟨a,xs,e1,q,dl⟩:=h.lst sb;exact⟨a,xs,e1,.inl q,dl⟩
 | tuple l=>cases e;obtain⟨a,xs,e1,q,dl⟩:=h.tup sb;exact⟨a,xs,e1,.inr q,dl⟩
 | _=>cases e
theorem aCd(R:Rel X.K F L S H)(nx:bF X.K F H dx x):decide (x=.non)=gE dx:=by
 cases dx with
 | none=>rw[nx.non];rfl
 | bool c=>rw[nx.bl];rfl
 | int c=>rw[nx.int];rfl
 | str c=>rw[nx.str];rfl
 | list c=>obtain⟨a,xs,rfl,_⟩:=nx.lst R.sub;rfl
 | tuple c=>obtain⟨a,xs,rfl,_⟩:=nx.tup R.sub;rfl
 | dict c =>
   rcases nx with h | ⟨_,_,_,e,_⟩
   ·cases h;rfl
   ·cases e
theorem aJA{op:vz}(hu:X.A.units+64<cLine)(I:Inv X aA σ H s)(rx:aP x v)(ry:aP y u)(R:Rel X.K F L S H)(nx:bF X.K F H dx x)(ny:bF X.K F H dy y)(e:jT op dx dy=qq b)(q:Q (.bl b) H) :
 qu (model X.prog X.w) X.A (jq op v u) (EP X aA σ Q) X.xe s:=by
 cases op with
 | Lt=>obtain⟨i,j,rfl,rfl,e⟩:=fJ e;cases e;exact aKx aA s σ H x y v u Q I rx ry ⟨_,_,nx.int,ny.int,q⟩
 | LtE=>obtain⟨i,j,rfl,rfl,e⟩:=fJ e;cases e;exact aKv aA s σ H x y v u Q I rx ry ⟨_,_,nx.int,ny.int,q⟩
 | Gt=>obtain⟨i,j,rfl,rfl,e⟩:=fJ e;cases e;exact aJ7 aA s σ H x y v u Q I rx ry ⟨_,_,nx.int,ny.int,q⟩
 | GtE=>obtain⟨i,j,rfl,rfl,e⟩:=fJ e;cases e;exact aK9 aA s σ H x y v u Q I rx ry ⟨_,_,nx.int,ny.int,q⟩
 | Eq=>obtain⟨c,rfl⟩:=jR e;exact aKj hu I rx ry R nx ny c.1 c.2.1 c.2.2 q
 | NotEq=>obtain⟨c,rfl⟩:=jR e;exact aKK hu I rx ry R nx ny c.1 c.2.1 c.2.2 q
 | Is =>
   have e':(if gE dy=true then qq (gE dx) else nQ dx dy)=qq b:=e
   by_cases c:gE dy=true
   ·rw[if_pos c] at e';cases e';cases aBH c;exact aJe aA s σ H x y v u Q I rx ry ⟨ny.non,by rw[aCd R nx];exact q⟩
   ·rw[if_neg c] at e';obtain⟨p1,p2,rfl,rfl,rfl⟩:=aA3 e';obtain rfl:=nx.bl;obtain rfl:=ny.bl;cases rx;cases ry;exact wpAny_is_plain rfl (sP I q (by cases p1<;>cases p2<;>rfl))
 | IsNot =>
   have e':(if gE dy=true then qq (!gE dx) else (nQ dx dy).bind λ b=>qq (!b))=qq b:=e
   by_cases c:gE dy=true
   ·rw[if_pos c] at e';cases e';cases aBH c;exact aGA aA s σ H x y v u Q I rx ry ⟨ny.non,by rw[aCd R nx];exact q⟩
   ·rw[if_neg c] at e';obtain⟨b0,e1,e2⟩:=bind_some e';cases e2;obtain⟨p1,p2,rfl,rfl,rfl⟩:=aA3 e1;obtain rfl:=nx.bl;obtain rfl:=ny.bl;cases rx;cases ry;exact wpAny_isNot_plain rfl (sP I q (by cases p1<;>cases p2<;>rfl))
 | In =>
   obtain⟨ys,hs,e⟩:=bind_some e;obtain⟨c,rfl⟩:=jR e;obtain⟨p,xs,e1,sq,dl⟩:=xJ R.sub ny hs;refine aFP aA s σ H x y v u Q I rx ry ⟨p,xs,e1,sq,wZ (nx.flat c.1) c.1,wN dl c.2,?_⟩;show Q (.bl (nX x xs)) H;rw[xG (nx.flat c.1) c.1 dl c.2];exact q
 | NotIn =>
   obtain⟨ys,hs,e⟩:=bind_some e;obtain⟨c,rfl⟩:=jR e;obtain⟨p,xs,e1,sq,dl⟩:=xJ R.sub ny hs;refine aEU aA s σ H x y v u Q I rx ry ⟨p,xs,e1,sq,wZ (nx.flat c.1) c.1,wN dl c.2,?_⟩;show Q (.bl (!nX x xs)) H;rw[xG (nx.flat c.1) c.1 dl c.2];exact q
theorem aAS{K:FrG}{ds:List D}{xs:List V}(h:DenL K F ds xs):xs.isEmpty=ds.isEmpty:=by cases h<;>rfl
theorem aG1{b:Bool}(R:Rel X.K F L S H)(nx:bF X.K F H dx x)(e:qC dx=qq b):aAd X.K x H b:=by
 cases dx with
 | none=>cases e;rw[nx.non];exact rfl
 | bool c=>cases e;rw[nx.bl];exact rfl
 | int c=>cases e;rw[nx.int];exact rfl
 | str c =>
   rw[nx.str];have e':(if c.length<=qk then qq ((c.length:Int) != 0) else qz)=qq b:=e
   split at e'
   ·rename_i h;cases e';exact⟨h,rfl⟩
   ·cases e'
 | list c=>cases e;obtain⟨a,xs,rfl,sq,dl⟩:=nx.lst R.sub;exact .inl ⟨xs,sq,by rw[aAS dl]⟩
 | tuple c=>cases e;obtain⟨a,xs,rfl,sq,dl⟩:=nx.tup R.sub;exact .inr (.inl ⟨xs,sq,by rw[aAS dl]⟩)
 | dict c=>cases e
end
abbrev FE:=aQ->aB->Option (W×aB)
abbrev FT:=aQ->aB->Option (Bool×aB)
abbrev FA:=aQ->aB->Option (List W×aB)
abbrev FL:=aQ->aB->Option (List D×aB)
inductive Fl where
 | nx (env:aQ) | rt (w:W) | bk (env:aQ) | ct (env:aQ)
abbrev FS:=aQ->aB->Option (Fl×aB)
inductive WDenL (K:FrG) (F:Hp) (L:List qv):List W->List V->Prop
 | nil:WDenL K F L [] []
 | cons {w:W}{ws:List W}{x:V}{xs:List V}:dM K F L w x->WDenL K F L ws xs->WDenL K F L (w::ws) (x::xs)
theorem WDenL.mono{K:FrG}{F F':Hp}{L L':List qv}(g:Gr F L F' L'):∀ {ws:List W}{xs:List V},WDenL K F L ws xs->WDenL K F' L' ws xs
 | _,_,.nil=>.nil
 | _,_,.cons h r=>.cons (h.mono g) (r.mono g)
theorem WDenL.length{K:FrG}{F:Hp}{L:List qv}:∀ {ws:List W}{xs:List V},WDenL K F L ws xs->ws.length=xs.length
 | _,_,.nil=>rfl
 | _,_,.cons _ r=>congrArg (· + 1) r.length
section
variable (K : FrG)
def aK(f:FE):TE:=λ σ H Q=>∃ F L S env w S',Rel K F L S H/\EnvR K F L env σ/\f env S=qq (w,S')/\∀ F' L' H' v,Gr F L F' L'->Rel K F' L' S' H'->dM K F' L' w v->Q v H'
def dP(f:FT):TT:=λ σ H Q=>∃ F L S env b S',Rel K F L S H/\EnvR K F L env σ/\f env S=qq (b,S')/\∀ F' L' H',Gr F L F' L'->Rel K F' L' S' H'->Q b H'
def dE(f:FA):TA:=λ σ H Q=>∃ F L S env ws S',Rel K F L S H/\EnvR K F L env σ/\f env S=qq (ws,S')/\∀ F' L' H' vs,Gr F L F' L'->Rel K F' L' S' H'->WDenL K F' L' ws vs->Q vs H'
def eX(f:FL):TE:=λ σ H Q=>∃ F L S env ds S',Rel K F L S H/\EnvR K F L env σ/\f env S=qq (ds,S')/\∀ F' L' H' p xs,Gr F L F' L'->Rel K F' L' S' H'->F' p=qz->p ∉ L'->H' p=qq (.lst xs)->DenL K F' ds xs->Q (.ref p) H'
def cA(f:FS):TS:=λ D σ H=>∃ F L S env fl S',Rel K F L S H/\EnvR K F L env σ/\f env S=qq (fl,S')/\∀ F' L' H',Gr F L F' L'->Rel K F' L' S' H'->match fl with
 | .nx aV=>∀ σ',EnvR K F' L' aV σ'->D.nx σ' H'
 | .rt w=>∀ v,dM K F' L' w v->D.rt v H'
 | .bk aV=>∀ σ',EnvR K F' L' aV σ'->D.bk σ' H'
 | .ct aV=>∀ σ',EnvR K F' L' aV σ'->D.ct σ' H'
end
section
variable {X : Cx}
theorem PE.weak{e:qw}{t t':TE}(h:PE X e t)(w:∀ σ H Q,t' σ H Q->t σ H Q):PE X e t':=λ aA s σ H Q I q=>h aA s σ H Q I (w σ H Q q)
theorem PT.weak{e:qw}{t t':TT}(h:PT X e t)(w:∀ σ H Q,t' σ H Q->t σ H Q):PT X e t':=λ aA s σ H Q I q=>h aA s σ H Q I (w σ H Q q)
theorem PW.weak{e:qw}{t t':TT}(h:PW X e t)(w:∀ σ H Q,t' σ H Q->t σ H Q):PW X e t':=λ wh aA s σ H Q I q=>h wh aA s σ H Q I (w σ H Q q)
theorem PA.weak{e:List qw}{t t':TA}(h:PA X e t)(w:∀ σ H Q,t' σ H Q->t σ H Q):PA X e t':=λ pos aA s σ H Q I q=>h pos aA s σ H Q I (w σ H Q q)
theorem PS.weak{e:zy}{t t':TS}(h:PS X e t)(w:∀ D σ H,t' D σ H->t D σ H):PS X e t':=λ aA s σ H D I q=>h aA s σ H D I (w D σ H q)
theorem bI.weak{e:List zy}{t t':TS}(h:bI X e t)(w:∀ D σ H,t' D σ H->t D σ H):bI X e t':=λ aA s σ H D I q=>h aA s σ H D I (w D σ H q)
abbrev nK(K:FrG)(F:Hp)(L:List qv)(S':aB)(w:W)(Q:VK):Prop:=∀ F' L' H' v,Gr F L F' L'->Rel K F' L' S' H'->dM K F' L' w v->Q v H'
noncomputable def f2(fa fb:FE)(g:aB->W->W->Option (W×aB)):FE:=λ env S=>(fa env S).bind λ p=>(fb env p.2).bind λ q=>g q.2 p.1 q.1
noncomputable def f1(fa:FE)(g:aB->W->Option (W×aB)):FE:=λ env S=>(fa env S).bind λ p=>g p.2 p.1
theorem tU{K:FrG}{fa fb:FE}{g:aB->W->W->Option (W×aB)}{r:R2}
 (hr:∀ F L S H x y wx wy w S' Q,Rel K F L S H->dM K F L wx x->dM K F L wy y->g S wx wy=qq (w,S')->nK K F L S' w Q->r x y H Q)
 (σ:St) (H:Hp) (Q:VK) (h:aK K (f2 fa fb g) σ H Q):qY r (aK K fa) (aK K fb) σ H Q:=by
 obtain⟨F,L,S,env,w,S',R,E,e,q⟩:=h;unfold f2 at e;cases ea:fa env S with
 | none=>rw[ea] at e;cases e
 | some p =>
   obtain⟨wx,S1⟩:=p;rw[ea] at e;dsimp only[yCn] at e;cases eb:fb env S1 with
   | none=>rw[eb] at e;cases e
   | some p2 =>
     obtain⟨wy,S2⟩:=p2;rw[eb] at e;dsimp only at e;refine⟨F,L,S,env,wx,S1,R,E,ea,λ F1 L1 H1 x g1 R1 d1=>⟨F1,L1,S1,env,wy,S2,R1,E.mono g1,eb,λ F2 L2 H2 y g2 R2 d2=>?_⟩⟩
     exact hr F2 L2 S2 H2 x y wx wy w S' Q R2 (d1.mono g2) d2 e λ F3 L3 H3 v g3 R3 d3=>q F3 L3 H3 v ((g1.trans g2).trans g3) R3 d3
noncomputable def cP(i:Nat):FE:=λ env S=>match env[i]? with
 | some (qq w)=>qq (w,S)
 | _=>qz
theorem aFG{i:Nat}{env:aQ}{S S':aB}{w:W}(h:cP i env S=qq (w,S')):env[i]? = qq (qq w)/\S'=S:=by
 unfold cP at h
 split at h
 ·rename_i w' e;cases h;exact⟨e,rfl⟩
 ·cases h
theorem zK{i:Nat}{x:Str}{pos:Pos}(hN:X.N[i]? = qq x)(hv:kC X.env.scope x)(hd:(x==("__debug__" : Str))=false)(hcd:(x==("__classdict__" : Str))=false):PE X (.Name x pos) (aK X.K (cP i)):=
 PE.weak (xY hN hv hd hcd) λ σ H Q aO=>by
  obtain⟨F,L,S,env,w,S',R,E,e,q⟩:=aO;obtain⟨e1,rfl⟩:=aFG e;obtain⟨v,e2,d⟩:=E.get i w e1;exact⟨v,e2,q F L H v Gr.refl R d⟩
noncomputable def fC(d:D):FE:=λ _ S=>qq (.d d,S)
theorem aJQ{i j pos}:PE X (.Constant (.int i) j pos) (aK X.K (fC (.int i))):=
 PE.weak aJi λ σ H Q aO=>by obtain⟨F,L,S,env,w,S',R,E,e,q⟩:=aO;cases e;exact q F L H _ Gr.refl R (.int i)
theorem aDX{b j pos}:PE X (.Constant (.bool b) j pos) (aK X.K (fC (.bool b))):=
 PE.weak aKq λ σ H Q aO=>by obtain⟨F,L,S,env,w,S',R,E,e,q⟩:=aO;cases e;exact q F L H _ Gr.refl R (.bl b)
theorem aKT{j pos}:PE X (.Constant .none j pos) (aK X.K (fC .none)):=
 PE.weak aJK λ σ H Q aO=>by obtain⟨F,L,S,env,w,S',R,E,e,q⟩:=aO;cases e;exact q F L H _ Gr.refl R .non
theorem aDe{x j pos}:PE X (.Constant (.str x) j pos) (aK X.K (fC (.str x))):=
 PE.weak aCN λ σ H Q aO=>by obtain⟨F,L,S,env,w,S',R,E,e,q⟩:=aO;cases e;exact q F L H _ Gr.refl R (.str x)
noncomputable def gN(g:D->D->Option D)(S:aB)(x y:W):Option (W×aB):=(dr S x).bind λ a=>(dr S y).bind λ b=>(g a b).bind λ z=>qq (.d z,S)
noncomputable def eZ(g:D->Option D)(S:aB)(x:W):Option (W×aB):=(dr S x).bind λ a=>(g a).bind λ z=>qq (.d z,S)
theorem aBt{g:D->D->Option D}{S S':aB}{x y w:W}(h:gN g S x y=qq (w,S')):∃ a b z,dr S x=qq a/\dr S y=qq b/\g a b=qq z/\w=.d z/\S'=S:=by
 unfold gN at h;cases e1:dr S x with
 | none=>rw[e1] at h;cases h
 | some a =>
   cases e2:dr S y with
   | none=>rw[e1,e2] at h;cases h
   | some b =>
     rw[e1,e2] at h;dsimp only[yCn] at h;cases e3:g a b with
     | none=>rw[e3] at h;cases h
     | some z=>rw[e3] at h;cases h;exact⟨a,b,z,rfl,rfl,e3,rfl,rfl⟩
theorem wR{g:D->Option D}{S S':aB}{x w:W}(h:eZ g S x=qq (w,S')):∃ a z,dr S x=qq a/\g a=qq z/\w=.d z/\S'=S:=by
 unfold eZ at h;cases e1:dr S x with
 | none=>rw[e1] at h;cases h
 | some a =>
   rw[e1] at h;dsimp only[yCn] at h;cases e3:g a with
   | none=>rw[e3] at h;cases h
   | some z=>rw[e3] at h;cases h;exact⟨a,z,rfl,e3,rfl,rfl⟩
theorem xO{K:FrG}{F:Hp}{L:List qv}{S:aB}{z:D}{Q:VK}(X:Cx)(hK:X.K=K)(q:nK K F L S (.d z) Q):eI X F L S z Q:=λ F' H' r sf R d=>by
 subst hK;exact q F' L H' r ⟨sf,[],by simp⟩ R d
noncomputable def uX(X:Cx)(g:D->D->Option D):R2:=λ x y H Q=>∃ F L S dx dy z,Rel X.K F L S H/\bF X.K F H dx x/\bF X.K F H dy y/\g dx dy=qq z/\eI X F L S z Q
theorem sK{g:D->D->Option D}(F:Hp)(L:List qv)(S:aB)(H:Hp)(x y:V)(wx wy w:W)(S':aB)(Q:VK)(R:Rel X.K F L S H)(h1:dM X.K F L wx x)(h2:dM X.K F L wy y)(e:gN g S wx wy=qq (w,S'))(q:nK X.K F L S' w Q):uX X g x y H Q:=by
 obtain⟨a,b,z,e1,e2,e3,rfl,rfl⟩:=aBt e;exact⟨F,L,S',a,b,z,R,iF R h1 e1,iF R h2 e2,e3,xO X rfl q⟩
noncomputable def lX(op:jk)(fa fb:FE):FE:=f2 fa fb (gN (bW op))
theorem aC7{a b:qw}{op:jk}{pos:Pos}{fa fb:FE}(ha:PE X a (aK X.K fa))(hb:PE X b (aK X.K fb)):PE X (.BinOp a op b pos) (aK X.K (lX op fa fb)):=
 PE.weak (aDo (r:=uX X (bW op)) (λ aA s σ H x y v u Q I rx ry hPr2=>by obtain⟨F,L,S,dx,dy,z,R,nx,ny,e,q⟩:=hPr2;exact aI0 I rx ry R nx ny e q) ha hb) (tU sK)
noncomputable def fUn(op:wj)(fa:FE):FE:=f1 fa (eZ (unD op))
noncomputable def aZ(op:vz)(x y:D):Option D:=(jT op x y).map yBh
theorem aBA{op:vz}(hu:X.A.units+64<cLine):bX X (jq op) (uX X (aZ op)):=λ aA s σ H x y v u Q I rx ry aO=>by
 obtain⟨F,L,S,dx,dy,z,R,nx,ny,e,q⟩:=aO;unfold aZ at e;cases ec:jT op dx dy with
 | none=>rw[ec] at e;cases e
 | some b=>rw[ec] at e;cases e;exact aJA hu I rx ry R nx ny ec (q.here R (.bl b))
noncomputable def fO(op:vz)(fa fb:FE):FE:=f2 fa fb (gN (aZ op))
theorem aC8{a b:qw}{op:vz}{pos:Pos}{fa fb:FE}(hu:X.A.units+64<cLine)(ha:PE X a (aK X.K fa))(hb:PE X b (aK X.K fb))(hm:jv op b=false):PE X (.Compare a [op] [b] pos) (aK X.K (fO op fa fb)):=
 PE.weak (aG8 (aBA hu) ha hb hm) (tU sK)
noncomputable def cK(fa:FE):FT:=λ env S=>(fa env S).bind λ p=>(dr p.2 p.1).bind λ d=>(qC d).bind λ b=>qq (b,p.2)
theorem aBe{fa:FE}{env:aQ}{S S':aB}{b:Bool}(h:cK fa env S=qq (b,S')):∃ w d,fa env S=qq (w,S')/\dr S' w=qq d/\qC d=qq b:=by
 unfold cK at h;cases ea:fa env S with
 | none=>rw[ea] at h;cases h
 | some p =>
   obtain⟨w,S1⟩:=p;rw[ea] at h;dsimp only[yCn] at h;cases e1:dr S1 w with
   | none=>rw[e1] at h;cases h
   | some d =>
     rw[e1] at h;dsimp only at h;cases e2:qC d with
     | none=>rw[e2] at h;cases h
     | some c=>rw[e2] at h;cases h;exact⟨w,d,rfl,e1,e2⟩
theorem aKd{a:qw}{fa:FE}(ha:PE X a (aK X.K fa))(he:∀ dG,isTrue a X.env dG=(do let v <- dG;standAt a.pos;holding [v] (truthy v))):PT X a (dP X.K (cK fa)):=
 PT.weak (aGd ha he) λ σ H Q aO=>by
  obtain⟨F,L,S,env,b,S',R,E,e,q⟩:=aO;obtain⟨w,d,e1,e2,e3⟩:=aBe e;exact⟨F,L,S,env,w,S',R,E,e1,λ F1 L1 H1 v g1 R1 d1=>⟨b,aG1 R1 (iF R1 d1 e2) e3,q F1 L1 H1 g1 R1⟩⟩
theorem aJn{a b:qw}{op:vz}{pos:Pos}{fa fb:FE}(hu:X.A.units+64<cLine)(ha:PE X a (aK X.K fa))(hb:PE X b (aK X.K fb))(hm:jv op b=false):PT X (.Compare a [op] [b] pos) (dP X.K (cK (fO op fa fb))):=
 PT.weak (aGK (aBA hu) ha hb hm) λ σ H Q aO=>by
  obtain⟨F,L,S,env,b,S',R,E,e,q⟩:=aO;obtain⟨w,d,e1,e2,e3⟩:=aBe e;refine tU (fa:=fa) (fb:=fb) (g:=gN (aZ op)) sK σ H _ ⟨F,L,S,env,w,S',R,E,e1,λ F1 L1 H1 v g1 R1 d1=>?_⟩
  have hc:∃ c,w=.d (.bool c):=by
   unfold fO f2 at e1;cases ea:fa env S with
   | none=>rw[ea] at e1;cases e1
   | some p =>
     rw[ea] at e1;dsimp only[yCn] at e1;cases eb:fb env p.2 with
     | none=>rw[eb] at e1;cases e1
     | some p2 =>
       rw[eb] at e1;dsimp only at e1;obtain⟨_,_,z,_,_,e6,rfl,_⟩:=aBt e1;unfold aZ at e6;cases e7:jT op _ _ with
       | none=>rw[e7] at e6;cases e6
       | some c=>rw[e7] at e6;cases e6;exact⟨c,rfl⟩
  obtain⟨c,rfl⟩:=hc;cases e2;cases e3;have hv:v=.bl b:=by cases (show Den X.K F1 (.bool b) v from d1);rfl
  exact⟨b,hv,q F1 L1 H1 g1 R1⟩
end
section
variable {X : Cx}{pos : Pos}
noncomputable def uC(fa fb:FT):FT:=λ env S=>(fa env S).bind λ p=>if p.1=true then fb env p.2 else qq (false,p.2)
noncomputable def uV(fa fb:FT):FT:=λ env S=>(fa env S).bind λ p=>if p.1=true then qq (true,p.2) else fb env p.2
noncomputable def uG(fa:FT):FT:=λ env S=>(fa env S).bind λ p=>qq (!p.1,p.2)
theorem aDq{K:FrG}{fa fb:FT}(σ:St)(H:Hp)(Q:Bool->Hp->Prop)(h:dP K (uC fa fb) σ H Q):aD2 (dP K fa) (dP K fb) σ H Q:=by
 obtain⟨F,L,S,env,b,S',R,E,e,q⟩:=h;obtain⟨⟨c,S1⟩,e1,e2⟩:=bind_some e;refine⟨F,L,S,env,c,S1,R,E,e1,λ F1 L1 H1 g1 R1=>?_⟩
 dsimp only at e2;cases c with
 | true=>exact nV ⟨F1,L1,S1,env,b,S',R1,E.mono g1,by simpa using e2,λ F2 L2 H2 g2 R2=>q F2 L2 H2 (g1.trans g2) R2⟩
 | false =>
   have e3:qq (false,S1)=qq (b,S'):=by simpa using e2
   cases e3;exact nO (q F1 L1 H1 g1 R1)
theorem aD5{K:FrG}{fa fb:FT}(σ:St)(H:Hp)(Q:Bool->Hp->Prop)(h:dP K (uV fa fb) σ H Q):tOr (dP K fa) (dP K fb) σ H Q:=by
 obtain⟨F,L,S,env,b,S',R,E,e,q⟩:=h;obtain⟨⟨c,S1⟩,e1,e2⟩:=bind_some e;refine⟨F,L,S,env,c,S1,R,E,e1,λ F1 L1 H1 g1 R1=>?_⟩
 dsimp only at e2;cases c with
 | false=>exact nO ⟨F1,L1,S1,env,b,S',R1,E.mono g1,by simpa using e2,λ F2 L2 H2 g2 R2=>q F2 L2 H2 (g1.trans g2) R2⟩
 | true =>
   have e3:qq (true,S1)=qq (b,S'):=by simpa using e2
   cases e3;exact nV (q F1 L1 H1 g1 R1)
theorem aKk{a:qw}{fa:FT}(ha:PT X a (dP X.K fa)):PT X (.UnaryOp .Not a pos) (dP X.K (uG fa)):=
 PT.weak (aIy ha) λ σ H Q aO=>by
  obtain⟨F,L,S,env,b,S',R,E,e,q⟩:=aO;obtain⟨⟨c,S1⟩,e1,e2⟩:=bind_some e;cases e2;exact⟨F,L,S,env,c,S1,R,E,e1,q⟩
noncomputable def lM(fa fb:FE):FE:=λ env S=>(fa env S).bind λ p=>match p.1 with
 | .d (.bool true)=>fb env p.2
 | .d (.bool false)=>qq (.d (.bool false),p.2)
 | _=>qz
noncomputable def uF(fa fb:FE):FE:=λ env S=>(fa env S).bind λ p=>match p.1 with
 | .d (.bool false)=>fb env p.2
 | .d (.bool true)=>qq (.d (.bool true),p.2)
 | _=>qz
noncomputable def tB(fa:FE):FE:=λ env S=>(fa env S).bind λ p=>match p.1 with
 | .d (.bool b)=>qq (.d (.bool (!b)),p.2)
 | _=>qz
theorem pR{K:FrG}{F:Hp}{L:List qv}{b:Bool}{v:V}(h:dM K F L (.d (.bool b)) v):v=.bl b:=by cases (show Den K F (.bool b) v from h);rfl
theorem sL{K:FrG}{fa fb:FE}(σ:St)(H:Hp)(Q:VK)(h:aK K (lM fa fb) σ H Q):aDI (aK K fa) (aK K fb) σ H Q:=by
 obtain⟨F,L,S,env,w,S',R,E,e,q⟩:=h;obtain⟨⟨c,S1⟩,e1,e2⟩:=bind_some e;dsimp only at e2
 split at e2
 ·exact⟨F,L,S,env,_,S1,R,E,e1,λ F1 L1 H1 v g1 R1 d1=>⟨true,pR d1,nV ⟨F1,L1,S1,env,w,S',R1,E.mono g1,e2,λ F2 L2 H2 v2 g2 R2 d2=>q F2 L2 H2 v2 (g1.trans g2) R2 d2⟩⟩⟩
 ·cases e2;exact⟨F,L,S,env,_,_,R,E,e1,λ F1 L1 H1 v g1 R1 d1=>⟨false,pR d1,nO (q F1 L1 H1 _ g1 R1 (Den.bl false))⟩⟩
 ·cases e2
theorem aDd{K:FrG}{fa fb:FE}(σ:St)(H:Hp)(Q:VK)(h:aK K (uF fa fb) σ H Q):aD8 (aK K fa) (aK K fb) σ H Q:=by
 obtain⟨F,L,S,env,w,S',R,E,e,q⟩:=h;obtain⟨⟨c,S1⟩,e1,e2⟩:=bind_some e;dsimp only at e2
 split at e2
 ·exact⟨F,L,S,env,_,S1,R,E,e1,λ F1 L1 H1 v g1 R1 d1=>⟨false,pR d1,nO ⟨F1,L1,S1,env,w,S',R1,E.mono g1,e2,λ F2 L2 H2 v2 g2 R2 d2=>q F2 L2 H2 v2 (g1.trans g2) R2 d2⟩⟩⟩
 ·cases e2;exact⟨F,L,S,env,_,_,R,E,e1,λ F1 L1 H1 v g1 R1 d1=>⟨true,pR d1,nV (q F1 L1 H1 _ g1 R1 (Den.bl true))⟩⟩
 ·cases e2
theorem aH9{a:qw}{fa:FE}(ha:PE X a (aK X.K fa)):PE X (.UnaryOp .Not a pos) (aK X.K (tB fa)):=
 PE.weak (aHX ha) λ σ H Q aO=>by
  obtain⟨F,L,S,env,w,S',R,E,e,q⟩:=aO;obtain⟨⟨c,S1⟩,e1,e2⟩:=bind_some e;dsimp only at e2
  split at e2
  ·cases e2;exact⟨F,L,S,env,_,_,R,E,e1,λ F1 L1 H1 v g1 R1 d1=>⟨_,pR d1,q F1 L1 H1 _ g1 R1 (Den.bl _)⟩⟩
  ·cases e2
noncomputable def aLB(fc:FT)(fa fb:FE):FE:=λ env S=>(fc env S).bind λ p=>if p.1=true then fa env p.2 else fb env p.2
noncomputable def gH:FA:=λ _ S=>qq ([],S)
noncomputable def dX(fa:FE)(fr:FA):FA:=λ env S=>(fa env S).bind λ p=>(fr env p.2).bind λ q=>qq (p.1::q.1,q.2)
theorem lR:PA X [] (dE X.K gH):=PA.weak mS λ σ H Q aO=>by obtain⟨F,L,S,env,ws,S',R,E,e,q⟩:=aO;cases e;exact q F L H [] Gr.refl R .nil
theorem lD{e:qw}{es:List qw}{fa:FE}{fr:FA}(ha:PE X e (aK X.K fa))(hr:PA X es (dE X.K fr))(hs:zj (e::es) X.env=(false,eval e X.env)::zj es X.env):PA X (e::es) (dE X.K (dX fa fr)):=
 PA.weak (iE ha hr hs) λ σ H Q aO=>by
  obtain⟨F,L,S,env,ws,S',R,E,e,q⟩:=aO;obtain⟨⟨w,S1⟩,e1,e2⟩:=bind_some e;obtain⟨⟨wr,S2⟩,e3,e4⟩:=bind_some e2;cases e4;exact⟨F,L,S,env,w,S1,R,E,e1,λ F1 L1 H1 v g1 R1 d1=>⟨F1,L1,S1,env,wr,S2,R1,E.mono g1,e3,λ F2 L2 H2 vs g2 R2 d2=>q F2 L2 H2 _ (g1.trans g2) R2 (.cons (d1.mono g2) d2)⟩⟩
noncomputable def qQ:List W->Option (List D)
 | []=>qq []
 | .d x::r=>(qQ r).bind λ l=>qq (x::l)
 | .loc _::_=>qz
 | .exc _ _::_=>qz
theorem wK{K:FrG}{F:Hp}{L:List qv}:∀ {ws:List W}{xs:List V}{ds:List D},WDenL K F L ws xs->qQ ws=qq ds->DenL K F ds xs
 | _,_,_,.nil,e=>by cases e;exact .nil
 | .d x::r,_,_,.cons h t,e=>by
   obtain⟨l,e1,e2⟩:=bind_some e;cases e2;exact .cons h (wK t e1)
 | .loc _::_,_,_,.cons _ _,e=>by cases e
 | .exc _ _::_,_,_,.cons _ _,e=>by cases e
noncomputable def qO(fs:FA):FE:=λ env S=>(fs env S).bind λ p=>(qQ p.1).bind λ ds=>if ds.length<=qk then qq (.d (.tuple ds),p.2) else qz
theorem aDh{es:List qw}{k:Nat}{fs:FA}(h:PA X es (dE X.K fs)):PE X (.Tuple es k pos) (aK X.K (qO fs)):=
 PE.weak (yD h) λ σ H Q aO=>by
  obtain⟨F,L,S,env,w,S',R,E,e,q⟩:=aO;obtain⟨⟨ws,S1⟩,e1,e2⟩:=bind_some e;obtain⟨ds,e3,e4⟩:=bind_some e2
  split at e4
  ·rename_i hz;cases e4;refine⟨F,L,S,env,ws,_,R,E,e1,λ F1 L1 H1 vs g1 R1 d1=>?_⟩
   have dl:=wK d1 e3;refine⟨by rw[<- dl.length];exact hz,λ p hp=>?_⟩
   exact q _ L1 _ _ (g1.trans (Gr.new (R1.sub.free hp))) (R1.new hp) (Den.tup (bR.of bO) (dl.mono (eP (R1.sub.free hp))))
  ·cases e4
noncomputable def iY(fs:FA):FL:=λ env S=>(fs env S).bind λ p=>(qQ p.1).bind λ ds=>if ds.length<=qk then qq (ds,p.2) else qz
theorem sZ{es:List qw}{fs:FA}(h:PA X es (dE X.K fs)):PE X (.List es pos) (eX X.K (iY fs)):=
 PE.weak (aHW h) λ σ H Q aO=>by
  obtain⟨F,L,S,env,ds,S',R,E,e,q⟩:=aO;obtain⟨⟨ws,S1⟩,e1,e2⟩:=bind_some e;obtain⟨ds',e3,e4⟩:=bind_some e2
  split at e4
  ·rename_i hz;cases e4;refine⟨F,L,S,env,ws,_,R,E,e1,λ F1 L1 H1 vs g1 R1 d1=>?_⟩
   have dl:=wK d1 e3;exact⟨by rw[<- dl.length];exact hz,λ p hp=>q F1 L1 _ p vs g1 (R1.lay hp) (R1.sub.free hp) (R1.notin hp) bO dl⟩
  ·cases e4
noncomputable def dF(f:FL):FE:=λ env S=>(f env S).bind λ p=>qq (.d (.list p.1),p.2)
theorem nT{e:qw}{f:FL}(h:PE X e (eX X.K f)):PE X e (aK X.K (dF f)):=
 PE.weak h λ σ H Q aO=>by
  obtain⟨F,L,S,env,w,S',R,E,e,q⟩:=aO;obtain⟨⟨ds,S1⟩,e1,e2⟩:=bind_some e;cases e2;exact⟨F,L,S,env,ds,_,R,E,e1,λ F1 L1 H1 p xs g1 R1 hF hL hH dl=>q _ L1 _ _ (g1.trans (Gr.new hF)) (R1.adopt hF hL hH) (Den.lst (bK.of bO) (dl.mono (eP hF)))⟩
noncomputable def iX(f:FL):FE:=λ env S=>(f env S).bind λ p=>qq (.loc p.2.length,p.2++[qq p.1])
theorem aDH{e:qw}{f:FL}(h:PE X e (eX X.K f)):PE X e (aK X.K (iX f)):=
 PE.weak h λ σ H Q aO=>by
  obtain⟨F,L,S,env,w,S',R,E,e,q⟩:=aO;obtain⟨⟨ds,S1⟩,e1,e2⟩:=bind_some e;cases e2;refine⟨F,L,S,env,ds,_,R,E,e1,λ F1 L1 H1 p xs g1 R1 hF hL hH dl=>q _ _ _ _ (g1.trans Gr.newLoc) (R1.adoptLoc hF hL hH dl) ⟨p,?_,rfl⟩⟩
  dsimp only;rw[<- R1.len,yAe (yAc _)];simp
noncomputable def bC:D->D->Option D
 | .list xs,.int i=>hJ xs i
 | .tuple xs,.int i=>hJ xs i
 | .str z,.int i=>if z.length<=qk then (hJ z.cps.toList i).bind λ c=>qq (.str ⟨#[c]⟩) else qz
 | _,_=>qz
theorem aBY{K:FrG}{F:Hp}{ds:List D}{xs:List V}{i:Int}{d:D}(h:DenL K F ds xs)(e:hJ ds i=qq d):∃ x,hJ xs i=qq x/\Den K F d x:=by
 unfold hJ at e ⊢;rw[<- h.length];obtain⟨j,e1,e2⟩:=bind_some e;obtain⟨x,e3,dx⟩:=h.get e2;exact⟨x,by rw[e1];exact e3,dx⟩
theorem aG0:jD X (uX X bC):=λ value fX aA s σ H x y v u Q I rx ry aO hs=>by
 obtain⟨F,L,S,dx,dy,z,R,nx,ny,e,q⟩:=aO;unfold bC at e
 split at e
 ·obtain⟨a,xs,rfl,sq,dl⟩:=nx.lst R.sub;obtain⟨r,e1,d1⟩:=aBY dl e;exact aG7 value fX aA s σ H _ y v u Q I rx ry ⟨a,xs,_,r,rfl,ny.int,sq,e1,q.here R d1⟩ hs
 ·obtain⟨a,xs,rfl,sq,dl⟩:=nx.tup R.sub;obtain⟨r,e1,d1⟩:=aBY dl e;exact aIt value fX aA s σ H _ y v u Q I rx ry ⟨a,xs,_,r,rfl,ny.int,sq,e1,q.here R d1⟩ hs
 ·split at e
  ·rename_i hz;obtain⟨c,e1,e2⟩:=bind_some e;cases e2;exact aIh value fX aA s σ H x y v u Q I rx ry ⟨_,_,c,nx.str,ny.int,hz,e1,q.here R (.str _)⟩ hs
  ·cases e
 ·cases e
noncomputable def oC(fa fb:FE):FE:=f2 fa fb (gN bC)
theorem aLQ{a b:qw}{fa fb:FE}(ha:PE X a (aK X.K fa))(hb:PE X b (aK X.K fb))(hs:sE b):PE X (.Subscript a b pos) (aK X.K (oC fa fb)):=
 PE.weak (aDc aG0 ha hb hs) (tU sK)
abbrev FO:=aQ->aB->Option (Option Int×aB)
noncomputable def kA:FO:=λ _ S=>qq (qz,S)
noncomputable def fM(fa:FE):FO:=λ env S=>(fa env S).bind λ p=>match p.1 with
 | .d (.int i)=>qq (qq i,p.2)
 | _=>qz
def iT(K:FrG)(f:FO):TO:=λ σ H Q=>∃ F L S env o S',Rel K F L S H/\EnvR K F L env σ/\f env S=qq (o,S')/\∀ F' L' H',Gr F L F' L'->Rel K F' L' S' H'->Q o H'
theorem aL6:PO X qz (iT X.K kA):=λ aA s σ H Q I aO=>by
 obtain⟨F,L,S,env,o,S',R,E,e,q⟩:=aO;cases e;exact aHO aA s σ H Q I (q F L H Gr.refl R)
theorem aJp{a:qw}{fa:FE}(ha:PE X a (aK X.K fa)):PO X (qq a) (iT X.K (fM fa)):=λ aA s σ H Q I aO=>by
 obtain⟨F,L,S,env,o,S',R,E,e,q⟩:=aO;obtain⟨⟨w,S1⟩,e1,e2⟩:=bind_some e;dsimp only at e2
 split at e2
 ·cases e2;refine aHl ha aA s σ H Q I ⟨F,L,S,env,_,_,R,E,e1,λ F1 L1 H1 v g1 R1 d1=>?_⟩
  cases (show Den X.K F1 (.int _) v from d1)
  exact⟨_,rfl,q F1 L1 H1 g1 R1⟩
 ·cases e2
noncomputable def dL(xs:List D)(lo hi:Option Int):List D:=(xs.drop (HT.sIx xs.length 0 lo)).take (HT.sIx xs.length xs.length hi-HT.sIx xs.length 0 lo)
theorem aB6{K:FrG}{F:Hp}{ds:List D}{xs:List V}(h:DenL K F ds xs)(lo hi:Option Int):DenL K F (dL ds lo hi) (jU xs lo hi):=by
 unfold dL jU;rw[h.length];exact(h.drop _).take _
noncomputable def slL:D->Option Int->Option Int->Option (List D)
 | .list xs,lo,hi=>qq (dL xs lo hi)
 | _,_,_=>qz
noncomputable def aD7(fa:FE)(fl fh:FO):FL:=λ env S=>(fa env S).bind λ p=>(fl env p.2).bind λ q=>(fh env q.2).bind λ r=>(dr r.2 p.1).bind λ d=>(slL d q.1 r.1).bind λ z=>qq (z,r.2)
theorem aJ4{a:qw}{lo hi:Option qw}{p2:Pos}{fa:FE}{fl fh:FO}(ha:PE X a (aK X.K fa))(hl:PO X lo (iT X.K fl))(hh:PO X hi (iT X.K fh)):PE X (.Subscript a (.Slice lo hi qz p2) pos) (eX X.K (aD7 fa fl fh)):=
 PE.weak (aBO aHj ha hl hh) λ σ H Q aO=>by
  obtain⟨F,L,S,env,ds,S',R,E,e,q⟩:=aO;obtain⟨⟨w,S1⟩,e1,e⟩:=bind_some e;obtain⟨⟨l,S2⟩,e2,e⟩:=bind_some e;obtain⟨⟨h,S3⟩,e3,e⟩:=bind_some e;obtain⟨d,e4,e⟩:=bind_some e;obtain⟨z,e5,e⟩:=bind_some e;cases e;refine⟨F,L,S,env,w,S1,R,E,e1,λ F1 L1 H1 v g1 R1 d1=>⟨F1,L1,S1,env,l,S2,R1,E.mono g1,e2,λ F2 L2 H2 g2 R2=>⟨F2,L2,S2,env,h,S3,R2,E.mono (g1.trans g2),e3,λ F3 L3 H3 g3 R3=>?_⟩⟩⟩
  have n:=iF R3 (d1.mono (g2.trans g3)) e4;cases d with
  | list xs =>
    cases e5;obtain⟨a,vs,rfl,sq,dl⟩:=n.lst R3.sub;exact⟨a,vs,rfl,sq,λ p hp=>q F3 L3 _ p _ ((g1.trans g2).trans g3) (R3.lay hp) (R3.sub.free hp) (R3.notin hp) bO (aB6 dl l h)⟩
  | _=>cases e5
noncomputable def gX(K:FrG)(np:Nat)(call:List W->aB->Option (W×aB)):Sp:=λ vs H Q _=>∃ F L S ws w S',ws.length=np/\Rel K F L S H/\WDenL K F L ws vs/\call ws S=qq (w,S')/\nK K F L S' w Q
noncomputable def pY(fs:FA)(np:Nat)(call:List W->aB->Option (W×aB)):FE:=λ env S=>(fs env S).bind λ p=>if p.1.length=np then call p.1 p.2 else qz
theorem aI9{K:FrG}{fs:FA}{np:Nat}{call:List W->aB->Option (W×aB)}(σ:St)(H:Hp)(Q:VK)(h:aK K (pY fs np call) σ H Q):tE (gX K np call) [] E0 (dE K fs) σ H Q:=by
 obtain⟨F,L,S,env,w,S',R,E,e,q⟩:=h;obtain⟨⟨ws,S1⟩,e1,e⟩:=bind_some e
 split at e
 ·rename_i hn;refine⟨F,L,S,env,ws,S1,R,E,e1,λ F1 L1 H1 vs g1 R1 d1=>⟨F1,L1,S1,ws,w,S',hn,R1,by rw[yAv];exact d1,e,λ F2 L2 H2 v g2 R2 d2=>q F2 L2 H2 v (g1.trans g2) R2 d2⟩⟩
 ·cases e
inductive NowL (K:FrG) (F H:Hp):List D->List V->Prop
 | nil:NowL K F H [] []
 | cons {d:D}{ds:List D}{x:V}{xs:List V}:bF K F H d x->NowL K F H ds xs->NowL K F H (d::ds) (x::xs)
noncomputable def uL(S:aB):List W->Option (List D)
 | []=>qq []
 | w::r=>(dr S w).bind λ d=>(uL S r).bind λ l=>qq (d::l)
theorem aCc{K:FrG}{F H:Hp}{L:List qv}{S:aB}(R:Rel K F L S H):∀ {ws:List W}{xs:List V}{ds:List D},WDenL K F L ws xs->uL S ws=qq ds->NowL K F H ds xs
 | _,_,_,.nil,e=>by cases e;exact .nil
 | _,_,_,.cons h t,e=>by
   obtain⟨d,e1,e⟩:=bind_some e;obtain⟨l,e2,e⟩:=bind_some e;cases e;exact .cons (iF R h e1) (aCc R t e2)
noncomputable def jG(X:Cx)(g:List D->Option D):List V->Hp->VK->Prop:=λ xs H Q=>∃ F L S ds z,Rel X.K F L S H/\NowL X.K F H ds xs/\g ds=qq z/\eI X F L S z Q
noncomputable def nP(fs:FA)(g:List D->Option D):FE:=λ env S=>(fs env S).bind λ p=>(uL p.2 p.1).bind λ ds=>(g ds).bind λ z=>qq (.d z,p.2)
theorem jP{fs:FA}{g:List D->Option D}(σ:St)(H:Hp)(Q:VK)(h:aK X.K (nP fs g) σ H Q):uM (jG X g) (dE X.K fs) σ H Q:=by
 obtain⟨F,L,S,env,w,S',R,E,e,q⟩:=h;obtain⟨⟨ws,S1⟩,e1,e⟩:=bind_some e;obtain⟨ds,e2,e⟩:=bind_some e;obtain⟨z,e3,e⟩:=bind_some e;cases e;refine⟨F,L,S,env,ws,_,R,E,e1,λ F1 L1 H1 vs g1 R1 d1=>⟨F1,L1,S1,ds,z,R1,aCc R1 d1 e2,e3,xO X rfl λ F2 L2 H2 v g2 R2 d2=>q F2 L2 H2 v (g1.trans g2) R2 d2⟩⟩
end
section
variable {prog : qo}{w : zq}{A : zx}{E : qx -> qj -> Prop}{s : qj}
theorem aBl{it t:qv}{aS:Array qx}(hne:t≠it):∀ (n i:Nat) (s:qj) (Q:List qx->qj->Prop),s.heap.IsListIter it t i->s.heap.IsList t aS->i+n<=aS.size ->
 (∀ h',h'.IsListIter it t (i+n)->yEj it s.heap h'->Q ((aS.toList.drop i).take n) {s with heap:=h' })->qu (model prog w) A (draw (.ref it) n) Q E s
 | 0,i,s,Q,hit,_,_,hQ=>wP (by simpa using hQ s.heap hit (Heap.SameBut.refl _ _))
 | n+1,i,s,Q,hit,hl,hle,hQ=>by
   have hlt:i<aS.size:=by omega
   show qu _ _ (pyNext (.ref it) >>= _) Q E s;refine wB (vj hit hl (x:=aS[i]) (by simp[hlt]) λ h1 hit1 hs1=>?_)
   refine wB (zo (aBl hne n (i+1) _ _ hit1 (hl.extBut hs1.extBut hne) (by omega) λ h2 hit2 hs2=>wP ?_))
   have q:=hQ h2 (by rw[show i+(n+1)=i+1+n by omega];exact hit2) (hs1.trans hs2)
   rw[yBy (by simpa using hlt),List.take_succ_cons] at q
   exact q
theorem aE6{env:Env}{elts:List qw}{x1}{pos:Pos}{t:qv}{aS:Array qx}{Q:Unit->qj->Prop}(hh:A.handled=qz)(hl:s.heap.IsList t aS)
 (hn:(xq elts env).length=aS.size) (hstar:(xq elts env).findIdx? (·.1)=qz)
 (h:∀ h',Heap.ExtBut s.heap.objs.size s.heap h'->qu (model prog w) A (assignInOrder ((xq elts env).map (·.2)) aS.toList) Q E {s with heap:=h' }) :
 qu (model prog w) A (assign (.Tuple elts x1 pos) env (.ref t)) Q E s:=by
 have hlt:t≠s.heap.objs.size:=by obtain⟨o,ho,_⟩:=hl;exact xAh (xAa ho)
 have hl1:∀ o,(s.heap.push o).IsList t aS:=λ o=>let ⟨u,hu,r⟩:=hl;⟨u,hpS _ hu,r⟩
 rw[arm_assign_Tuple];refine wB (ju ?_);unfold unpack;rw[hn,hstar];refine wB (zo ?_);unfold unpackItems;refine wB ?_;unfold notIterableAtAll;refine wB (wpAny_specialOf hl.typeIs slot_list_iter.lookup (wP ?_));simp only[yAx,if_false];refine wB (zo (jw hl ?_));refine wB (zo (aBl hlt aS.size 0 _ _ ⟨_,xAe _ rfl,rfl,rfl⟩ (hl1 _) (by omega) λ h1 hit1 hs1=>?_))
 rw[show List.take aS.size (List.drop 0 aS.toList)=aS.toList by rw[yCk];exact yBd (by simp)]
 rw[if_neg (by simp)]
 have hl2:h1.IsList t aS:=(hl1 _).extBut hs1.extBut hlt;refine wB (zo (vv hh hit1 hl2 (by simp) λ h2 he2=>?_))
 simp only[Option.isSome_none,yAx,if_false];exact wP (h h2 λ b o hb e=>he2 b o hb (hs1.extBut b o hb (hpS _ e)))
end
section
variable {X : Cx}
def zW(K:FrG)(n:Nat)(t:fU):TG:=λ v σ H Q=>∃ a xs,v=.ref a/\(bR K H a xs\/bK K H a xs)/\xs.length=n/\t xs σ H Q
theorem aJd{es:List qw}{k:Nat}{t:fU}{n:Nat}{pos:Pos}(hc:X.calm=true)(h:mB X es t)(hn:(xq es X.env).length=n)(eY:(xq es X.env).findIdx? (·.1)=qz):PG X (.Tuple es k pos) (zW X.K n t):=by
 intro aA s σ H v u Q I r hw;obtain⟨a,xs,e1,hq,hl,hw⟩:=hw;rcases hq with hq | hq
 ·exact aJy hc h hn eY aA s σ H v u Q I r ⟨a,xs,e1,hq,hl,hw⟩
 ·subst e1;cases r;obtain⟨aC,rv,pl,hz⟩:=I.list hq;refine aE6 (I.ok.hd hc) pl.isList (by simp[hn,<- hl,rv.length]) eY λ h' hx=>?_
  have I1:Inv X aA σ H {s with heap:=h' }:=I.kept (t':=s.toks) λ b o e=>hx b o (xAh (xAa e)) e
  exact h aA _ σ H xs _ Q I1 (by simpa using rv) hw
end
section
variable {X : Cx}{pos : Pos}
noncomputable def uH(K:FrG)(D:Ends)(F':Hp)(L':List qv)(H':Hp):Fl->Prop
 | .nx aV=>∀ σ',EnvR K F' L' aV σ'->D.nx σ' H'
 | .rt w=>∀ v,dM K F' L' w v->D.rt v H'
 | .bk aV=>∀ σ',EnvR K F' L' aV σ'->D.bk σ' H'
 | .ct aV=>∀ σ',EnvR K F' L' aV σ'->D.ct σ' H'
theorem gB{K:FrG}{f:FS}{D:Ends}{σ:St}{H F:Hp}{L:List qv}{S:aB}{env:aQ}{fl:Fl}{S':aB}(R:Rel K F L S H)(E:EnvR K F L env σ)(e:f env S=qq (fl,S'))
 (q:∀ F' L' H',Gr F L F' L'->Rel K F' L' S' H'->uH K D F' L' H' fl):cA K f D σ H:=⟨F,L,S,env,fl,S',R,E,e,λ F' L' H' g R'=>by
 have:=q F' L' H' g R';cases fl<;>exact this⟩
theorem jL{K:FrG}{f:FS}{D:Ends}{σ:St}{H:Hp}(h:cA K f D σ H):∃ F L S env fl S',Rel K F L S H/\EnvR K F L env σ/\f env S=qq (fl,S')/\∀ F' L' H',Gr F L F' L'->Rel K F' L' S' H'->uH K D F' L' H' fl:=by
 obtain⟨F,L,S,env,fl,S',R,E,e,q⟩:=h;exact⟨F,L,S,env,fl,S',R,E,e,λ F' L' H' g R'=>by
  have:=q F' L' H' g R';cases fl<;>exact this⟩
noncomputable def lO:FS:=λ env S=>qq (.nx env,S)
theorem aCL:bI X [] (cA X.K lO):=bI.weak xR λ D σ H h=>by
 obtain⟨F,L,S,env,fl,S',R,E,e,q⟩:=jL h;cases e;exact q F L H Gr.refl R σ E
noncomputable def cN(fa fb:FS):FS:=λ env S=>(fa env S).bind λ p=>match p.1 with
 | .nx e=>fb e p.2
 | fl=>qq (fl,p.2)
theorem aDD{a:zy}{b:List zy}{fa fb:FS}(ha:PS X a (cA X.K fa))(hb:bI X b (cA X.K fb)):bI X (a::b) (cA X.K (cN fa fb)):=bI.weak (wS ha hb) λ D σ H h=>by
 obtain⟨F,L,S,env,fl,S',R,E,e,q⟩:=jL h;obtain⟨⟨f1,S1⟩,e1,e2⟩:=bind_some e;cases f1 with
 | nx e'=>exact gB R E e1 λ F1 L1 H1 g1 R1 σ1 E1=>gB R1 E1 e2 λ F2 L2 H2 g2 R2=>q F2 L2 H2 (g1.trans g2) R2
 | rt w=>cases e2;exact gB R E e1 λ F1 L1 H1 g1 R1=>q F1 L1 H1 g1 R1
 | bk e'=>cases e2;exact gB R E e1 λ F1 L1 H1 g1 R1=>q F1 L1 H1 g1 R1
 | ct e'=>cases e2;exact gB R E e1 λ F1 L1 H1 g1 R1=>q F1 L1 H1 g1 R1
noncomputable def pL(fa:FE):FS:=λ env S=>(fa env S).bind λ p=>qq (.nx env,p.2)
theorem aCX{e:qw}{fa:FE}(h:PE X e (aK X.K fa))(hs:swapsWith e qz pos.line X.env=pure false):PS X (.Expr e pos) (cA X.K (pL fa)):=PS.weak (aCq h hs) λ D σ H h=>by
 obtain⟨F,L,S,env,fl,S',R,E,e,q⟩:=jL h;obtain⟨⟨w,S1⟩,e1,e2⟩:=bind_some e;cases e2;exact⟨F,L,S,env,w,_,R,E,e1,λ F1 L1 H1 v g1 R1 d1=>q F1 L1 H1 g1 R1 σ (E.mono g1)⟩
noncomputable def iR(fa:FE):FS:=λ env S=>(fa env S).bind λ p=>qq (.rt p.1,p.2)
theorem aDz{e:qw}{fa:FE}(h:PE X e (aK X.K fa)):PS X (.Return (qq e) pos) (cA X.K (iR fa)):=PS.weak (aJj h) λ D σ H h=>by
 obtain⟨F,L,S,env,fl,S',R,E,e,q⟩:=jL h;obtain⟨⟨w,S1⟩,e1,e2⟩:=bind_some e;cases e2;exact⟨F,L,S,env,w,_,R,E,e1,λ F1 L1 H1 v g1 R1 d1=>q F1 L1 H1 g1 R1 v d1⟩
noncomputable def aKP:FS:=λ env S=>qq (.rt (.d .none),S)
noncomputable def kX(fc:FT)(fa fb:FS):FS:=λ env S=>(fc env S).bind λ p=>if p.1=true then fa env p.2 else fb env p.2
theorem aLs{c:qw}{a b:List zy}{fc:FT}{fa fb:FS}(hc:PT X c (dP X.K fc))(ha:bI X a (cA X.K fa))(hb:bI X b (cA X.K fb)):PS X (.If c a b pos) (cA X.K (kX fc fa fb)):=PS.weak (aDl hc ha hb) λ D σ H h=>by
 obtain⟨F,L,S,env,fl,S',R,E,e,q⟩:=jL h;obtain⟨⟨c,S1⟩,e1,e2⟩:=bind_some e;refine⟨F,L,S,env,c,S1,R,E,e1,λ F1 L1 H1 g1 R1=>?_⟩
 cases c with
 | true=>exact nV (gB R1 (E.mono g1) (by simpa using e2) λ F2 L2 H2 g2 R2=>q F2 L2 H2 (g1.trans g2) R2)
 | false=>exact nO (gB R1 (E.mono g1) (by simpa using e2) λ F2 L2 H2 g2 R2=>q F2 L2 H2 (g1.trans g2) R2)
noncomputable def dY(i:Nat)(fa:FE):FS:=λ env S=>(fa env S).bind λ p=>qq (.nx (env.set i (qq p.1)),p.2)
theorem aDw{K:FrG}{i:Nat}{fa:FE}(D:Ends)(σ:St)(H:Hp)(h:cA K (dY i fa) D σ H):qP (aK K fa) (kN i) D σ H:=by
 obtain⟨F,L,S,env,fl,S',R,E,e,q⟩:=jL h;obtain⟨⟨w,S1⟩,e1,e2⟩:=bind_some e;cases e2;exact⟨F,L,S,env,w,_,R,E,e1,λ F1 L1 H1 v g1 R1 d1=>q F1 L1 H1 g1 R1 _ ((E.mono g1).set i d1)⟩
theorem tH{i:Nat}{x:Str}{e:qw}{fa:FE}{pos':Pos}(hN:X.N.Nodup)(hi:X.N[i]? = qq x)(hx:Loc X.env.scope x)(he:PE X e (aK X.K fa))(hs:swapsWith e (qq (.Name x pos')) pos.line X.env=pure false)(hf:X.fn x=true\/X.env.scope.names.lookup x=qq .local) :
 PS X (.Assign [.Name x pos'] e pos) (cA X.K (dY i fa)):=PS.weak (aCP hN hi hx he hs hf) aDw
noncomputable def kI:List Nat->List D->aQ->Option aQ
 | [],[],env=>qq env
 | i::is,d::ds,env=>kI is ds (env.set i (qq (.d d)))
 | _,_,_=>qz
inductive Tg where
 | one (i:Nat) | many (is:List Nat)
noncomputable def Tg.put:Tg->D->aQ->Option aQ
 | .one i,d,env=>qq (env.set i (qq (.d d)))
 | .many is,.tuple ds,env=>kI is ds env
 | .many is,.list ds,env=>kI is ds env
 | .many _,_,_=>qz
def GA(K:FrG)(t:Tg)(g:TG):Prop:=∀ (d:D) (x:V) (σ:St) (H F:Hp) (L:List qv) (S:aB) (env aV:aQ) (Q:St->Hp->Prop),
 Rel K F L S H->EnvR K F L env σ->Den K F d x->t.put d env=qq aV->(∀ σ',EnvR K F L aV σ'->Q σ' H)->g x σ H Q
theorem aH8{K:FrG}(i:Nat):GA K (.one i) (kN i):=λ d x σ H F L S env aV Q R E dn e q=>by
 cases e;exact q _ (E.set i (w:=.d d) dn)
def rC(K:FrG)(is:List Nat)(g:fU):Prop:=∀ (ds:List D) (xs:List V) (σ:St) (H F:Hp) (L:List qv) (S:aB) (env aV:aQ) (Q:St->Hp->Prop),
 Rel K F L S H->EnvR K F L env σ->DenL K F ds xs->kI is ds env=qq aV->(∀ σ',EnvR K F L aV σ'->Q σ' H)->g xs σ H Q
theorem aHD{K:FrG}:rC K [] zQ:=λ ds xs σ H F L S env aV Q R E dn e q=>by
 cases dn with
 | nil=>cases e;exact⟨rfl,q σ E⟩
 | cons _ _=>cases e
theorem aGm{K:FrG}{i:Nat}{is:List Nat}{g:fU}(h:rC K is g):rC K (i::is) (yS (kN i) g):=λ ds xs σ H F L S env aV Q R E dn e q=>by
 cases dn with
 | nil=>cases e
 | cons d1 dr=>exact⟨_,_,rfl,h _ _ _ H F L S _ aV Q R (E.set i (w:=.d _) d1) dr e q⟩
theorem vX:∀ {is:List Nat}{ds:List D}{env aV:aQ},kI is ds env=qq aV->is.length=ds.length
 | [],[],_,_,_=>rfl
 | _::is,_::ds,_,_,e=>congrArg (· + 1) (vX (is:=is) (ds:=ds) e)
 | [],_::_,_,_,e=>by cases e
 | _::_,[],_,_,e=>by cases e
theorem aHC{K:FrG}{is:List Nat}{g:fU}(h:rC K is g):GA K (.many is) (zW K is.length g):=λ d x σ H F L S env aV Q R E dn e q=>by
 cases d with
 | tuple ds =>
   cases dn with
   | tup sq dl=>exact⟨_,_,rfl,.inl (kM R.sub sq),by rw[<- dl.length];exact(vX e).symm,h _ _ σ H F L S env aV Q R E dl e q⟩
 | list ds =>
   cases dn with
   | lst sq dl=>exact⟨_,_,rfl,.inr (R.sub.seq sq),by rw[<- dl.length];exact(vX e).symm,h _ _ σ H F L S env aV Q R E dl e q⟩
 | _=>cases e
noncomputable def nA(t:Tg)(fa:FE):FS:=λ env S=>(fa env S).bind λ p=>match p.1 with
 | .d d=>(t.put d env).bind λ e=>qq (.nx e,p.2)
 | _=>qz
theorem aIG{K:FrG}{t:Tg}{g:TG}{fa:FE}(hg:GA K t g)(D:Ends)(σ:St)(H:Hp)(h:cA K (nA t fa) D σ H):qP (aK K fa) g D σ H:=by
 obtain⟨F,L,S,env,fl,S',R,E,e,q⟩:=jL h;obtain⟨⟨w,S1⟩,e1,e2⟩:=bind_some e;dsimp only at e2
 split at e2
 ·obtain⟨e',e3,e4⟩:=bind_some e2;cases e4;exact⟨F,L,S,env,_,_,R,E,e1,λ F1 L1 H1 v g1 R1 d1=>hg _ v σ H1 F1 L1 _ env e' _ R1 (E.mono g1) d1 e3 λ σ' E'=>q F1 L1 H1 g1 R1 σ' E'⟩
 ·cases e2
noncomputable def nE(S:aB):W->W->W->Option aB
 | .loc n,.d (.int k),.d x=>match S[n]? with
   | some (qq ds)=>(hZ ds.length k).bind λ j=>qq (S.set n (qq (ds.set j x)))
   | _=>qz
 | _,_,_=>qz
noncomputable def lT(fo fi fe:FE):FS:=λ env S=>(fe env S).bind λ p=>(fo env p.2).bind λ q=>(fi env q.2).bind λ r=>(nE r.2 q.1 r.1 p.1).bind λ S'=>qq (.nx env,S')
theorem aFl{S S':aB}{o i x:W}(h:nE S o i x=qq S'):∃ n k d ds j,o=.loc n/\i=.d (.int k)/\x=.d d/\S[n]? = qq (qq ds)/\hZ ds.length k=qq j/\S'=S.set n (qq (ds.set j d)):=by
 unfold nE at h
 split at h
 ·split at h
  ·rename_i ds e;obtain⟨j,e1,e2⟩:=bind_some h;cases e2;exact⟨_,_,_,ds,j,rfl,rfl,rfl,e,e1,rfl⟩
  ·cases h
 ·cases h
theorem aK7{K:FrG}{fo fi fe:FE}(D:Ends)(σ:St)(H:Hp)(h:cA K (lT fo fi fe) D σ H):qP (aK K fe) (aDV (aK K fo) (aK K fi) aDu) D σ H:=by
 obtain⟨F,L,S,env,fl,S',R,E,e,q⟩:=jL h;obtain⟨⟨we,S1⟩,e1,e⟩:=bind_some e;obtain⟨⟨wo,S2⟩,e2,e⟩:=bind_some e;obtain⟨⟨wi,S3⟩,e3,e⟩:=bind_some e;obtain⟨S4,e4,e⟩:=bind_some e;cases e;obtain⟨n,k,d,ds,j,rfl,rfl,rfl,e5,e6,rfl⟩:=aFl e4;refine⟨F,L,S,env,_,S1,R,E,e1,λ F1 L1 H1 v g1 R1 d1=>⟨F1,L1,S1,env,_,S2,R1,E.mono g1,e2,λ F2 L2 H2 o g2 R2 d2=>⟨F2,L2,S2,env,_,S3,R2,E.mono (g1.trans g2),e3,λ F3 L3 H3 i g3 R3 d3=>?_⟩⟩⟩
 obtain⟨a,ea,rfl⟩:=d2.mono g3;obtain⟨fa,xs,ha,dl⟩:=R3.loc n a ds ea e5;have hi:i=.int k:=by cases (show Den K F3 (.int k) i from d3);rfl
 refine⟨a,xs,k,j,rfl,hi,ha,by rw[<- dl.length];exact e6,?_⟩
 exact q F3 L3 _ ((g1.trans g2).trans g3) (R3.put ea fa (dl.set j (show Den K F3 d v from d1.mono (g2.trans g3)))) σ (E.mono ((g1.trans g2).trans g3))
theorem aKA{o i e:qw}{fo fi fe:FE}{pos':Pos}(ho:PE X o (aK X.K fo))(hi:PE X i (aK X.K fi))(he:PE X e (aK X.K fe))(ha:∀ v,assign (.Subscript o i pos') X.env v=(do
 let ov <- holding [v] (eval o X.env)
 let iv <- holding [v,ov] (eval i X.env)
 standAt pos'
 holding [v,ov,iv] (setItem ov iv v)
 release [v,ov,iv] [])) (hs:swapsWithSole [.Subscript o i pos'] e pos.line X.env=pure false) (hw:wq [.Subscript o i pos'] e X.env=pure qz):PS X (.Assign [.Subscript o i pos'] e pos) (cA X.K (lT fo fi fe)):=
 PS.weak (aCz he (aJM ho hi aF0 ha) hs hw) aK7
noncomputable def fS(S:aB):W->W->Option (W×aB)
 | .loc n,.d x=>match S[n]? with
   | some (qq ds)=>if ds.length<qk then qq (.d .none,S.set n (qq (ds++[x]))) else qz
   | _=>qz
 | _,_=>qz
theorem aBd{S S':aB}{o x w:W}(h:fS S o x=qq (w,S')):∃ n d ds,o=.loc n/\x=.d d/\S[n]? = qq (qq ds)/\ds.length<qk/\w=.d .none/\S'=S.set n (qq (ds++[d])):=by
 unfold fS at h
 split at h
 ·split at h
  ·rename_i ds e
   split at h
   ·rename_i hz;cases h;exact⟨_,_,ds,rfl,rfl,e,hz,rfl,rfl⟩
   ·cases h
  ·cases h
 ·cases h
noncomputable def jX(fo fe:FE):FE:=f2 fo fe fS
theorem aDG{K:FrG}{fo fe:FE}(σ:St)(H:Hp)(Q:VK)(h:aK K (jX fo fe) σ H Q):tBM K "list" aB8 (aK K fo) (dE K (dX fe gH)) σ H Q:=by
 obtain⟨F,L,S,env,w,S',R,E,e,q⟩:=h;obtain⟨⟨wo,S1⟩,e1,e⟩:=bind_some e;obtain⟨⟨we,S2⟩,e2,e⟩:=bind_some e;obtain⟨n,d,ds,rfl,rfl,e5,hz,rfl,rfl⟩:=aBd e;refine⟨F,L,S,env,_,S1,R,E,e1,λ F1 L1 H1 o g1 R1 d1=>?_⟩
 obtain⟨a,ea,rfl⟩:=d1;refine⟨.inl ⟨rfl,?_⟩,F1,L1,S1,env,[.d d],S2,R1,E.mono g1,?_,λ F2 L2 H2 vs g2 R2 d2=>?_⟩
 ·obtain⟨xs,hx⟩:=R1.tr n a ea;exact⟨xs,bK.of hx⟩
 ·unfold dX;rw[e2];rfl
 ·cases d2 with
  | cons dd dr =>
    cases dr;have ea2:=g2.get ea;obtain⟨fa,xs,ha,dl⟩:=R2.loc n a ds ea2 e5;exact⟨a,xs,_,rfl,rfl,ha,by rw[<- dl.length];exact hz,q F2 L2 _ _ (g1.trans g2) (R2.put ea2 fa (dl.append (.cons dd .nil))) Den.non⟩
end
section
variable {X : Cx}{pos : Pos}
structure Wk(K:FrG)(F:Hp)(L:List qv)(J:It)(ds:List D):Prop where
 go:∀ (i:Nat) (H:Hp),bL F H->i<ds.length->J.go i H
 stop:∀ (H:Hp),bL F H->J.stop ds.length H
 yld:∀ (i:Nat) (H F1:Hp) (L1:List qv) (S:aB) (x:V) (H':Hp) (d:D),Gr F L F1 L1->Rel K F1 L1 S H->ds[i]? = qq d->J.yld i H x H'->∃ F2,bL F1 F2/\Rel K F2 L1 S H'/\Den K F2 d x
def jF(K:FrG)(f:FL):TI:=λ σ H R=>∃ F L S env ds S',Rel K F L S H/\EnvR K F L env σ/\f env S=qq (ds,S')/\∀ F' L' H' J,Gr F L F' L'->Rel K F' L' S' H'->Wk K F' L' J ds->R J H'
theorem PI.weak{tg iter:qw}{t t':TI}(h:PI X tg iter t)(w:∀ σ H R,t' σ H R->t σ H R):PI X tg iter t':=λ aA s σ H R I q=>h aA s σ H R I (w σ H R q)
theorem aHu{K:FrG}{F:Hp}{L:List qv}{a:qv}{xs:List V}{ds:List D}(sq:bK K F a xs)(dl:DenL K F ds xs):Wk K F L (Itl K a) ds where
 go:=λ i H s hi=>⟨xs,xs[i]'(by rw[<- dl.length];exact hi),s.seq sq,by simp[dl.length▸hi]⟩
 stop:=λ H s=>⟨xs,s.seq sq,yEk dl.length.symm⟩
 yld:=λ i H F1 L1 S x H' d g R e y=>by
  obtain⟨e1,y⟩:=y;subst e1;have h:=y xs ((g.f.trans R.sub).seq sq);obtain⟨x',e2,dx⟩:=dl.get e;rw[h] at e2;cases e2;exact⟨F1,bL.refl _,R,dx.mono g.f⟩
theorem aI7{K:FrG}{F:Hp}{L:List qv}{a:qv}{xs:List V}{ds:List D}(sq:bR K F a xs)(dl:DenL K F ds xs):Wk K F L (Itt K a) ds where
 go:=λ i H s hi=>⟨xs,xs[i]'(by rw[<- dl.length];exact hi),kM s sq,by simp[dl.length▸hi]⟩
 stop:=λ H s=>⟨xs,kM s sq,yEk dl.length.symm⟩
 yld:=λ i H F1 L1 S x H' d g R e y=>by
  obtain⟨e1,y⟩:=y;subst e1;have h:=y xs (kM (g.f.trans R.sub) sq);obtain⟨x',e2,dx⟩:=dl.get e;rw[h] at e2;cases e2;exact⟨F1,bL.refl _,R,dx.mono g.f⟩
noncomputable def jB(lo:Int):Nat->List D
 | 0=>[]
 | n+1=>.int lo::jB (lo+1) n
theorem vO(n:Nat):∀ lo:Int,(jB lo n).length=n:=by
 induction n with
 | zero=>intro lo;rfl
 | succ n ih=>intro lo;simp[jB,ih]
theorem aBx:∀ (n:Nat) (lo:Int) (i:Nat),i<n->(jB lo n)[i]? = qq (.int (lo+i))
 | 0,_,_,h=>by omega
 | n+1,lo,0,_=>by simp[jB]
 | n+1,lo,i+1,h=>by
   rw[jB,yBs,aBx n (lo+1) i (by omega)]
   congr 2
   push_cast
   omega
theorem aGq{K:FrG}{F:Hp}{L:List qv}(lo:Int)(n:Nat):Wk K F L (uY lo n) (jB lo n) where
 go:=λ i H s hi=>by rw[vO] at hi;exact hi
 stop:=λ H s=>by rw[vO];exact yAc _
 yld:=λ i H F1 L1 S x H' d g R e y=>by
  obtain⟨rfl,rfl⟩:=y;have hi:i<n:=by
   have:=(gIm e).1;rw[vO] at this;exact this
  rw[aBx n lo i hi] at e;cases e;exact⟨F1,bL.refl _,R,.int _⟩
noncomputable def aEj(fa:FE):FL:=λ env S=>(fa env S).bind λ p=>match p.1 with
 | .d (.list ds)=>qq (ds,p.2)
 | _=>qz
noncomputable def aDO(fa:FE):FL:=λ env S=>(fa env S).bind λ p=>match p.1 with
 | .d (.tuple ds)=>qq (ds,p.2)
 | _=>qz
theorem aKL{tg a:qw}{fa:FE}(ha:PE X a (aK X.K fa)):PI X tg a (jF X.K (aEj fa)):=PI.weak (aG4 ha) λ σ H Rr aO=>by
 obtain⟨F,L,S,env,ds,S',R,E,e,q⟩:=aO;obtain⟨⟨w,S1⟩,e1,e2⟩:=bind_some e;dsimp only at e2
 split at e2
 ·cases e2;refine⟨F,L,S,env,_,_,R,E,e1,λ F1 L1 H1 v g1 R1 d1=>?_⟩
  cases (show Den X.K F1 (.list ds) v from d1) with
  | lst sq dl=>exact⟨_,rfl,⟨_,R1.sub.seq sq⟩,q F1 L1 H1 _ g1 R1 (aHu sq dl)⟩
 ·cases e2
theorem aKS{tg a:qw}{fa:FE}(ha:PE X a (aK X.K fa)):PI X tg a (jF X.K (aDO fa)):=PI.weak (aJE ha) λ σ H Rr aO=>by
 obtain⟨F,L,S,env,ds,S',R,E,e,q⟩:=aO;obtain⟨⟨w,S1⟩,e1,e2⟩:=bind_some e;dsimp only at e2
 split at e2
 ·cases e2;refine⟨F,L,S,env,_,_,R,E,e1,λ F1 L1 H1 v g1 R1 d1=>?_⟩
  cases (show Den X.K F1 (.tuple ds) v from d1) with
  | tup sq dl=>exact⟨_,rfl,⟨_,kM R1.sub sq⟩,q F1 L1 H1 _ g1 R1 (aI7 sq dl)⟩
 ·cases e2
noncomputable def pW(fa:FE):FL:=λ env S=>(fa env S).bind λ p=>match p.1 with
 | .d (.int j)=>if -(2^62)<=j/\j<2^62 then qq (jB 0 j.toNat,p.2) else qz
 | _=>qz
theorem aJI{K:FrG}{fa:FE}(σ:St)(H:Hp)(Rr:It->Hp->Prop)(h:jF K (pW fa) σ H Rr):aDv (dE K (dX fa gH)) σ H Rr:=by
 obtain⟨F,L,S,env,ds,S',R,E,e,q⟩:=h;obtain⟨⟨w,S1⟩,e1,e2⟩:=bind_some e;dsimp only at e2
 split at e2
 ·split at e2
  ·rename_i j c;cases e2;refine⟨F,L,S,env,[.d (.int j)],_,R,E,by unfold dX;rw[e1];rfl,λ F1 L1 H1 vs g1 R1 d1=>?_⟩
   cases d1 with
   | cons dd dr =>
     cases dr;cases (show Den K F1 (.int j) _ from dd)
     exact⟨j,rfl,c.1,c.2,q F1 L1 H1 _ g1 R1 (aGq 0 j.toNat)⟩
  ·cases e2
 ·cases e2
noncomputable def kP(t:Tg)(fb:FS):List D->FS
 | []=>λ env S=>qq (.nx env,S)
 | d::ds=>λ env S=>(t.put d env).bind λ e1=>(fb e1 S).bind λ q=>(match q.1 with
    | .nx e=>kP t fb ds e q.2
    | .ct e=>kP t fb ds e q.2
    | .bk e=>qq (.nx e,q.2)
    | .rt w=>qq (.rt w,q.2))
noncomputable def lS(t:Tg)(fi:FL)(fb:FS):FS:=λ env S=>(fi env S).bind λ p=>kP t fb p.1 env p.2
theorem aKD{tg iter:qw}{b:List zy}{t:Tg}{g:TG}{fi:FL}{fb:FS}(hp:PassesOwn (model X.prog X.w) X.A X.env X.xe)(hc:X.calm=true)(hi:PI X tg iter (jF X.K fi))(hg:PG X tg g)(ga:GA X.K t g)(hb:bI X b (cA X.K fb))
 (hs:∀ x,xy iter X.env x=pure x):PS X (.For tg iter b [] pos) (cA X.K (lS t fi fb)):=PS.weak (aCM hp hc hi hg hb hs) λ D σ H h=>by
 obtain⟨F,L,S,env,fl,S',R,E,e,q⟩:=jL h;obtain⟨⟨ds,S1⟩,e1,e2⟩:=bind_some e;refine⟨F,L,S,env,ds,S1,R,E,e1,λ F0 L0 H0 J g0 R0 wk=>?_⟩
 dsimp only at e2;refine⟨λ i m σ1 H1=>i+m=ds.length/\∃ F1 L1 S1 env1,Gr F0 L0 F1 L1/\Rel X.K F1 L1 S1 H1/\EnvR X.K F1 L1 env1 σ1/\kP t fb (ds.drop i) env1 S1=qq (fl,S'),
  ⟨ds.length,yEm _,F0,L0,S1,env,Gr.refl,R0,E.mono g0,by rw[yCk];exact e2⟩,?_⟩
 rintro i m σ1 H1 ⟨him,F1,L1,S1',env1,g1,R1,E1,e3⟩;cases m with
 | zero =>
   have hi:i=ds.length:=by omega
   subst hi;rw[yDq] at e3;cases e3;exact .inl ⟨wk.stop H1 (g1.f.trans R1.sub),q F1 L1 H1 (g0.trans g1) R1 σ1 E1⟩
 | succ m =>
   have hi:i<ds.length:=by omega
   refine .inr ⟨wk.go i H1 (g1.f.trans R1.sub) hi,λ σ3 H3=>∃ F3 L3 S3 env3,Gr F0 L0 F3 L3/\Rel X.K F3 L3 S3 H3/\EnvR X.K F3 L3 env3 σ3/\kP t fb (ds.drop (i+1)) env3 S3=qq (fl,S'),
    λ σ3 H3 h3=>⟨m,yCu m,by omega,h3⟩,λ x H2 y=>?_⟩
   rw[yBy hi] at e3;obtain⟨env2,e4,e5⟩:=bind_some e3;obtain⟨⟨f6,S6⟩,e6,e7⟩:=bind_some e5;obtain⟨F2,s2,R2,d2⟩:=wk.yld i H1 F1 L1 S1' x H2 ds[i] g1 R1 (yAa hi) y;have g2:Gr F1 L1 F2 L1:=⟨s2,[],by simp⟩
   refine ga ds[i] x σ1 H2 F2 L1 S1' env1 env2 _ R2 (E1.mono g2) d2 e4 λ σ2 E2=>?_
   refine gB R2 E2 e6 λ F3 L3 H3 g3 R3=>?_
   have g03:=(g1.trans g2).trans g3;cases f6 with
   | nx e'=>exact λ σ3 E3=>⟨F3,L3,S6,e',g03,R3,E3,e7⟩
   | ct e'=>exact λ σ3 E3=>⟨F3,L3,S6,e',g03,R3,E3,e7⟩
   | bk e'=>cases e7;exact λ σ3 E3=>q F3 L3 H3 (g0.trans g03) R3 σ3 E3
   | rt w=>cases e7;exact λ v d=>q F3 L3 H3 (g0.trans g03) R3 v d
noncomputable def iU(k:Nat)(S:aB):W->Option (W×aB)
 | .d x=>qq (.d x,S.take k)
 | .loc m=>if m<k then qq (.loc m,S.take k) else match S[m]? with
   | some (qq ds)=>qq (.d (.list ds),S.take k)
   | _=>qz
 | .exc c r=>qq (.exc c r,S.take k)
noncomputable def cB(fb:FS)(n:Nat)(ws:List W)(S:aB):Option (W×aB):=(fb (ws.map qq++yAd (n-ws.length) qz) S).bind λ p=>match p.1 with
 | .rt w=>iU S.length p.2 w
 | .nx _=>qq (.d .none,p.2.take S.length)
 | _=>qz
theorem aAX{K:FrG}{F:Hp}{L:List qv}{N:List Str}:∀ {ws:List W}{vs:List V},WDenL K F L ws vs->EnvR K F L (ws.map qq++yAd (N.length-ws.length) qz) (L2.start N vs):=by
 intro ws vs h;unfold L2.start;rw[h.length];generalize N.length-vs.length=k;refine⟨by simp[h.length],?_⟩
 induction h with
 | nil =>
   intro i w e;have:=xAi e;simp at this
 | cons hd tl ih =>
   intro i w e;cases i with
   | zero=>simp at e;subst e;exact⟨_,rfl,hd⟩
   | succ i =>
     obtain⟨v,e1,d⟩:=ih i w (by simpa using e)
     exact⟨v,by simpa using e1,d⟩
theorem sG{K:FrG}{F F1 H1:Hp}{L L1:List qv}{S S1:aB}{w w':W}{S':aB}{v:V}{Q:VK}(R:L.length=S.length)(g:Gr F L F1 L1)(R1:Rel K F1 L1 S1 H1)(d:dM K F1 L1 w v)(e:iU S.length S1 w=qq (w',S'))(q:nK K F L S' w' Q):Q v H1:=by
 obtain⟨sf,M,rfl⟩:=g;cases w with
 | d x =>
   cases e;have R2:=R1.cut;rw[R] at R2;exact q F1 L H1 v ⟨sf,[],by simp⟩ R2 d
 | exc c r =>
   cases e;have R2:=R1.cut;rw[R] at R2;exact q F1 L H1 v ⟨sf,[],by simp⟩ R2 d
 | loc m =>
   have e':(if m<S.length then qq (W.loc m,S1.take S.length) else match S1[m]? with | some (qq ds)=>qq (W.d (.list ds),S1.take S.length) | _=>qz)=qq (w',S'):=e
   split at e'
   ·rename_i hm;cases e';have R2:=R1.cut;rw[R] at R2;obtain⟨a,ea,rfl⟩:=d;rw[xAj (by rw[R];exact hm)] at ea
    exact q F1 L H1 _ ⟨sf,[],by simp⟩ R2 ⟨a,ea,rfl⟩
   ·rename_i hm
    split at e'
    ·rename_i ds es;cases e';obtain⟨a,ea,rfl⟩:=d;obtain⟨F2,g2,R2,d2⟩:=R1.freeze ea es;have R3:=R2.cut;rw[R,List.take_set,List.set_eq_of_length_le (by rw[yBe];omega)] at R3
     exact q F2 L H1 _ ⟨sf.trans g2.f,[],by simp⟩ R3 d2
    ·cases e'
theorem aC2{K:FrG}{fb:FS}{N:List Str}{np:Nat}{vs:List V}{H:Hp}{Q:VK}{E:XK}(h:gX K np (cB fb N.length) vs H Q E):cA K fb {nx:=λ _ H'=>Q .non H',rt:=Q } (L2.start N vs) H:=by
 obtain⟨F,L,S,ws,w,S',hn,R,dl,e,q⟩:=h;obtain⟨⟨fl,S1⟩,e1,e2⟩:=bind_some e;refine gB R (aAX dl) e1 λ F1 L1 H1 g1 R1=>?_
 cases fl with
 | nx aV =>
   cases e2;exact λ σ' E'=>sG (w:=.d .none) R.len g1 R1 Den.non rfl q
 | rt w'=>exact λ v d=>sG R.len g1 R1 d e2 q
 | bk aV=>cases e2
 | ct aV=>cases e2
end
theorem aAM{α β:Type}{f:α->β->Sem (ForInStep β)}{g:α->β->β}:∀ (l:List α) (c:β),(∀ x∈l,∀ c,f x c=pure (ForInStep.yield (g x c)))->forIn l c f=pure (l.foldl (λ c x=>g x c) c)
 | [],c,_=>rfl
 | x::l,c,h=>by
   rw[List.forIn_cons,h x xAd c,pure_bind];exact aAM l (g x c) λ y hy=>h y (xAf _ hy)
noncomputable def gR(env:Env)(x:Str×jy)(cs:List (Str×qv)):List (Str×qv):=if (x.2==NameKind.free)=true then (x.1,(env.cells.lookup x.1).getD 0)::cs else cs
noncomputable def qK(scope:zv)(env:Env):List (Str×qv):=scope.names.foldl (λ c x=>gR env x c) []
theorem aFu{scope:zv}{env:Env}(h:∀ x∈scope.names,x.2=.free->∃ c,env.cells.lookup x.1=qq c):closureFor scope env=pure (qK scope env):=by
 unfold closureFor qK;dsimp only;rw[aAM (g:=gR env) scope.names [] (λ x hx c=>?_)]
 ·rfl
 ·obtain⟨n,k⟩:=x;unfold gR;dsimp only
  by_cases hk:k=.free
  ·obtain⟨a,ha⟩:=h (n,k) hx hk;rw[if_pos (by simp[hk]),if_pos (by simp[hk])]
   have:cellOf env n=pure a:=by unfold cellOf;rw[ha]
   rw[this,pure_bind,ha];rfl
  ·rw[if_neg (by simp[hk]),if_neg (by simp[hk])]
theorem aBD{env:Env}:∀ (l:List (Str×jy)) (aW:List (Str×qv)),(∀ x∈l,x.2=.free->∃ c,env.cells.lookup x.1=qq c)->(∀ x c,aW.lookup x=qq c->env.cells.lookup x=qq c) ->
 ∀ x c,(l.foldl (λ c x=>gR env x c) aW).lookup x=qq c->env.cells.lookup x=qq c
 | [],aW,_,ha,x,c,e=>ha x c e
 | y::l,aW,h,ha,x,c,e=>by
   refine aBD l (gR env y aW) (λ z hz=>h z (xAf _ hz)) (λ z d ez=>?_) x c e
   unfold gR at ez
   split at ez
   ·rename_i hk;obtain⟨a,hy⟩:=h y xAd (by simpa using hk)
    rw[yAz] at ez
    split at ez
    ·rename_i hz;cases ez;have:z=y.1:=by simpa using hz
     rw[this,hy];rfl
    ·exact ha z d ez
   ·exact ha z d ez
theorem xW{env:Env}:∀ (l:List (Str×jy)) (aW:List (Str×qv)) (x:Str),((∃ k,(x,k)∈l/\k=.free)\/∃ c,aW.lookup x=qq c)->∃ c,(l.foldl (λ c x=>gR env x c) aW).lookup x=qq c
 | [],aW,x,h=>by
   rcases h with ⟨k,hk,_⟩ | h
   ·simp at hk
   ·exact h
 | y::l,aW,x,h=>by
   refine xW l (gR env y aW) x ?_;have step:(∃ c,aW.lookup x=qq c)->∃ c,(gR env y aW).lookup x=qq c:=λ aO=>by
    obtain⟨c,e⟩:=aO;unfold gR
    split
    ·rw[yAz]
     split
     ·exact⟨_,rfl⟩
     ·exact⟨c,e⟩
    ·exact⟨c,e⟩
   rcases h with ⟨k,hk,e⟩ | h
   ·rcases List.mem_cons.mp hk with z | z
    ·right
     subst z e;unfold gR;rw[if_pos (by simp)]
     exact⟨(env.cells.lookup x).getD 0,by rw[yAz];simp⟩
    ·exact .inl ⟨k,z,e⟩
   ·exact .inr (step h)
theorem aAU{x:Str}(h:Str->jy->jy):∀ l:List (Str×jy),(l.map λ p=>(p.1,h p.1 p.2)).lookup x=(l.lookup x).map (h x)
 | []=>rfl
 | (n,k)::r=>by
   have ih:=aAU (x:=x) h r;rw[yAm,yAz,yAz];cases hx:x==n with
   | true =>
     have e:x=n:=by simpa using hx
     subst e;rfl
   | false=>exact ih
theorem aEG{env:Env}{x:Str}(names:List (Str×jy)) :
 (names.map λ(n,k)=>if (k==NameKind.free&&env.scope.kind==.function&&env.kindOf n==qq .cell) then (n,NameKind.cell) else (n,k)).lookup x =
   (names.lookup x).map λ k=>if (k==NameKind.free&&env.scope.kind==.function&&env.kindOf x==qq .cell) then NameKind.cell else k:=by
 have e:(λ(p:Str×jy)=>match p with | (n,k)=>if (k==NameKind.free&&env.scope.kind==.function&&env.kindOf n==qq .cell)=true then (n,NameKind.cell) else (n,k)) =
  λ p=>(p.1,if (p.2==NameKind.free&&env.scope.kind==.function&&env.kindOf p.1==qq .cell)=true then NameKind.cell else p.2):=funext λ aO=>by
  obtain⟨n,k⟩:=aO;dsimp only
  split<;>rfl
 rw[e];exact aAU (λ n k=>if (k==NameKind.free&&env.scope.kind==.function&&env.kindOf n==qq .cell)=true then NameKind.cell else k) names
section
variable {prog : qo}{w : zq}{A : zx}{R : Result -> qj -> Prop}{s : qj}
theorem aEX{elt target iter:qw}{ifs:List qw}{scope:zv}{pos:Pos}{it aW:qx}{env:Env}(I:Nat->qj->Prop)
 (turn:∀ n s,I n s->qu (model prog w) A (pyNext it) (λ r s₁=>match r with
   | none=>R (.ok .next) s₁
   | some v=>qu (model prog w) A (vy target it v) (λ _ s₀=>qu (model prog w) A (assign target env v) (λ _ s₂ =>
      qu (model prog w) A (forIn ifs true λ c r=>if r=true then do let ok <- isTrue c env (eval c env);pure (ForInStep.yield ok) else pure (ForInStep.yield r)) (λ ok s₃ =>
       if ok=true then qu (model prog w) A (eval elt env) (λ x s₄ =>
        qu (model prog w) A (call (.builtin "list.append") [aW,x]) (λ _ s₅=>∃ m,m<n/\I m s₅) (λ _ _=>False) s₄) (λ _ _=>False) s₃
       else ∃ m,m<n/\I m s₃) (λ _ _=>False) s₂) (λ _ _=>False) s₀) (λ _ _=>False) s₁) (λ _ _=>False) s)
 (n:Nat) (h:I n s):vx (model prog w) A (.compLoop (.ListComp elt [⟨target,iter,ifs,0⟩] scope pos) 0 it aW env) R s:=by
 have up:∀ {α:Type}{t:Sem α}{Q Q':α->qj->Prop}{E:qx->qj->Prop}{s:qj},qu (model prog w) A t Q (λ _ _=>False) s->(∀ a s,Q a s->Q' a s)->qu (model prog w) A t Q' E s:=
  λ h hq=>wpAny_mono h hq λ _ _ f=>f.elim
 refine codeAny_loop rfl I (λ n s hI=>?_) n h
 show qu _ A ((compTurn (.ListComp elt [⟨target,iter,ifs,0⟩] scope pos) 0 it aW env).onRaise (λ x=>do noteFrame x env;theTreesLotGoes x)) _ _ s
 refine wpAny_noted ?_;rw[compTurn_list];refine wB (ju (wB (up (turn n s hI) λ r s₁ h₁=>?_)))
 cases r with
 | none=>exact wP h₁
 | some v =>
   refine wB (up h₁ λ _ s₀ h₀=>?_)
   refine wB (up h₀ λ _ s₂ h₂=>wB (up h₂ λ ok s₃ h₃=>?_))
   cases ok with
   | false=>exact wP ⟨rfl,h₃⟩
   | true =>
     exact wB (wB (up h₃ λ x s₄ h₄=>wB (up h₄ λ _ s₅ h₅=>wP (wP ⟨rfl,h₅⟩))))
end
noncomputable def gP(X:Cx)(aA:List (qv×Obj))(fp:List qv)(scope:zv)(C:qv)(s₀:qj)(H₀:Hp):Cx:=
 {X with s₀:=s₀,H₀:=H₀,env:=compEnvC scope (qK scope X.env) C X.env,outer:=X.stack,stack:=X.stack,ex:=fp,fn:=λ _=>false,pn:=X.pn++aA,xe:=λ _ _=>False }
def gS(X:Cx)(scope:zv)(Y:Cx):Prop:=∃ aA fp C s₀ H₀,Y=gP X aA fp scope C s₀ H₀
structure ScOk(scope osc:zv):Prop where
 kind:scope.kind=.function
 nocell:∀ x∈scope.names,x.2≠.cell
 free:∀ x∈scope.names,x.2=.free->osc.names.lookup x.1=qq .cell\/osc.names.lookup x.1=qq .free
 loc:∀ x∈scope.names,x.2=.local->scope.names.lookup x.1=qq .local
theorem mem_of_lookup{α:Type}{x:Str}{k:α}:∀ {l:List (Str×α)},l.lookup x=qq k->(x,k)∈l
 | [],h=>by simp at h
 | (n,j)::r,h=>by
   rw[yAz] at h
   split at h
   ·rename_i hx;cases h;have:x=n:=by simpa using hx
    subst this;exact xAd
   ·exact xAf _ (mem_of_lookup h)
section
variable {X : Cx}{aA : List (qv×Obj)}{σ : L2.St}{H : Hp}{s : qj}{scope : zv}{fp : List qv}
theorem aA6{C:qv}{s₀:qj}{H₀:Hp}{x:Str}:(gP X aA fp scope C s₀ H₀).env.kindOf x=(scope.names.lookup x).map λ k=>if (k==NameKind.free&&X.env.scope.kind==.function&&X.env.kindOf x==qq .cell) then NameKind.cell else k:=
 aEG scope.names
theorem aBi(ok:ScOk scope X.env.scope){C:qv}{s₀:qj}{H₀:Hp}{x:Str}(h:(gP X aA fp scope C s₀ H₀).env.kindOf x=qq .cell\/(gP X aA fp scope C s₀ H₀).env.kindOf x=qq .free):scope.names.lookup x=qq .free:=by
 rw[aA6] at h;cases e:scope.names.lookup x with
 | none=>rw[e] at h;simp at h
 | some k =>
   rw[e] at h;have nc:=ok.nocell (x,k) (mem_of_lookup e);cases k with
   | free=>rfl
   | cell=>exact absurd rfl nc
   | «local» => simp at h
   | globalExplicit=>simp at h
   | globalImplicit=>simp at h
theorem aCh(I:Inv X aA σ H s)(hfp:∀ b∈fp,fQ X aA H b):∀ b∈fp,b ∉ cQ X.stack:=λ b hb z=>by
 rcases List.mem_cons.mp (I.stkSub b z) with q | q
 ·exact(hfp b hb).2.1 q
 ·exact(hfp b hb).2.2.1 q
theorem aBf(I:Inv X aA σ H s)(ok:ScOk scope X.env.scope):∀ x∈scope.names,x.2=.free->∃ c,X.env.cells.lookup x.1=qq c:=λ x hx e=>by
 rcases ok.free x hx e with q | q
 ·exact I.ok.has x.1 (.inl q)
 ·exact I.ok.has x.1 (.inr q)
theorem lF(I:Inv X aA σ H s)(ok:ScOk scope X.env.scope){x:Str}{c:qv}(h:(qK scope X.env).lookup x=qq c):X.env.cells.lookup x=qq c:=
 aBD scope.names [] (aBf I ok) (λ x c e=>by simp at e) x c h
theorem aHN(I:Inv X aA σ H s)(ok:ScOk scope X.env.scope)(hfp:∀ b∈fp,fQ X aA H b)(hth:∀ b∈fp,b<s.heap.objs.size){C:qv}(hC:s.heap.objs.size<=C):(gP X aA fp scope C s H).Ok where
 mod:=I.ok.mod
 kind:=ok.kind
 glob:=I.ok.glob
 blt:=I.ok.blt
 above:=hC
 inj:=λ x y c h1 h2=>I.ok.inj x y c (lF I ok h1) (lF I ok h2)
 has:=λ x h=>xW scope.names [] x (.inl ⟨.free,mem_of_lookup (aBi ok h),rfl⟩)
 cab:=λ x c h _=>nomatch h
 hd:=I.ok.hd
 frames:=I.ok.frames
 stk:=.inl rfl
 exf:=λ b hb=>⟨λ z=>absurd (xAc (hth b hb) hC) (by have z':b=C:=z;rw[z'];exact yBb _),λ x c h=>(hfp b hb).2.2.2.2.1 x c (lF I ok h)⟩
 bs:=I.bs
 bsz:=xAg I.ok.bsz I.sz
 noex:=λ b o e hb=>by
  rcases (hfp b hb).2.2.2.1 with z | z
  ·exact I.ok.noex b o e z
  ·exact absurd (xAc (xAa e) (xAg I.ok.bsz z)) (yBb _)
 exfs:=λ b hb=>aCh I hfp b hb
 funs:=I.stack
 frf:=I.stkFree
end
noncomputable def clr{α:Type}(is:List Nat)(l:List (Option α)):List (Option α):=is.foldl (λ e i=>e.set i qz) l
theorem rQ{α:Type}:∀ (is:List Nat) (l:List (Option α)),(clr is l).length=l.length
 | [],_=>rfl
 | i::is,l=>by
   show(clr is (l.set i qz)).length=_;rw[rQ is,yAo]
theorem sC{α:Type}:∀ (is:List Nat) (l:List (Option α)) (j:Nat) (v:α),(clr is l)[j]? = qq (qq v)->l[j]? = qq (qq v)/\j ∉ is
 | [],_,_,_,h=>⟨h,by simp⟩
 | i::is,l,j,v,h=>by
   obtain⟨h1,h2⟩:=sC is (l.set i qz) j v h
   by_cases hj:i=j
   ·subst hj;rcases yDm i l.length with q | q
    ·rw[yAl q] at h1;cases h1
    ·rw[yCl (by rw[yAo];exact q)] at h1;cases h1
   ·rw[yAj hj] at h1;exact⟨h1,λ z=>(List.mem_cons.mp z).elim (λ e=>hj e.symm) h2⟩
theorem aBr{α:Type}:∀ (is:List Nat) (l:List (Option α)) (j:Nat),j ∉ is->(clr is l)[j]? = l[j]?
 | [],_,_,_=>rfl
 | i::is,l,j,h=>by
   show(clr is (l.set i qz))[j]? = _;rw[aBr is _ j (λ z=>h (xAf _ z)),yAj (λ z=>h (by rw[z];exact xAd))]
noncomputable def Tg.slots:Tg->List Nat
 | .one i=>[i]
 | .many is=>is
theorem EnvR.clr{K:FrG}{F:Hp}{L:List qv}{env:aQ}{σ:St}(h:EnvR K F L env σ)(is:List Nat):EnvR K F L (EV.clr is env) (EV.clr is σ):=
 ⟨by rw[rQ,rQ];exact h.len,λ j w e=>by
  obtain⟨e1,hj⟩:=sC is env j w e;obtain⟨v,e2,d⟩:=h.get j w e1;exact⟨v,by rw[aBr is σ j hj];exact e2,d⟩⟩
theorem vQ:∀ {is:List Nat}{ds:List D}{env aV:aQ}{j:Nat},kI is ds env=qq aV->j ∉ is->aV[j]? = env[j]?
 | [],[],_,_,_,e,_=>by cases e;rfl
 | i::is,d::ds,env,aV,j,e,h=>by
   rw[vQ (is:=is) (ds:=ds) e (λ z=>h (xAf _ z)),yAj (λ z=>h (by rw[z];exact xAd))]
 | [],_::_,_,_,_,e,_=>by cases e
 | _::_,[],_,_,_,e,_=>by cases e
theorem Tg.put_keep{t:Tg}{d:D}{env aV:aQ}{j:Nat}(e:t.put d env=qq aV)(h:j ∉ t.slots):aV[j]? = env[j]?:=by
 cases t with
 | one i=>cases e;exact yAj (λ z=>h (by rw[z];exact xAd))
 | many is =>
   cases d with
   | tuple ds=>exact vQ e h
   | list ds=>exact vQ e h
   | _=>cases e
theorem vI:∀ {is:List Nat}{ds:List D}{env aV:aQ},kI is ds env=qq aV->aV.length=env.length
 | [],[],_,_,e=>by cases e;rfl
 | i::is,d::ds,env,aV,e=>by rw[vI (is:=is) (ds:=ds) e,yAo]
 | [],_::_,_,_,e=>by cases e
 | _::_,[],_,_,e=>by cases e
theorem Tg.put_length{t:Tg}{d:D}{env aV:aQ}(e:t.put d env=qq aV):aV.length=env.length:=by
 cases t with
 | one i=>cases e;exact yAo
 | many is =>
   cases d with
   | tuple ds=>exact vI e
   | list ds=>exact vI e
   | _=>cases e
theorem EnvR.back{K:FrG}{F:Hp}{L:List qv}{env aV:aQ}{σ:St}{t:Tg}{d:D}(e:t.put d (EV.clr t.slots env)=qq aV)(h:EnvR K F L aV σ):EnvR K F L (EV.clr t.slots env) σ:=
 ⟨by rw[<- h.len,Tg.put_length e],λ j w q=>by
  obtain⟨_,hj⟩:=sC t.slots env j w q;exact h.get j w (by rw[Tg.put_keep e hj];exact q)⟩
noncomputable def gT(t:Tg)(fc:FT)(fe:FE)(n:Nat)(env:aQ):List D->aB->Option aB
 | [],S=>qq S
 | d::ds,S=>(t.put d env).bind λ e1=>(fc e1 S).bind λ c=>if c.1=true then (fe e1 c.2).bind λ p=>(fS p.2 (.loc n) p.1).bind λ r=>gT t fc fe n env ds r.2 else gT t fc fe n env ds c.2
noncomputable def dW(t:Tg)(fi:FL)(fc:FT)(fe:FE):FL:=λ env S=>(fi env S).bind λ p=>(gT t fc fe p.2.length (clr t.slots env) p.1 (p.2++[qq []])).bind λ S'=>match S'[p.2.length]? with
 | some (qq zs)=>qq (zs,S'.take p.2.length)
 | _=>qz
def jM(Y:Cx)(ifs:List qw)(fc:FT):Prop:=∀ (aA:List (qv×Obj)) (s:qj) (σ:St) (H:Hp) (Q:Bool->Hp->Prop),Inv Y aA σ H s->dP Y.K fc σ H Q ->
 qu (model Y.prog Y.w) Y.A (forIn ifs true λ c r=>if r=true then do let ok <- isTrue c Y.env (eval c Y.env);pure (ForInStep.yield ok) else pure (ForInStep.yield r)) (TP Y aA σ Q) Y.xe s
noncomputable def jC:FT:=λ _ S=>qq (true,S)
theorem wG{Y:Cx}:jM Y [] jC:=λ aA s σ H Q I aO=>by
 obtain⟨F,L,S,env,b,S',R,E,e,q⟩:=aO;cases e;exact wpAny_tests_nil ⟨H,I,q F L H Gr.refl R⟩
theorem aBk{Y:Cx}{c:qw}{fc:FT}(h:PT Y c (dP Y.K fc)):jM Y [c] fc:=λ aA s σ H Q I q=>wpAny_tests_one (h aA s σ H Q I q)
def zC(N:List Str)(scope:zv)(is:List Nat):Prop:=∀ (i:Nat) (x:Str),N[i]? = qq x->scope.names.lookup x=qq .local->i∈is
section
variable {X : Cx}{scope : zv}{tg iter elt : qw}{ifs : List qw}{pos : Pos}{t : Tg}{g : TG}{fi : FL}{fc : FT}{fe : FE}
theorem aBm(use:Option (qx->Sem Unit))(hc:X.calm=true)(ok:ScOk scope X.env.scope)(own:zC X.N scope t.slots)(hi:PI X tg iter (jF X.K fi))(hg:∀ Y,gS X scope Y->PG Y tg g)(ga:GA X.K t g)
 (ht:∀ Y,gS X scope Y->jM Y ifs fc) (he:∀ Y,gS X scope Y->PE Y elt (aK X.K fe)) (hs:∀ x,xy iter X.env x=pure x)
 {aA:List (qv×Obj)}{s:qj}{σ:St}{H:Hp}{Q:VK}{QQ:qx->qj->Prop}{pp:Pos} (I:Inv X aA σ H s) (h:eX X.K (dW t fi fc fe) σ H Q)
 (hend:∀ (p C:qv) (s1:qj) (H':Hp),fQ X aA H' C->(∃ m,s1.heap.Ns C m)->(∀ h',yEj C s1.heap h'->Inv X aA σ H' {s1 with heap:=h' })->Q (.ref p) H' ->
   compPost (model X.prog X.w) X.A X.xe use QQ (.ref p) C (.ok .next) s1) :
 qu (model X.prog X.w) X.A (comprehension (.ListComp elt [⟨tg,iter,ifs,0⟩] scope pos) scope X.env pp (newList []) false (eval iter X.env) use) QQ X.xe s:=by
 obtain⟨F,L,S,env,zs,S',R,E,e,q⟩:=h;obtain⟨⟨ds,S1⟩,e1,e⟩:=bind_some e;obtain⟨S2,e2,e⟩:=bind_some e;dsimp only at e e2;have hz:S2[S1.length]? = qq (qq zs)/\S'=S2.take S1.length:=by
  split at e
  ·rename_i z ez;cases e;exact⟨ez,rfl⟩
  ·cases e
 obtain⟨hz,rfl⟩:=hz;refine wpAny_comprehension_free (use:=use) rfl hs (aFu (aBf I ok)) ok.kind ok.loc ?_;refine aY (hi aA s σ H (λ J H'=>∃ F' L',Gr F L F' L'/\Rel X.K F' L' S1 H'/\Wk X.K F' L' J ds) I ⟨F,L,S,env,ds,S1,R,E,e1,λ F' L' H' J g R' wk=>⟨F',L',g,R',wk⟩⟩) λ v s1 h1=>aY h1 λ itv s2 h2=>?_
 obtain⟨it,fp,tn,J,H2,rfl,I2,T,st2,f2,F1,L1,g1,R1,wk⟩:=h2;refine xu (wpAny_newFunctionEnv ok.nocell (by intro y hy;simp at hy) (λ h₁ hns₁ hsb₁=>?_) ok.kind)
 dsimp only at hns₁ hsb₁ ⊢;have I3:Inv X aA σ (aT H2 s2.heap.objs.size (.lst [])) {s2 with heap:=s2.heap.push {cls:=.type "list",dict:=qz,data:=.seq ([]:List qx).toArray } }:=I2.lnew (aC:=[]) (t':=s2.toks) .nil (yEd _)
 generalize hs3:({s2 with heap:=s2.heap.push {cls:=.type "list",dict:=qz,data:=.seq ([]:List qx).toArray } }:qj)=s3 at I3
 have hh3:s2.heap.push {cls:=.type "list",dict:=qz,data:=.seq ([]:List qx).toArray }=s3.heap:=by rw[<- hs3]
 generalize hD:s2.heap.objs.size=Dd at I3;generalize hH3:aT H2 Dd (.lst [])=H3 at I3;have hfr2:H2 Dd=qz:=by rw[<- hD];exact I2.fresh
 rw[hh3] at hns₁ hsb₁;rw[hh3];have eY:({heap:=h₁,gens:=s2.gens,drawn:=s2.drawn,toks:=s2.toks+([]:List (Str×qx)).length,os:=s2.os }:qj)={s3 with heap:=h₁,toks:=s3.toks+([]:List (Str×qx)).length }:=by rw[<- hs3]
 rw[eY];clear eY;generalize hC:s3.heap.objs.size=C at hns₁ hsb₁;have old:∀ b u,s3.heap.get? b=qq u->h₁.get? b=qq u:=λ b u q=>by
  have hb:b≠C:=by rw[<- hC];exact xAh (xAa q)
  exact hsb₁.extBut b u hb (hpS _ q)
 have lt2:∀ b∈fp,b<s2.heap.objs.size:=λ b hb=>by
  obtain⟨o,eo,_⟩:=T.obj 0 _ st2 b hb;exact xAa eo
 have up23:∀ b u,s2.heap.get? b=qq u->s3.heap.get? b=qq u:=λ b u q=>by rw[<- hh3];exact hpS _ q
 have lt3:∀ b∈fp,b<s3.heap.objs.size:=λ b hb=>by
  obtain⟨o,eo,_⟩:=T.obj 0 _ st2 b hb;exact xAa (up23 b o eo)
 have f3:∀ b∈fp,fQ X aA H3 b:=λ b hb=>by
  refine⟨?_,(f2 b hb).2⟩;have ne:b≠Dd:=by rw[<- hD];exact xAh (lt2 b hb)
  rw[<- hH3,aX ne];exact(f2 b hb).1
 have okY:(gP X aA fp scope C s3 H3).Ok:=aHN I3 ok f3 lt3 (by rw[hC];exact yAc _)
 have hIC:gS X scope (gP X aA fp scope C s3 H3):=⟨aA,fp,C,s3,H3,rfl⟩;generalize hY:gP X aA fp scope C s3 H3=Y at okY hIC;have yE:Y.env=compEnvC scope (qK scope X.env) C X.env:=by rw[<- hY];rfl
 have I4:Inv Y [] (clr t.slots σ) H3 {s3 with heap:=h₁,toks:=s3.toks+([]:List (Str×qx)).length }:=by
  rw[<- hY] at okY ⊢;refine⟨okY,rfl,I3.bare,Un.kept old,⟨_,hns₁,λ i x v a1 a2 a3=>?_⟩,λ x c a=>?_,?_,λ x c a=>I3.freeC x c (lF I3 ok a),λ p hp=>?_,I3.hok.kept old,by rw[rQ];exact I3.len⟩
  ·obtain⟨a4,a5⟩:=sC t.slots σ i v a2;have nl:scope.names.lookup x≠qq .local:=λ z=>a5 (own i x a1 z)
   have gL:(gP X aA fp scope C s3 H3).env.kindOf x=qq .cell\/(gP X aA fp scope C s3 H3).env.kindOf x=qq .free:=by
    rcases a3 with z | z | z
    ·exfalso;have z':(gP X aA fp scope C s3 H3).env.kindOf x=qq .local:=z;rw[aA6] at z';cases ek:scope.names.lookup x with
     | none=>rw[ek] at z';cases z'
     | some k =>
       rw[ek] at z';cases k with
       | «local» => exact nl ek
       | free =>
         simp only[Option.map_some,Option.some.injEq] at z'
         split at z'<;>cases z'
       | cell=>exact ok.nocell (x,.cell) (mem_of_lookup ek) rfl
       | globalExplicit=>simp at z'
       | globalImplicit=>simp at z'
    ·exact .inl z
    ·exact .inr z
   have fr:=aBi ok gL;have ov:=ok.free (x,.free) (mem_of_lookup fr) rfl;obtain⟨m,hm,hl⟩:=I3.loc;obtain⟨u,ru,lk⟩:=hl i x v a1 a4 (ov.elim (λ z=>.inr (.inl z)) λ z=>.inr (.inr z))
   refine⟨u,ru,.inr ⟨gL,?_⟩⟩;obtain⟨c,hcl⟩:=xW (env:=X.env) scope.names [] x (.inl ⟨.free,mem_of_lookup fr,rfl⟩);have hc2:=lF I3 ok hcl;rcases lk with ⟨z,_⟩ | ⟨_,c',e',o',ho',hd'⟩
   ·exfalso;have z':X.env.scope.names.lookup x=qq .local:=z;rcases ov with w | w
    ·rw[w] at z';cases z'
    ·rw[w] at z';cases z'
   ·rw[hc2] at e';cases e';exact⟨c,hcl,o',old _ _ ho',hd'⟩
  ·obtain⟨v,o,ho,hd⟩:=I3.cell x c (lF I3 ok a);exact⟨v,o,old _ _ ho,hd⟩
  ·show H3 C=qz;rw[<- hC];exact I3.fresh
  ·have hp':p∈X.pn++aA:=by
    have:p∈(X.pn++aA)++[]:=hp;rwa [yAv] at this
   obtain⟨b1,b2,b3,b4,b5⟩:=I3.pin p hp';refine⟨old _ _ b1,b2,?_,λ z=>?_,b5⟩
   ·show p.1≠C;rw[<- hC];exact xAh (xAa b1)
   ·rcases List.mem_cons.mp (I3.stkSub p.1 z) with w | w
    ·exact b3 w
    ·exact b4 w
 have fpY:∀ {H':Hp},(∀ b∈fp,H' b=qz)->∀ b∈fp,fQ Y [] H' b:=λ hn b hb=>by
  rw[<- hY];refine⟨hn b hb,?_,aCh I3 f3 b hb,.inl hb,λ x c a=>(f3 b hb).2.2.2.2.1 x c (lF I3 ok a),λ p hp=>?_⟩
  ·show b≠C;rw[<- hC];exact xAh (lt3 b hb)
  ·have hp':p∈X.pn++aA:=by
    have:p∈(X.pn++aA)++[]:=hp;rwa [yAv] at this
   exact(f3 b hb).2.2.2.2.2 p hp'
 have yA:Y.A=X.A:=by rw[<- hY];rfl
 have yP:Y.prog=X.prog:=by rw[<- hY];rfl
 have yW:Y.w=X.w:=by rw[<- hY];rfl
 have yK:Y.K=X.K:=by rw[<- hY];rfl
 have yC:Y.calm=true:=by rw[<- hY];exact hc
 have yX:Y.xe=λ _ _=>False:=by rw[<- hY];rfl
 have R3:Rel X.K F1 (L1++[Dd]) (S1++[qq []]) H3:=by rw[<- hH3];exact R1.newLoc hfr2 .nil
 obtain⟨PP,hPP⟩:∃ PP:Result->qj->Prop,PP=compPost (model X.prog X.w) X.A X.xe use QQ (.ref Dd) C:=⟨_,rfl⟩;have bB:∀ (s1:qj) (σ':L2.St) (H' F':Hp) (L':List qv),Inv Y [] σ' H' s1->Gr F1 (L1++[Dd]) F' L'->Rel X.K F' L' S2 H'->PP (.ok .next) s1:=by
  intro s1 σ' H' F' L' J' gg RR;rw[hPP];rw[<- hY] at J';obtain⟨m,hmC,_⟩:=J'.loc;have hCn:H' C=qz:=J'.free;have hfC:fQ X aA H' C:=I3.fpOk (by rw[hC];exact yAc _) hCn
  obtain⟨sf,M,rfl⟩:=gg;have bS:L1.length=S1.length:=R1.len;have eL:((L1++[Dd])++M)[S1.length]? = qq Dd:=by
   rw[yDi,yAe (by rw[bS];exact yAc _),bS,yEn];rfl
  obtain⟨hF,xs,hx,dl⟩:=RR.loc S1.length Dd zs eL hz;have RR2:Rel X.K F' (L1++([Dd]++M)) S2 H':=by rw[<- yDi];exact RR
  have Rc:=RR2.cut;rw[bS] at Rc;have hnd:Dd ∉ L1:=λ z=>by
   have nd:=RR2.nd;rw[yEc] at nd;exact nd.2.2 Dd z Dd (by simp) rfl
  refine hend Dd C s1 H' hfC ⟨m,hmC⟩ (λ h' sb=>?_) (q F' L1 H' Dd xs (g1.trans ⟨sf,[],by simp⟩) Rc hF hnd hx dl)
  have neC:∀ b u,s3.heap.get? b=qq u->b≠C:=λ b u z=>by rw[<- hC];exact xAh (xAa z)
  have kp:∀ b u,b≠C->s1.heap.get? b=qq u->h'.get? b=qq u:=λ b u z w=>sb.extBut b u z w
  have bU:Un (cQ X.stack) fp H3 H' s3.heap s1.heap:=J'.base;have u:Un (cQ X.stack) fp H3 H' s3.heap h':=
   ⟨λ b o z n hb hx=>kp b o (neC b o z) (bU.keep b o z n hb hx),λ b o z n hb hx=>by obtain⟨sl,w⟩:=bU.slot b o z n hb hx;exact⟨sl,kp b _ (neC b o z) w⟩,bU.free,
    λ b o z hx=>by obtain⟨o',w⟩:=bU.there b o z hx;exact⟨o',kp b _ (neC b o z) w⟩,bU.tups,bU.frzs,bU.tbls⟩
  have hokY:cE X.prog X.w H' s1.heap:=J'.hok;have hok':cE X.prog X.w H' h':=λ b o z=>(hokY b o z).stay (λ c v hc2 w=>kp c v (λ zz=>by
   rcases hc2 with w2 | w2
   ·rw[w2] at zz;rw[zz,hCn] at z;cases z
   ·rw[zz,hCn] at w2;cases w2) w) (λ _ w=>w) λ _ _ w=>w
  have os1:s1.os=s3.os:=J'.os;exact I3.call' (s':={s1 with heap:=h' }) os1 u hok' J'.bare λ b hb=>⟨(f3 b hb).2.2.2.1,(f3 b hb).2.1,(f3 b hb).2.2.2.2.1,(f3 b hb).2.2.2.2.2⟩
 have loop:∀ s5:qj,Inv Y [] (clr t.slots σ) H3 s5->tn 0 s5.heap ->
  vx (model X.prog X.w) X.A (.compLoop (.ListComp elt [⟨tg,iter,ifs,0⟩] scope pos) 0 (.ref it) (.ref Dd) Y.env) PP s5:=by
  intro s5 I5 st5;have E0:EnvR X.K F1 (L1++[Dd]) (clr t.slots env) (clr t.slots σ):=(E.mono (g1.trans Gr.newLoc)).clr t.slots;obtain⟨Iv,hIv⟩:∃ Iv:Nat->qj->Prop,∀ n s',Iv n s' ↔ (∃ i σ' H' F' L' S',Inv Y [] σ' H' s'/\tn i s'.heap/\(∀ b∈fp,H' b=qz)/\Gr F1 (L1++[Dd]) F' L'/\Rel X.K F' L' S' H'/\EnvR X.K F' L' (clr t.slots env) σ'/\i+n=ds.length /\
   gT t fc fe S1.length (clr t.slots env) (ds.drop i) S'=qq S2):=⟨_,λ _ _=>Iff.rfl⟩
  refine aEX Iv ?_ ds.length ((hIv _ _).mpr ⟨0,clr t.slots σ,H3,F1,L1++[Dd],S1++[qq []],I5,st5,λ b hb=>(f3 b hb).1,Gr.refl,R3,E0,yEm _,by rw[yCk];exact e2⟩)
  intro n s6 h6;obtain⟨i,σ6,H6,F6,L6,S6,I6,st6,fr6,g6,R6,E6,hin,ec⟩:=(hIv _ _).mp h6;clear h6;have g16:Gr F1 L1 F6 L6:=Gr.newLoc.trans g6;have toA:∀ {α:Type}{tt:Sem α}{QQ:α->qj->Prop}{EE:qx->qj->Prop}{ss:qj},qu (model X.prog X.w) Y.A tt QQ EE ss->qu (model X.prog X.w) X.A tt QQ EE ss:=λ hh=>by rw[yA] at hh;exact hh
  cases n with
  | zero =>
    have hi':i=ds.length:=by omega
    subst hi';rw[yDq] at ec;cases ec;refine aY (toA (T.done Y yP yW yK yC ds.length [] s6 σ6 H6 _ I6 (fpY fr6) st6 (wk.stop H6 (g16.f.trans R6.sub)))) λ r s7 hPq28=>?_
    obtain⟨hr,I7⟩:=hPq28;subst hr;exact bB s7 σ6 H6 F6 L6 I7 g6 R6
  | succ n =>
    have hi':i<ds.length:=by omega
    refine aY (toA (T.item Y yP yW yK yC i [] s6 σ6 H6 _ I6 (fpY fr6) st6 (wk.go i H6 (g16.f.trans R6.sub) hi'))) λ r s7 hPq29=>?_
    obtain⟨u,hr,h7⟩:=hPq29;subst hr;refine aY (toA h7) λ _ s8 hPq30=>?_
    obtain⟨x,H8,I8,r8,y8,st8,fr8⟩:=hPq30;obtain⟨F8,sf8,R8,d8⟩:=wk.yld i H6 F6 L6 S6 x H8 ds[i] g16 R6 (yAa hi') y8;have g8:Gr F6 L6 F8 L6:=⟨sf8,[],by simp⟩
    rw[yBy hi'] at ec;obtain⟨env9,ep,ec⟩:=bind_some ec;obtain⟨⟨cb,S9⟩,et,ec⟩:=bind_some ec;have I8':=I8.pinned (fpY fr8) (T.obj _ _ st8);have toF:∀ {α:Type}{tt:Sem α}{QQ:α->qj->Prop}{ss:qj},qu (model Y.prog Y.w) Y.A tt QQ Y.xe ss->qu (model X.prog X.w) X.A tt QQ (λ _ _=>False) ss:=λ hh=>by rw[yX,yP,yW,yA] at hh;exact hh
    refine toF (aY (hg Y hIC _ s8 σ6 H8 x u (λ σ' H'=>H'=H8/\EnvR X.K F8 L6 env9 σ') I8' r8 (ga ds[i] x σ6 H8 F8 L6 S6 (clr t.slots env) env9 _ R8 (E6.mono g8) d8 ep λ σ' E'=>⟨rfl,E'⟩)) λ _ s9 hPq31=>?_)
    obtain⟨σ9,H9,I9,hH9,E9⟩:=hPq31;subst hH9;refine toF (aY (ht Y hIC _ s9 σ9 H9 (λ b H'=>∃ F' L',Gr F8 L6 F' L'/\Rel X.K F' L' S9 H'/\b=cb) I9 (by rw[yK];exact⟨F8,L6,S6,env9,cb,S9,R8,E9,et,λ F' L' H' g' R'=>⟨F',L',g',R',rfl⟩⟩)) λ ok2 s10 hPq32=>?_)
    obtain⟨H10,I10,F10,L10,g10,R10,hb10⟩:=hPq32;subst hb10;dsimp only at ec;have again:∀ {σ7:L2.St}{H7 F7:Hp}{L7:List qv}{S7:aB}{s7':qj},Inv Y ([]++pH fp s8.heap) σ7 H7 s7'->Gr F8 L6 F7 L7->Rel X.K F7 L7 S7 H7->EnvR X.K F7 L7 env9 σ7->gT t fc fe S1.length (clr t.slots env) (ds.drop (i+1)) S7=qq S2 ->
     ∃ m,m<n+1/\Iv m s7':=by
     intro σ7 H7 F7 L7 S7 s7' I7 g7 R7 E7 ec7;refine⟨n,yCu n,(hIv _ _).mpr ⟨i+1,σ7,H7,F7,L7,S7,I7.unpinned,T.keep _ _ _ st8 λ b hb o eo=>(I7.pin (b,o) (xAl _ (xAl _ (oK hb eo)))).1,λ b hb=>?_,(g6.trans g8).trans g7,R7,EnvR.back ep E7,by omega,ec7⟩⟩
     obtain⟨o,eo,_⟩:=T.obj _ _ st8 b hb;exact(I7.pin (b,o) (xAl _ (xAl _ (oK hb eo)))).2.1
    cases ok2 with
    | false =>
      rw[if_neg (by simp)] at ec
      rw[if_neg (by simp)]
      exact again I10 g10 R10 (E9.mono g10) ec
    | true =>
      rw[if_pos rfl] at ec;rw[if_pos rfl];obtain⟨⟨wv,S11⟩,ee,ec⟩:=bind_some ec;obtain⟨⟨wn,S12⟩,ea,ec⟩:=bind_some ec;obtain⟨n',dv,zs',hn',hw',es',hlt,hwn,rfl⟩:=aBd ea;cases hn';subst hw';refine toF (aY (he Y hIC _ s10 σ9 H10 (λ v H'=>∃ F' L',Gr F10 L10 F' L'/\Rel X.K F' L' S11 H'/\Den X.K F' dv v) I10 ⟨F10,L10,S9,env9,_,S11,R10,E9.mono g10,ee,λ F' L' H' v g' R' d'=>⟨F',L',g',R',d'⟩⟩) λ xv s11 hPq33=>?_)
      obtain⟨v11,H11,I11,r11,F11,L11,g11,R11,d11⟩:=hPq33;have gA:Gr F1 (L1++[Dd]) F11 L11:=((g6.trans g8).trans g10).trans g11;have eL:L11[S1.length]? = qq Dd:=gA.get (by rw[yAe (by rw[R1.len];exact yAc _),R1.len,yEn];rfl)
      obtain⟨hF,xs,hx,dl⟩:=R11.loc S1.length Dd zs' eL es';refine toF (aY (wD (X:=Y) _ s11 σ9 H11 (.ref Dd) [v11] (.ref Dd) [xv] (λ _ H'=>Rel X.K F11 L11 (S11.set S1.length (qq (zs'++[dv]))) H') I11 rfl (.cons r11 .nil) ⟨Dd,xs,v11,rfl,rfl,hx,by rw[<- dl.length];exact hlt,R11.put eL hF (dl.append (.cons d11 .nil))⟩) λ _ s12 hPq34=>?_)
      obtain⟨_,H12,I12,_,R12⟩:=hPq34;exact again I12 (g10.trans g11) R12 (E9.mono (g10.trans g11)) ec
 rw[yE,hPP] at loop;have st4:tn 0 h₁:=T.keep 0 _ _ st2 λ b _ o eo=>old b o (up23 b o eo)
 exact codeAny_compStart_list (loop _ I4 st4) (T.self X.A 0 _ _ _ st4 (loop _ I4 st4))
theorem yH(hc:X.calm=true)(ok:ScOk scope X.env.scope)(own:zC X.N scope t.slots)(hi:PI X tg iter (jF X.K fi))(hg:∀ Y,gS X scope Y->PG Y tg g)(ga:GA X.K t g)
 (ht:∀ Y,gS X scope Y->jM Y ifs fc) (he:∀ Y,gS X scope Y->PE Y elt (aK X.K fe)) (hs:∀ x,xy iter X.env x=pure x) :
 PE X (.ListComp elt [⟨tg,iter,ifs,0⟩] scope pos) (eX X.K (dW t fi fc fe)):=λ aA s σ H Q I h=>by
 rw[eval_ListComp];exact aBm qz hc ok own hi hg ga ht he hs I h λ p C s1 H' _ hm hI q=>hm.elim λ m hm=>⟨m,hm,λ h' sb=>⟨.ref p,H',hI h' sb,rfl,q⟩⟩
theorem aFx{i:Nat}{x:Str}{pos' spos:Pos}{fa:FE}(hN:X.N.Nodup)(hx1:X.N[i]? = qq x)(hx2:L2.Loc X.env.scope x)(hf:X.fn x=true\/X.env.scope.names.lookup x=qq .local)
 (hc:X.calm=true) (ok:ScOk scope X.env.scope) (own:zC X.N scope t.slots) (hi:PI X tg iter (jF X.K fi)) (hg:∀ Y,gS X scope Y->PG Y tg g) (ga:GA X.K t g)
 (ht:∀ Y,gS X scope Y->jM Y ifs fc) (he:∀ Y,gS X scope Y->PE Y elt (aK X.K fe)) (hs:∀ x,xy iter X.env x=pure x)
 (hw:∀ σ H Q,aK X.K fa σ H Q->eX X.K (dW t fi fc fe) σ H Q) :
 PS X (.Assign [.Name x pos'] (.ListComp elt [⟨tg,iter,ifs,0⟩] scope pos) spos) (cA X.K (dY i fa)):=by
 have hb:∃ b,swapsWith (.ListComp elt [⟨tg,iter,ifs,0⟩] scope pos) (qq (.Name x pos')) spos.line X.env=pure b:=⟨_,rfl⟩;obtain⟨b,hb⟩:=hb;cases b with
 | false=>exact tH hN hx1 hx2 (PE.weak (yH hc ok own hi hg ga ht he hs) hw) hb hf
 | true =>
   intro aA s σ H DD I h;have h2:=aDw DD σ H h;rw[exec_Assign_Name_used _ _ _ _ hb];refine wB (ju (wB ?_));show qu _ X.A (do let _ <- comprehension (.ListComp elt [⟨tg,iter,ifs,0⟩] scope pos) scope X.env _ (newList []) false (eval iter X.env) (qq (assign (.Name x pos') X.env))) _ _ s
   refine wB (aY (aBm (QQ:=λ _ s'=>SP X aA DD .next s') (qq (assign (.Name x pos') X.env)) hc ok own hi hg ga ht he hs I (hw _ _ _ h2) λ p C s1 H' hC hm hI q=>?_) λ _ s' hq=>wP (wP hq))
   obtain⟨m,hm⟩:=hm;have I1:Inv X aA σ H' s1:=hI s1.heap (Heap.SameBut.refl _ _);obtain⟨o,es,ep,ho,hd,r⟩:=hm;have I2:=I1.pinned (fp:=[C]) (λ b hb=>by rw[List.mem_singleton.mp hb];exact hC) λ b hb=>by rw[List.mem_singleton.mp hb];exact⟨o,ho,λ v z=>by rw[hd] at z;cases z⟩
   refine aY (xL (pos:=pos') hN hx1 hx2 hf _ s1 σ H' (.ref p) (.ref p) _ I2 rfl q) λ _ s2 hPq35=>?_
   obtain⟨σ2,H2,I3,q3⟩:=hPq35;obtain⟨b1,b2,_⟩:=I3.pin (C,o) (xAl _ (xAl _ (oK (by simp) ho)))
   refine⟨m,⟨o,es,ep,b1,hd,r⟩,λ h' sb=>⟨σ2,H2,?_,q3⟩⟩
   exact I3.unpinned.turned (t':=s2.toks) (λ b o hb e=>sb.extBut b o hb e) b2 hC.2.1 hC.2.2.2.1 hC.2.2.2.2.1 hC.2.2.2.2.2
end
noncomputable def pD:List D->Option (List Int)
 | []=>qq []
 | .int i::r=>(pD r).bind λ l=>qq (i::l)
 | _::_=>qz
noncomputable def iD:List D->Option (List Bool)
 | []=>qq []
 | .bool i::r=>(iD r).bind λ l=>qq (i::l)
 | _::_=>qz
noncomputable def gI:List D->Option D
 | [.list xs]=>qq (.int xs.length)
 | [.tuple xs]=>qq (.int xs.length)
 | [.str z]=>if z.length<=qk then qq (.int z.length) else qz
 | _=>qz
noncomputable def tL:List D->Option D
 | [.int i,.int j]=>qq (.int (if j>i then j else i))
 | [.int i,.int j,.int k]=>qq (.int (if j>i then (if k>j then k else j) else (if k>i then k else i)))
 | [.list xs]=>match pD xs with
   | some (i::r)=>qq (.int (r.foldl max i))
   | _=>qz
 | _=>qz
noncomputable def qG:List D->Option D
 | [.int i,.int j]=>qq (.int (if j<i then j else i))
 | [.list xs]=>match pD xs with
   | some (i::r)=>qq (.int (r.foldl min i))
   | _=>qz
 | _=>qz
noncomputable def qW:List D->Option D
 | [.int i]=>qq (.int i)
 | [.bool k]=>qq (.int (if k then 1 else 0))
 | _=>qz
noncomputable def aAk:List D->Option D
 | [.int i]=>qq (.int (if i<0 then -i else i))
 | _=>qz
noncomputable def mR:List D->Option D
 | [.list xs]=>qq (.tuple xs)
 | [.tuple xs]=>qq (.tuple xs)
 | _=>qz
noncomputable def zT:List D->Option D
 | [.list xs]=>(pD xs).bind λ l=>qq (.int l.sum)
 | _=>qz
noncomputable def uE:List D->Option D
 | [.list xs]=>(iD xs).bind λ l=>qq (.bool (l.all id))
 | _=>qz
noncomputable def tN:List D->Option D
 | [.list xs]=>(iD xs).bind λ l=>qq (.bool (l.any id))
 | _=>qz
section
variable {X : Cx}
theorem fP{F H:Hp}{d:D}{xs:List V}(h:NowL X.K F H [d] xs):∃ x,xs=[x]/\bF X.K F H d x:=by
 cases h with
 | cons a b=>cases b;exact⟨_,rfl,a⟩
theorem aDK{F H:Hp}{d e:D}{xs:List V}(h:NowL X.K F H [d,e] xs):∃ x y,xs=[x,y]/\bF X.K F H d x/\bF X.K F H e y:=by
 cases h with
 | cons a b =>
   cases b with
   | cons c d=>cases d;exact⟨_,_,rfl,a,c⟩
theorem aLV{F H:Hp}{d e f:D}{xs:List V}(h:NowL X.K F H [d,e,f] xs):∃ x y z,xs=[x,y,z]/\bF X.K F H d x/\bF X.K F H e y/\bF X.K F H f z:=by
 cases h with
 | cons a b=>cases b with
   | cons c d=>cases d with
     | cons e f=>cases f;exact⟨_,_,_,rfl,a,c,e⟩
theorem aKX{x y z:V}{us:List qx}(r:aM [x,y,z] us):∃ u v w',us=[u,v,w']/\aP x u/\aP y v/\aP z w':=by
 cases r with
 | cons r1 r2=>cases r2 with
   | cons r3 r4=>cases r4 with
     | cons r5 r6=>cases r6;exact⟨_,_,_,rfl,r1,r3,r5⟩
theorem aFO(hc:X.calm=true):cD X (.builtin "max") (λ xs H Q=>∃ i j k,xs=[.int i,.int j,.int k]/\Q (.int (if j>i then (if k>j then k else j) else (if k>i then k else i))) H):=by
 intro aA s σ H xs us Q I r h;obtain⟨i,j,k,rfl,q⟩:=h;obtain⟨u,v,w',rfl,⟨t,rfl⟩,⟨t',rfl⟩,⟨t2,rfl⟩⟩:=aKX r;refine max_three_ints (I.ok.hd hc) λ h' tk kk=>⟨_,H,I.kept kk,?_,q⟩
 by_cases h1:j>i<;>by_cases h2:k>j<;>by_cases h3:k>i<;>simp only[h1,h2,h3,if_true,if_false]<;>exact⟨_,rfl⟩
theorem rR{K:FrG}{F:Hp}:∀ {ds:List D}{xs:List V}{ns:List Int},DenL K F ds xs->pD ds=qq ns->xs=ns.map V.int
 | _,_,_,.nil,e=>by cases e;rfl
 | .int i::r,_,_,.cons h t,e=>by
   obtain⟨l,e1,e2⟩:=bind_some e;cases e2;cases h;rw[yAm,rR t e1]
 | .none::_,_,_,.cons _ _,e=>by cases e
 | .bool _::_,_,_,.cons _ _,e=>by cases e
 | .str _::_,_,_,.cons _ _,e=>by cases e
 | .list _::_,_,_,.cons _ _,e=>by cases e
 | .tuple _::_,_,_,.cons _ _,e=>by cases e
 | .dict _::_,_,_,.cons _ _,e=>by cases e
theorem aCo:∀ (l:List Int) (i:Int),(l.foldl max i∈i::l)/\∀ a∈i::l,a<=l.foldl max i
 | [],i=>⟨List.mem_singleton.mpr rfl,λ a h=>by rw[List.mem_singleton.mp h];exact Int.le_refl _⟩
 | b::l,i=>by
   obtain⟨h1,h2⟩:=aCo l (max i b);rw[yAi];refine⟨?_,λ a ha=>?_⟩
   ·rcases List.mem_cons.mp h1 with h | h
    ·rw[h];rcases Int.le_total i b with q | q
     ·rw[Int.max_eq_right q];simp
     ·rw[Int.max_eq_left q];simp
    ·simp[h]
   ·have h3:=h2 (max i b) xAd;simp only[yAr] at ha;rcases ha with rfl | rfl | ha
    ·exact yEo (Int.le_max_left _ _) h3
    ·exact yEo (Int.le_max_right _ _) h3
    ·exact h2 a (xAf _ ha)
theorem aB5:∀ (l:List Int) (i:Int),(l.foldl min i∈i::l)/\∀ a∈i::l,l.foldl min i<=a
 | [],i=>⟨List.mem_singleton.mpr rfl,λ a h=>by rw[List.mem_singleton.mp h];exact Int.le_refl _⟩
 | b::l,i=>by
   obtain⟨h1,h2⟩:=aB5 l (min i b);rw[yAi];refine⟨?_,λ a ha=>?_⟩
   ·rcases List.mem_cons.mp h1 with h | h
    ·rw[h];rcases Int.le_total i b with q | q
     ·rw[Int.min_eq_left q];simp
     ·rw[Int.min_eq_right q];simp
    ·simp[h]
   ·have h3:=h2 (min i b) xAd;simp only[yAr] at ha;rcases ha with rfl | rfl | ha
    ·exact yEo h3 (Int.min_le_left _ _)
    ·exact yEo h3 (Int.min_le_right _ _)
    ·exact h2 a (xAf _ ha)
theorem vT:∀ {l:List Int}{us:List qx},aM (l.map V.int) us->∃ ps:List (Int×Tok),us=ps.map (λ p=>Value.int p.1 p.2)/\ps.map (·.1)=l
 | [],us,r=>by cases r;exact⟨[],rfl,rfl⟩
 | i::l,us,r=>by
   cases r with
   | cons h t =>
     obtain⟨tk,rfl⟩:=h;obtain⟨ps,rfl,rfl⟩:=vT t;exact⟨(i,tk)::ps,rfl,rfl⟩
theorem aFy(hc:X.calm=true):cD X (.builtin "max") (λ xs H Q=>∃ (a:qv) (l:List Int),xs=[.ref a]/\bK X.K H a (l.map V.int)/\0<l.length/\∀ M,M∈l->(∀ i∈l,i<=M)->Q (.int M) H):=by
 intro aA s σ H xs us Q I r h;obtain⟨a,l,rfl,sq,hl,q⟩:=h;obtain⟨u,rfl,ru⟩:=eT r;cases ru;obtain⟨aC,rv,pl,hz⟩:=I.list sq;obtain⟨ps,rfl,rfl⟩:=vT rv;have hIL:s.heap.IsList a (intItems ps.toArray):=by
  have e:intItems ps.toArray=(ps.map (λ p=>Value.int p.1 p.2)).toArray:=by simp[intItems]
  rw[e];exact pl.isList
 refine max_intList (xs:=ps.toArray) (I.ok.hd hc) hIL (by simpa using hl) λ v h' tk hv hk=>?_
 obtain⟨t,rfl⟩:=intItems_at hv;obtain⟨h1,h2⟩:=argBest_gt (numAt ps.toArray) (ps.toArray.size-1);refine⟨.int _,H,I.kept hk,⟨_,rfl⟩,q _ ?_ λ i hi=>?_⟩
 ·rw[numAt_eq];have hz':0<ps.toArray.size:=by simpa using hl
  exact getD_mem (by rw[yAg,yCg];exact yDz h1 (Nat.sub_lt hz' Nat.one_pos))
 ·obtain⟨j,hj,rfl⟩:=mem_getD hi;rw[yAg] at hj;have:=h2 j (by rw[yAb];omega)
  rw[numAt_eq (j:=j)] at this;exact this
theorem aFM(hc:X.calm=true):cD X (.builtin "min") (λ xs H Q=>∃ (a:qv) (l:List Int),xs=[.ref a]/\bK X.K H a (l.map V.int)/\0<l.length/\∀ M,M∈l->(∀ i∈l,M<=i)->Q (.int M) H):=by
 intro aA s σ H xs us Q I r h;obtain⟨a,l,rfl,sq,hl,q⟩:=h;obtain⟨u,rfl,ru⟩:=eT r;cases ru;obtain⟨aC,rv,pl,hz⟩:=I.list sq;obtain⟨ps,rfl,rfl⟩:=vT rv;have hIL:s.heap.IsList a (intItems ps.toArray):=by
  have e:intItems ps.toArray=(ps.map (λ p=>Value.int p.1 p.2)).toArray:=by simp[intItems]
  rw[e];exact pl.isList
 refine min_intList (xs:=ps.toArray) (I.ok.hd hc) hIL (by simpa using hl) λ v h' tk hv hk=>?_
 obtain⟨t,rfl⟩:=intItems_at hv;obtain⟨h1,h2⟩:=argBest_lt (numAt ps.toArray) (ps.toArray.size-1);refine⟨.int _,H,I.kept hk,⟨_,rfl⟩,q _ ?_ λ i hi=>?_⟩
 ·rw[numAt_eq];have hz':0<ps.toArray.size:=by simpa using hl
  exact getD_mem (by rw[yAg,yCg];exact yDz h1 (Nat.sub_lt hz' Nat.one_pos))
 ·obtain⟨j,hj,rfl⟩:=mem_getD hi;rw[yAg] at hj;have:=h2 j (by rw[yAb];omega)
  rw[numAt_eq (j:=j)] at this;exact this
theorem aLd:cD X (.builtin "len") (jG X gI):=λ aA s σ H xs us Q I r aO=>by
 obtain⟨F,L,S,ds,z,R,n,e,q⟩:=aO;unfold gI at e
 split at e
 ·cases e;obtain⟨x,rfl,nx⟩:=fP n;obtain⟨a,ys,rfl,sq,dl⟩:=nx.lst R.sub;exact aAO aA s σ H _ us Q I r ⟨a,ys,rfl,.inl sq,by rw[<- dl.length];exact q.here R (.int _)⟩
 ·cases e;obtain⟨x,rfl,nx⟩:=fP n;obtain⟨a,ys,rfl,sq,dl⟩:=nx.tup R.sub;exact aAO aA s σ H _ us Q I r ⟨a,ys,rfl,.inr sq,by rw[<- dl.length];exact q.here R (.int _)⟩
 ·split at e
  ·rename_i hz;cases e;obtain⟨x,rfl,nx⟩:=fP n;exact aEV aA s σ H _ us Q I r ⟨_,by rw[nx.str],hz,q.here R (.int _)⟩
  ·cases e
 ·cases e
theorem aJX(hc:X.calm=true):cD X (.builtin "max") (jG X tL):=λ aA s σ H xs us Q I r aO=>by
 obtain⟨F,L,S,ds,z,R,n,e,q⟩:=aO;unfold tL at e
 split at e
 ·cases e;obtain⟨x,y,rfl,nx,ny⟩:=aDK n;exact aFY hc aA s σ H _ us Q I r ⟨_,_,by rw[nx.int,ny.int],q.here R (.int _)⟩
 ·cases e;obtain⟨x,y,u,rfl,nx,ny,nu⟩:=aLV n;exact aFO hc aA s σ H _ us Q I r ⟨_,_,_,by rw[nx.int,ny.int,nu.int],q.here R (.int _)⟩
 ·split at e
  ·rename_i xs' i r' hi;cases e;obtain⟨x,rfl,nx⟩:=fP n;obtain⟨a,ys,rfl,sq,dl⟩:=nx.lst R.sub;obtain rfl:=rR dl hi;refine aFy hc aA s σ H _ us Q I r ⟨a,i::r',rfl,sq,by simp,λ M h1 h2=>?_⟩
   have f:=aCo r' i;have:M=r'.foldl max i:=Int.le_antisymm (f.2 _ h1) (h2 _ f.1);rw[this];exact q.here R (.int _)
  ·cases e
 ·cases e
theorem aJS(hc:X.calm=true):cD X (.builtin "min") (jG X qG):=λ aA s σ H xs us Q I r aO=>by
 obtain⟨F,L,S,ds,z,R,n,e,q⟩:=aO;unfold qG at e
 split at e
 ·cases e;obtain⟨x,y,rfl,nx,ny⟩:=aDK n;exact aFV hc aA s σ H _ us Q I r ⟨_,_,by rw[nx.int,ny.int],q.here R (.int _)⟩
 ·split at e
  ·rename_i xs' i r' hi;cases e;obtain⟨x,rfl,nx⟩:=fP n;obtain⟨a,ys,rfl,sq,dl⟩:=nx.lst R.sub;obtain rfl:=rR dl hi;refine aFM hc aA s σ H _ us Q I r ⟨a,i::r',rfl,sq,by simp,λ M h1 h2=>?_⟩
   have f:=aB5 r' i;have:M=r'.foldl min i:=Int.le_antisymm (h2 _ f.1) (f.2 _ h1);rw[this];exact q.here R (.int _)
  ·cases e
 ·cases e
theorem aJ8:cD X (.type "int") (jG X qW):=λ aA s σ H xs us Q I r aO=>by
 obtain⟨F,L,S,ds,z,R,n,e,q⟩:=aO;unfold qW at e
 split at e
 ·cases e;obtain⟨x,rfl,nx⟩:=fP n;exact aBo aA s σ H _ us Q I r (.inl ⟨_,by rw[nx.int],q.here R (.int _)⟩)
 ·cases e;obtain⟨x,rfl,nx⟩:=fP n;exact aBo aA s σ H _ us Q I r (.inr ⟨_,by rw[nx.bl],q.here R (.int _)⟩)
 ·cases e
theorem aKa:cD X (.builtin "abs") (jG X aAk):=λ aA s σ H xs us Q I r aO=>by
 obtain⟨F,L,S,ds,z,R,n,e,q⟩:=aO;unfold aAk at e
 split at e
 ·cases e;obtain⟨x,rfl,nx⟩:=fP n;exact aF5 aA s σ H _ us Q I r ⟨_,by rw[nx.int],q.here R (.int _)⟩
 ·cases e
theorem aHx:cD X (.type "tuple") (jG X mR):=λ aA s σ H xs us Q I r aO=>by
 obtain⟨F,L,S,ds,z,R,n,e,q⟩:=aO;unfold mR at e
 split at e
 ·cases e;obtain⟨x,rfl,nx⟩:=fP n;obtain⟨a,ys,rfl,sq,dl⟩:=nx.lst R.sub;exact aAJ aA s σ H _ us Q I r ⟨a,ys,rfl,.inl ⟨sq,λ l hl=>q.tup R hl dl⟩⟩
 ·cases e;obtain⟨x,rfl,nx⟩:=fP n;have nx':=nx;obtain⟨a,ys,rfl,sq,dl⟩:=nx.tup R.sub;refine aAJ aA s σ H _ us Q I r ⟨a,ys,rfl,.inr ⟨sq,q.here R ?_⟩⟩;rcases nx' with nx | ⟨_,_,_,e,_⟩
  ·exact nx
  ·cases e
 ·cases e
theorem vP{prog:qo}{w:zq}{A:zx}(hh:A.handled=qz)(I ax:qv)(hne:ax≠I)(aS:Array qx) :
 WalksS prog w A I [I,ax] [I] (λ a b=>b=a) aS.size (λ i v=>aS[i]? = qq v) (λ i s=>s.heap.IsListIter I ax i/\s.heap.IsList ax aS) where
 sub:=λ b hb=>by simp at hb;simp[hb]
 grefl:=λ _=>rfl
 gtrans:=λ _ _ _ h1 h2=>h2.trans h1
 frame:=λ _ _ _ _ st _ hk=>⟨st.1.at λ o e=>hk I (by simp) o e,st.2.at λ o e=>hk ax (by simp) o e⟩
 item:=λ i s Q E hi st hQ=>by
  refine vj st.1 st.2 (x:=aS[i]) (by simp[hi]) λ h' hit' hs'=>?_
  exact hQ _ _ (by simp[hi]) ⟨hit',st.2.extBut hs'.extBut hne⟩ ⟨λ b o hb e=>hs'.extBut b o (λ h=>hb (by simp[h])) e,rfl,rfl,rfl,yAc _⟩
 done:=λ s Q E st hQ=>vv hh st.1 st.2 (by simp) λ h' he'=>hQ _ ⟨λ b o hb e=>he' b o (λ h=>hb (by simp[h])) e,rfl,rfl,rfl,yAc _⟩
 self:=λ _ _ _ _ st hQ=>wpAny_pyIter_listiter st.1 hQ
theorem aAQ:∀ (ns:List Int) (k:Nat),k<=ns.length->preSum (λ i=>ns.getD i 0) k=(ns.take k).sum
 | _,0,_=>by simp[preSum]
 | ns,k+1,h=>by
   rw[preSum,aAQ ns k (by omega),List.take_succ_eq_append_getElem (by omega),List.sum_append]
   have:ns.getD k 0=ns[k]:=by simp[List.getD,yAa (show k<ns.length by omega)]
   rw[this];simp
theorem vS{K:FrG}{F:Hp}:∀ {ds:List D}{xs:List V}{ns:List Bool},DenL K F ds xs->iD ds=qq ns->xs=ns.map V.bl
 | _,_,_,.nil,e=>by cases e;rfl
 | .bool i::r,_,_,.cons h t,e=>by
   obtain⟨l,e1,e2⟩:=bind_some e;cases e2;cases h;rw[yAm,vS t e1]
 | .none::_,_,_,.cons _ _,e=>by cases e
 | .int _::_,_,_,.cons _ _,e=>by cases e
 | .str _::_,_,_,.cons _ _,e=>by cases e
 | .list _::_,_,_,.cons _ _,e=>by cases e
 | .tuple _::_,_,_,.cons _ _,e=>by cases e
 | .dict _::_,_,_,.cons _ _,e=>by cases e
theorem aE1{ns:List Int}{us:List qx}(r:aM (ns.map V.int) us){i:Nat}{v:qx}(e:us[i]? = qq v):∃ t,v=.int (ns.getD i 0) t:=by
 have hl:=r.length;rw[yAg] at hl;have hi:i<ns.length:=by rw[hl];exact(gIm e).1
 obtain⟨u,e1,ru⟩:=aM.get r (i:=i) (x:=.int ns[i]) (by rw[xAb,yAa hi];rfl)
 rw[e] at e1;cases e1;obtain⟨t,rfl⟩:=ru;exact⟨t,by simp[List.getD,yAa hi]⟩
theorem aAL{ns:List Bool}{us:List qx}(r:aM (ns.map V.bl) us){i:Nat}{v:qx}(e:us[i]? = qq v):v=.bool (ns.getD i false):=by
 have hl:=r.length;rw[yAg] at hl;have hi:i<ns.length:=by rw[hl];exact(gIm e).1
 obtain⟨u,e1,ru⟩:=aM.get r (i:=i) (x:=.bl ns[i]) (by rw[xAb,yAa hi];rfl)
 rw[e] at e1;cases e1;obtain rfl:=ru;simp[List.getD,yAa hi]
theorem aKN(hc:X.calm=true):cD X (.builtin "sum") (jG X zT):=λ aA s σ H xs us Q I r aO=>by
 obtain⟨F,L,S,ds,z,R,n,e,q⟩:=aO;unfold zT at e
 split at e
 ·obtain⟨ns,e1,e2⟩:=bind_some e;cases e2;obtain⟨x,rfl,nx⟩:=fP n;obtain⟨a,ys,rfl,sq,dl⟩:=nx.lst R.sub;obtain rfl:=rR dl e1;obtain⟨u,rfl,ru⟩:=eT r;cases ru;obtain⟨aC,rv,pl,hz⟩:=I.list sq;have hh:X.A.in1.handled=qz:=I.ok.hd hc;refine call_sum_walkAnyS (jw pl.isList ?_);have hne:a≠s.heap.objs.size:=by
   obtain⟨o,ho,_⟩:=pl.isList;exact xAh (xAa ho)
  have hl:=rv.length;rw[yAg] at hl;refine⟨_,_,_,_,_,_,_,λ i=>ns.getD i 0,rfl,vP hh s.heap.objs.size a hne aC.toArray,⟨⟨_,xAe _ rfl,rfl,rfl⟩,?_⟩,λ b hb=>?_,λ i v e=>aE1 rv (by simpa using e),λ s' t' mv=>?_⟩
  ·obtain⟨o,ho,r'⟩:=pl.isList;exact⟨o,hpS _ ho,r'⟩
  ·obtain⟨o,ho,_⟩:=pl.isList;have h1:=xAa ho;simp only[yAr,yAn,or_false] at hb;rw[Heap.size_push];rcases hb with rfl | rfl
   ·exact yCu _
   ·exact Nat.lt_succ_of_lt h1
  ·obtain⟨h',g',d',t2,o'⟩:=s';obtain⟨mh,mg,md,mo,mt⟩:=mv;dsimp only at mh mg md mo;subst mg md mo;have I':Inv X aA σ H {s with heap:=h',toks:=t2 }:=I.kept λ b o e=>mh b o (λ z=>by
    have:b=s.heap.objs.size:=by simpa using z
    exact yBb _ (this▸xAa e)) (hpS _ e)
   have e3:preSum (λ i=>ns.getD i 0) aC.toArray.size=ns.sum:=by
    rw[yAb,<- hl,aAQ ns ns.length (yAc _),yAk]
   rw[e3];exact⟨.int ns.sum,H,I',⟨_,rfl⟩,q.here R (.int _)⟩
 ·cases e
theorem aAY{prog:qo}{w:zq}{A:zx}{b:Bool}{s:qj}{Q:Bool->qj->Prop}{E:qx->qj->Prop}(h:Q b s):qu (model prog w) A (truthy (.bool b)) Q E s:=by
 first
  | exact jz h
  | exact PySem.wpAny_truthy_bool h
  | exact truthy_bool h
theorem aFB(bs:List Bool):(yAy bs.length).all (λ i=>bs.getD i false)=bs.all id:=by
 have h:(yAy bs.length).map (λ i=>bs.getD i false)=bs:=by
  apply List.ext_getElem
  ·simp
  ·intro i h1 h2;simp[List.getD,yAa h2]
 have h2:bs.all id=((yAy bs.length).map (λ i=>bs.getD i false)).all id:=by rw[h]
 rw[h2,List.all_map];rfl
theorem aFX(bs:List Bool):(yAy bs.length).any (λ i=>bs.getD i false)=bs.any id:=by
 have h:(yAy bs.length).map (λ i=>bs.getD i false)=bs:=by
  apply List.ext_getElem
  ·simp
  ·intro i h1 h2;simp[List.getD,yAa h2]
 have h2:bs.any id=((yAy bs.length).map (λ i=>bs.getD i false)).any id:=by rw[h]
 rw[h2,List.any_map];rfl
theorem aKO(hc:X.calm=true):cD X (.builtin "all") (jG X uE):=λ aA s σ H xs us Q I r aO=>by
 obtain⟨F,L,S,ds,z,R,n,e,q⟩:=aO;unfold uE at e
 split at e
 ·obtain⟨bs,e1,e2⟩:=bind_some e;cases e2;obtain⟨x,rfl,nx⟩:=fP n;obtain⟨a,ys,rfl,sq,dl⟩:=nx.lst R.sub;obtain rfl:=vS dl e1;obtain⟨u,rfl,ru⟩:=eT r;cases ru;obtain⟨aC,rv,pl,hz⟩:=I.list sq;have hh:X.A.in1.handled=qz:=I.ok.hd hc;refine call_all_walkS (jw pl.isList ?_);have hne:a≠s.heap.objs.size:=by
   obtain⟨o,ho,_⟩:=pl.isList;exact xAh (xAa ho)
  have hl:=rv.length;rw[yAg] at hl;refine⟨_,_,_,_,_,_,_,λ i=>bs.getD i false,rfl,vP hh s.heap.objs.size a hne aC.toArray,⟨⟨_,xAe _ rfl,rfl,rfl⟩,?_⟩,λ i v s' Q' E' e hq=>?_,λ s' mv=>?_⟩
  ·obtain⟨o,ho,r'⟩:=pl.isList;exact⟨o,hpS _ ho,r'⟩
  ·obtain rfl:=aAL rv (i:=i) (by simpa using e)
   exact aAY hq
  ·obtain⟨h',g',d',t2,o'⟩:=s';obtain⟨mh,mg,md,mo,mt⟩:=mv;dsimp only at mh mg md mo;subst mg md mo;have I':Inv X aA σ H {s with heap:=h',toks:=t2 }:=I.kept λ b o e=>mh b o (λ z=>by
    have:b=s.heap.objs.size:=by simpa using z
    exact yBb _ (this▸xAa e)) (hpS _ e)
   rw[yAb,<- hl,aFB];exact⟨.bl (bs.all id),H,I',rfl,q.here R (.bl _)⟩
 ·cases e
theorem aKm(hc:X.calm=true):cD X (.builtin "any") (jG X tN):=λ aA s σ H xs us Q I r aO=>by
 obtain⟨F,L,S,ds,z,R,n,e,q⟩:=aO;unfold tN at e
 split at e
 ·obtain⟨bs,e1,e2⟩:=bind_some e;cases e2;obtain⟨x,rfl,nx⟩:=fP n;obtain⟨a,ys,rfl,sq,dl⟩:=nx.lst R.sub;obtain rfl:=vS dl e1;obtain⟨u,rfl,ru⟩:=eT r;cases ru;obtain⟨aC,rv,pl,hz⟩:=I.list sq;have hh:X.A.in1.handled=qz:=I.ok.hd hc;refine call_any_walkS (jw pl.isList ?_);have hne:a≠s.heap.objs.size:=by
   obtain⟨o,ho,_⟩:=pl.isList;exact xAh (xAa ho)
  have hl:=rv.length;rw[yAg] at hl;refine⟨_,_,_,_,_,_,_,λ i=>bs.getD i false,rfl,vP hh s.heap.objs.size a hne aC.toArray,⟨⟨_,xAe _ rfl,rfl,rfl⟩,?_⟩,λ i v s' Q' E' e hq=>?_,λ s' mv=>?_⟩
  ·obtain⟨o,ho,r'⟩:=pl.isList;exact⟨o,hpS _ ho,r'⟩
  ·obtain rfl:=aAL rv (i:=i) (by simpa using e)
   exact aAY hq
  ·obtain⟨h',g',d',t2,o'⟩:=s';obtain⟨mh,mg,md,mo,mt⟩:=mv;dsimp only at mh mg md mo;subst mg md mo;have I':Inv X aA σ H {s with heap:=h',toks:=t2 }:=I.kept λ b o e=>mh b o (λ z=>by
    have:b=s.heap.objs.size:=by simpa using z
    exact yBb _ (this▸xAa e)) (hpS _ e)
   rw[yAb,<- hl,aFX];exact⟨.bl (bs.any id),H,I',rfl,q.here R (.bl _)⟩
 ·cases e
noncomputable def tyD:D->Option String
 | .none=>qq "NoneType"
 | .bool _=>qq "bool"
 | .int _=>qq "int"
 | .str _=>qq "str"
 | .list _=>qq "list"
 | .tuple _=>qq "tuple"
 | .dict _=>qz
noncomputable def qR(K:FrG)(n:String)(d:D):Option D:=(tyD d).bind λ t=>(PySem.W.kitOne K (.type t) (.type n)).map yBh
theorem aIM{aA:List (qv×Obj)}{s:qj}{σ:L2.St}{H F:Hp}{L:List qv}{S:aB}{x:V}{v:qx}{d z:D}{n:String}{Q:VK}(I:Inv X aA σ H s)(R:Rel X.K F L S H)(rx:aP x v)(nx:bF X.K F H d x)(e:qR X.K n d=qq z)(q:eI X F L S z Q) :
 qu (model X.prog X.w) X.A (call (.builtin "isinstance") [v,.type n]) (EP X aA σ Q) X.xe s:=by
 obtain⟨t,e1,e2⟩:=bind_some e;cases ek:PySem.W.kitOne X.K (.type t) (.type n) with
 | none=>rw[ek] at e2;cases e2
 | some b =>
   rw[ek] at e2;cases e2;have bB:∀ tk,EP X aA σ Q (.bool b) {s with toks:=tk }:=λ tk=>⟨.bl b,H,I.tok _,rfl,q.here R (.bl b)⟩
   cases d with
   | none=>cases e1;obtain rfl:=nx.non;cases (show v=Value.none from rx);exact yCo PySem.W.kitx_none I.kIn True.intro ek (λ z=>nomatch z) bB
   | bool y=>cases e1;obtain rfl:=nx.bl;cases (show v=Value.bool y from rx);exact yCo PySem.W.kitx_bool I.kIn True.intro ek (λ z=>nomatch z) bB
   | int i=>cases e1;obtain rfl:=nx.int;obtain⟨t,q⟩:=(show ∃ t,v=Value.int i t from rx);cases q;exact yCo PySem.W.kitx_int I.kIn True.intro ek (λ z=>nomatch z) bB
   | str y=>cases e1;obtain rfl:=nx.str;obtain⟨t,q⟩:=(show ∃ t,v=Value.str y t from rx);cases q;exact yCo PySem.W.kitx_str I.kIn True.intro ek (λ z=>nomatch z) bB
   | list l =>
     cases e1;obtain⟨a,xs,rfl,sq,dl⟩:=nx.lst R.sub;cases (show v=Value.ref a from rx)
     obtain⟨aC,rv,pl,_⟩:=I.list sq;obtain⟨o,ho,hc,_⟩:=pl.isList;exact yCo PySem.W.kitx_list I.kIn ⟨o,ho,hc⟩ ek (λ z=>nomatch z) bB
   | tuple l =>
     cases e1;obtain⟨a,xs,rfl,sq,dl⟩:=nx.tup R.sub;cases (show v=Value.ref a from rx)
     obtain⟨aC,rv,pl,_⟩:=I.tuple sq;obtain⟨o,ho,hc,_⟩:=pl;exact yCo PySem.W.kitx_tuple I.kIn ⟨o,ho,hc⟩ ek (λ z=>nomatch z) bB
   | dict l=>cases e1
noncomputable def aDZ(K:FrG)(n:String)(fa:FE):FE:=f1 fa (eZ (qR K n))
theorem aKg{a:qw}{fa:FE}{n:String}{x:Str}{p p' pos:Pos}(ha:PE X a (aK X.K fa))(hg:Gl X "isinstance")(hm:X.mg "isinstance" = qz)(hv:zk "isinstance" = qq (.builtin "isinstance"))(hg':Gl X x)(hm':X.mg x=qz)(hv':zk x=qq (.type n))(hn:x ≠ "__name__")(hd:(x==("__debug__" : Str))=false)
 (h1:zj [a,.Name x p'] X.env=(false,eval a X.env)::zj [.Name x p'] X.env):PE X (.Call (.Name "isinstance" p) [a,.Name x p'] [] pos) (aK X.K (aDZ X.K n fa)):=by
 have pt:PE X (.Name x p') (tC (.ty n)):=aCu hg' hm' hv' rfl hn hd;have rule:cD X (.builtin "isinstance") (λ xs H Q=>∃ F L S y d z,xs=[y,.ty n]/\Rel X.K F L S H/\bF X.K F H d y/\qR X.K n d=qq z/\eI X F L S z Q):=λ aA s σ H xs us Q I r aO=>by
  obtain⟨F,L,S,y,d,z,e,R,ny,e2,q⟩:=aO;subst e;obtain⟨u,u2,rfl,r1,r2⟩:=pQ r;cases (show u2=Value.type n from r2)
  exact aIM I R r1 ny e2 q
 refine PE.weak (iC rule hg hm hv (iE ha (iE pt mS) h1) (by decide) (by decide) h1 rfl) λ σ H Q hPq36=>?_
 obtain⟨F,L,S,env,w,S',R,E,e,q⟩:=hPq36;obtain⟨⟨w1,S1⟩,e1,e2⟩:=bind_some e;obtain⟨d,z,e3,e4,rfl,rfl⟩:=wR e2;exact⟨F,L,S,env,w1,_,R,E,e1,λ F1 L1 H1 v g1 R1 d1=>⟨F1,L1,_,v,d,z,rfl,R1,iF R1 d1 e3,e4,xO X rfl λ F2 L2 H2 v2 g2 R2 d2=>q F2 L2 H2 v2 (g1.trans g2) R2 d2⟩⟩
noncomputable def tP(fa:FE):FL:=λ env S=>(fa env S).bind λ p=>(dr p.2 p.1).bind λ d=>(pV d).bind λ l=>qq (l,p.2)
theorem aKb{fa:FE}(σ:St)(H:Hp)(Q:VK)(h:eX X.K (tP fa) σ H Q):uM (λ xs H Q=>∃ p ys,xs=[.ref p]/\(bK X.K H p ys\/bR X.K H p ys)/\∀ l,H l=qz->Q (.ref l) (aT H l (.lst ys))) (dE X.K (dX fa gH)) σ H Q:=by
 obtain⟨F,L,S,env,ds,S',R,E,e,q⟩:=h;obtain⟨⟨w,S1⟩,e1,e⟩:=bind_some e;obtain⟨d,e2,e⟩:=bind_some e;obtain⟨l,e3,e⟩:=bind_some e;cases e;refine⟨F,L,S,env,[w],_,R,E,by unfold dX;rw[e1];rfl,λ F1 L1 H1 vs g1 R1 d1=>?_⟩
 cases d1 with
 | cons dd dr =>
   cases dr;obtain⟨p,xs,rfl,sq,dl⟩:=xJ R1.sub (iF R1 dd e2) e3;exact⟨p,xs,rfl,sq,λ l hl=>q F1 L1 _ l xs g1 (R1.lay hl) (R1.sub.free hl) (R1.notin hl) bO dl⟩
end
section
variable {X : Cx}{aA : List (qv×Obj)}{σ : L2.St}{H : Hp}{s : qj}{h' : Heap}
end
section
variable {X : Cx}
noncomputable def aJ3(k:Int):List D->List D
 | []=>[]
 | d::r=>.tuple [.int k,d]::aJ3 (k+1) r
end
section
variable {prog : qo}{w : zq}{A : zx}{E : qx -> qj -> Prop}{s : qj}
end
section
variable {X : Cx}
end
inductive Tv where
 | int (i:Int) | str (x:Str) | bool (b:Bool)
 deriving DecidableEq
noncomputable def Tv.d:Tv->D
 | .int i=>.int i | .str x=>.str x | .bool b=>.bool b
noncomputable def Tv.v:Tv->V
 | .int i=>.int i | .str x=>.str x | .bool b=>.bl b
theorem Tv.den{K:FrG}{F:Hp}(t:Tv):Den K F t.d t.v:=by
 cases t
 ·exact .int _
 ·exact .str _
 ·exact .bl _
noncomputable def nB(w:zq):List DictEntry->List (Str×Tv)->Prop
 | [],[]=>True
 | e::r,(x,v)::aN=>e.hash=hashStr w x/\(∃ t,e.key=.str x t)/\aP v.v e.val/\nB w r aN
 | _,_=>False
def mZ(K:FrG)(w:zq)(a:qv)(aN:List (Str×Tv)):Prop:=∃ es ep,K.lookup a=qq {cls:=.type "dict",data:=.dict es ep }/\nB w es.toList aN
noncomputable def tM(aN:List (Str×Tv)):D->Option D
 | .str x=>(aN.lookup x).map Tv.d
 | _=>qz
theorem aBp{P:qo}{w:zq}:∀ {l:List DictEntry}{aN:List (Str×Tv)},nB w l aN->∀ e∈l,∃ k,(kG P w).is k e.key=true/\e.hash=(kG P w).hash k
 | [],[],_,e,h=>by cases h
 | e::r,(x,v)::aN,ok,e',h=>by
   obtain⟨h1,⟨t,h2⟩,_,h4⟩:=ok;rcases List.mem_cons.mp h with rfl | h
   ·exact⟨.inr x,by rw[h2];exact aA4 x t,h1⟩
   ·exact aBp h4 e' h
 | [],_::_,ok,_,_=>ok.elim
 | _::_,[],ok,_,_=>ok.elim
theorem aGr(x y:Str)(t:Tok):lP (.inr x) (.str y t)=(x==y):=by
 have h:(y==x)=(x==y):=by
  rw[Bool.eq_iff_iff];constructor<;>intro z<;>simp at z ⊢ <;> exact z.symm
 simp[lP,Value.isStrOf,h]
theorem aBL{w:zq}{k:Str}{v:Tv}:∀ {l:List DictEntry}{aN:List (Str×Tv)},nB w l aN->aN.lookup k=qq v->∃ u,(l.find? λ e=>lP (.inr k) e.key).map (·.val)=qq u/\aP v.v u
 | [],[],_,h=>by cases h
 | e::r,(x,v')::aN,ok,h=>by
   obtain⟨h1,⟨t,h2⟩,h3,h4⟩:=ok;rw[yAz] at h;rw[List.find?_cons,h2,aGr];cases q:k==x with
   | true =>
     rw[q] at h;cases h;exact⟨e.val,rfl,h3⟩
   | false =>
     rw[q] at h;exact aBL h4 h
 | [],_::_,ok,_=>ok.elim
 | _::_,[],ok,_=>ok.elim
section
variable {X : Cx}
theorem aIx{aN:List (Str×Tv)}:jD X (λ x y H Q=>∃ a k v,x=.ref a/\mZ X.K X.w a aN/\y=.str k/\aN.lookup k=qq v/\Q v.v H):=by
 intro value fX aA s σ H x y v u Q I rx ry h hs;obtain⟨a,k,tv,rfl,⟨es,ep,hl,ok⟩,rfl,hv,q⟩:=h;cases rx;obtain⟨t,rfl⟩:=ry;obtain⟨z,e1,e2⟩:=aBL ok hv;have hm:s.heap.MapOf (kG X.prog X.w) a (λ k=>findBy (kG X.prog X.w).is es k):=⟨_,es,ep,I.kIn a _ hl,⟨rfl,rfl,rfl⟩,rfl,λ e he=>aBp ok e (by simpa using he),λ _=>rfl⟩
 have hz:findBy (kG X.prog X.w).is es (.inr k)=qq z:=by
  unfold findBy;rw[<- Array.find?_toList];exact e1
 exact tail_any hm.typeIs PySem.F.slot_dict_getitem.lookup (wpAny_getItem_of (aA4 k t) hm hz ⟨_,H,I.tok _,e2,q⟩) hs
theorem aKo{x:Str}{k:qw}{fk:FE}{p pos:Pos}{aN:List (Str×Tv)}(hg:Gl X x)(hd:(x==("__debug__" : Str))=false)(ht:∃ a,X.mg x=qq (.ref a)/\mZ X.K X.w a aN)(hk:PE X k (aK X.K fk))(hs:sE k) :
 PE X (.Subscript (.Name x p) k pos) (aK X.K (f1 fk (eZ (tM aN)))):=by
 obtain⟨a,hm,ta⟩:=ht;refine PE.weak (aDc (aIx (aN:=aN)) (xT (v:=.ref a) hg hm rfl hd) hk hs) λ σ H Q hPq37=>?_
 obtain⟨F,L,S,env,w,S',R,E,e,q⟩:=hPq37;obtain⟨⟨w1,S1⟩,e1,e2⟩:=bind_some e;obtain⟨d,z,e3,e4,rfl,rfl⟩:=wR e2;cases d with
 | str y =>
   obtain⟨v,hv,rfl⟩:=Option.map_eq_some_iff.mp (show(aN.lookup y).map Tv.d=qq z from e4)
   refine⟨F,L,S,env,w1,_,R,E,e1,λ F1 L1 H1 u g1 R1 d1=>⟨a,y,v,rfl,ta,(iF R1 d1 e3).str,hv,?_⟩⟩
   exact q F1 L1 H1 v.v g1 R1 (show Den X.K F1 v.d v.v from v.den)
 | _=>cases e4
end
section
variable {prog : qo}{w : zq}{A : zx}{s : qj}{R : Result -> qj -> Prop}{J : qv}{fp wr : List qv}{Gg : Array GenState -> Array GenState -> Prop}{m : Nat}{P : Nat -> qx -> Prop}{St : Nat -> qj -> Prop}
end
section
variable {prog : qo}{w : zq}{A : zx}{E : qx -> qj -> Prop}{s : qj}{J : qv}{fp wr : List qv}{Gg : Array GenState -> Array GenState -> Prop}{m : Nat}{P : Nat -> qx -> Prop}{St : Nat -> qj -> Prop}
end
section
variable {X : Cx}
end
noncomputable def sT:List qx->List Tv->Prop
 | [],[]=>True
 | u::us,t::ts=>aP t.v u/\sT us ts
 | _,_=>False
theorem aBP:∀ {us:List qx}{ts:List Tv},sT us ts->aM (ts.map Tv.v) us
 | [],[],_=>.nil
 | _::_,_::_,⟨h1,h2⟩=>.cons h1 (aBP h2)
 | [],_::_,h=>h.elim
 | _::_,[],h=>h.elim
theorem aB4{K:FrG}{F:Hp}:∀ ts:List Tv,DenL K F (ts.map Tv.d) (ts.map Tv.v)
 | []=>.nil
 | t::ts=>.cons t.den (aB4 ts)
def lJ(K:FrG)(a:qv)(ts:List Tv):Prop:=∃ (o:Obj) (aC:Array qx) (n:Nat),K.lookup a=qq o/\o.cls=.type "tuple" /\ o.data=.seq aC n/\aC.size<=qk/\sT aC.toList ts
theorem aGD{K:FrG}{F:Hp}{a:qv}{ts:List Tv}(h:lJ K a ts):Den K F (.tuple (ts.map Tv.d)) (.ref a):=by
 obtain⟨o,aC,n,h1,h2,h3,h4,h5⟩:=h;exact .tup (.inr ⟨o,aC,n,h1,h2,h3,h4,aBP h5⟩) (aB4 ts)
section
variable {X : Cx}
theorem aJ2{x:Str}{p:Pos}{ts:List Tv}(hg:Gl X x)(hd:(x==("__debug__" : Str))=false)(ht:∃ a,X.mg x=qq (.ref a)/\lJ X.K a ts):PE X (.Name x p) (aK X.K (fC (.tuple (ts.map Tv.d)))):=by
 obtain⟨a,hm,ca⟩:=ht;refine PE.weak (xT (v:=.ref a) hg hm rfl hd) λ σ H Q hPq38=>?_
 obtain⟨F,L,S,env,w,S',R,E,e,q⟩:=hPq38;cases e;exact q F L H _ Gr.refl R (aGD ca)
noncomputable def aI4(op op':vz)(fa fb fc:FE):FE:=λ env S=>(fa env S).bind λ p=>(fb env p.2).bind λ q=>(gN (aZ op) q.2 p.1 q.1).bind λ r=>match r.1 with
 | .d (.bool true)=>(fc env r.2).bind λ t=>gN (aZ op') t.2 q.1 t.1
 | .d (.bool false)=>qq (.d (.bool false),r.2)
 | _=>qz
theorem aEC{prog:qo}{w:zq}{A:zx}{E:qx->qj->Prop}{s:qj}{t sl:qv}{aS:Array qx}{vl vu:qx}{lo hi:Option Int}{Q:qx->qj->Prop}(ht:IsTup s.heap t aS)(hs:s.heap.IsSliceOf sl vl vu .none)(pl:IsPart vl lo)(pu:IsPart vu hi)
 (hw:HT.sIx aS.size 0 lo=0/\HT.sIx aS.size aS.size hi=aS.size) (h:Q (.ref t) s):qu (model prog w) A (getItem (.ref t) (.ref sl)) Q E s:=by
 obtain⟨os,hos,hcs,hds⟩:=id hs;have hTs:s.TypeIs (.ref sl) "slice":=⟨os,hos,hcs⟩;unfold getItem
 try with_reducible refine zo ?_
 first | refine wB (wP ?_) | skip
 refine wB (wpAny_sequenceKey ht.typeIs (by decide) ?_)
 refine wB (wpAny_callSpecial?_slot (name:=Str.ofString "__getitem__") ht.typeIs yBk
  (wpAny_call_entry yBk ht.typeIs entry_tuple_getitem ?_ (args_tuple_getitem _ _)))
 show qu _ _ (yDx (.ref t) >>= _) _ _ s;refine wB (tupleItemsOf_ ht ?_);refine wB (wpAny_typeOf hTs ?_);rw[if_pos (by decide)]
 refine wB (HT.sliceApplied_gen hs pl pu ?_);have hyes:(((HT.sIx aS.size 0 lo:Nat):Int)==0&&(1:Int)==1&&(HT.sIx aS.size aS.size hi-HT.sIx aS.size 0 lo)==aS.size)=true:=by
  rw[hw.1,hw.2];simp
 show qu _ _ (if (((HT.sIx aS.size 0 lo:Nat):Int)==0&&(1:Int)==1&&(HT.sIx aS.size aS.size hi-HT.sIx aS.size 0 lo)==aS.size)=true then _ else _) _ _ s
 rw[if_pos hyes];unfold Builtin.Tuple.tupleIsExact;refine wB (wB (wpAny_typeOf ht.typeIs (wP ?_)));rw[if_pos (by decide)]
 first
  | exact wB (wpAny_rule (wP ⟨_,rfl,wP h⟩))
  | exact wB (wpAny_rule (wB (wP (wP ⟨_,rfl,wP h⟩))))
  | exact wB (wpAny_rule (wP ⟨_,rfl,h⟩))
noncomputable def aKQ(K:FrG):V->Option Int->Option Int->Hp->VK->Prop:=λ x lo hi H Q=>∃ a xs,x=.ref a/\bR K H a xs /\
 (((HT.sIx xs.length 0 lo=0/\HT.sIx xs.length xs.length hi=xs.length)/\Q (.ref a) H)\/(¬ (HT.sIx xs.length 0 lo=0/\HT.sIx xs.length xs.length hi=xs.length)/\∀ p,H p=qz->Q (.ref p) (aT H p (.tup (jU xs lo hi)))))
theorem aHs:kW X (aKQ X.K):=by
 intro aA s σ H x v vl vu lo hi sl Q I rx hs pl pu h;obtain⟨a,xs,rfl,hx,⟨hw,q⟩ | ⟨hw,q⟩⟩:=h
 ·cases rx;obtain⟨aC,r,ht,hz⟩:=I.tuple hx;have bS:aC.toArray.size=xs.length:=by rw[yAb];exact r.length.symm
  refine⟨"tuple",_,PyProof.Rows.slot_tuple_getitem.lookup,ht.typeIs,?_⟩;exact aEC ht hs pl pu (by rw[bS];exact hw) ⟨.ref a,H,I,rfl,q⟩
 ·exact aJD aA s σ H _ v vl vu lo hi sl Q I rx hs pl pu ⟨a,xs,rfl,hx,hw,q⟩
noncomputable def aD1:D->Option Int->Option Int->Option D
 | .tuple xs,lo,hi=>qq (.tuple (dL xs lo hi))
 | _,_,_=>qz
noncomputable def aDE(fa:FE)(fl fh:FO):FE:=λ env S=>(fa env S).bind λ p=>(fl env p.2).bind λ q=>(fh env q.2).bind λ r=>(dr r.2 p.1).bind λ d=>(aD1 d q.1 r.1).bind λ z=>qq (.d z,r.2)
theorem aJw{a:qw}{lo hi:Option qw}{p2 pos:Pos}{fa:FE}{fl fh:FO}(ha:PE X a (aK X.K fa))(hl:PO X lo (iT X.K fl))(hh:PO X hi (iT X.K fh)):PE X (.Subscript a (.Slice lo hi qz p2) pos) (aK X.K (aDE fa fl fh)):=
 PE.weak (aBO aHs ha hl hh) λ σ H Q aO=>by
  obtain⟨F,L,S,env,ds,S',R,E,e,q⟩:=aO;obtain⟨⟨w,S1⟩,e1,e⟩:=bind_some e;obtain⟨⟨l,S2⟩,e2,e⟩:=bind_some e;obtain⟨⟨h,S3⟩,e3,e⟩:=bind_some e;obtain⟨d,e4,e⟩:=bind_some e;obtain⟨z,e5,e⟩:=bind_some e;cases e;refine⟨F,L,S,env,w,S1,R,E,e1,λ F1 L1 H1 v g1 R1 d1=>⟨F1,L1,S1,env,l,S2,R1,E.mono g1,e2,λ F2 L2 H2 g2 R2=>⟨F2,L2,S2,env,h,S3,R2,E.mono (g1.trans g2),e3,λ F3 L3 H3 g3 R3=>?_⟩⟩⟩
  have n:=iF R3 (d1.mono (g2.trans g3)) e4;cases d with
  | tuple xs =>
    cases e5;obtain⟨a,vs,rfl,sq,dl⟩:=n.tup R3.sub;refine⟨a,vs,rfl,sq,?_⟩
    by_cases hw:HT.sIx vs.length 0 l=0/\HT.sIx vs.length vs.length h=vs.length
    ·refine .inl ⟨hw,q F3 L3 H3 _ ((g1.trans g2).trans g3) R3 ?_⟩;have ec:dL xs l h=xs:=by
      unfold dL;rw[dl.length,hw.1,hw.2,yCk,yEp,<- dl.length,yAk]
     rw[ec];rcases n with n | ⟨_,_,_,z,_⟩
     ·exact n
     ·cases z
    ·exact .inr ⟨hw,λ p hp=>q _ L3 _ _ (((g1.trans g2).trans g3).trans (Gr.new (R3.sub.free hp))) (R3.new hp) (Den.tup (bR.of bO) ((aB6 dl l h).mono (eP (R3.sub.free hp))))⟩
  | _=>cases e5
noncomputable def aKe(X:Cx):R2:=λ x y H Q=>∃ a k xs,x=.ref a/\y=.int k/\bK X.K H a xs /\ -(2^63)<=k/\k<2^63/\xs.length*k.toNat<=qk/\∀ p,H p=qz->Q (.ref p) (aT H p (.lst (yAd k.toNat xs).flatten))
noncomputable def uB(fa fb:FE):FL:=λ env S=>(fa env S).bind λ p=>(fb env p.2).bind λ q=>(dr q.2 p.1).bind λ d=>match d,q.1 with
 | .list xs,.d (.int k)=>if k<2^63 /\ -(2^63)<=k/\xs.length*k.toNat<=qk then qq (aEb k.toNat xs,q.2) else qz
 | _,_=>qz
theorem aKH{a b:qw}{pos:Pos}{fa fb:FE}(ha:PE X a (aK X.K fa))(hb:PE X b (aK X.K fb)):PE X (.BinOp a .Mult b pos) (eX X.K (uB fa fb)):=by
 refine PE.weak (aDo (r:=aKe X) (λ aA s σ H x y v u Q I rx ry ⟨a,k,xs,hx,hy,sq,h1,h2,hz,q⟩=>?_) ha hb) λ σ H Q ⟨F,L,S,env,ds,S',R,E,e,q⟩=>?_
 ·subst hx hy;cases rx;obtain⟨t,rfl⟩:=ry;exact aEc I sq h1 h2 hz q
 ·obtain⟨⟨w1,S1⟩,e1,e⟩:=bind_some e;obtain⟨⟨w2,S2⟩,e2,e⟩:=bind_some e;obtain⟨d,e3,e⟩:=bind_some e;dsimp only at e e2 e3;refine⟨F,L,S,env,w1,S1,R,E,e1,λ F1 L1 H1 x g1 R1 d1=>⟨F1,L1,S1,env,w2,S2,R1,E.mono g1,e2,λ F2 L2 H2 y g2 R2 d2=>?_⟩⟩
  cases d with
  | list xs =>
    cases w2 with
    | loc n=>cases e
    | exc c r=>cases e
    | d v =>
      cases v with
      | int kk =>
        dsimp only at e
        split at e
        ·rename_i c;cases e;obtain⟨a,vs,rfl,sq,dl⟩:=(iF R2 (d1.mono g2) e3).lst R2.sub;cases (show Den X.K F2 (.int kk) y from d2)
         exact⟨a,kk,vs,rfl,rfl,sq,c.2.1,c.1,by rw[<- dl.length];exact c.2.2,λ p hp=>q F2 L2 _ p _ (g1.trans g2) (R2.lay hp) (R2.sub.free hp) (R2.notin hp) bO (dl.rep kk.toNat)⟩
        ·cases e
      | _=>cases e
  | _=>cases e
end
structure ZA(z TI TO i1 i2:qv)(fp1 fp2:List qv):Prop where
 TIz:TI≠z
 TOz:TO≠z
 i1z:i1≠z
 i2z:i2≠z
 TITO:TI≠TO
 TIi1:TI≠i1
 TIi2:TI≠i2
 TOi1:TO≠i1
 TOi2:TO≠i2
 f1:∀ b∈fp1,b≠z/\b≠TO/\b≠i2
 f2:∀ b∈fp2,b≠z/\b≠TO/\b≠i1
section
variable {prog : qo}{w : zq}{A : zx}{E : qx -> qj -> Prop}{s : qj}
end
def qE(t:Bool)(h:Heap)(a:qv)(aC:Array qx):Prop:=match t with
 | true=>h.IsTuple a aC
 | false=>h.IsList a aC
def kZ(t:Bool)(h:Heap)(it a:qv)(i:Nat):Prop:=match t with
 | true=>h.IsTupleIter it a i
 | false=>h.IsListIter it a i
theorem kZ.at{t:Bool}{h h':Heap}{it a:qv}{i:Nat}(x:kZ t h it a i)(q:∀ o,h.get? it=qq o->h'.get? it=qq o):kZ t h' it a i:=by
 cases t with
 | true=>exact Heap.IsTupleIter.at (h:=h) x q
 | false=>exact Heap.IsListIter.at (h:=h) x q
theorem kZ.obj{t:Bool}{h:Heap}{it a:qv}{i:Nat}(x:kZ t h it a i):∃ o,h.get? it=qq o/\∀ v,o.data≠.cell v:=by
 cases t with
 | true=>obtain⟨o,ho,hc,hd⟩:=x;exact⟨o,ho,λ v z=>by rw[hd] at z;cases z⟩
 | false=>obtain⟨o,ho,hc,hd⟩:=x;exact⟨o,ho,λ v z=>by rw[hd] at z;cases z⟩
theorem qE.lt{t:Bool}{h:Heap}{a:qv}{aC:Array qx}(x:qE t h a aC):a<h.objs.size:=by
 cases t with
 | true=>obtain⟨o,ho,_⟩:=x;exact xAa ho
 | false=>obtain⟨o,ho,_⟩:=x;exact xAa ho
section
variable {prog : qo}{w : zq}{A : zx}{E : qx -> qj -> Prop}{s : qj}
theorem qE.push{t:Bool}{h:Heap}{a:qv}{aC:Array qx}(x:qE t h a aC)(o:Obj):qE t (h.push o) a aC:=by
 cases t with
 | true=>obtain⟨o,ho,r⟩:=x;exact⟨o,hpS _ ho,r⟩
 | false=>obtain⟨o,ho,r⟩:=x;exact⟨o,hpS _ ho,r⟩
end
section
variable {X : Cx}
noncomputable def aDM:List D->List D->List D
 | a::as,b::bs=>.tuple [a,b]::aDM as bs
 | _,_=>[]
end
section
variable {X : Cx}
noncomputable def zS:W->Option (List D)
 | .d (.list ds)=>qq ds
 | .d (.tuple ds)=>qq ds
 | _=>qz
noncomputable def aL2(fa fb:FE):FL:=λ env S=>(fa env S).bind λ p=>(fb env p.2).bind λ q=>(zS p.1).bind λ ds=>(zS q.1).bind λ es=>qq (aDM ds es,q.2)
end
structure ZB(z TI TO i1 i2 i3:qv)(fp1 fp2 fp3:List qv):Prop where
 TIz:TI≠z
 TOz:TO≠z
 i1z:i1≠z
 i2z:i2≠z
 i3z:i3≠z
 TITO:TI≠TO
 TIi1:TI≠i1
 TIi2:TI≠i2
 TIi3:TI≠i3
 TOi1:TO≠i1
 TOi2:TO≠i2
 TOi3:TO≠i3
 f1:∀ b∈fp1,b≠z/\b≠TO/\b≠i2/\b≠i3
 f2:∀ b∈fp2,b≠z/\b≠TO/\b≠i1/\b≠i3
 f3:∀ b∈fp3,b≠z/\b≠TO/\b≠i1/\b≠i2
section
variable {prog : qo}{w : zq}{A : zx}{E : qx -> qj -> Prop}{s : qj}
end
section
variable {prog : qo}{w : zq}{A : zx}{E : qx -> qj -> Prop}{s : qj}
end
section
variable {X : Cx}
end
section
variable {X : Cx}
end
section
open PySem.SeqAt
open PySem.AutoSeq1 (wpAny_loadPart')
open PySem.MeetsSeq PySem.MeetsSeq2 PySem.MeetsSeq3
theorem mO:∀ {vs:List qx}{ns:List Int}{i:Nat},IntsAre vs ns->i<vs.length->∃ a t,vs[i]? = qq (.int a t)/\ns.drop i=a::ns.drop (i+1)
 | _,_,i,.nil,h=>absurd h (Nat.not_lt_zero i)
 | _,_,0,.cons a t _,_=>⟨a,t,rfl,rfl⟩
 | _,_,i+1,.cons a t r,h=>by
   obtain⟨b,u,h1,h2⟩:=mO (i:=i) r (by simpa using h)
   exact⟨b,u,by simpa using h1,by simpa using h2⟩
end
section
variable {prog : qo}{w : zq}{A : zx}{E : qx -> qj -> Prop}{s : qj}
end
section
variable {X : Cx}
end
section
variable {X : Cx}
end
section
variable {X : Cx}
end
section
variable {X : Cx}
end
section
variable {X : Cx}{tg : qw}
end
abbrev aIn(h:Heap)(z TI TO a:qv)(f:Bool):Prop:=
 h.get? z=qq {cls:=.type "zip",dict:=qz,data:=.fields #[jj a,.bool f,.bool false,.ref TI,.ref TO],slots:=#[] }
section
variable {prog : qo}{w : zq}{A : zx}{E : qx -> qj -> Prop}{s : qj}
end
structure ZW(X:Cx)(aA:List (qv×Obj))(σ:L2.St)(F1:Hp)(L1:List qv)(S1:aB)(SA z TI TO i1 i2:qv)(ds:List D)(H F:Hp)(vs:List V)(s:qj):Prop where
 inv:Inv X aA σ H s
 same:bL F1 F
 rel:Rel X.K F L1 S1 H
 free:F SA=qz
 lst:H SA=qq (.lst vs)
 den:DenL X.K F ds vs
 fp:∀ c∈[z,TI,TO,i1,i2],fQ X aA H c
structure ZH(z TI TO i1 i2 a b:qv)(t u:Bool)(i:Nat)(h:Heap):Prop where
 ti:IsPair h TI (.ref i1) (.ref i2)
 q1:kZ t h i1 a i
 q2:kZ u h i2 b i
 to:∃ o,h.get? TO=qq o
 z:(IsZip h z TI TO .none/\∃ x y,IsPair h TO x y)\/∃ a0 f,aIn h z TI TO a0 f/\∃ o,h.get? a0=qq o
theorem ZH.keep{z TI TO i1 i2 a b:qv}{t u:Bool}{i:Nat}{h h':Heap}(x:ZH z TI TO i1 i2 a b t u i h)(k:∀ c o,c∈[z,TI,TO,i1,i2]->h.get? c=qq o->h'.get? c=qq o)(k2:∀ c o,h.get? c=qq o->∃ o',h'.get? c=qq o'):ZH z TI TO i1 i2 a b t u i h':=by
 refine⟨k _ _ (by simp) x.ti,x.q1.at λ o e=>k _ _ (by simp) e,x.q2.at λ o e=>k _ _ (by simp) e,let ⟨o,e⟩:=x.to;k2 _ _ e,?_⟩
 rcases x.z with ⟨y,p,q,r⟩ | ⟨a0,f,y,o,e⟩
 ·exact .inl ⟨k _ _ (by simp) y,p,q,k _ _ (by simp) r⟩
 ·exact .inr ⟨a0,f,k _ _ (by simp) y,k2 _ _ e⟩
section
variable {X : Cx}{aA : List (qv×Obj)}{σ : L2.St}{F1 : Hp}{L1 : List qv}{S1 : aB}{SA z TI TO i1 i2 a b : qv}{t u : Bool}{ds : List D}{H F : Hp}{vs : List V}{s : qj}{xs ys : List V}{ds1 ds2 : List D}{A : zx}{E : qx -> qj -> Prop}{i : Nat}
end
section
variable {prog : qo}{w : zq}{A : zx}{s : qj}{R : Result -> qj -> Prop}{z TI TO : qv}{f0 : qx}
end
section
variable {prog : qo}{w : zq}{A : zx}{E : qx -> qj -> Prop}{s : qj}{z TI TO : qv}{f0 : qx}
end
section
variable {X : Cx}
end
section
variable {prog : qo}{w : zq}{A : zx}{E : qx -> qj -> Prop}{s : qj}
end
section
variable {X : Cx}{tg : qw}
end
section
variable {X : Cx}
end
noncomputable def gY(fa:FE)(fl fh:FO):FE:=λ env S=>(fa env S).bind λ p=>(fl env p.2).bind λ q=>(fh env q.2).bind λ r=>(dr r.2 p.1).bind λ d=>match d with
 | .list xs=>qq (.d (.list (dL xs q.1 r.1)),r.2)
 | .tuple xs=>qq (.d (.tuple (dL xs q.1 r.1)),r.2)
 | _=>qz
noncomputable def fA(fa:FE):FL:=λ env S=>(fa env S).bind λ p=>match p.1 with
 | .d (.list ds)=>qq (ds,p.2)
 | .d (.tuple ds)=>qq (ds,p.2)
 | _=>qz
section
variable {X : Cx}{pos : Pos}
theorem aLM{a:qw}{lo hi:Option qw}{p2:Pos}{fa:FE}{fl fh:FO}(ha:PE X a (aK X.K fa))(hl:PO X lo (iT X.K fl))(hh:PO X hi (iT X.K fh)):PE X (.Subscript a (.Slice lo hi qz p2) pos) (aK X.K (gY fa fl fh)):=by
 rintro aA s σ H Q I ⟨F,L,S,env,w,S',R,E,e,q⟩;obtain⟨⟨w1,S1⟩,e1,e⟩:=bind_some e;obtain⟨⟨l,S2⟩,e2,e⟩:=bind_some e;obtain⟨⟨h,S3⟩,e3,e⟩:=bind_some e;obtain⟨d,e4,e⟩:=bind_some e;dsimp only at e e2 e3 e4;cases d with
 | list xs =>
   cases e;refine nT (aJ4 ha hl hh) aA s σ H Q I ⟨F,L,S,env,_,_,R,E,?_,q⟩;unfold dF aD7;rw[e1];dsimp only[yCn];rw[e2];dsimp only;rw[e3];dsimp only;rw[e4];rfl
 | tuple xs =>
   cases e;refine aJw ha hl hh aA s σ H Q I ⟨F,L,S,env,_,_,R,E,?_,q⟩;unfold aDE;rw[e1];dsimp only[yCn];rw[e2];dsimp only;rw[e3];dsimp only;rw[e4];dsimp only[aD1]
 | _=>cases e
theorem aLu{tg a:qw}{fa:FE}(ha:PE X a (aK X.K fa)):PI X tg a (jF X.K (fA fa)):=by
 rintro aA s σ H Rr I ⟨F,L,S,env,ds,S',R,E,e,q⟩;obtain⟨⟨w1,S1⟩,e1,e⟩:=bind_some e;dsimp only at e
 split at e
 ·rename_i ds';cases e;refine aKL ha aA s σ H Rr I ⟨F,L,S,env,_,_,R,E,?_,q⟩;unfold aEj;rw[e1];rfl
 ·cases e;refine aKS ha aA s σ H Rr I ⟨F,L,S,env,_,_,R,E,?_,q⟩;unfold aDO;rw[e1];rfl
 ·cases e
end
inductive Ty where
 | int | bool | str | lst | tup
 deriving DecidableEq
noncomputable def Ty.s:Ty->String
 | .int => "int" | .bool => "bool" | .str => "str" | .lst => "list" | .tup => "tuple"
noncomputable def Ty.n:Ty->Str
 | .int => "int" | .bool => "bool" | .str => "str" | .lst => "list" | .tup => "tuple"
noncomputable def iP:Ty->D->Option D
 | _,.dict _=>qz
 | .int,.int _=>qq (.bool true)
 | .int,.bool _=>qq (.bool true)
 | .bool,.bool _=>qq (.bool true)
 | .str,.str _=>qq (.bool true)
 | .lst,.list _=>qq (.bool true)
 | .tup,.tuple _=>qq (.bool true)
 | _,_=>qq (.bool false)
theorem aKJ{i:Int}:iP .int (.int i)=qq (.bool true):=rfl
theorem aKh{i:Int}:iP .bool (.int i)=qq (.bool false):=rfl
theorem aK6{xs:List D}:iP .tup (.tuple xs)=qq (.bool true):=rfl
theorem aLa{b:Bool}:iP .bool (.bool b)=qq (.bool true):=rfl
theorem aKi{b:Bool}:iP .int (.bool b)=qq (.bool true):=rfl
theorem aJa(K:FrG){ty:Ty}{d z:D}(h:iP ty d=qq z):qR K ty.s d=qq z:=by
 cases ty<;>cases d<;>first | (cases h;done) | (cases h;rfl)
inductive B where
 | len | mx | mn | int | abs | tup | sum | all | any
 deriving DecidableEq
noncomputable def B.g:B->List D->Option D
 | .len=>gI | .mx=>tL | .mn=>qG | .int=>qW | .abs=>aAk | .tup=>mR | .sum=>zT | .all=>uE | .any=>tN
noncomputable def B.n:B->Str
 | .len => "len" | .mx => "max" | .mn => "min" | .int => "int" | .abs => "abs" | .tup => "tuple" | .sum => "sum" | .all => "all" | .any => "any"
inductive E where
 | var (i:Nat) | int (i:Int) | bl (b:Bool) | non | str (x:Str)
 | bin (op:jk) (a b:E) | un (op:wj) (a:E) | cmp (op:vz) (a b:E) | ltl (a b:E)
 | and (a b:E) | or (a b:E) | not (a:E) | ite (c a b:E)
 | tup (es:E) | lst (es:E) | nil | cons (a r:E)
 | chn (op op':vz) (a b c:E) | con (x:Str) (ts:List Tv)
 | ix (a b:E) | dsp (k l m:Str) (a b c i:E) | tab (x:Str) (aN:List (Str×Tv)) (k:E) | slL (a lo hi:E) | sl (a lo hi:E) | no
 | call (f:Nat) (es:E) | blt (b:B) (es:E) | isi (a:E) (n:Ty) | bits (a:E) | app (o a:E) | pop (o a:E) | idx (o a:E)
 | lof (a:E) | lzip (a b:E) | lrg1 (a:E) | lrg2 (a b:E) | srt (a:E) | lrev (a:E) | lrep (a b:E) | comp (elt:E) (t:Tg) (it:E) (cond:E)
 | it (a:E) | rng1 (a:E) | rng2 (a b:E) | rng3 (a b c:E) | rrng (a:E) | enm (a:E) | zip (a b:E) | zip3 (a b c:E)
 | fz (a:E) | new (a:E)
abbrev Calls:=Nat->Option (Nat×(List W->aB->Option (W×aB)))
noncomputable def fZ(C:Calls)(f:Nat)(fs:FA):FE:=λ env S=>match C f with
 | some (np,call)=>pY fs np call env S
 | none=>qz
section
variable (C : Calls)
mutual
noncomputable def ev:E->FE
 | .var i=>cP i
 | .int i=>fC (.int i)
 | .bl b=>fC (.bool b)
 | .non=>fC .none
 | .str x=>fC (.str x)
 | .bin op a b=>lX op (ev a) (ev b)
 | .cmp op a b=>fO op (ev a) (ev b)
 | .and a b=>lM (ev a) (ev b)
 | .or a b=>uF (ev a) (ev b)
 | .not a=>tB (ev a)
 | .tup es=>qO (av es)
 | .ix a b=>oC (ev a) (ev b)
 | .tab _ aN k=>f1 (ev k) (eZ (tM aN))
 | .con _ ts=>fC (.tuple (ts.map Tv.d))
 | .sl a lo hi=>gY (ev a) (ov lo) (ov hi)
 | .call f es=>fZ C f (av es)
 | .blt b es=>nP (av es) b.g
 | .isi a n=>f1 (ev a) (eZ (iP n))
 | .app o a=>jX (ev o) (ev a)
 | .fz a=>dF (lv a)
 | .new a=>iX (lv a)
 | _=>λ _ _=>qz
noncomputable def tv:E->FT
 | .and a b=>uC (tv a) (tv b)
 | .or a b=>uV (tv a) (tv b)
 | .not a=>uG (tv a)
 | .var i=>cK (cP i)
 | .cmp op a b=>cK (fO op (ev a) (ev b))
 | .ix a b=>cK (oC (ev a) (ev b))
 | .call f es=>cK (fZ C f (av es))
 | .blt b es=>cK (nP (av es) b.g)
 | .isi a n=>cK (f1 (ev a) (eZ (iP n)))
 | .bin op a b=>cK (lX op (ev a) (ev b))
 | .bl b=>cK (fC (.bool b))
 | .no=>jC
 | _=>λ _ _=>qz
noncomputable def av:E->FA
 | .nil=>gH
 | .cons a r=>dX (ev a) (av r)
 | _=>λ _ _=>qz
noncomputable def ov:E->FO
 | .no=>kA
 | .cons a .nil=>fM (ev a)
 | _=>λ _ _=>qz
noncomputable def lv:E->FL
 | .lst es=>iY (av es)
 | .lof a=>tP (ev a)
 | .lrep a b=>uB (ev a) (ev b)
 | .comp elt t it cond=>dW t (lv it) (tv cond) (ev elt)
 | .it a=>fA (ev a)
 | .rng1 a=>pW (ev a)
 | _=>λ _ _=>qz
end
inductive Sx where
 | skip | seq (a b:Sx) | expr (e:E) | ret (e:E)
 | ifs (c:E) (a b:Sx) | set (i:Nat) (e:E) | setC (nw:Bool) (i:Nat) (e:E) | setT (t:Tg) (e:E) | put (o i e:E)
 | loop (t:Tg) (it:E) (b:Sx)
noncomputable def xs:Sx->FS
 | .skip=>lO
 | .seq a b=>cN (xs a) (xs b)
 | .expr e=>pL (ev C e)
 | .ret e=>iR (ev C e)
 | .ifs c a b=>kX (tv C c) (xs a) (xs b)
 | .set i e=>dY i (ev C e)
 | .setC nw i e=>dY i (match nw with | true=>iX (lv C e) | false=>dF (lv C e))
 | .setT t e=>nA t (ev C e)
 | .put o i e=>lT (ev C o) (ev C i) (ev C e)
 | .loop t it b=>lS t (lv C it) (xs b)
theorem aJk{i}:ev C (.var i)=cP i:=rfl
theorem aIK{i}:ev C (.int i)=fC (.int i):=rfl
theorem aJY{b}:ev C (.bl b)=fC (.bool b):=rfl
theorem aHR:ev C .non=fC .none:=rfl
theorem aIC{x}:ev C (.str x)=fC (.str x):=rfl
theorem aIY{op a b}:ev C (.bin op a b)=lX op (ev C a) (ev C b):=rfl
theorem aIW{op a b}:ev C (.cmp op a b)=fO op (ev C a) (ev C b):=rfl
theorem aIv{a b}:ev C (.and a b)=lM (ev C a) (ev C b):=rfl
theorem aLb{a b}:ev C (.or a b)=uF (ev C a) (ev C b):=rfl
theorem aIq{a}:ev C (.not a)=tB (ev C a):=rfl
theorem aIg{es}:ev C (.tup es)=qO (av C es):=rfl
theorem aKB{a b}:ev C (.ix a b)=oC (ev C a) (ev C b):=rfl
theorem aIR{n0 aN k}:ev C (.tab n0 aN k)=f1 (ev C k) (eZ (tM aN)):=rfl
theorem aHT{n0 ts}:ev C (.con n0 ts)=fC (.tuple (ts.map Tv.d)):=rfl
theorem zD{a lo hi}:ev C (.sl a lo hi)=gY (ev C a) (ov C lo) (ov C hi):=rfl
theorem aHy{f es}:ev C (.call f es)=fZ C f (av C es):=rfl
theorem aIQ{b es}:ev C (.blt b es)=nP (av C es) b.g:=rfl
theorem aIc{a n}:ev C (.isi a n)=f1 (ev C a) (eZ (iP n)):=rfl
theorem aH5{o a}:ev C (.app o a)=jX (ev C o) (ev C a):=rfl
theorem aJ9{a}:ev C (.fz a)=dF (lv C a):=rfl
theorem aIk{a}:ev C (.new a)=iX (lv C a):=rfl
theorem aH7{a b}:tv C (.and a b)=uC (tv C a) (tv C b):=rfl
theorem aJV{a b}:tv C (.or a b)=uV (tv C a) (tv C b):=rfl
theorem aJt{a}:tv C (.not a)=uG (tv C a):=rfl
theorem aI2{i}:tv C (.var i)=cK (cP i):=rfl
theorem aJJ{op a b}:tv C (.cmp op a b)=cK (fO op (ev C a) (ev C b)):=rfl
theorem aJU{a b}:tv C (.ix a b)=cK (oC (ev C a) (ev C b)):=rfl
theorem aGP{f es}:tv C (.call f es)=cK (fZ C f (av C es)):=rfl
theorem aIs{b es}:tv C (.blt b es)=cK (nP (av C es) b.g):=rfl
theorem aIl{a n}:tv C (.isi a n)=cK (f1 (ev C a) (eZ (iP n))):=rfl
theorem aJP{op a b}:tv C (.bin op a b)=cK (lX op (ev C a) (ev C b)):=rfl
theorem aKV{b}:tv C (.bl b)=cK (fC (.bool b)):=rfl
theorem aLc:tv C .no=jC:=rfl
theorem aII:av C .nil=gH:=rfl
theorem aGL{a r}:av C (.cons a r)=dX (ev C a) (av C r):=rfl
theorem aK4:ov C .no=kA:=rfl
theorem aHq{a}:ov C (.cons a .nil)=fM (ev C a):=rfl
theorem aH6{es}:lv C (.lst es)=iY (av C es):=rfl
theorem aIN{a}:lv C (.lof a)=tP (ev C a):=rfl
theorem aHb{a b}:lv C (.lrep a b)=uB (ev C a) (ev C b):=rfl
theorem aHa{elt t it cond}:lv C (.comp elt t it cond)=dW t (lv C it) (tv C cond) (ev C elt):=rfl
theorem pO{a}:lv C (.it a)=fA (ev C a):=rfl
theorem oW{a}:lv C (.rng1 a)=pW (ev C a):=rfl
theorem aBV:xs C .skip=lO:=rfl
theorem lE{a b}:xs C (.seq a b)=cN (xs C a) (xs C b):=rfl
theorem aGz{e}:xs C (.expr e)=pL (ev C e):=rfl
theorem aC4{e}:xs C (.ret e)=iR (ev C e):=rfl
theorem pI{c a b}:xs C (.ifs c a b)=kX (tv C c) (xs C a) (xs C b):=rfl
theorem aCI{i e}:xs C (.set i e)=dY i (ev C e):=rfl
theorem aCr{nw i e}:xs C (.setC nw i e)=dY i (match nw with | true=>iX (lv C e) | false=>dF (lv C e)):=rfl
theorem aHH{t e}:xs C (.setT t e)=nA t (ev C e):=rfl
theorem aIf{o i e}:xs C (.put o i e)=lT (ev C o) (ev C i) (ev C e):=rfl
theorem aGS{t it b}:xs C (.loop t it b)=lS t (lv C it) (xs C b):=rfl
end
theorem no{P:Prop}(h:false=true):P:=by cases h
theorem bQ{a b:Bool}(h:(a&&b)=true):a=true/\b=true:=by
 cases a with
 | false=>exact no h
 | true=>exact⟨rfl,h⟩
theorem aL{a b:Bool}(h:(a&&b)=true):a=true:=(bQ h).1
theorem aR{a b:Bool}(h:(a&&b)=true):b=true:=(bQ h).2
theorem dA{c:Prop}{d:Decidable c}{f:c->Bool}(h:(@dite _ c d f λ _=>false)=true):c:=by
 cases d with
 | isTrue k=>exact k
 | isFalse _=>exact no h
noncomputable def dZ(k:Str->Pos->Bool)(x:qw):Bool:=if h:x.ctorIdx=23 then @Expr.Name.elim (λ _=>Bool) x h k else false
theorem eG{P:qw->Prop}{k:Str->Pos->Bool}{x:qw}(h:dZ k x=true)(g:∀ a b,k a b=true->P (.Name a b)):P x:=@Expr.Name.elim (λ e=>dZ k e=true->P e) x (dA h) g h
noncomputable def kCo(k:Const->Nat->Pos->Bool)(x:qw):Bool:=if h:x.ctorIdx=19 then @Expr.Constant.elim (λ _=>Bool) x h k else false
theorem aLA{P:qw->Prop}{k:Const->Nat->Pos->Bool}{x:qw}(h:kCo k x=true)(g:∀ a b c,k a b c=true->P (.Constant a b c)):P x:=@Expr.Constant.elim (λ e=>kCo k e=true->P e) x (dA h) g h
noncomputable def oA(k:qw->jk->qw->Pos->Bool)(x:qw):Bool:=if h:x.ctorIdx=2 then @Expr.BinOp.elim (λ _=>Bool) x h k else false
theorem aAb{P:qw->Prop}{k:qw->jk->qw->Pos->Bool}{x:qw}(h:oA k x=true)(g:∀ a b c d,k a b c d=true->P (.BinOp a b c d)):P x:=@Expr.BinOp.elim (λ e=>oA k e=true->P e) x (dA h) g h
noncomputable def uT(k:wj->qw->Pos->Bool)(x:qw):Bool:=if h:x.ctorIdx=3 then @Expr.UnaryOp.elim (λ _=>Bool) x h k else false
theorem aD6{P:qw->Prop}{k:wj->qw->Pos->Bool}{x:qw}(h:uT k x=true)(g:∀ a b c,k a b c=true->P (.UnaryOp a b c)):P x:=@Expr.UnaryOp.elim (λ e=>uT k e=true->P e) x (dA h) g h
noncomputable def kCm(k:qw->List vz->List qw->Pos->Bool)(x:qw):Bool:=if h:x.ctorIdx=15 then @Expr.Compare.elim (λ _=>Bool) x h k else false
theorem aLD{P:qw->Prop}{k:qw->List vz->List qw->Pos->Bool}{x:qw}(h:kCm k x=true)(g:∀ a b c d,k a b c d=true->P (.Compare a b c d)):P x:=@Expr.Compare.elim (λ e=>kCm k e=true->P e) x (dA h) g h
noncomputable def kBo(k:BoolOp->List qw->Pos->Bool)(x:qw):Bool:=if h:x.ctorIdx=0 then @Expr.BoolOp.elim (λ _=>Bool) x h k else false
theorem aLO{P:qw->Prop}{k:BoolOp->List qw->Pos->Bool}{x:qw}(h:kBo k x=true)(g:∀ a b c,k a b c=true->P (.BoolOp a b c)):P x:=@Expr.BoolOp.elim (λ e=>kBo k e=true->P e) x (dA h) g h
noncomputable def kT(k:List qw->Nat->Pos->Bool)(x:qw):Bool:=if h:x.ctorIdx=25 then @Expr.Tuple.elim (λ _=>Bool) x h k else false
theorem nM{P:qw->Prop}{k:List qw->Nat->Pos->Bool}{x:qw}(h:kT k x=true)(g:∀ a b c,k a b c=true->P (.Tuple a b c)):P x:=@Expr.Tuple.elim (λ e=>kT k e=true->P e) x (dA h) g h
noncomputable def nW(k:List qw->Pos->Bool)(x:qw):Bool:=if h:x.ctorIdx=24 then @Expr.List.elim (λ _=>Bool) x h k else false
theorem tS{P:qw->Prop}{k:List qw->Pos->Bool}{x:qw}(h:nW k x=true)(g:∀ a b,k a b=true->P (.List a b)):P x:=@Expr.List.elim (λ e=>nW k e=true->P e) x (dA h) g h
noncomputable def uZ(k:qw->qw->Pos->Bool)(x:qw):Bool:=if h:x.ctorIdx=21 then @Expr.Subscript.elim (λ _=>Bool) x h k else false
theorem aEg{P:qw->Prop}{k:qw->qw->Pos->Bool}{x:qw}(h:uZ k x=true)(g:∀ a b c,k a b c=true->P (.Subscript a b c)):P x:=@Expr.Subscript.elim (λ e=>uZ k e=true->P e) x (dA h) g h
noncomputable def kSl(k:Option qw->Option qw->Option qw->Pos->Bool)(x:qw):Bool:=if h:x.ctorIdx=26 then @Expr.Slice.elim (λ _=>Bool) x h k else false
theorem aLn{P:qw->Prop}{k:Option qw->Option qw->Option qw->Pos->Bool}{x:qw}(h:kSl k x=true)(g:∀ a b c d,k a b c d=true->P (.Slice a b c d)):P x:=@Expr.Slice.elim (λ e=>kSl k e=true->P e) x (dA h) g h
noncomputable def uS(k:qw->List qw->List Keyword->Pos->Bool)(x:qw):Bool:=if h:x.ctorIdx=16 then @Expr.Call.elim (λ _=>Bool) x h k else false
theorem aDP{P:qw->Prop}{k:qw->List qw->List Keyword->Pos->Bool}{x:qw}(h:uS k x=true)(g:∀ a b c d,k a b c d=true->P (.Call a b c d)):P x:=@Expr.Call.elim (λ e=>uS k e=true->P e) x (dA h) g h
noncomputable def uK(k:qw->Str->Pos->Bool)(x:qw):Bool:=if h:x.ctorIdx=20 then @Expr.Attribute.elim (λ _=>Bool) x h k else false
theorem aD0{P:qw->Prop}{k:qw->Str->Pos->Bool}{x:qw}(h:uK k x=true)(g:∀ a b c,k a b c=true->P (.Attribute a b c)):P x:=@Expr.Attribute.elim (λ e=>uK k e=true->P e) x (dA h) g h
noncomputable def kLc(k:qw->List Comprehension->zv->Pos->Bool)(x:qw):Bool:=if h:x.ctorIdx=8 then @Expr.ListComp.elim (λ _=>Bool) x h k else false
theorem aL3{P:qw->Prop}{k:qw->List Comprehension->zv->Pos->Bool}{x:qw}(h:kLc k x=true)(g:∀ a b c d,k a b c d=true->P (.ListComp a b c d)):P x:=@Expr.ListComp.elim (λ e=>kLc k e=true->P e) x (dA h) g h
noncomputable def rD(k:qw->Pos->Bool)(x:zy):Bool:=if h:x.ctorIdx=24 then @Stmt.Expr.elim (λ _=>Bool) x h k else false
theorem aAj{P:zy->Prop}{k:qw->Pos->Bool}{x:zy}(h:rD k x=true)(g:∀ a b,k a b=true->P (.Expr a b)):P x:=@Stmt.Expr.elim (λ e=>rD k e=true->P e) x (dA h) g h
noncomputable def uJ(k:Option qw->Pos->Bool)(x:zy):Bool:=if h:x.ctorIdx=3 then @Stmt.Return.elim (λ _=>Bool) x h k else false
theorem aDL{P:zy->Prop}{k:Option qw->Pos->Bool}{x:zy}(h:uJ k x=true)(g:∀ a b,k a b=true->P (.Return a b)):P x:=@Stmt.Return.elim (λ e=>uJ k e=true->P e) x (dA h) g h
noncomputable def uU(k:qw->List zy->List zy->Pos->Bool)(x:zy):Bool:=if h:x.ctorIdx=12 then @Stmt.If.elim (λ _=>Bool) x h k else false
theorem aEa{P:zy->Prop}{k:qw->List zy->List zy->Pos->Bool}{x:zy}(h:uU k x=true)(g:∀ a b c d,k a b c d=true->P (.If a b c d)):P x:=@Stmt.If.elim (λ e=>uU k e=true->P e) x (dA h) g h
noncomputable def fV(k:List qw->qw->Pos->Bool)(x:zy):Bool:=if h:x.ctorIdx=5 then @Stmt.Assign.elim (λ _=>Bool) x h k else false
theorem gW{P:zy->Prop}{k:List qw->qw->Pos->Bool}{x:zy}(h:fV k x=true)(g:∀ a b c,k a b c=true->P (.Assign a b c)):P x:=@Stmt.Assign.elim (λ e=>fV k e=true->P e) x (dA h) g h
noncomputable def uW(k:qw->qw->List zy->List zy->Pos->Bool)(x:zy):Bool:=if h:x.ctorIdx=9 then @Stmt.For.elim (λ _=>Bool) x h k else false
theorem aDN{P:zy->Prop}{k:qw->qw->List zy->List zy->Pos->Bool}{x:zy}(h:uW k x=true)(g:∀ a b c d e,k a b c d e=true->P (.For a b c d e)):P x:=@Stmt.For.elim (λ e=>uW k e=true->P e) x (dA h) g h
noncomputable def eW{α:Type}(k:α->Bool)(l:List α):Bool:=match l with
 | [a]=>k a
 | _=>false
theorem eK{α:Type}{P:List α->Prop}{k:α->Bool}:∀ {l:List α},eW k l=true->(∀ a,k a=true->P [a])->P l
 | [],h,_=>no h
 | [a],h,g=>g a h
 | _::_::_,h,_=>no h
noncomputable def zV{α:Type}(k:α->α->Bool)(l:List α):Bool:=match l with
 | a::r=>eW (k a) r
 | []=>false
theorem aC5{α:Type}{P:List α->Prop}{k:α->α->Bool}:∀ {l:List α},zV k l=true->(∀ a b,k a b=true->P [a,b])->P l
 | [],h,_=>no h
 | a::_,h,g=>eK (P:=λ r=>P (a::r)) h (g a)
theorem dI{α:Type}{P:List α->Prop}:∀ {l:List α},l.isEmpty=true->P []->P l
 | [],_,g=>g
 | _::_,h,_=>no h
noncomputable def qL{α:Type}(o:Option α):Bool:=match o with
 | none=>true
 | some _=>false
theorem sY{α:Type}{P:Option α->Prop}:∀ {o:Option α},qL o=true->P qz->P o
 | none,_,g=>g
 | some _,h,_=>no h
theorem nC{α:Type}{P:Option α->Prop}{k:α->Bool}:∀ {o:Option α},o.any k=true->(∀ a,k a=true->P (qq a))->P o
 | none,h,_=>no h
 | some a,h,g=>g a h
theorem dT{p:Prop}{d:Decidable p}(h:decide p=true):p:=oqT h
noncomputable def gL(sc:zv)(x:Str):Bool:=match sc.names.lookup x with
 | some .local=>true | some .cell=>true | some .free=>true | _=>false
noncomputable def loc(sc:zv)(x:Str):Bool:=match sc.names.lookup x with
 | some .local=>true | some .cell=>true | _=>false
noncomputable def aDy(e:E):Bool:=decide (e.ctorIdx=E.nil.ctorIdx)
theorem aLW{P:E->Prop}{e:E}(h:aDy e=true)(g:P .nil):P e:=@E.nil.elim P e (dT h) g
theorem aGj{α:Type}{o:Option α}{p:α->Bool}(h:o.any p=true):∃ a,o=qq a/\p a=true:=by
 cases o with
 | none=>cases h
 | some a=>exact⟨a,rfl,h⟩
noncomputable def lo(sc:zv)(x:Str):Bool:=decide (sc.names.lookup x=qq .local)
noncomputable def gl(sc:zv)(x:Str):Bool:=decide (sc.names.lookup x=qq .globalImplicit)
noncomputable def bP(e:qw):Bool:=![7,22,26].contains e.ctorIdx
noncomputable def iQ(e:qw):Bool:=![0,3,5,15].contains e.ctorIdx
noncomputable def sR(e:qw):Bool:=![16].contains e.ctorIdx
noncomputable def dS(e:qw):Bool:=![8,9,10].contains e.ctorIdx
noncomputable def yY(e:qw):Bool:=kT (λ _ _ _=>true) e
noncomputable def jK:List qw->Bool
 | []=>true
 | e::r=>bP e&&jK r
noncomputable def lU(scope osc:zv):zv:={scope with names:=scope.names.map λ(n,k)=>if (k==.free&&osc.kind==.function&&osc.names.lookup n==qq .cell) then (n,.cell) else (n,k) }
noncomputable def zB(scope osc:zv):Bool:=decide (scope.kind=.function)&&scope.names.all λ x=>(!decide (x.2=.cell))&&(!decide (x.2=.free)||decide (osc.names.lookup x.1=qq .cell)||decide (osc.names.lookup x.1=qq .free))&&(!decide (x.2=.local)||decide (scope.names.lookup x.1=qq .local))
noncomputable def uD(N:List Str)(scope:zv)(is:List Nat):Nat->Bool
 | 0=>true
 | n+1=>uD N scope is n&&(match N[n]? with
   | some x=>!decide (scope.names.lookup x=qq .local)||is.contains n
   | none=>true)
noncomputable def yF(b:Bool)(N:List Str)(sc:zv)(i:Nat)(x:Str):Bool:=decide (N[i]? = qq x)&&(match b with
 | true=>decide (sc.names.lookup x=qq .local)
 | false=>loc sc x)
noncomputable def xM(b:Bool)(N:List Str)(sc:zv):List Nat->List qw->Bool
 | [],es=>es.isEmpty
 | i::is,es=>(match es with
   | e::r=>dZ (λ x _=>yF b N sc i x&&xM b N sc is r) e
   | []=>false)
noncomputable def nL(b:Bool)(N:List Str)(sc:zv)(t:Tg)(e:qw):Bool:=match t with
 | .one i=>dZ (λ x _=>yF b N sc i x) e
 | .many is=>kT (λ es _ _=>xM b N sc is es) e
noncomputable def aB9(e:E):Bool:=decide (e.ctorIdx=(E.comp .no (.one 0) .no .no).ctorIdx)
theorem aLI{P:E->Prop}{e:E}(h:aB9 e=true)(g:∀ a t b c,P (.comp a t b c)):P e:=@E.comp.elim P e (dT h) g
noncomputable def zU(e:E):Bool:=decide (e.ctorIdx=E.no.ctorIdx)
theorem aDW{P:E->Prop}{e:E}(h:zU e=true)(g:P .no):P e:=@E.no.elim P e (dT h) g
noncomputable def jW(c:Const)(e:qw):Bool:=kCo (λ d _ _=>decide (d=c)) e
theorem lN{P:qw->Prop}{c:Const}{x:qw}(h:jW c x=true)(g:∀ k p,P (.Constant c k p)):P x:=
 aLA h λ _ k p z=>(dT z)▸g k p
noncomputable def tY(k:qw->vz->qw->Bool)(e:qw):Bool:=kCm (λ x os ys _=>eW (λ o=>eW (λ y=>k x o y&&bP y) ys) os) e
theorem zM{P:qw->Prop}{k:qw->vz->qw->Bool}{x:qw}(h:tY k x=true)(g:∀ a o b p,k a o b=true->bP b=true->P (.Compare a [o] [b] p)):P x:=
 aLD h λ a os _ p z=>eK (P:=λ os=>P (.Compare a os _ p)) z λ o z=>eK (P:=λ ys=>P (.Compare a [o] ys p)) z λ b z=>g a o b p (aL z) (aR z)
noncomputable def nH(op:BoolOp)(k:qw->qw->Bool)(e:qw):Bool:=kBo (λ o es p=>decide (o=op)&&(match es with
 | [x,y]=>k x y
 | x::y::z::r=>k x (.BoolOp op (y::z::r) p)
 | _=>false)) e
theorem pE{P:qw->Prop}{op:BoolOp}{k:qw->qw->Bool}{x:qw}(h:nH op k x=true)(g:∀ a b p,k a b=true->P (.BoolOp op [a,b] p))(f:∀ a b c r p,k a (.BoolOp op (b::c::r) p)=true->P (.BoolOp op (a::b::c::r) p)):P x:=
 aLO h λ o es p z=>by
  obtain rfl:=dT (aL z)
  match es,aR z with
  | [a,b],z=>exact g a b p z
  | a::b::c::r,z=>exact f a b c r p z
  | [],z=>exact no z
  | [_],z=>exact no z
noncomputable def rJ(k:qw->qw->Bool)(e:qw):Bool:=uZ (λ x y _=>k x y&&bP y) e
theorem zP{P:qw->Prop}{k:qw->qw->Bool}{x:qw}(h:rJ k x=true)(g:∀ a b p,k a b=true->bP b=true->P (.Subscript a b p)):P x:=aEg h λ a b p z=>g a b p (aL z) (aR z)
noncomputable def aDT(k:qw->Option qw->Option qw->Bool)(e:qw):Bool:=uZ (λ x s _=>kSl (λ l h t _=>qL t&&k x l h) s) e
theorem aJ1{P:qw->Prop}{k:qw->Option qw->Option qw->Bool}{x:qw}(h:aDT k x=true)(g:∀ a l u p q,k a l u=true->P (.Subscript a (.Slice l u qz p) q)):P x:=
 aEg h λ a _ q z=>aLn (P:=λ s=>P (.Subscript a s q)) z λ l u _ p z=>sY (P:=λ t=>P (.Subscript a (.Slice l u t p) q)) (aL z) (g a l u p q (aR z))
noncomputable def gD(k:Str->List qw->Bool)(e:qw):Bool:=uS (λ f xs ks _=>dZ (λ n _=>ks.isEmpty&&k n xs) f) e
theorem jO{P:qw->Prop}{k:Str->List qw->Bool}{x:qw}(h:gD k x=true)(g:∀ n p xs q,k n xs=true->P (.Call (.Name n p) xs [] q)):P x:=
 aDP h λ _ xs ks q z=>eG (P:=λ f=>P (.Call f xs ks q)) z λ n p z=>dI (P:=λ ks=>P (.Call (.Name n p) xs ks q)) (aL z) (g n p xs q (aR z))
noncomputable def kB1(nm:Str)(sc:zv)(k:qw->Bool)(e:qw):Bool:=gD (λ n xs=>decide (n=nm)&&gl sc n&&eW (λ y=>k y&&bP y) xs) e
theorem aEd{P:qw->Prop}{nm:Str}{sc:zv}{k:qw->Bool}{x:qw}(h:kB1 nm sc k x=true)(g:∀ p y q,gl sc nm=true->k y=true->bP y=true->P (.Call (.Name nm p) [y] [] q)):P x:=
 jO h λ n p xs q z=>by
  obtain rfl:=dT (aL (aL z));exact eK (P:=λ xs=>P (.Call (.Name n p) xs [] q)) (aR z) λ y u=>g p y q (aR (aL z)) (aL u) (aR u)
noncomputable def nZ(nm:Str)(sc:zv)(k l:qw->Bool)(e:qw):Bool:=gD (λ n xs=>decide (n=nm)&&gl sc n&&zV (λ y z=>(k y&&bP y)&&(l z&&bP z)) xs) e
theorem tV{P:qw->Prop}{nm:Str}{sc:zv}{k l:qw->Bool}{x:qw}(h:nZ nm sc k l x=true)(g:∀ p y z q,gl sc nm=true->k y=true->bP y=true->l z=true->bP z=true->P (.Call (.Name nm p) [y,z] [] q)):P x:=
 jO h λ n p xs q z=>by
  obtain rfl:=dT (aL (aL z));exact aC5 (P:=λ xs=>P (.Call (.Name n p) xs [] q)) (aR z) λ y w u=>g p y w q (aR (aL z)) (aL (aL u)) (aR (aL u)) (aL (aR u)) (aR (aR u))
noncomputable def kMe(nm:Str)(k:qw->List qw->Bool)(e:qw):Bool:=uS (λ f xs ks cp=>uK (λ o m ap=>ks.isEmpty&&(ap.endLine==cp.line)&&decide (m=nm)&&sR o&&k o xs) f) e
theorem aLg{P:qw->Prop}{nm:Str}{k:qw->List qw->Bool}{x:qw}(h:kMe nm k x=true)(g:∀ o ap xs cp,(ap.endLine==cp.line)=true->sR o=true->k o xs=true->P (.Call (.Attribute o nm ap) xs [] cp)):P x:=
 aDP h λ _ xs ks cp z=>aD0 (P:=λ f=>P (.Call f xs ks cp)) z λ o m ap z=>by
  obtain rfl:=dT (aR (aL (aL z)));exact dI (P:=λ ks=>P (.Call (.Attribute o m ap) xs ks cp)) (aL (aL (aL (aL z)))) (g o ap xs cp (aR (aL (aL (aL z)))) (aR (aL z)) (aR z))
noncomputable def aAc(nm:Str)(k l:qw->Bool)(e:qw):Bool:=kMe nm (λ o xs=>k o&&eW (λ y=>l y&&bP y) xs) e
theorem aC6{P:qw->Prop}{nm:Str}{k l:qw->Bool}{x:qw}(h:aAc nm k l x=true)(g:∀ o ap y cp,(ap.endLine==cp.line)=true->sR o=true->k o=true->l y=true->bP y=true->P (.Call (.Attribute o nm ap) [y] [] cp)):P x:=
 aLg h λ o ap xs cp h1 h2 z=>eK (P:=λ xs=>P (.Call (.Attribute o nm ap) xs [] cp)) (aR z) λ y u=>g o ap y cp h1 h2 (aL z) (aL u) (aR u)
noncomputable def aDA(k:qw->qw->qw->List qw->zv->Bool)(e:qw):Bool:=kLc (λ el gs sc _=>eW (λ g=>decide (g.is_async=0)&&k el g.target g.iter g.ifs sc) gs) e
theorem aJG{P:qw->Prop}{k:qw->qw->qw->List qw->zv->Bool}{x:qw}(h:aDA k x=true)(g:∀ e tg it ifs sc p,k e tg it ifs sc=true->P (.ListComp e [⟨tg,it,ifs,0⟩] sc p)):P x:=
 aL3 h λ e _ sc p z=>eK (P:=λ gs=>P (.ListComp e gs sc p)) z λ aO z=>by
  obtain⟨tg,it,ifs,as⟩:=aO;obtain rfl:as=0:=dT (aL z);exact g e tg it ifs sc p (aR z)
noncomputable def aAf(N:List Str)(t:Tg)(cond:E)(sc:zv)(fI:qw->qw->Bool)(fT fE:zv->qw->Bool)(x:qw):Bool:=aDA (λ e tg iter ifs scope=>zB scope sc&&uD N scope t.slots N.length&&nL true N (lU scope sc) t tg&&fI tg iter&&bP iter &&
 (match ifs with | []=>zU cond | y::r=>r.isEmpty&&fT (lU scope sc) y)&&fE (lU scope sc) e) x
theorem zX{P:qw->Prop}{N:List Str}{t:Tg}{cond:E}{sc:zv}{fI:qw->qw->Bool}{fT fE:zv->qw->Bool}{x:qw}(h:aAf N t cond sc fI fT fE x=true)(g:∀ e tg iter ifs scope p,zB scope sc=true->uD N scope t.slots N.length=true->nL true N (lU scope sc) t tg=true->fI tg iter=true->bP iter=true->(match ifs with | []=>zU cond | y::r=>r.isEmpty&&fT (lU scope sc) y)=true->fE (lU scope sc) e=true->P (.ListComp e [⟨tg,iter,ifs,0⟩] scope p)):P x:=
 aJG h λ e tg iter ifs scope p h=>g e tg iter ifs scope p (aL (aL (aL (aL (aL (aL h)))))) (aR (aL (aL (aL (aL (aL h)))))) (aR (aL (aL (aL (aL h))))) (aR (aL (aL (aL h)))) (aR (aL (aL h))) (aR (aL h)) (aR h)
structure Tx where
 fn:List (Str×Nat)
 tb:List (Str×List (Str×Tv))
 cn:List (Str×List Tv)
section
variable (T : Tx)(N : List Str)
mutual
noncomputable def bH:E->zv->qw->Bool
 | .var i,sc,x=>dZ (λ x _=>decide (N[i]? = qq x)&&gL sc x && !(x==("__debug__" : Str)) && !(x==("__classdict__" : Str))) x
 | .int i,_,x=>jW (.int i) x
 | .bl i,_,x=>jW (.bool i) x
 | .non,_,x=>jW .none x
 | .str i,_,x=>jW (.str i) x
 | .bin op a b,sc,x=>oA (λ x op' y _=>decide (op'=op)&&bH a sc x&&bH b sc y) x
 | .cmp op a b,sc,x=>tY (λ x op' y=>decide (op'=op)&&bH a sc x&&bH b sc y) x
 | .and a b,sc,x=>nH .And (λ x y=>bH a sc x&&bH b sc y) x
 | .or a b,sc,x=>nH .Or (λ x y=>bH a sc x&&bH b sc y) x
 | .not a,sc,x=>uT (λ o x _=>decide (o=.Not)&&bH a sc x) x
 | .tup es,sc,x=>kT (λ xs _ _=>jH es sc xs) x
 | .ix a b,sc,x=>rJ (λ x y=>bH a sc x&&bH b sc y) x
 | .con n ts,sc,x=>dZ (λ x _=>decide (x=n)&&T.cn.contains (n,ts)&&gl sc x && !(x==("__debug__" : Str))) x
 | .tab n aN k,sc,x=>rJ (λ x y=>bH k sc y&&dZ (λ x _=>decide (x=n)&&T.tb.contains (n,aN)&&gl sc x && !(x==("__debug__" : Str))) x) x
 | .sl a lo hi,sc,x=>aDT (λ x l h=>bH a sc x&&okO lo sc l&&okO hi sc h) x
 | .call f es,sc,x=>gD (λ x xs=>decide ((T.fn[f]?).map (·.1)=qq x)&&gl sc x && !(x==("__debug__" : Str))&&jH es sc xs&&jK xs) x
 | .blt b es,sc,x=>gD (λ x ys=>!ys.isEmpty&&decide (x=b.n)&&gl sc x&&jH es sc ys&&jK ys) x
 | .isi a n,sc,x=>nZ "isinstance" sc (λ y=>bH a sc y) (λ z=>dZ (λ z _=>decide (z=n.n)&&gl sc z) z) x
 | .app o a,sc,x=>aAc "append" (λ x=>bH o sc x) (λ y=>bH a sc y) x
 | .fz a,sc,e=>rH a sc e
 | .new a,sc,e=>rH a sc e
 | _,_,_=>false
noncomputable def jE:E->zv->qw->Bool
 | .and a b,sc,x=>nH .And (λ x y=>jE a sc x&&jE b sc y) x
 | .or a b,sc,x=>nH .Or (λ x y=>jE a sc x&&jE b sc y) x
 | .not a,sc,x=>uT (λ o x _=>decide (o=.Not)&&jE a sc x) x
 | .cmp op a b,sc,x=>tY (λ x op' y=>decide (op'=op)&&bH a sc x&&bH b sc y) x
 | .var i,sc,x=>dZ (λ x _=>decide (N[i]? = qq x)&&gL sc x && !(x==("__debug__" : Str)) && !(x==("__classdict__" : Str))) x&&iQ x
 | .bl i,_,x=>jW (.bool i) x&&iQ x
 | .bin op a b,sc,x=>oA (λ x op' y _=>decide (op'=op)&&bH a sc x&&bH b sc y) x&&iQ x
 | .ix a b,sc,x=>rJ (λ x y=>bH a sc x&&bH b sc y) x&&iQ x
 | .call f es,sc,x=>gD (λ x xs=>decide ((T.fn[f]?).map (·.1)=qq x)&&gl sc x && !(x==("__debug__" : Str))&&jH es sc xs&&jK xs) x&&iQ x
 | .blt b es,sc,x=>gD (λ x ys=>!ys.isEmpty&&decide (x=b.n)&&gl sc x&&jH es sc ys&&jK ys) x&&iQ x
 | .isi a n,sc,x=>nZ "isinstance" sc (λ y=>bH a sc y) (λ z=>dZ (λ z _=>decide (z=n.n)&&gl sc z) z) x&&iQ x
 | _,_,_=>false
noncomputable def jH:E->zv->List qw->Bool
 | .nil,_,xs=>xs.isEmpty
 | .cons a r,sc,xs=>(match xs with
   | x::xs=>bH a sc x&&bP x&&jH r sc xs
   | []=>false)
 | _,_,_=>false
noncomputable def okO:E->zv->Option qw->Bool
 | .no,_,x=>qL x
 | .cons a r,sc,x=>aDy r&&x.any λ x=>bH a sc x
 | _,_,_=>false
noncomputable def rH:E->zv->qw->Bool
 | .lst es,sc,x=>nW (λ xs _=>jH es sc xs) x
 | .lof a,sc,x=>kB1 "list" sc (λ y=>bH a sc y) x
 | .lrep a b,sc,x=>oA (λ x o y _=>decide (o=.Mult)&&bH a sc x&&bH b sc y) x
 | .comp elt t it cond,sc,x=>aAf N t cond sc (λ g y=>qZ it sc g y) (λ s y=>jE cond s y) (λ s y=>bH elt s y) x
 | _,_,_=>false
noncomputable def qZ:E->zv->qw->qw->Bool
 | .it a,sc,_,x=>bH a sc x
 | .rng1 a,sc,_,x=>kB1 "range" sc (λ y=>bH a sc y) x
 | _,_,_,_=>false
end
mutual
noncomputable def okS:Sx->zv->zy->Bool
 | .expr e,sc,st=>rD (λ x _=>bH T N e sc x&&dS x) st
 | .ret e,sc,st=>uJ (λ v _=>v.any λ x=>bH T N e sc x) st
 | .ifs c a b,sc,st=>uU (λ x y z _=>jE T N c sc x&&iV a sc y&&iV b sc z) st
 | .set i e,sc,st=>fV (λ ts y _=>bH T N e sc y&&dS y&&eW (λ t=>dZ (λ x _=>decide (N[i]? = qq x)&&loc sc x) t) ts) st
 | .setC _ i e,sc,st=>fV (λ ts y _=>aB9 e&&rH T N e sc y&&eW (λ t=>dZ (λ x _=>decide (N[i]? = qq x)&&loc sc x) t) ts) st
 | .setT t e,sc,st=>fV (λ ts y _=>bH T N e sc y&&dS y && !yY y&&eW (λ tg=>yY tg&&nL false N sc t tg) ts) st
 | .put o i e,sc,st=>fV (λ ts z _=>bH T N e sc z&&dS z&&eW (λ t=>rJ (λ x y=>bH T N o sc x&&bH T N i sc y) t) ts) st
 | .loop t it b,sc,st=>uW (λ tg x y z _=>z.isEmpty&&nL false N sc t tg&&qZ T N it sc tg x&&bP x&&iV b sc y) st
 | _,_,_=>false
noncomputable def iV:Sx->zv->List zy->Bool
 | .skip,_,l=>l.isEmpty
 | .seq a b,sc,l=>(match l with
   | st::r=>okS a sc st&&iV b sc r
   | []=>false)
 | _,_,_=>false
end
end
noncomputable def bltNames:List Str:=["len", "max", "min", "int", "abs", "tuple", "sum", "all", "any", "isinstance", "list", "range", "enumerate", "bool", "str", "reversed", "zip", "sorted"]
structure Ctx(T:Tx)(C:Calls)(X:Cx):Prop where
 nd:X.N.Nodup
 calm:X.calm=true
 xe:X.xe=λ _ _=>False
 kind:X.env.scope.kind=.function
 room:∃ k,Room k X.A/\∀ f np call x,C f=qq (np,call)->(T.fn[f]?).map (·.1)=qq x->∃ fa fd ps,X.mg x=qq (.ref fa)/\yBg X.K (.ref fa)=true/\cS X.K fd ps []/\FnOk X.prog X.w X.K X.mg X.base eA k fa fd ps (gX X.K np call)
 blt:∀ x∈bltNames,X.mg x=qz
 tbs:∀ x aN,(x,aN)∈T.tb->∃ a,X.mg x=qq (.ref a)/\mZ X.K X.w a aN
 cns:∀ x ts,(x,ts)∈T.cn->∃ a,X.mg x=qq (.ref a)/\lJ X.K a ts
theorem Ctx.units{T:Tx}{C:Calls}{X:Cx}(h:Ctx T C X):X.A.units+64<cLine:=let ⟨_,r,_⟩:=h.room;r.units
theorem Ctx.own{T:Tx}{C:Calls}{X:Cx}(h:Ctx T C X):PassesOwn (model X.prog X.w) X.A X.env X.xe:=by rw[h.xe];exact PassesOwn.never
theorem Ctx.comp{T:Tx}{C:Calls}{X Y:Cx}{scope:zv}(h:Ctx T C X)(hk:scope.kind=.function)(hy:gS X scope Y):Ctx T C Y/\Y.env.scope=lU scope X.env.scope/\Y.N=X.N/\Y.K=X.K:=by
 obtain⟨aA,fp,Ca,s₀,H₀,rfl⟩:=hy;exact⟨⟨h.nd,h.calm,rfl,hk,h.room,h.blt,h.tbs,h.cns⟩,rfl,rfl,rfl⟩
theorem cU{e:qw}(h:bP e=true)(es:List qw)(env:Env):zj (e::es) env=(false,eval e env)::zj es env:=by
 cases e<;>first | rfl | exact no h
theorem oU:∀ {es:List qw} (h:jK es=true) (env:Env) (pos:Pos),(backTo pos (zj es env)).any (·.1)=false
 | [],_,_,_=>rfl
 | e::es,h,env,pos=>by
   obtain⟨h1,h2⟩:=bQ h;rw[cU h1];show(false||(backTo pos (zj es env)).any (·.1))=false
   rw[oU h2 env pos];rfl
theorem aDF{e:qw}(h:bP e=true):sE e:=by
 intro o i;cases e<;>first | rfl | exact no h
theorem xC{e:qw}(h:bP e=true)(op:vz):jv op e=false:=by
 cases e<;>first | rfl | exact no h
theorem oP{e:qw}(h:bP e=true)(env:Env)(x:qx):xy e env x=pure x:=by
 cases e<;>first | rfl | exact no h
theorem oX{e:qw}(h:sR e=true)(m:Str)(env:Env):attributeBase e m env (eval e env)=eval e env:=by
 cases e<;>first | rfl | exact no h
theorem kD{e:qw}(h:dS e=true)(t:Option qw)(line:Nat)(env:Env):swapsWith e t line env=pure false:=by
 cases e<;>first | rfl | exact no h
theorem aJl{e:qw}(h:iQ e=true)(env:Env)(dG:Sem qx):isTrue e env dG=(do let v <- dG;standAt e.pos;holding [v] (truthy v)):=by
 cases e<;>first | rfl | exact no h
theorem aFI{o i:qw}{pos:Pos}{env:Env}(h:bP i=true)(v:qx):assign (.Subscript o i pos) env v=(do
 let ov <- holding [v] (eval o env)
 let iv <- holding [v,ov] (eval i env)
 standAt pos
 holding [v,ov,iv] (setItem ov iv v)
 release [v,ov,iv] []):=by
 cases i<;>first | rfl | exact no h
section
variable {X : Cx}
theorem yL{x:Str}(h:gL X.env.scope x=true):kC X.env.scope x:=by
 unfold gL at h;unfold kC
 split at h<;>first | exact .inl (by assumption) | exact .inr (.inl (by assumption)) | exact .inr (.inr (by assumption)) | exact no h
theorem mU{x:Str}(h:loc X.env.scope x=true):L2.Loc X.env.scope x:=by
 unfold loc at h;unfold L2.Loc
 split at h<;>first | exact .inl (by assumption) | exact .inr (by assumption) | exact no h
theorem dH{x:Str}(h:gl X.env.scope x=true):Gl X x:=(oqT h:X.env.scope.names.lookup x=qq .globalImplicit)
theorem cX{x y:Str}(h:(!(x==y))=true):(x==y)=false:=by
 cases e:x==y with
 | false=>rfl
 | true=>rw[e] at h;exact no h
def xX(b:Bool)(X:Cx):Prop:=b=true\/∀ x,X.fn x=true
theorem aB3{b:Bool}(st:xX b X){i:Nat}{x:Str}(h:yF b X.N X.env.scope i x=true):X.N[i]? = qq x/\L2.Loc X.env.scope x/\(X.fn x=true\/X.env.scope.names.lookup x=qq .local):=by
 obtain⟨h1,h2⟩:=bQ h;cases b with
 | true =>
   have h3:=oqT h2;exact⟨oqT h1,.inl h3,.inr h3⟩
 | false =>
   refine⟨oqT h1,mU h2,?_⟩;rcases st with z | z
   ·cases z
   ·exact .inl (z x)
noncomputable def qU:List Nat->fU
 | []=>zQ
 | i::is=>yS (kN i) (qU is)
noncomputable def mD(K:FrG):Tg->TG
 | .one i=>kN i
 | .many is=>zW K is.length (qU is)
theorem aCH(K:FrG):∀ is:List Nat,rC K is (qU is)
 | []=>aHD
 | _::is=>aGm (aCH K is)
theorem nG(K:FrG)(t:Tg):GA K t (mD K t):=by
 cases t with
 | one i=>exact aH8 i
 | many is=>exact aHC (aCH K is)
theorem aBQ{b:Bool}(st:xX b X)(nd:X.N.Nodup):∀ {is:List Nat}{es:List qw},xM b X.N X.env.scope is es=true->mB X es (qU is)/\(xq es X.env).length=is.length/\(xq es X.env).findIdx? (·.1)=qz
 | [],[],_=>⟨aHe,rfl,rfl⟩
 | [],_::_,h=>no h
 | _::_,[],h=>no h
 | i::is,e::r,h=>eG (P:=λ e=>mB X (e::r) (qU (i::is))/\(xq (e::r) X.env).length=(i::is).length/\(xq (e::r) X.env).findIdx? (·.1)=qz) h λ x p h=>by
   obtain⟨a1,a2,a3⟩:=aB3 st (aL h);obtain⟨pg,hl2,hf⟩:=aBQ st nd (aR h);refine⟨aGn (xL nd a1 a2 a3) pg rfl,?_,?_⟩
   ·show((false,assign (.Name x p) X.env)::xq r X.env).length=_;rw[yCi,yCi,hl2]
   ·show((false,assign (.Name x p) X.env)::xq r X.env).findIdx? (·.1)=qz;rw[List.findIdx?_cons,hf];rfl
theorem nI{b:Bool}(st:xX b X)(nd:X.N.Nodup)(hc:X.calm=true){t:Tg}{tg:qw}(h:nL b X.N X.env.scope t tg=true):PG X tg (mD X.K t):=by
 cases t with
 | one i=>exact eG (P:=λ e=>PG X e (kN i)) h λ x p h=>let ⟨a1,a2,a3⟩:=aB3 st h;xL nd a1 a2 a3
 | many is=>exact nM (P:=λ e=>PG X e (mD X.K (.many is))) h λ es k p h=>let ⟨pg,hl2,hf⟩:=aBQ st nd h;aJd hc pg hl2 hf
end
section
variable (T : Tx)(C : Calls)
def SE(c:E):Prop:=∀ X,Ctx T C X->∀ x,bH T X.N c X.env.scope x=true->PE X x (aK X.K (ev C c))
def ST(c:E):Prop:=∀ X,Ctx T C X->∀ x,jE T X.N c X.env.scope x=true->PT X x (dP X.K (tv C c))/\∀ op es p,x=.BoolOp op es p->PW X x (dP X.K (tv C c))
def SA(c:E):Prop:=∀ X,Ctx T C X->∀ x,jH T X.N c X.env.scope x=true->PA X x (dE X.K (av C c))
def SO(c:E):Prop:=∀ X,Ctx T C X->∀ x,okO T X.N c X.env.scope x=true->PO X x (iT X.K (ov C c))
def SL(c:E):Prop:=∀ X,Ctx T C X->∀ x,rH T X.N c X.env.scope x=true->PE X x (eX X.K (lv C c))
def SI(c:E):Prop:=∀ X,Ctx T C X->∀ tg x,qZ T X.N c X.env.scope tg x=true->PI X tg x (jF X.K (lv C c))
end
section
variable {T : Tx}{C : Calls}
theorem aG3{X:Cx}{x:qw}{f:FE}(h:∀ env S,f env S=qz):PE X x (aK X.K f):=λ aA s σ H Q I aO=>by
 obtain⟨F,L,S,env,w,S',R,E,e,q⟩:=aO;rw[h] at e;cases e
theorem aKw{X:Cx}{x:qw}{f:FE}(h:PE X x (aK X.K f))(ht:iQ x=true):PT X x (dP X.K (cK f))/\∀ op es p,x=.BoolOp op es p->PW X x (dP X.K (cK f)):=
 ⟨aKd h λ dG=>aJl ht X.env dG,λ op es p e=>by subst e;exact no ht⟩
theorem aCD(i:Nat):SE T C (.var i):=λ X hX x hx=>eG (P:=λ x=>PE X x _) hx λ y p h=>zK (dT (aL (aL (aL h)))) (yL (aR (aL (aL h)))) (cX (aR (aL h))) (cX (aR h))
theorem aJf(i:Int):SE T C (.int i):=λ X hX x h=>lN (P:=λ x=>PE X x _) h λ k p=>aJQ
theorem aDr(i:Bool):SE T C (.bl i):=λ X hX x h=>lN (P:=λ x=>PE X x _) h λ k p=>aDX
theorem aIJ:SE T C .non:=λ X hX x h=>lN (P:=λ x=>PE X x _) h λ k p=>aKT
theorem aIb(i:Str):SE T C (.str i):=λ X hX x h=>lN (P:=λ x=>PE X x _) h λ k p=>aDe
theorem aCQ{op:jk}{a b:E}(ha:SE T C a)(hb:SE T C b):SE T C (.bin op a b):=λ X hX x hx=>aAb (P:=λ x=>PE X x _) hx λ l o r p h=>by
 obtain rfl:=dT (aL (aL h));exact aC7 (ha X hX _ (aR (aL h))) (hb X hX _ (aR h))
theorem aH2{op:vz}{a b:E}(ha:SE T C a)(hb:SE T C b):SE T C (.cmp op a b):=λ X hX x hx=>zM (P:=λ x=>PE X x _) hx λ l o r p h h4=>by
 obtain rfl:=dT (aL (aL h));exact aC8 hX.units (ha X hX _ (aR (aL h))) (hb X hX _ (aR h)) (xC h4 o)
theorem aDg{X:Cx}{x:qw}{t:TT}(h:PT X x t)(n:x.ctorIdx≠0):PT X x t/\∀ op es p,x=.BoolOp op es p->PW X x t:=
 ⟨h,λ op es p e=>absurd (congrArg Expr.ctorIdx e) n⟩
theorem aIX{op:vz}{a b:E}(ha:SE T C a)(hb:SE T C b):ST T C (.cmp op a b):=λ X hX x hx=>zM (P:=λ x=>PT X x _/\∀ op es p,x=.BoolOp op es p->PW X x _) hx λ l o r p h h4=>by
 obtain rfl:=dT (aL (aL h));exact aDg (aJn hX.units (ha X hX _ (aR (aL h))) (hb X hX _ (aR h)) (xC h4 o)) (Nat.succ_ne_zero 14)
theorem aHV{n:Str}{ts:List Tv}:SE T C (.con n ts):=λ X hX x hx=>eG (P:=λ x=>PE X x _) hx λ y p h=>by
 obtain rfl:=dT (aL (aL (aL h)));exact aJ2 (dH (aR (aL h))) (cX (aR h)) (hX.cns _ _ (List.contains_iff_mem.mp (aR (aL (aL h)))))
theorem aIr{a b:E}(ha:SE T C a)(hb:SE T C b):SE T C (.and a b):=λ X hX x hx=>pE (P:=λ x=>PE X x _) hx
 (λ l r p h=>PE.weak (sN (ha X hX _ (aL h)) (yB (hb X hX _ (aR h)))) sL) λ l b c r p h=>PE.weak (sN (ha X hX _ (aL h)) (hb X hX _ (aR h))) sL
theorem aK8{a b:E}(ha:SE T C a)(hb:SE T C b):SE T C (.or a b):=λ X hX x hx=>pE (P:=λ x=>PE X x _) hx
 (λ l r p h=>PE.weak (aDb (ha X hX _ (aL h)) (yB (hb X hX _ (aR h)))) aDd) λ l b c r p h=>PE.weak (aDb (ha X hX _ (aL h)) (hb X hX _ (aR h))) aDd
theorem aCT{X:Cx}{x:qw}{t:TT}(k:PW X x t):PT X x t/\∀ op es p,x=.BoolOp op es p->PW X x t:=⟨k.pt,λ _ _ _ _=>k⟩
theorem aIV{a b:E}(ha:ST T C a)(hb:ST T C b):ST T C (.and a b):=λ X hX x hx=>aCT (pE (P:=λ x=>PW X x _) hx
 (λ l r p h=>PW.weak (aCE (ha X hX _ (aL h)).1 (aHk (hb X hX _ (aR h)).1)) aDq) λ l b c r p h=>PW.weak (aCE (ha X hX _ (aL h)).1 ((hb X hX _ (aR h)).2 _ _ _ rfl)) aDq)
theorem aKE{a b:E}(ha:ST T C a)(hb:ST T C b):ST T C (.or a b):=λ X hX x hx=>aCT (pE (P:=λ x=>PW X x _) hx
 (λ l r p h=>PW.weak (aDs (ha X hX _ (aL h)).1 (aI1 (hb X hX _ (aR h)).1)) aD5) λ l b c r p h=>PW.weak (aDs (ha X hX _ (aL h)).1 ((hb X hX _ (aR h)).2 _ _ _ rfl)) aD5)
theorem aI5{a:E}(ha:SE T C a):SE T C (.not a):=λ X hX x hx=>aD6 (P:=λ x=>PE X x _) hx λ o y p h=>by
 obtain rfl:=dT (aL h);exact aH9 (ha X hX _ (aR h))
theorem aJB{a:E}(ha:ST T C a):ST T C (.not a):=λ X hX x hx=>aD6 (P:=λ x=>PT X x _/\∀ op es p,x=.BoolOp op es p->PW X x _) hx λ o y p h=>by
 obtain rfl:=dT (aL h);exact aDg (aKk (ha X hX _ (aR h)).1) (Nat.succ_ne_zero 2)
theorem aHU{a:E}(ha:SA T C a):SE T C (.tup a):=λ X hX x hx=>nM (P:=λ x=>PE X x _) hx λ xs k p h=>aDh (ha X hX _ h)
theorem aIZ{a:E}(ha:SA T C a):SL T C (.lst a):=λ X hX x hx=>tS (P:=λ x=>PE X x _) hx λ xs p h=>sZ (ha X hX _ h)
theorem aH1:SA T C .nil:=λ X hX x h=>dI (P:=λ x=>PA X x _) h lR
theorem aHf{a r:E}(ha:SE T C a)(hr:SA T C r):SA T C (.cons a r):=λ X hX x h=>by
 cases x with
 | nil=>exact no h
 | cons y ys=>exact lD (ha X hX _ (aL (aL h))) (hr X hX _ (aR h)) (cU (aR (aL h)) _ _)
theorem aKC:SO T C .no:=λ X hX x h=>sY (P:=λ x=>PO X x _) h aL6
theorem aGQ{a r:E}(ha:SE T C a):SO T C (.cons a r):=λ X hX x h=>aLW (P:=λ r=>PO X x (iT X.K (ov C (.cons a r)))) (aL h) (nC (P:=λ x=>PO X x _) (aR h) λ y h=>aJp (ha X hX _ h))
theorem aDB{a b:E}(ha:SE T C a)(hb:SE T C b):SE T C (.ix a b):=λ X hX x hx=>zP (P:=λ x=>PE X x _) hx λ l r p h h3=>aLQ (ha X hX _ (aL h)) (hb X hX _ (aR h)) (aDF h3)
theorem aIB{n:Str}{aN:List (Str×Tv)}{k:E}(hk:SE T C k):SE T C (.tab n aN k):=λ X hX x hx=>zP (P:=λ x=>PE X x _) hx λ y z p g h6=>eG (P:=λ y=>PE X (.Subscript y z p) _) (aR g) λ u q h=>by
 obtain rfl:=dT (aL (aL (aL h)));exact aKo (dH (aR (aL h))) (cX (aR h)) (hX.tbs _ _ (List.contains_iff_mem.mp (aR (aL (aL h))))) (hk X hX _ (aL g)) (aDF h6)
theorem aKc{a lo hi:E}(ha:SE T C a)(hl:SO T C lo)(hh:SO T C hi):SE T C (.sl a lo hi):=λ X hX x hx=>aJ1 (P:=λ x=>PE X x _) hx λ y l u p q h=>aLM (ha X hX _ (aL (aL h))) (hl X hX _ (aR (aL h))) (hh X hX _ (aR h))
theorem aGC{N:List Str}{a:E}{sc:zv}(h:jH T N a sc []=true):a=.nil:=by
 cases a<;>first | rfl | exact no h
theorem aFD{f np:Nat}{call:List W->aB->Option (W×aB)}{fs:FA}(h:C f=qq (np,call)):fZ C f fs=pY fs np call:=by
 funext env S
 unfold fZ;rw[h]
theorem aB1{f:Nat}{a:E}(ha:SA T C a):SE T C (.call f a):=λ X hX x hx=>jO (P:=λ x=>PE X x _) hx λ y p zs q h=>by
 cases hC:C f with
 | none=>exact aG3 λ env S=>by show fZ C f (av C a) env S=qz;unfold fZ;rw[hC]
 | some nc =>
   obtain⟨k,rm,fs⟩:=hX.room;obtain⟨fa,fd,ps,m1,m2,m3,m4⟩:=fs f nc.1 nc.2 y hC (dT (aL (aL (aL (aL h)))));have hw:∀ σ H Q,aK X.K (ev C (.call f a)) σ H Q->tE (gX X.K nc.1 nc.2) [] E0 (dE X.K (av C a)) σ H Q:=λ σ H Q hq=>aI9 σ H Q (aFD (fs:=av C a) hC▸hq)
   have h2:=dH (aR (aL (aL (aL h))));have h3:=cX (aR (aL (aL h)));cases zs with
   | nil =>
     refine PE.weak (aGt m4 rm h2 m1 m2 m3 .nil aDC h3) λ σ H Q hq=>?_
     obtain⟨F,L,S,env,ws,S',R,E,e,q2⟩:=hw σ H Q hq;cases aGC (aR (aL h));cases e;exact q2 F L H [] Gr.refl R .nil
   | cons z zr=>exact PE.weak (aHh m4 rm h2 m1 m2 m3 .nil aDC (ha X hX _ (aR (aL h))) h3 (cU (aL (aR h)) _ _) (oU (aR (aR h)) _ _)) hw
theorem aC0{b:B}{a:E}(ha:SA T C a):SE T C (.blt b a):=λ X hX x hx=>jO (P:=λ x=>PE X x _) hx λ y p zs q h=>by
 obtain rfl:=dT (aR (aL (aL (aL h))));cases zs with
 | nil=>exact no (aL (aL (aL (aL h))))
 | cons z zr =>
 have A:=ha X hX _ (aR (aL h));have G:=dH (aR (aL (aL h)));have s1:=cU (aL (aR h)) zr X.env;have s2:=oU (aR (aR h)) X.env q;cases b with
 | len=>exact PE.weak (iC aLd G (hX.blt _ (by decide)) (by decide +kernel) A (by decide) (by decide) s1 s2) jP
 | mx=>exact PE.weak (iC (aJX hX.calm) G (hX.blt _ (by decide)) (by decide +kernel) A (by decide) (by decide) s1 s2) jP
 | mn=>exact PE.weak (iC (aJS hX.calm) G (hX.blt _ (by decide)) (by decide +kernel) A (by decide) (by decide) s1 s2) jP
 | abs=>exact PE.weak (iC aKa G (hX.blt _ (by decide)) (by decide +kernel) A (by decide) (by decide) s1 s2) jP
 | sum=>exact PE.weak (iC (aKN hX.calm) G (hX.blt _ (by decide)) (by decide +kernel) A (by decide) (by decide) s1 s2) jP
 | all=>exact PE.weak (iC (aKO hX.calm) G (hX.blt _ (by decide)) (by decide +kernel) A (by decide) (by decide) s1 s2) jP
 | any=>exact PE.weak (iC (aKm hX.calm) G (hX.blt _ (by decide)) (by decide +kernel) A (by decide) (by decide) s1 s2) jP
 | int=>exact PE.weak (wA aJ8 G (hX.blt _ (by decide)) (by decide +kernel) A (by decide) (by decide) s1 s2) jP
 | tup=>exact PE.weak (wA aHx G (hX.blt _ (by decide)) (by decide +kernel) A (by decide) (by decide) s1 s2) jP
theorem aBE(n:Ty):zk n.n=qq (.type n.s)/\n.n∈bltNames:=by cases n<;>exact⟨by decide +kernel,by decide⟩
theorem aCw{a:E}{n:Ty}(ha:SE T C a):SE T C (.isi a n):=λ X hX x hx=>tV (P:=λ x=>PE X x _) hx λ p y w q h3 h5 h6 h7 _=>eG (P:=λ w=>PE X (.Call (.Name "isinstance" p) [y,w] [] q) _) h7 λ z pz h=>by
 obtain rfl:=dT (aL h);have k:=aKg (X:=X) (n:=n.s) (x:=n.n) (p:=p) (p':=pz) (pos:=q) (ha X hX _ h5) (dH h3) (hX.blt _ (by decide)) (by decide +kernel) (dH (aR h)) (hX.blt _ (aBE n).2) (aBE n).1 (by cases n<;>decide) (by cases n<;>decide) (cU h6 _ _)
 refine PE.weak k λ σ H Q ⟨F,L,S,env,w,S',R,E,e,q2⟩=>⟨F,L,S,env,w,S',R,E,?_,q2⟩
 obtain⟨⟨w1,S1⟩,e1,e2⟩:=bind_some e;obtain⟨d,z,e3,e4,rfl,rfl⟩:=wR e2;unfold aDZ f1;rw[e1];show eZ (qR X.K n.s) _ w1=_;unfold eZ;rw[e3];dsimp only[yCn];rw[aJa X.K e4]
theorem lY{X:Cx}{z:qw}(h:bP z=true):zj [z] X.env=(false,eval z X.env)::zj [] X.env:=cU h [] X.env
theorem sc1{X:Cx}{a:E}{z:qw}(ha:SE T C a)(hX:Ctx T C X)(h:bH T X.N a X.env.scope z=true)(hp:bP z=true):PA X [z] (dE X.K (dX (ev C a) gH)):=lD (ha X hX _ h) lR (lY hp)
theorem aIU{o a:E}(ho:SE T C o)(ha:SE T C a):SE T C (.app o a):=λ X hX x hx=>aC6 (P:=λ x=>PE X x _) hx λ y ap z cp h4 h3 h2 h5 h6 =>
 PE.weak (aDk PySem.F.plainAttrs_list PySem.F.slot_list_append PySem.F.type_list_append wD (ho X hX _ h2) (sc1 ha hX h5 h6) (oX h3 _ _) (by rw[lY h6];rfl) h4 (lY h6) rfl) aDG
theorem aHQ{a:E}(ha:SE T C a):SL T C (.lof a):=λ X hX x hx=>aEd (P:=λ x=>PE X x _) hx λ p z q h2 h3 h4 =>
 PE.weak (wA aER (dH h2) (hX.blt _ (by decide)) (by decide +kernel) (sc1 ha hX h3 h4) (by decide) (by decide) (lY h4) rfl) aKb
theorem aGB{a b:E}(ha:SE T C a)(hb:SE T C b):SL T C (.lrep a b):=λ X hX x hx=>aAb (P:=λ x=>PE X x _) hx λ l o r p h=>by
 obtain rfl:=dT (aL (aL h));exact aKH (ha X hX _ (aR (aL h))) (hb X hX _ (aR h))
theorem aKs{a:E}(ha:SE T C a):SI T C (.it a):=λ X hX tg x h=>aLu (ha X hX _ h)
theorem aGE{a:E}(ha:SE T C a):SI T C (.rng1 a):=λ X hX tg x hx=>aEd (P:=λ x=>PI X tg x _) hx λ p z q h2 h3 h4 =>
 PI.weak (aFE (dH h2) (hX.blt _ (by decide)) (sc1 ha hX h3 h4) (lY h4)) aJI
theorem or2{a b:Bool}(h:(a||b)=true)(n:a=false):b=true:=by
 rw[n] at h;exact h
theorem xF{scope osc:zv}(h:zB scope osc=true):ScOk scope osc:=by
 have h2:=List.all_eq_true.mp (aR h);refine⟨dT (aL h),λ x hx e=>?_,λ x hx e=>?_,λ x hx e=>?_⟩
 ·have:=h2 x hx;simp[e] at this
 ·have:=h2 x hx;simp[e] at this;exact this
 ·have:=h2 x hx;simp[e] at this;exact this
theorem sO{N:List Str}{scope:zv}{is:List Nat}:∀ {n:Nat},uD N scope is n=true->∀ i,i<n->∀ x,N[i]? = qq x->scope.names.lookup x=qq .local->i∈is
 | 0,_,i,hi,_,_,_=>absurd hi (Nat.not_lt_zero i)
 | n+1,h,i,hi,x,e,el=>by
   rcases Nat.lt_succ_iff_lt_or_eq.mp hi with z | z
   ·exact sO (aL h) i z x e el
   ·subst z;have h2:=aR h;rw[e] at h2;exact List.contains_iff_mem.mp (or2 h2 (by rw[el];rfl))
theorem aHt{elt it cond:E}{t:Tg}(he:SE T C elt)(hi:SI T C it)(hc:ST T C cond):SL T C (.comp elt t it cond):=λ X hX x hx=>zX (P:=λ x=>PE X x _) hx λ e tg iter ifs scope p h1 h2 h3 h4 h5 h6 h7=>by
 have sok:=xF h1;refine yH (g:=mD X.K t) hX.calm sok (λ i x a1 a2=>sO h2 i (gIm a1).1 x a1 a2) (hi X hX tg iter h4) (λ Y hY=>?_) (nG X.K t) (λ Y hY=>?_) (λ Y hY=>?_) (oP h5 X.env)
 ·obtain⟨c1,c2,c3,c4⟩:=hX.comp sok.kind hY;rw[<- c4];exact nI (.inl rfl) c1.nd c1.calm (by rw[c2,c3];exact h3)
 ·obtain⟨c1,c2,c3,c4⟩:=hX.comp sok.kind hY;cases ifs with
  | nil=>exact aDW (P:=λ cond=>jM Y [] (tv C cond)) h6 wG
  | cons y r=>exact dI (P:=λ r=>jM Y (y::r) _) (aL h6) (aBk (hc Y c1 y (by rw[c2,c3];exact aR h6)).1)
 ·obtain⟨c1,c2,c3,c4⟩:=hX.comp sok.kind hY;rw[<- c4];exact he Y c1 e (by rw[c2,c3];exact h7)
theorem aKu{a:E}(ha:SL T C a):SE T C (.fz a):=λ X hX x h=>nT (ha X hX x h)
theorem aIE{a:E}(ha:SL T C a):SE T C (.new a):=λ X hX x h=>aDH (ha X hX x h)
theorem lL{c:E}(h:SE T C c)(ht:tv C c=cK (ev C c))(hk:∀ N sc x,jE T N c sc x=(bH T N c sc x&&iQ x)):ST T C c:=λ X hX x q=>by
 rw[hk] at q;rw[ht];exact aKw (h X hX x (aL q)) (aR q)
structure Sn(T:Tx)(C:Calls)(c:E):Prop where
 e:SE T C c:=by exact λ _ _ _ h=>no h
 t:ST T C c:=by exact λ _ _ _ h=>no h
 a:SA T C c:=by exact λ _ _ _ h=>no h
 o:SO T C c:=by exact λ _ _ _ h=>no h
 l:SL T C c:=by exact λ _ _ _ h=>no h
 i:SI T C c:=by exact λ _ _ _ _ h=>no h
theorem sn(c:E):Sn T C c:=by
 induction c with
 | var i=>exact {e:=aCD i,t:=lL (aCD i) rfl λ _ _ _=>rfl }
 | int i=>exact {e:=aJf i }
 | bl b=>exact {e:=aDr b,t:=lL (aDr b) rfl λ _ _ _=>rfl }
 | non=>exact {e:=aIJ }
 | str x=>exact {e:=aIb x }
 | bin op a b aU bN=>exact {e:=aCQ aU.e bN.e,t:=lL (aCQ aU.e bN.e) rfl λ _ _ _=>rfl }
 | un op a aU=>exact {}
 | cmp op a b aU bN=>exact {e:=aH2 aU.e bN.e,t:=aIX aU.e bN.e }
 | ltl a b aU bN=>exact {}
 | and a b aU bN=>exact {e:=aIr aU.e bN.e,t:=aIV aU.t bN.t }
 | or a b aU bN=>exact {e:=aK8 aU.e bN.e,t:=aKE aU.t bN.t }
 | not a aU=>exact {e:=aI5 aU.e,t:=aJB aU.t }
 | ite c a b ihc aU bN=>exact {}
 | tup a aU=>exact {e:=aHU aU.a }
 | lst a aU=>exact {l:=aIZ aU.a }
 | nil=>exact {a:=aH1 }
 | cons a r aU ihr=>exact {a:=aHf aU.e ihr.a,o:=aGQ aU.e }
 | chn op gN a b c aU bN ihc=>exact {}
 | con x ts=>exact {e:=aHV }
 | ix a b aU bN=>exact {e:=aDB aU.e bN.e,t:=lL (aDB aU.e bN.e) rfl λ _ _ _=>rfl }
 | dsp k l m a b c i aU bN ihc ihi=>exact {}
 | tab x aN k ihk=>exact {e:=aIB ihk.e }
 | slL a lo hi aU ihlo ihhi=>exact {}
 | sl a lo hi aU ihlo ihhi=>exact {e:=aKc aU.e ihlo.o ihhi.o }
 | no=>exact {o:=aKC }
 | call f a aU=>exact {e:=aB1 aU.a,t:=lL (aB1 aU.a) rfl λ _ _ _=>rfl }
 | blt b a aU=>exact {e:=aC0 aU.a,t:=lL (aC0 aU.a) rfl λ _ _ _=>rfl }
 | isi a n aU=>exact {e:=aCw aU.e,t:=lL (aCw aU.e) rfl λ _ _ _=>rfl }
 | bits a aU=>exact {}
 | app o a iho aU=>exact {e:=aIU iho.e aU.e }
 | pop o a iho aU=>exact {}
 | idx o a iho aU=>exact {}
 | lof a aU=>exact {l:=aHQ aU.e }
 | lzip a b aU bN=>exact {}
 | lrg1 a aU=>exact {}
 | lrg2 a b aU bN=>exact {}
 | srt a aU=>exact {}
 | lrev a aU=>exact {}
 | lrep a b aU bN=>exact {l:=aGB aU.e bN.e }
 | comp elt t it cond ihelt ihit ihcond=>exact {l:=aHt ihelt.e ihit.i ihcond.t }
 | it a aU=>exact {i:=aKs aU.e }
 | rng1 a aU=>exact {i:=aGE aU.e }
 | rng2 a b aU bN=>exact {}
 | rng3 a b c aU bN ihc=>exact {}
 | rrng a aU=>exact {}
 | enm a aU=>exact {}
 | zip a b aU bN=>exact {}
 | zip3 a b c aU bN ihc=>exact {}
 | fz a aU=>exact {e:=aKu aU.l }
 | new a aU=>exact {e:=aIE aU.l }
end
section
variable (T : Tx)(C : Calls)
def SS(c:Sx):Prop:=∀ X,Ctx T C X->(∀ x,X.fn x=true)->∀ st,okS T X.N c X.env.scope st=true->PS X st (cA X.K (xs C c))
def kS(c:Sx):Prop:=∀ X,Ctx T C X->(∀ x,X.fn x=true)->∀ st,iV T X.N c X.env.scope st=true->bI X st (cA X.K (xs C c))
end
section
variable {T : Tx}{C : Calls}
theorem aCs{e t:qw}(h:dS e=true)(line:Nat)(env:Env):swapsWithSole [t] e line env=pure false:=kD h _ _ _
theorem aFb{e:qw}{ts:List qw}{k:Nat}{p:Pos}{env:Env}(h:yY e=false):wq [.Tuple ts k p] e env=pure qz:=by
 cases e<;>first | rfl | exact no h.symm
theorem aE2{o i e:qw}{p:Pos}{env:Env}:wq [.Subscript o i p] e env=pure qz:=by
 cases e<;>rfl
theorem aID{a b:Sx}(ha:SS T C a)(hb:kS T C b):kS T C (.seq a b):=λ X hX hf st h=>by
 cases st with
 | nil=>exact no h
 | cons s r =>
   obtain⟨h1,h2⟩:=bQ h;exact aDD (ha X hX hf _ h1) (hb X hX hf _ h2)
theorem aHJ:kS T C .skip:=λ X hX hf st h=>dI (P:=λ st=>bI X st _) h aCL
theorem aGy{e:E}:SS T C (.expr e):=λ X hX hf st h=>aAj (P:=λ st=>PS X st _) h λ x p h=>aCX ((sn e).e X hX _ (aL h)) (kD (aR h) _ _ _)
theorem aJb{e:E}:SS T C (.ret e):=λ X hX hf st h=>aDL (P:=λ st=>PS X st _) h λ _ p h=>nC (P:=λ v=>PS X (.Return v p) _) h λ x h=>aDz ((sn e).e X hX _ h)
theorem aJN{c:E}{a b:Sx}(ha:kS T C a)(hb:kS T C b):SS T C (.ifs c a b):=λ X hX hf st h=>aEa (P:=λ st=>PS X st _) h λ x y z p h=>aLs ((sn c).t X hX _ (aL (aL h))).1 (ha X hX hf _ (aR (aL h))) (hb X hX hf _ (aR h))
theorem aJq{i:Nat}{e:E}:SS T C (.set i e):=λ X hX hf st h=>gW (P:=λ st=>PS X st _) h λ _ y p h=>eK (P:=λ ts=>PS X (.Assign ts y p) _) (aR h) λ _ g=>eG (P:=λ t=>PS X (.Assign [t] y p) _) g λ x q g =>
 tH hX.nd (dT (aL g)) (mU (aR g)) ((sn e).e X hX _ (aL (aL h))) (kD (aR (aL h)) _ _ _) (.inl (hf _))
theorem aL4{K:FrG}{f:FL}(σ:St)(H:Hp)(Q:VK)(h:aK K (dF f) σ H Q):eX K f σ H Q:=by
 obtain⟨F,L,S,env,w,S',R,E,e,q⟩:=h;obtain⟨⟨ds,S1⟩,e1,e2⟩:=bind_some e;cases e2;exact⟨F,L,S,env,ds,_,R,E,e1,λ F1 L1 H1 p xs g1 R1 hF hL hH dl=>q _ L1 _ _ (g1.trans (Gr.new hF)) (R1.adopt hF hL hH) (Den.lst (bK.of bO) (dl.mono (eP hF)))⟩
theorem aK2{K:FrG}{f:FL}(σ:St)(H:Hp)(Q:VK)(h:aK K (iX f) σ H Q):eX K f σ H Q:=by
 obtain⟨F,L,S,env,w,S',R,E,e,q⟩:=h;obtain⟨⟨ds,S1⟩,e1,e2⟩:=bind_some e;cases e2;refine⟨F,L,S,env,ds,_,R,E,e1,λ F1 L1 H1 p xs g1 R1 hF hL hH dl=>q _ _ _ _ (g1.trans Gr.newLoc) (R1.adoptLoc hF hL hH dl) ⟨p,?_,rfl⟩⟩
 dsimp only;rw[<- R1.len,yAe (yAc _)];simp
theorem aLj{K:FrG}{f:FL}(nw:Bool):∀ (σ:St) (H:Hp) (Q:VK),aK K (match nw with | true=>iX f | false=>dF f) σ H Q->eX K f σ H Q:=by
 cases nw
 ·exact aL4
 ·exact aK2
theorem aHz{nw:Bool}{i:Nat}{e:E}:SS T C (.setC nw i e):=λ X hX hf st h=>gW (P:=λ st=>PS X st _) h λ _ y p h=>eK (P:=λ ts=>PS X (.Assign ts y p) _) (aR h) λ _ g=>eG (P:=λ t=>PS X (.Assign [t] y p) _) g λ x q g=>by
 refine aLI (P:=λ e=>rH T X.N e X.env.scope y=true->PS X (.Assign [.Name x q] y p) (cA X.K (xs C (.setC nw i e)))) (aL (aL h)) (λ elt t it cond hL=>zX (P:=λ y=>PS X (.Assign [.Name x q] y p) (cA X.K (xs C (.setC nw i (.comp elt t it cond))))) hL λ e tg iter ifs scope r h1 h2 h3 h4 h5 h6 h7=>?_) (aR (aL h))
 have sok:=xF h1;refine aFx (g:=mD X.K t) hX.nd (dT (aL g)) (mU (aR g)) (.inl (hf _)) hX.calm sok (λ i x a1 a2=>sO h2 i (gIm a1).1 x a1 a2) ((sn it).i X hX tg iter h4) (λ Y hY=>?_) (nG X.K t) (λ Y hY=>?_) (λ Y hY=>?_) (oP h5 X.env) (aLj nw)
 ·obtain⟨c1,c2,c3,c4⟩:=hX.comp sok.kind hY;rw[<- c4];exact nI (.inl rfl) c1.nd c1.calm (by rw[c2,c3];exact h3)
 ·obtain⟨c1,c2,c3,c4⟩:=hX.comp sok.kind hY;cases ifs with
  | nil=>exact aDW (P:=λ cond=>jM Y [] (tv C cond)) h6 wG
  | cons y r=>exact dI (P:=λ r=>jM Y (y::r) _) (aL h6) (aBk ((sn cond).t Y c1 y (by rw[c2,c3];exact aR h6)).1)
 ·obtain⟨c1,c2,c3,c4⟩:=hX.comp sok.kind hY;rw[<- c4];exact(sn elt).e Y c1 e (by rw[c2,c3];exact h7)
theorem qJ{b:Bool}(h:(!b)=true):b=false:=by
 cases b with
 | false=>rfl
 | true=>exact no h
theorem aHF{t:Tg}{e:E}:SS T C (.setT t e):=λ X hX hf st h=>gW (P:=λ st=>PS X st _) h λ _ v p h=>eK (P:=λ ts=>PS X (.Assign ts v p) _) (aR h) λ tg g=>by
 have h1:=nI (.inr hf) hX.nd hX.calm (aR g)
 revert h1
 exact nM (P:=λ tg=>PG X tg (mD X.K t)->PS X (.Assign [tg] v p) (cA X.K (xs C (.setT t e)))) (aL g) λ ts k q _ h1=>PS.weak (aCz ((sn e).e X hX _ (aL (aL (aL h)))) h1 (aCs (aR (aL (aL h))) _ _) (aFb (qJ (aR (aL h)))) rfl) (aIG (nG X.K t))
theorem aHZ{o i e:E}:SS T C (.put o i e):=λ X hX hf st h=>gW (P:=λ st=>PS X st _) h λ _ z p h=>eK (P:=λ ts=>PS X (.Assign ts z p) _) (aR h) λ _ g=>zP (P:=λ t=>PS X (.Assign [t] z p) _) g λ x y q g h3 =>
 aKA ((sn o).e X hX _ (aL g)) ((sn i).e X hX _ (aR g)) ((sn e).e X hX _ (aL (aL h))) (aFI h3) (aCs (aR (aL h)) _ _) aE2
theorem aGT{t:Tg}{it:E}{b:Sx}(hb:kS T C b):SS T C (.loop t it b):=λ X hX hf st h=>aDN (P:=λ st=>PS X st _) h λ tg x y z p h=>dI (P:=λ z=>PS X (.For tg x y z p) _) (aL (aL (aL (aL h))))
 (aKD hX.own hX.calm ((sn it).i X hX _ _ (aR (aL (aL h)))) (nI (.inr hf) hX.nd hX.calm (aR (aL (aL (aL h))))) (nG X.K t) (hb X hX hf _ (aR h)) (oP (aR (aL h)) X.env))
theorem ss(c:Sx):SS T C c/\kS T C c:=by
 have N2:∀ {c:Sx},SS T C c->(∀ N sc st,iV T N c sc st=false)->SS T C c/\kS T C c:=λ q hh=>⟨q,λ X hX hf st h=>by rw[hh] at h;exact no h⟩
 induction c with
 | skip=>exact⟨λ X hX hf st h=>no h,aHJ⟩
 | seq a b aU bN=>exact⟨λ X hX hf st h=>no h,aID aU.1 bN.2⟩
 | expr e=>exact N2 aGy λ _ _ _=>rfl
 | ret e=>exact N2 aJb λ _ _ _=>rfl
 | ifs c a b aU bN=>exact N2 (aJN aU.2 bN.2) λ _ _ _=>rfl
 | set i e=>exact N2 aJq λ _ _ _=>rfl
 | setC nw i e=>exact N2 aHz λ _ _ _=>rfl
 | setT t e=>exact N2 aHF λ _ _ _=>rfl
 | put o i e=>exact N2 aHZ λ _ _ _=>rfl
 | loop t it b bN=>exact N2 (aGT bN.2) λ _ _ _=>rfl
end
structure Fn where
 name:Str
 np:Nat
 N:List Str
 body:Sx
 st:zy
noncomputable def aG(fs:List Fn):Nat->Calls
 | 0=>λ _=>qz
 | d+1=>λ f=>(fs[f]?).map λ F=>(F.np,cB (xs (aG fs d) F.body) F.N.length)
structure Tbs where
 tb:List (Str×List (Str×Tv))
 cn:List (Str×List Tv)
noncomputable def tab(fs:List Fn)(tb:Tbs):Tx:=⟨fs.map λ F=>(F.name,F.np),tb.tb,tb.cn⟩
noncomputable def sF:List Str->Bool
 | []=>true
 | x::r=>!r.contains x&&sF r
theorem wX:∀ {l:List Str},sF l=true->l.Nodup
 | [],_=>List.nodup_nil
 | x::r,h=>by
   obtain⟨h1,h2⟩:=bQ h;refine List.nodup_cons.mpr ⟨λ z=>?_,wX h2⟩
   have:r.contains x=true:=by simpa using z
   rw[this] at h1;exact no h1
noncomputable def qX(fs:List Fn)(tb:Tbs)(F:Fn):Bool:=
 decide ((bD F.st).kind=.function) && !(bD F.st).isCoroutine && !(bD F.st).isGenerator&&sF F.N&&decide (F.np<=F.N.length)&&(F.N.take F.np).all (loc (bD F.st))&&(bD F.st).names.all (λ y=>!decide (y.2=.free)) &&
  iV (tab fs tb) F.N F.body (bD F.st) (cY F.st)
theorem pF{sc:zv}{x:Str}(h:loc sc x=true):sc.names.lookup x=qq .local\/sc.names.lookup x=qq .cell:=by
 unfold loc at h
 split at h<;>first | exact .inl (by assumption) | exact .inr (by assumption) | exact no h
theorem aF1{fs:List Fn}{tb:Tbs}{F:Fn}(h:qX fs tb F=true):FnScope F.N (F.N.take F.np) (bD F.st)/\iV (tab fs tb) F.N F.body (bD F.st) (cY F.st)=true/\(F.N.take F.np).length=F.np:=by
 obtain⟨h,h8⟩:=bQ h;obtain⟨h,h7⟩:=bQ h;obtain⟨h,h6⟩:=bQ h;obtain⟨h,h5⟩:=bQ h;obtain⟨h,h4⟩:=bQ h;obtain⟨h,h3⟩:=bQ h;obtain⟨h1,h2⟩:=bQ h;have hl:(F.N.take F.np).length=F.np:=by
  rw[yBe];have:=oqT h5;omega
 refine⟨⟨oqT h1,?_,?_,wX h4,by rw[hl],λ x hx=>pF (List.all_eq_true.mp h6 x hx),λ y hy=>?_⟩,h8,hl⟩
 ·cases q:(bD F.st).isCoroutine with
  | false=>rfl
  | true=>rw[q] at h2;exact no h2
 ·cases q:(bD F.st).isGenerator with
  | false=>rfl
  | true=>rw[q] at h3;exact no h3
 ·have:=List.all_eq_true.mp h7 y hy;intro z;rw[dqT z] at this;exact no this
section
variable {P : qo}{w : zq}{K : FrG}{mg : Str -> Option qx}{base : Heap}
theorem aCa(fs:List Fn)(tb:Tbs)(hk:∀ F∈fs,qX fs tb F=true)(top:∀ F∈fs,∃ fa fd,Fun K F.name F.name F.st fa fd/\mg F.name=qq (.ref fa)/\cS K fd (F.N.take F.np) [])(hb:∀ x∈bltNames,mg x=qz)(ht:∀ x aN,(x,aN)∈tb.tb->∃ a,mg x=qq (.ref a)/\mZ K w a aN)(hcn:∀ x ts,(x,ts)∈tb.cn->∃ a,mg x=qq (.ref a)/\lJ K a ts) :
 ∀ d f F np call fa fd,fs[f]? = qq F->aG fs d f=qq (np,call)->Fun K F.name F.name F.st fa fd->FnOk P w K mg base eA d fa fd (F.N.take F.np) (gX K np call)
 | 0,f,F,np,call,fa,fd,eF,e,Fu=>by cases e
 | d+1,f,F,np,call,fa,fd,eF,e,Fu=>by
   have ih:=aCa fs tb hk top hb ht hcn d;have e2:(F.np,cB (xs (aG fs d) F.body) F.N.length)=(np,call):=by
    have e':(fs[f]?).map (λ F=>(F.np,cB (xs (aG fs d) F.body) F.N.length))=qq (np,call):=e
    rw[eF] at e';exact Option.some.inj e'
   cases e2;have hm:F∈fs:=xAi eF;obtain⟨sc,hok,hl⟩:=aF1 (hk F hm);refine Fu.ok sc (λ vs H Q E h=>?_) λ cdv A outer s H vs Q E hr h=>?_
   ·obtain⟨F1,L,S,ws,w1,S',hn,R,dl,_⟩:=h;rw[hl,<- hn];exact dl.length.symm
   ·refine⟨_,(ss (T:=tab fs tb) (C:=aG fs d) F.body).2 _ ⟨sc.nd,rfl,rfl,sc.kind,⟨d,hr,λ f' np' call' x' e1 e2=>?_⟩,hb,λ x aN hx=>ht x aN hx,λ x ts hx=>hcn x ts hx⟩ (λ _=>rfl) _ hok,aC2 h⟩
    have e2:((fs.map λ F=>(F.name,F.np))[f']?).map (·.1)=qq x':=e2
    rw[xAb] at e2;cases q:fs[f']? with
    | none=>rw[q] at e2;cases e2
    | some F' =>
      rw[q] at e2;have hx:F'.name=x':=Option.some.inj e2;subst hx;obtain⟨fa',fd',Fu',hmg',hbi'⟩:=top F' (xAi q);exact⟨fa',fd',_,hmg',Fu'.kp,hbi',ih f' F' np' call' fa' fd' q e1 Fu'⟩
end
structure TopFn(K:FrG)(F:Fn):Prop where
 ex:∃ (f:qv) (oc:qx) (od an:Option qv) (sl:Array (Option qx)) (kV dc pm cd ct:qx),yBw K qy F.name=qq (qq (.ref f)) /\
  K.lookup f=qq ⟨oc,od,.func (yBl F.name F.name (fH F.st) (cY F.st) (bD F.st) .none kV dc pm an cd ct),sl⟩/\yCs K cd F.name=true/\yBg K (.ref f)=true
theorem top_mk{K:FrG}{F:Fn}{f:qv}{oc:qx}{od an:Option qv}{sl:Array (Option qx)}{kV dc pm cd ct:qx}(a:yBw K qy F.name=qq (qq (.ref f)))
 (l:K.lookup f=qq ⟨oc,od,.func (yBl F.name F.name (fH F.st) (cY F.st) (bD F.st) .none kV dc pm an cd ct),sl⟩) (c:yCs K cd F.name=true) (k:yBg K (.ref f)=true):TopFn K F:=
 ⟨f,oc,od,an,sl,kV,dc,pm,cd,ct,a,l,c,k⟩
structure TabTop(K:FrG)(w:zq)(t:Str×List (Str×Tv)):Prop where
 ex:∃ (a:qv) (es:Array DictEntry) (ep:Nat),yBw K qy t.1=qq (qq (.ref a))/\K.lookup a=qq {cls:=.type "dict",data:=.dict es ep }/\nB w es.toList t.2
theorem tab_mk{K:FrG}{w:zq}{t:Str×List (Str×Tv)}{a:qv}{es:Array DictEntry}{ep:Nat}(a1:yBw K qy t.1=qq (qq (.ref a)))
 (l1:K.lookup a=qq {cls:=.type "dict",data:=.dict es ep }) (c1:nB w es.toList t.2):TabTop K w t:=⟨a,es,ep,a1,l1,c1⟩
structure ConTop(K:FrG)(t:Str×List Tv):Prop where
 ex:∃ a:qv,yBw K qy t.1=qq (qq (.ref a))/\lJ K a t.2
theorem con_mk{K:FrG}{t:Str×List Tv}{a:qv}{aC:Array qx}{n:Nat}{od:Option qv}{sl:Array (Option qx)}(a1:yBw K qy t.1=qq (qq (.ref a)))
 (l1:K.lookup a=qq {cls:=.type "tuple",dict:=od,data:=.seq aC n,slots:=sl }) (z1:aC.size<=100) (c1:sT aC.toList t.2):ConTop K t:=
 ⟨a,a1,_,aC,n,l1,rfl,rfl,xAg z1 (by decide),c1⟩
def mP(F:Fn):Prop:=∀ (kV doc pm:qx) (an:Option qv) (cdv ct:qx) (us:List qx),us.length=(F.N.take F.np).length->bindArgs (yBl F.name F.name (fH F.st) (cY F.st) (bD F.st) .none kV doc pm an cdv ct) ⟨us,[]⟩=pure ((F.N.take F.np).zip us)
noncomputable def sU(F:Fn):Bool:=match fH F.st with
 | ⟨[],as,qz,[],_,qz,_⟩=>decide (F.N.take F.np=as.map (·.arg))&&decide (F.N.take F.np).Nodup
 | _=>false
theorem wV:∀ {ns:List Str}{us:List qx},ns.Nodup->us.length=ns.length->(∀ n∈ns,((ns.zip us).lookup n).isNone=false)/\ns.filterMap (λ n=>((ns.zip us).lookup n).map (n,·))=ns.zip us
 | [],us,_,_=>⟨λ n h=>(nomatch h),by cases us<;>rfl⟩
 | x::ns,[],_,h=>by cases h
 | x::ns,u::us,hn,hl=>by
   obtain⟨h1,h2⟩:=List.nodup_cons.mp hn;obtain⟨i1,i2⟩:=wV h2 (Nat.succ.inj hl);have e:∀ n∈ns,((x,u)::ns.zip us).lookup n=(ns.zip us).lookup n:=λ n m=>by
    rw[yAz];have:(n==x)=false:=by
     rw[beq_eq_false_iff_ne];rintro rfl;exact h1 m
    rw[this]
   refine⟨λ n m=>?_,?_⟩
   ·rw[List.zip_cons_cons];rcases List.mem_cons.mp m with rfl | m
    ·rw[yAz,beq_self_eq_true];rfl
    ·rw[e n m];exact i1 n m
   ·rw[List.zip_cons_cons,yBu,yAz,beq_self_eq_true];show(x,u)::_=_;congr 1;rw[<- i2];rw[i2];have g:∀ l:List Str,(∀ n∈l,n∈ns)->l.filterMap (λ n=>(((x,u)::ns.zip us).lookup n).map (n,·))=l.filterMap (λ n=>((ns.zip us).lookup n).map (n,·)):=λ l=>by
     induction l with
     | nil=>intro _;rfl
     | cons y l ih=>intro hl;rw[yBu,yBu,e y (hl y xAd),ih λ n m=>hl n (xAf _ m)]
    rw[g ns λ n m=>m,i2]
theorem aBN{F:Fn}(h:sU F=true):mP F:=by
 intro kV doc pm an cdv ct us hu;unfold sU at h
 split at h
 ·rename_i as kd df e;obtain⟨h1,h2⟩:=bQ h;have h1:=oqT h1;rw[e];rw[h1] at hu h2 ⊢;obtain⟨i1,i2⟩:=wV (oqT h2) hu;have m:((as.map (·.arg)).take (as.map (·.arg)).length).filter (λ n=>(((as.map (·.arg)).zip us).lookup n).isNone)=[]:=by
   rw[yAk,List.filter_eq_nil_iff];intro n hn;rw[i1 n hn];decide
  unfold bindArgs;have q:seqItems? Value.none=(pure qz:Sem (Option (Array qx))):=rfl;simp only[yBl,q,pure_bind,yCf,yDe,yAv,List.forIn_nil,yDo,yCc,List.drop_nil,List.zip_nil_right,yEp,hu,gt_iff_lt,yBb,decide_false,yEa,yAx,if_false,m,List.isEmpty_nil,Bool.not_true,i2,Option.isNone_none]
 ·exact no h
theorem aAR:∀ {ns:List Int}{i:Int},i∈ns->yAf i<=PySem.W.WData.weightAll (ns.map PySem.W.WData.int)
 | [],i,h=>by cases h
 | n::r,i,h=>by
   have e:PySem.W.WData.weightAll ((n::r).map PySem.W.WData.int)=yAf n+1+PySem.W.WData.weightAll (r.map PySem.W.WData.int):=rfl;rw[e];rcases List.mem_cons.mp h with z | z
   ·subst z;omega
   ·have:=aAR z;omega
theorem aGp{ns:List Int}(h:PySem.W.WData.layableAll [PySem.W.WData.list (ns.map PySem.W.WData.int)]=true):∀ i∈ns,yAf i<=1048576:=λ i hi=>by
 have h1:PySem.W.WData.layable (PySem.W.WData.list (ns.map PySem.W.WData.int))=true:=by
  have:=List.all_eq_true.mp h _ xAd;exact this
 have h2:PySem.W.WData.weight (PySem.W.WData.list (ns.map PySem.W.WData.int))<=2^20:=oqT (bQ h1).2;exact xAg (aAR hi) h2
theorem aHd{l:yEl}{n:Nat}{q:qo}{loose:List Str}{XP:(Str->Option qx)->Heap->Prop}{YP:zq->Heap->Prop}{d:DefRec}
 (hn:l.most=qq n) (hdf:d.params.defaults=[])
 (go:∀ (w:zq) (s₀ s₁:qj) (mg mb:Str->Option qx) (fa:qv) (a:qv) (vs:List qx) (ns:List Int),
   PySem.W.Ground q loose [] XP w s₀ mg mb s₁.heap->YP w s₁.heap->mg d.name=qq (.ref fa) ->
   s₁.heap.get? a=qq {cls:=.type "list",data:=.seq vs.toArray }->IntsAre vs ns->ns.length<=n->(∀ i∈ns,yAf i<=1048576)->s₁.gens = #[] ->
   vx (model l.prog w) callerA (.call (.ref fa) ⟨[.ref a],[]⟩) (λ r s'=>r=.ok (.ret (.bool true))/\OldK s₁.heap s'.heap/\s'.os=s₁.os/\AllBare s'.gens) s₁) :
 PySem.W.WalkO q loose XP YP l.row.toRowW d [] (λ f vs=>PySem.call f vs):=by
 intro w s₀ s₁ mg mb G Y fa o pm cd doc dV kV ho hd hcd hD hmg hg args vals as hpre hlay hrd hwl hlo;obtain rfl:dV=.none:=PySem.W.Dflts.none hD hdf;obtain rfl:kV=.none:=PySem.W.Dflts.noKw hD;obtain⟨a,vs,ns,rfl,rfl,hobj,hints,bS⟩:=Att.script_of hn hpre hwl;refine PySem.W.enter_call (codeAny_mono (go w s₀ s₁ mg mb fa a vs ns G Y hmg hobj hints bS (aGp hlay) hg) λ r s' hq=>?_)
 obtain⟨rfl,h2,h3,h4⟩:=hq;exact⟨.inl ⟨.bool true,.bool true,[],rfl,λ _=>rfl,.bool true,Att.post_true l _,λ _=>⟨List.Pairwise.nil,λ _ hm=>(nomatch hm)⟩⟩,h2,h3,h4⟩
structure Trc(h:Heap)(h0:Heap)(H:Hp)(e:qv)(cls:qx)(dx:Option qv)(fl:Option qx):Prop where
 ex:∃ oe vs,h.get? e=qq oe/\oe.cls=cls/\oe.dict=dx/\oe.data=.fields vs/\1<vs.size/\h0.get? e=qz/\H e=qz /\
  (fl=qz/\vs[1]? = qq .none\/∃ f T oT ts,fl=qq f/\vs[1]? = qq (.ref T)/\T≠e/\h0.get? T=qz/\H T=qz/\h.get? T=qq oT/\oT.data=.fields ts/\ts[3]? = qq f)
structure Chg(fs:List qv)(h0:Heap)(H:Hp)(h h':Heap):Prop where
 keep:∀ b o,h.get? b=qq o->b ∉ fs->(h0.get? b≠qz\/H b≠qz\/∀ vs,o.data≠.fields vs)->h'.get? b=qq o
 slot:∀ b o,h.get? b=qq o->b∈fs->(∀ vs,o.data≠.fields vs)->∃ sl,h'.get? b=qq {o with slots:=sl }
 there:∀ b o,h.get? b=qq o->∃ o',h'.get? b=qq o'
theorem Chg.refl{fs:List qv}{h0:Heap}{H:Hp}{h:Heap}:Chg fs h0 H h h:=⟨λ _ _ e _ _=>e,λ _ o e _ _=>⟨o.slots,e⟩,λ _ o e=>⟨o,e⟩⟩
theorem Chg.trans{fs:List qv}{h0:Heap}{H:Hp}{h h1 h2:Heap}(a:Chg fs h0 H h h1)(b:Chg fs h0 H h1 h2):Chg fs h0 H h h2:=
 ⟨λ c o e n q=>b.keep c o (a.keep c o e n q) n q,λ c o e n q=>by
  obtain⟨sl,e1⟩:=a.slot c o e n q;obtain⟨sl2,e2⟩:=b.slot c _ e1 n q;exact⟨sl2,e2⟩,λ c o e=>let ⟨o1,e1⟩:=a.there c o e;b.there c o1 e1⟩
section
variable {M : Model}{A : zx}{E : qx -> qj -> Prop}{s : qj}
theorem aGf{base:Heap}{env:Env}{outer:List Env}{L e:qv}{oe:Obj}{vs:Array qx}{head:qx}{hadNext:Bool}{Q:Unit->qj->Prop}
 (hfr:A.frames=qq (env::outer)) (hl:s.heap.FunFrames base (env::outer)) (hf:env.frame=qq L) (he:s.heap.get? e=qq oe) (hd:oe.data=.fields vs) (hsz:1<vs.size)
 (h:∀ h' T oT ts,h'.get? e=qq (oe.mapFields (·.setIfInBounds 1 (.ref T)))->s.heap.objs.size<=T->h'.get? T=qq oT->oT.data=.fields ts->ts[3]? = qq (jj L) ->
   (∀ b o,s.heap.get? b=qq o->b≠e->b ∉ cQ (env::outer)->h'.get? b=qq o)->(∀ b o,s.heap.get? b=qq o->b≠e->∃ sl,h'.get? b=qq {o with slots:=sl })->Q () {s with heap:=h' }) :
 qu M A (do let a <- frameOf env;let pl <- entryPlaceOf L hadNext;let b <- EntryCells.newEntry head a .none (jj L) .none pl;setField (.ref e) 1 b) Q E s:=by
 have hene:e ∉ (env::outer).filterMap (·.frame):=λ hm=>by
  obtain⟨_,o,ho,hnf⟩:=hl.mem hm;rw[he] at ho;cases ho;exact hnf vs hd
 refine wB (wpAny_frameOf_fun hfr hl hf λ h1 hs1=>?_)
 refine wB (wpAny_entryPlaceOf λ pl hpl=>?_)
 unfold EntryCells.newEntry newFields;refine wB (xu ?_ (hpl.sizeOk5 _ _ _ _ _));have he1:h1.get? e=qq oe:=(hs1.2.1 e hene).trans he;generalize hob:({cls:=.type "traceback",dict:=qz,data:=.fields ([head,.ref L,.none,jj L,.none]++(if pl.isEmpty then yAd 6 Value.none else pl)).toArray }:Obj)=ob
 have hobd:ob.data=.fields ([head,.ref L,.none,jj L,.none]++(if pl.isEmpty then yAd 6 Value.none else pl)).toArray:=by rw[<- hob]
 have he2:=hpS (h:=h1) ob he1;refine wpAny_setField he2 hd hsz ?_;have hTe:h1.objs.size≠e:=Nat.ne_of_gt (xAa he1);have hd3:=Obj.data_mapFields hd (·.setIfInBounds 1 (Value.ref h1.objs.size));have hfr:ob.isFreed=false:=Obj.isFreed_of_fields hobd;refine h _ h1.objs.size ob _ (yBv _ he2 (Obj.isFreed_of_fields hd3)) (by rw[hs1.1];exact yAc _) ?_ hobd (by simp) (λ b o hb hbe hbf=>?_) λ b o hb hbe=>?_
 ·rw[yBc _ _ (Ne.symm hTe)];exact xAe h1 hfr
 ·rw[yBc _ _ (Ne.symm hbe)];exact hpS _ ((hs1.2.1 b hbf).trans hb)
 ·obtain⟨sl,hs⟩:=hs1.2.2 b o hb;exact⟨sl,by rw[yBc _ _ (Ne.symm hbe)];exact hpS _ hs⟩
theorem aHn{base:Heap}{env:Env}{outer:List Env}{L e:qv}{cls:qx}{dx:Option qv}{fl:Option qx}{h0:Heap}{H:Hp}{Q:Unit->qj->Prop}
 (hfr:A.frames=qq (env::outer)) (hl:s.heap.FunFrames base (env::outer)) (hf:env.frame=qq L) (hlo:∀ b,s.heap.objs.size<=b->h0.get? b=qz) (hH:∀ b,s.heap.objs.size<=b->H b=qz) (ht:Trc s.heap h0 H e cls dx fl)
 (hfl:fl=qz\/fl=qq .none\/fl=qq (jj L)) (h:∀ h',Trc h' h0 H e cls dx (qq (jj L))->Chg (cQ (env::outer)) h0 H s.heap h'->Q () {s with heap:=h' }):qu M A (noteFrame (.ref e) env) Q E s:=by
 obtain⟨oe,vs,he,hc,hdx,hd,hsz,hle,hHe,ht⟩:=id ht.ex;have last:∀ {s1:qj}{head:qx}{hn:Bool},s1.heap.FunFrames base (env::outer)->s1.heap.get? e=qq oe->s1.heap.objs.size=s.heap.objs.size->Chg (cQ (env::outer)) h0 H s.heap s1.heap->(∀ h',Q () {s1 with heap:=h' }=Q () {s with heap:=h' }) ->
  qu M A (do let a <- frameOf env;let pl <- entryPlaceOf L hn;let b <- EntryCells.newEntry head a .none (jj L) .none pl;setField (.ref e) 1 b) Q E s1:=by
  intro s1 head hn hl1 he1 hz c1 hQ;refine aGf hfr hl1 hf he1 hd hsz λ h' T oT ts x1 x2 x3 x4 x5 x6 x7=>?_
  rw[hQ];have hT:s.heap.objs.size<=T:=by rw[<- hz];exact x2
  have hTe:T≠e:=λ z=>by
   have:=xAa he;rw[<- z] at this;exact absurd (xAc this hT) (yBb _)
  refine h h' ⟨_,_,x1,?_,?_,Obj.data_mapFields hd _,by simpa using hsz,hle,hHe,.inr ⟨_,T,oT,ts,rfl,by simp[hsz],hTe,hlo T hT,hH T hT,x3,x4,x5⟩⟩ (c1.trans ⟨λ b o hb hn hq=>x6 b o hb (λ z=>?_) hn,λ b o hb hm hnf=>x7 b o hb (λ z=>?_),λ b o hb=>?_⟩)
  ·rw[Obj.cls_mapFields];exact hc
  ·have:(oe.mapFields (·.setIfInBounds 1 (Value.ref T))).dict=oe.dict:=by
    obtain⟨_,_,dt,_⟩:=oe;cases dt<;>rfl
   rw[this];exact hdx
  ·subst z;rw[he1] at hb;cases hb;rcases hq with q | q | q
   ·exact q hle
   ·exact q hHe
   ·exact q vs hd
  ·subst z;rw[he1] at hb;cases hb;exact hnf vs hd
  ·by_cases z:b=e
   ·subst z;exact⟨_,x1⟩
   ·obtain⟨sl,q⟩:=x7 b o hb z;exact⟨_,q⟩
 rcases ht with ⟨rfl,h1⟩ | ⟨f,T,oT,ts,rfl,h1,hTe,hTlo,hHT,hT,hdT,h3⟩
 ·unfold noteFrame;simp only[hf];refine wB (jx he hd h1 ?_);rw[if_neg (by decide)]
  exact last hl he rfl .refl λ _=>rfl
 ·by_cases hfL:f=jj L
  ·subst hfL;unfold noteFrame;simp only[hf];refine wB (jx he hd h1 ?_);rw[if_pos (show(Value.ref T != Value.none)=true from by simp)]
   refine wB (jx hT hdT h3 ?_);rw[if_pos (show(jj L==jj L)=true from by simp)]
   exact wP (h s.heap ht .refl)
  ·obtain rfl:f=.none:=by
    rcases hfl with z | z | z
    ·cases z
    ·cases z;rfl
    ·cases z;exact absurd rfl hfL
   unfold noteFrame;simp only[hf];refine wB (jx he hd h1 ?_);rw[if_pos (show(Value.ref T != Value.none)=true from by simp)]
   refine wB (jx hT hdT h3 ?_);rw[if_neg (show ¬ ((Value.none==jj L)=true) from by simp[jj])]
   refine wB (wpAny_setField hT hdT (Array.getElem?_eq_some_iff.mp h3).1 ?_);have other:∀ b,b≠T->(s.heap.update T (Obj.mapFields (·.setIfInBounds 3 Value.none))).get? b=s.heap.get? b:=λ b hb=>yBc _ _ (Ne.symm hb)
   have noRec:∀ b o,s.heap.get? b=qq o->(∀ vs,o.data≠.fields vs)->b≠T:=λ b o hb hnf q=>by
    subst q;rw[hT] at hb;cases hb;exact hnf ts hdT
   refine last (hl.of_keeps λ b o hb hnf=>⟨o,(other b (noRec b o hb hnf)).trans hb,rfl⟩) ((other e (Ne.symm hTe)).trans he) (Heap.size_after_update ..) ⟨λ b o hb hn hq=>(other b λ z=>?_).trans hb,λ b o hb hm hnf=>⟨o.slots,(other b (noRec b o hb hnf)).trans hb⟩,λ b o hb=>?_⟩ λ _=>rfl
   ·subst z;rw[hT] at hb;cases hb;rcases hq with q | q | q
    ·exact q hTlo
    ·exact q hHT
    ·exact q ts hdT
   ·by_cases z:b=T
    ·subst z;exact⟨_,yBv _ hT (Obj.isFreed_of_fields (Obj.data_mapFields hdT _))⟩
    ·exact⟨o,(other b z).trans hb⟩
theorem aFA{e:qv}{cls:qx}{dx:Option qv}{f:qx}{h0:Heap}{H:Hp}{fs:List qv}{v:Option qv}{Q:Unit->qj->Prop}(ht:Trc s.heap h0 H e cls dx (qq f))
 (h:∀ h',Trc h' h0 H e cls dx (qq (v.elim .none λ f=>jj f))->Chg fs h0 H s.heap h'->Q () {s with heap:=h' }):qu M A (setFlight (.ref e) v) Q E s:=by
 obtain⟨oe,vs,he,hc,hdx,hd,hsz,hle,hHe,ht⟩:=ht.ex;rcases ht with ⟨z,_⟩ | ⟨f',T,oT,ts,z,h1,hTe,hTlo,hHT,hT,hdT,h3⟩
 ·cases z
 cases z;have hsz3:3<ts.size:=(Array.getElem?_eq_some_iff.mp h3).1;unfold setFlight;refine wB (jx he hd h1 ?_);rw[if_pos (show(Value.ref T != Value.none)=true from by simp)]
 have other:∀ b,b≠T->(s.heap.update T (Obj.mapFields (·.setIfInBounds 3 (v.elim Value.none λ f=>jj f)))).get? b=s.heap.get? b:=λ b hb=>yBc _ _ (Ne.symm hb)
 have noRec:∀ b o,s.heap.get? b=qq o->(∀ vs,o.data≠.fields vs)->b≠T:=λ b o hb hnf q=>by
  subst q;rw[hT] at hb;cases hb;exact hnf ts hdT
 have hT2:=yBv (Obj.mapFields (·.setIfInBounds 3 (v.elim Value.none λ f=>jj f))) hT (Obj.isFreed_of_fields (Obj.data_mapFields hdT _))
 refine wpAny_setField hT hdT hsz3 (h _ ⟨oe,vs,(other e (Ne.symm hTe)).trans he,hc,hdx,hd,hsz,hle,hHe,.inr ⟨_,T,_,_,rfl,h1,hTe,hTlo,hHT,hT2,Obj.data_mapFields hdT _,by simp[hsz3]⟩⟩ ⟨λ b o hb hn hq=>(other b λ z=>?_).trans hb,λ b o hb hm hnf=>⟨o.slots,(other b (noRec b o hb hnf)).trans hb⟩,λ b o hb=>?_⟩)
 ·subst z;rw[hT] at hb;cases hb;rcases hq with q | q | q
  ·exact q hTlo
  ·exact q hHT
  ·exact q ts hdT
 ·by_cases z:b=T
  ·subst z;exact⟨_,hT2⟩
  ·exact⟨o,(other b z).trans hb⟩
end
structure Bel(X:Cx)(aA:List (qv×Obj))(h0:Heap):Prop where
 s0:∀ b o,X.s₀.heap.get? b=qq o->b ∉ X.ex->h0.get? b≠qz
 loc:h0.get? X.env.locals≠qz
 cell:∀ x c,X.env.cells.lookup x=qq c->h0.get? c≠qz
 pin:∀ p∈X.pn++aA,h0.get? p.1≠qz
theorem iL{h:Heap}{b:qv}{o:Obj}(e:h.get? b=qq o):h.get? b≠qz:=by rw[e];simp
theorem pA{X:Cx}{aA:List (qv×Obj)}{σ:L2.St}{H:Hp}{s:qj}(I:Inv X aA σ H s):Bel X aA s.heap:=
 ⟨λ b o e n=>let ⟨_,e'⟩:=I.base.there b o e n;iL e',let ⟨_,⟨_,_,_,ho,_⟩,_⟩:=I.loc;iL ho,λ x c e=>let ⟨v,o,ho,_⟩:=I.cell x c e;iL ho,λ p hp=>iL (I.pin p hp).1⟩
theorem aBW{X:Cx}{aA:List (qv×Obj)}{σ:L2.St}{H:Hp}{s:qj}{h0 h':Heap}(I:Inv X aA σ H s)(B:Bel X aA h0)(c:Chg (cQ X.stack) h0 H s.heap h'):Inv X aA σ H {s with heap:=h' }:=by
 have nfs:∀ b u,H b=qq u->b ∉ cQ X.stack:=λ b u e z=>by rw[I.stkFree b z] at e;cases e
 have hnf:∀ b∈cQ X.stack,∀ o,s.heap.get? b=qq o->∀ vs,o.data≠.fields vs:=λ b hb o ho vs=>by
  obtain⟨_,o',ho',hd⟩:=I.stack.mem hb;rw[ho] at ho';cases ho';exact hd vs
 have any:∀ b o,s.heap.get? b=qq o->h0.get? b≠qz->∃ sl,h'.get? b=qq {o with slots:=sl }:=λ b o e n=>by
  by_cases hb:b∈cQ X.stack
  ·exact c.slot b o e hb (hnf b hb o e)
  ·exact⟨o.slots,c.keep b o e hb (.inl n)⟩
 have neL:∀ b o,X.s₀.heap.get? b=qq o->b≠X.env.locals:=λ b o e=>xAh (xAc (xAa e) I.ok.above)
 have cellK:∀ x k,X.env.cells.lookup x=qq k->∀ v,s.heap.IsCell k v->h'.IsCell k v:=λ x k e v aO=>by
  obtain⟨o,ho,hd⟩:=aO;obtain⟨sl,q⟩:=any k o ho (B.cell x k e);exact⟨_,q,hd⟩
 refine⟨I.ok,I.os,I.bare,⟨λ b o e n hb hx=>?_,λ b o e n hb hx=>?_,I.base.free,λ b o e hx=>?_,I.base.tups,I.base.frzs,I.base.tbls⟩,?_,λ x k e=>?_,I.free,I.freeC,λ p hp=>?_,λ b u e=>?_,I.len⟩
 ·exact c.keep b o (I.base.keep b o e n hb hx) (λ z=>(List.mem_cons.mp (I.stkSub b z)).elim (neL b o e) hb) (.inl (B.s0 b o e hx))
 ·obtain⟨sl,e1⟩:=I.base.slot b o e n hb hx;obtain⟨sl',e2⟩:=any b _ e1 (B.s0 b o e hx);exact⟨sl',e2⟩
 ·obtain⟨o',e1⟩:=I.base.there b o e hx;exact c.there b o' e1
 ·obtain⟨m,⟨o,es,ep,ho,r⟩,hl⟩:=I.loc;obtain⟨sl,q⟩:=any _ o ho B.loc;refine⟨m,⟨_,es,ep,q,r⟩,λ i x v e1 e2 e3=>?_⟩
  obtain⟨u,r,l⟩:=hl i x v e1 e2 e3;refine⟨u,r,?_⟩;rcases l with l | ⟨k,d,e,z⟩
  ·exact .inl l
  ·exact .inr ⟨k,d,e,cellK x d e _ z⟩
 ·obtain⟨v,z⟩:=I.cell x k e;exact⟨v,cellK x k e v z⟩
 ·obtain⟨e,n,ne,nf,d⟩:=I.pin p hp;exact⟨c.keep p.1 p.2 e (λ z=>(List.mem_cons.mp (I.stkSub _ z)).elim ne nf) (.inl (B.pin p hp)),n,ne,nf,d⟩
 ·refine(I.hok b u e).stay (λ d v hd q=>c.keep d v q ?_ (.inr (.inl ?_))) (λ _ q=>q) λ _ _ q=>q
  ·rcases hd with z | z
   ·rw[z];exact nfs b u e
   ·exact nfs d _ z
  ·rcases hd with z | z
   ·rw[z,e];simp
   ·rw[z];simp
abbrev XW:=L2.St->qx->Option qv->Hp->Prop
def gU(X:Cx)(W:XW)(e:qx)(s:qj):Prop:=∃ a cls dx fl h0 σ H,e=.ref a/\Inv X [] σ H s/\Trc s.heap h0 H a cls dx fl/\(fl=qz\/fl=qq .none\/fl=qq (jj X.env.locals))/\Bel X [] h0/\(∀ b,h0.get? b≠qz->s.heap.get? b≠qz)/\W σ cls dx H
noncomputable def gO(P:qo)(w:zq):fW:=λ outer H s E e s'=>∃ a cls dx H',e=.ref a/\s'.os=s.os/\AllBare s'.gens/\Un (cQ outer) [] H H' s.heap s'.heap/\cE P w H' s'.heap/\Trc s'.heap s.heap H' a cls dx (qq .none)/\E cls dx H'
structure Dfb(X:Cx):Prop where
 stk:X.stack=X.env::X.outer
 frm:X.env.frame=qq X.env.locals
 ex:X.ex=[]
theorem aEP{h0 h:Heap}(q:∀ b,h0.get? b≠qz->h.get? b≠qz):∀ b,h.objs.size<=b->h0.get? b=qz:=λ b hb=>by
 cases e:h0.get? b with
 | none=>rfl
 | some o =>
   have:=q b (iL e);cases e2:h.get? b with
   | none=>exact absurd e2 this
   | some o2=>exact absurd (xAc (xAa e2) hb) (yBb _)
theorem Chg.stay{fs:List qv}{h0 h1:Heap}{H:Hp}{h h':Heap}(c:Chg fs h1 H h h')(q:∀ b,h0.get? b≠qz->h.get? b≠qz):∀ b,h0.get? b≠qz->h'.get? b≠qz:=λ b hb=>by
 have:=q b hb;cases e:h.get? b with
 | none=>exact absurd e this
 | some o=>obtain⟨o',e'⟩:=c.there b o e;exact iL e'
theorem mJ{X:Cx}{aA:List (qv×Obj)}{σ:L2.St}{H:Hp}{s:qj}(I:Inv X aA σ H s):Inv X [] σ H s:=
 ⟨I.ok,I.os,I.bare,I.base,I.loc,I.cell,I.free,I.freeC,λ p hp=>I.pin p (by rw[yAv] at hp;exact yDs _ hp),I.hok,I.len⟩
theorem Trc.down{h h0 h1:Heap}{H:Hp}{e:qv}{cls:qx}{dx:Option qv}{fl:Option qx}(t:Trc h h1 H e cls dx fl)(q:∀ b,h0.get? b≠qz->h1.get? b≠qz):Trc h h0 H e cls dx fl:=by
 have z:∀ b,h1.get? b=qz->h0.get? b=qz:=λ b hb=>by
  cases e:h0.get? b with
  | none=>rfl
  | some o=>exact absurd hb (q b (iL e))
 obtain⟨oe,vs,he,hc,hdx,hd,hsz,hle,hHe,ht⟩:=t.ex;refine⟨oe,vs,he,hc,hdx,hd,hsz,z e hle,hHe,?_⟩;rcases ht with t | ⟨f,T,oT,ts,a,b,c,d,r⟩
 ·exact .inl t
 ·exact .inr ⟨f,T,oT,ts,a,b,c,z T d,r⟩
theorem wL{X:Cx}{A:zx}{W:XW}{e:qx}{s:qj}{E:qx->qj->Prop}{Q:Unit->qj->Prop}(D:Dfb X)(hA:A.frames=X.A.frames)(h:gU X W e s)
 (hq:∀ a cls dx h0 σ H s',e=.ref a->Inv X [] σ H s'->Trc s'.heap h0 H a cls dx (qq (jj X.env.locals))->Bel X [] h0->(∀ b,h0.get? b≠qz->s'.heap.get? b≠qz)->W σ cls dx H->Q () s'):qu (model X.prog X.w) A (noteFrame e X.env) Q E s:=by
 obtain⟨a,cls,dx,fl,h0,σ,H,rfl,I,T,hfl,B,hb,hw⟩:=h;have hs:=I.stack;rw[D.stk] at hs;refine aHn (by rw[hA,I.ok.frames,D.stk]) hs D.frm (aEP hb) (λ b=>I.hok.fresh) T hfl λ h' T' c=>?_
 rw[<- D.stk] at c;exact hq a cls dx h0 σ H _ rfl (aBW I B c) T' B (c.stay hb) hw
theorem oQ{X:Cx}{A:zx}{σ:L2.St}{H:Hp}{a:qv}{cls f:qx}{dx:Option qv}{h0:Heap}{s:qj}{v:Option qv}{E:qx->qj->Prop}{Q:Unit->qj->Prop}(I:Inv X [] σ H s)(T:Trc s.heap h0 H a cls dx (qq f))(B:Bel X [] h0)(hb:∀ b,h0.get? b≠qz->s.heap.get? b≠qz)
 (hq:∀ s',Inv X [] σ H s'->Trc s'.heap h0 H a cls dx (qq (v.elim .none λ f=>jj f))->(∀ b,h0.get? b≠qz->s'.heap.get? b≠qz)->Q () s'):qu (model X.prog X.w) A (setFlight (.ref a) v) Q E s:=
 aFA (fs:=cQ X.stack) T λ h' T' c=>hq _ (aBW I B c) T' (c.stay hb)
theorem aGo{P:qo}{w:zq}{K:FrG}{mg:Str->Option qx}{base:Heap}{N:List Str}{bA:Str}{scope:zv}{f:qv}{cd:qx}{A:zx}{outer:List Env}{s:qj}{H:Hp}{E:XK}{e:qx}{s':qj}
 (h:gU (fR (gO P w) P w K mg base N bA scope f cd A outer s H E) (λ _=>E) e s'):(fR (gO P w) P w K mg base N bA scope f cd A outer s H E).xe e s':=by
 unfold fR leaving;refine wB (wL (X:=fR (gO P w) P w K mg base N bA scope f cd A outer s H E) ⟨rfl,rfl,rfl⟩ rfl h λ a cls dx h0 σ H' s1 ea I T B hb hw=>?_)
 subst ea;refine oQ (X:=fR (gO P w) P w K mg base N bA scope f cd A outer s H E) (v:=qz) I T B hb λ s2 I2 T2 hb2=>?_
 exact⟨a,cls,dx,H',rfl,I2.os,I2.bare,I2.base,I2.hok,T2.down λ b hb=>by
  cases q:s.heap.get? b with
  | none=>exact absurd q hb
  | some o=>exact B.s0 b o q (by intro z;cases z),hw⟩
theorem aCn{X:Cx}{W:XW}(D:Dfb X):PassesOwn (model X.prog X.w) X.A X.env (gU X W):=λ e s h=>by
 refine wL D rfl h λ a cls dx h0 σ H s1 ea I T B hb hw=>?_
 subst ea;obtain⟨oe,vs,he,hc,hdx,hd,hsz,hle,hHe,ht⟩:=id T.ex;rcases ht with ⟨z,_⟩ | ⟨f',Tb,oT,ts,z,h1,_⟩
 ·cases z
 cases z;unfold cameBackBy;refine wB (jx he hd h1 ?_);rw[if_neg (by simp)]
 refine oQ I T B hb λ s2 I2 T2 hb2=>?_
 rw[D.frm] at T2;exact⟨a,cls,dx,_,h0,σ,H,rfl,I2,T2,.inr (.inr rfl),B,hb2,hw⟩
theorem gU.unwish{X:Cx}{E:qx->qj->Prop}{W:XW}{e:qx}{s:qj}(h:gU (X.wish E) W e s):gU X W e s:=by
 obtain⟨a,cls,dx,fl,h0,σ,H,ea,I,T,hfl,B,hb,hw⟩:=h;exact⟨a,cls,dx,fl,h0,σ,H,ea,I.unwish,T,hfl,⟨B.s0,B.loc,B.cell,B.pin⟩,hb,hw⟩
theorem Dfb.wish{X:Cx}(D:Dfb X)(E:qx->qj->Prop):Dfb (X.wish E):=⟨D.stk,D.frm,D.ex⟩
section
variable {P : qo}{w : zq}{K : FrG}{mg : Str -> Option qx}{base : Heap}
theorem bI.wish{X:Cx}{E:qx->qj->Prop}(hE:∀ e s,E e s->X.xe e s){st:List zy}{t:TS}(h:bI (X.wish E) st t):bI X st t:=λ aA s σ H D I hw =>
 wpAny_mono (h aA s σ H D (I.wish _) hw) (λ _ _ q=>q.unwish) hE
theorem Fun.okX{x bA:Str}{st:zy}{f:qv}{fd:xw}{N ps:List Str}{k:Nat}{sp:Sp}(F:Fun K x bA st f fd)(S:FnScope N ps (bD st))(len:∀ vs H Q E,sp vs H Q E->vs.length=ps.length)
 (hbody:∀ (X:Cx) (A:zx) (vs:List V) (H:Hp) (Q:VK) (E:XK),X.prog=P->X.w=w->X.K=K->X.mg=mg->X.base=base->X.N=N->X.env.scope=bD st->X.calm=true->(∀ x,X.fn x=true)->Dfb X->Room k X.A->sp vs H Q E ->
   ∃ t,bI (X.wish (gU X λ _=>E)) (cY st) t/\t {nx:=λ _ H'=>Q .non H',rt:=Q } (start N vs) H):FnOk P w K mg base (gO P w) (k+1) f fd ps sp:=by
 obtain⟨oc,od,kV,doc,pm,an,cdv,ct,osl,rfl,lk,hcd⟩:=F.ex;refine aDj lk hcd S len λ A outer s H vs Q E hr hsp=>?_
 obtain⟨t,h,q⟩:=hbody (fR (gO P w) P w K mg base N bA (bD st) f cdv A outer s H E) A vs H Q E rfl rfl rfl rfl rfl rfl rfl rfl (λ _=>rfl) ⟨rfl,rfl,rfl⟩ hr hsp
 exact⟨t,bI.wish (λ e s h=>aGo h) h,q⟩
end
section
variable {X : Cx}{k : Nat}{f : qv}{fd : xw}{ps : List Str}{sp : Sp}{W : XW}{x : Str}{p pos : Pos}{e : qw}{es : List qw}{t : TA}
def pN(X:Cx)(W:XW):Prop:=∀ e s,gU X W e s->X.xe e s
theorem aGR{aA:List (qv×Obj)}{σ:L2.St}{H:Hp}{s:qj}{Q:VK}{us:List qx}{vs:List V}(F:FnOk X.prog X.w X.K X.mg X.base (gO X.prog X.w) k f fd ps sp)(hr:Room k X.A)(hb:cS X.K fd ps [])(hx:pN X W)
 (I:Inv X aA σ H s) (r:aM vs us) (h:sp vs H Q (W σ)):qu (model X.prog X.w) X.A (call (.ref f) us) (EP X aA σ Q) X.xe s:=by
 have hl:(us++[]).length=ps.length:=by rw[yAv,<- r.length];exact F.len _ _ _ _ h
 have hbb:=hb s us I.kIn hl;rw[yAv] at hbb;refine wpAny_call (codeAny_mono (F.run X.A X.stack s H ⟨us,[]⟩ us vs Q (W σ) hr I.env0 hbb r h) λ r s' hq=>?_)
 cases r with
 | error e =>
   obtain⟨a,cls,dx,H',rfl,os,bare,un,hok,T,q⟩:=hq;have I2:Inv X aA σ H' s':=I.call' (ch:=[]) os un hok bare λ b z=>absurd z (by simp)
   exact hx _ _ ⟨a,cls,dx,_,s.heap,σ,H',rfl,mJ I2,T,.inr (.inl rfl),pA (mJ I),λ b hb=>by
    cases q:s.heap.get? b with
    | none=>exact absurd q hb
    | some o=>obtain⟨o',e'⟩:=un.there b o q (by simp);exact iL e',q⟩
 | ok fl =>
   cases fl with
   | ret u=>exact I.after hq
   | next=>exact False.elim hq
   | brk=>exact False.elim hq
   | cont=>exact False.elim hq
def aCy(sp:Sp)(W:XW)(t:TA):TE:=λ σ H Q=>t σ H λ vs H1=>sp vs H1 Q (W σ)
theorem aGc(F:FnOk X.prog X.w X.K X.mg X.base (gO X.prog X.w) k f fd ps sp)(hr:Room k X.A)(hg:Gl X x)(hm:X.mg x=qq (.ref f))(hk:yBg X.K (.ref f)=true)(hb:cS X.K fd ps [])(hx:pN X W)
 (ha:PA X (e::es) t) (hdb:(x==("__debug__" : Str))=false) (he:zj (e::es) X.env=(false,eval e X.env)::zj es X.env) (hpl:(backTo pos (zj es X.env)).any (·.1)=false) :
 PE X (.Call (.Name x p) (e::es) [] pos) (aCy sp W t):=by
 intro aA s σ H Q I h;refine xj (jN I hg hm ?_ hdb);refine yCz (h₀:=X.base) I.ok.mod.kin hk (aY (ha pos aA s σ H _ I h) λ us s1 ⟨vs,H1,I1,r,q⟩=>⟨I1.kIn,?_⟩) he hpl
 exact aGR F hr hb hx I1 r q
end
inductive FlX where
 | fl (f:Fl) | ex (env:aQ) (c:Str) (r:D)
abbrev FX:=aQ->aB->Option (FlX×aB)
inductive ResX where
 | ok (w:W) | ex (c:Str) (r:D)
abbrev hB:=aQ->aB->Option (ResX×aB)
def lW(K:FrG)(F:Hp)(c:Str)(r:D)(cls:qx)(dx:Option qv):Prop:=∃ C,cls=.ref C/\yBw K qy c=qq (qq (.ref C))/\qA F dx r
theorem lW.mono{K:FrG}{F F':Hp}(e:bL F F'){c:Str}{r:D}{cls:qx}{dx:Option qv}(h:lW K F c r cls dx):lW K F' c r cls dx:=let ⟨C,h1,h2,h3⟩:=h;⟨C,h1,h2,h3.mono e⟩
section
variable (K : FrG)(W : XW)
noncomputable def aKn(D:Ends)(F':Hp)(L':List qv)(H':Hp):FlX->Prop
 | .fl f=>uH K D F' L' H' f
 | .ex env c r=>∀ σ cls dx,EnvR K F' L' env σ->lW K F' c r cls dx->W σ cls dx H'
def tX(f:FX):TS:=λ D σ H=>∃ F L S env fx S',Rel K F L S H/\EnvR K F L env σ/\f env S=qq (fx,S')/\∀ F' L' H',Gr F L F' L'->Rel K F' L' S' H'->aKn K W D F' L' H' fx
noncomputable def pZ(F:Hp)(L:List qv)(S':aB)(Q:VK)(E:XK):ResX->Prop
 | .ok w=>nK K F L S' w Q
 | .ex c r=>∀ F' L' H' cls dx,Gr F L F' L'->Rel K F' L' S' H'->lW K F' c r cls dx->E cls dx H'
def mG(f:hB):TE:=λ σ H Q=>∃ F L S env res S',Rel K F L S H/\EnvR K F L env σ/\f env S=qq (res,S')/\pZ K F L S' Q (W σ) res
noncomputable def mF(np:Nat)(call:List EV.W->aB->Option (ResX×aB)):Sp:=λ vs H Q E=>∃ F L S ws res S',ws.length=np/\Rel K F L S H/\WDenL K F L ws vs/\call ws S=qq (res,S')/\pZ K F L S' Q E res
end
theorem pZ.mono{K:FrG}{F F1:Hp}{L L1:List qv}{S':aB}{Q:VK}{E:XK}{res:ResX}(g:Gr F L F1 L1)(h:pZ K F L S' Q E res):pZ K F1 L1 S' Q E res:=by
 cases res with
 | ok w=>exact λ F2 L2 H2 v g2 R2 d2=>h F2 L2 H2 v (g.trans g2) R2 d2
 | ex c r=>exact λ F2 L2 H2 cls dx g2 R2 x2=>h F2 L2 H2 cls dx (g.trans g2) R2 x2
section
variable {X : Cx}{W : XW}{pos : Pos}
theorem PS.nox{st:zy}{t:TS}(h:PS X.nox st t):PS X st t:=λ aA s σ H D I hw =>
 wpAny_mono (h aA s σ H D (I.wish _) hw) (λ _ _ q=>q.unwish) λ _ _ z=>False.elim z
theorem PA.nox{es:List qw}{t:TA}(h:PA X.nox es t):PA X es t:=λ pos aA s σ H Q I hw =>
 wpAny_mono (h pos aA s σ H Q (I.wish _) hw) (λ _ _ hPr3=>by obtain⟨v,H',I',r,q⟩:=hPr3;exact⟨v,H',I'.unwish,r,q⟩) λ _ _ z=>False.elim z
noncomputable def xP(f:FS):FX:=λ env S=>(f env S).bind λ p=>qq (.fl p.1,p.2)
theorem aLT{K:FrG}{f:FS}(D:Ends)(σ:L2.St)(H:Hp)(h:tX K W (xP f) D σ H):cA K f D σ H:=by
 obtain⟨F,L,S,env,fx,S',R,E,e,q⟩:=h;obtain⟨⟨fl,S1⟩,e1,e2⟩:=bind_some e;cases e2;exact gB R E e1 q
theorem x_s{st:zy}{f:FS}(h:PS X.nox st (cA X.K f)):PS X st (tX X.K W (xP f)):=PS.weak (PS.nox h) aLT
noncomputable def aDf:FX:=λ env S=>qq (.fl (.nx env),S)
theorem aKG:bI X [] (tX X.K W aDf):=bI.weak xR λ D σ H h=>by
 obtain⟨F,L,S,env,fx,S',R,E,e,q⟩:=h;cases e;exact q F L H Gr.refl R σ E
noncomputable def aEi(fa fb:FX):FX:=λ env S=>(fa env S).bind λ p=>match p.1 with
 | .fl (.nx e)=>fb e p.2
 | fl=>qq (fl,p.2)
theorem aJ5{a:zy}{b:List zy}{fa fb:FX}(ha:PS X a (tX X.K W fa))(hb:bI X b (tX X.K W fb)):bI X (a::b) (tX X.K W (aEi fa fb)):=bI.weak (wS ha hb) λ D σ H h=>by
 obtain⟨F,L,S,env,fx,S',R,E,e,q⟩:=h;obtain⟨⟨f1,S1⟩,e1,e2⟩:=bind_some e;cases f1 with
 | ex e' c r=>cases e2;exact⟨F,L,S,env,_,_,R,E,e1,q⟩
 | fl f1 =>
   cases f1 with
   | nx e'=>exact⟨F,L,S,env,_,_,R,E,e1,λ F1 L1 H1 g1 R1 σ1 E1=>⟨F1,L1,S1,e',fx,S',R1,E1,e2,λ F2 L2 H2 g2 R2=>q F2 L2 H2 (g1.trans g2) R2⟩⟩
   | rt w=>cases e2;exact⟨F,L,S,env,_,_,R,E,e1,q⟩
   | bk e'=>cases e2;exact⟨F,L,S,env,_,_,R,E,e1,q⟩
   | ct e'=>cases e2;exact⟨F,L,S,env,_,_,R,E,e1,q⟩
noncomputable def xIf(fc:FT)(fa fb:FX):FX:=λ env S=>(fc env S).bind λ p=>if p.1=true then fa env p.2 else fb env p.2
theorem aLY{c:qw}{a b:List zy}{fc:FT}{fa fb:FX}(hc:PT X.nox c (dP X.K fc))(ha:bI X a (tX X.K W fa))(hb:bI X b (tX X.K W fb)):PS X (.If c a b pos) (tX X.K W (xIf fc fa fb)):=PS.weak (aDl (PT.nox hc) ha hb) λ D σ H h=>by
 obtain⟨F,L,S,env,fx,S',R,E,e,q⟩:=h;obtain⟨⟨c,S1⟩,e1,e2⟩:=bind_some e;refine⟨F,L,S,env,c,S1,R,E,e1,λ F1 L1 H1 g1 R1=>?_⟩
 cases c with
 | true=>exact nV ⟨F1,L1,S1,env,fx,S',R1,E.mono g1,by simpa using e2,λ F2 L2 H2 g2 R2=>q F2 L2 H2 (g1.trans g2) R2⟩
 | false=>exact nO ⟨F1,L1,S1,env,fx,S',R1,E.mono g1,by simpa using e2,λ F2 L2 H2 g2 R2=>q F2 L2 H2 (g1.trans g2) R2⟩
noncomputable def nN(t:Tg)(fb:FX):List D->FX
 | []=>λ env S=>qq (.fl (.nx env),S)
 | d::ds=>λ env S=>(t.put d env).bind λ e1=>(fb e1 S).bind λ q=>(match q.1 with
    | .fl (.nx e)=>nN t fb ds e q.2
    | .fl (.ct e)=>nN t fb ds e q.2
    | .fl (.bk e)=>qq (.fl (.nx e),q.2)
    | fl=>qq (fl,q.2))
noncomputable def tQ(t:Tg)(fi:FL)(fb:FX):FX:=λ env S=>(fi env S).bind λ p=>nN t fb p.1 env p.2
theorem aJ6{tg iter:qw}{b:List zy}{t:Tg}{g:TG}{fi:FL}{fb:FX}(hp:PassesOwn (model X.prog X.w) X.A X.env X.xe)(hc:X.calm=true)(hi:PI X tg iter (jF X.K fi))(hg:PG X tg g)(ga:GA X.K t g)(hb:bI X b (tX X.K W fb))
 (hs:∀ x,xy iter X.env x=pure x):PS X (.For tg iter b [] pos) (tX X.K W (tQ t fi fb)):=PS.weak (aCM hp hc hi hg hb hs) λ D σ H h=>by
 obtain⟨F,L,S,env,fx,S',R,E,e,q⟩:=h;obtain⟨⟨ds,S1⟩,e1,e2⟩:=bind_some e;refine⟨F,L,S,env,ds,S1,R,E,e1,λ F0 L0 H0 J g0 R0 wk=>?_⟩
 dsimp only at e2;refine⟨λ i m σ1 H1=>i+m=ds.length/\∃ F1 L1 S1 env1,Gr F0 L0 F1 L1/\Rel X.K F1 L1 S1 H1/\EnvR X.K F1 L1 env1 σ1/\nN t fb (ds.drop i) env1 S1=qq (fx,S'),
  ⟨ds.length,yEm _,F0,L0,S1,env,Gr.refl,R0,E.mono g0,by rw[yCk];exact e2⟩,?_⟩
 rintro i m σ1 H1 ⟨him,F1,L1,S1',env1,g1,R1,E1,e3⟩;cases m with
 | zero =>
   have hi:i=ds.length:=by omega
   subst hi;rw[yDq] at e3;cases e3;exact .inl ⟨wk.stop H1 (g1.f.trans R1.sub),q F1 L1 H1 (g0.trans g1) R1 σ1 E1⟩
 | succ m =>
   have hi:i<ds.length:=by omega
   refine .inr ⟨wk.go i H1 (g1.f.trans R1.sub) hi,λ σ3 H3=>∃ F3 L3 S3 env3,Gr F0 L0 F3 L3/\Rel X.K F3 L3 S3 H3/\EnvR X.K F3 L3 env3 σ3/\nN t fb (ds.drop (i+1)) env3 S3=qq (fx,S'),
    λ σ3 H3 h3=>⟨m,yCu m,by omega,h3⟩,λ x H2 y=>?_⟩
   rw[yBy hi] at e3;obtain⟨env2,e4,e5⟩:=bind_some e3;obtain⟨⟨f6,S6⟩,e6,e7⟩:=bind_some e5;obtain⟨F2,s2,R2,d2⟩:=wk.yld i H1 F1 L1 S1' x H2 ds[i] g1 R1 (yAa hi) y;have g2:Gr F1 L1 F2 L1:=⟨s2,[],by simp⟩
   refine ga ds[i] x σ1 H2 F2 L1 S1' env1 env2 _ R2 (E1.mono g2) d2 e4 λ σ2 E2=>?_
   refine⟨F2,L1,S1',env2,f6,S6,R2,E2,e6,λ F3 L3 H3 g3 R3=>?_⟩
   have g03:=(g1.trans g2).trans g3;cases f6 with
   | ex e' c r=>cases e7;exact λ σ3 cls dx E3 x3=>q F3 L3 H3 (g0.trans g03) R3 σ3 cls dx E3 x3
   | fl f6 =>
     cases f6 with
     | nx e'=>exact λ σ3 E3=>⟨F3,L3,S6,e',g03,R3,E3,e7⟩
     | ct e'=>exact λ σ3 E3=>⟨F3,L3,S6,e',g03,R3,E3,e7⟩
     | bk e'=>cases e7;exact λ σ3 E3=>q F3 L3 H3 (g0.trans g03) R3 σ3 E3
     | rt w=>cases e7;exact λ v d=>q F3 L3 H3 (g0.trans g03) R3 v d
noncomputable def lK(f:hB):FX:=λ env S=>(f env S).bind λ p=>match p.1 with
 | .ok _=>qq (.fl (.nx env),p.2)
 | .ex c r=>qq (.ex env c r,p.2)
noncomputable def nU(i:Nat)(f:hB):FX:=λ env S=>(f env S).bind λ p=>match p.1 with
 | .ok w=>qq (.fl (.nx (env.set i (qq w))),p.2)
 | .ex c r=>qq (.ex env c r,p.2)
noncomputable def sS(k:Str)(f:hB):hB:=λ env S=>(f env S).bind λ p=>match p.1 with
 | .ok (.d x)=>qq (.ok (.d (.tuple [.str k,x])),p.2)
 | .ok _=>qz
 | .ex c r=>qq (.ex c r,p.2)
noncomputable def zH(fs:FA)(np:Nat)(call:List EV.W->aB->Option (ResX×aB)):hB:=λ env S=>(fs env S).bind λ p=>if p.1.length=np then call p.1 p.2 else qz
theorem aIi{e:qw}{f:hB}(h:PE X e (mG X.K W f))(hs:swapsWith e qz pos.line X.env=pure false):PS X (.Expr e pos) (tX X.K W (lK f)):=PS.weak (aCq h hs) λ D σ H h=>by
 obtain⟨F,L,S,env,fx,S',R,E,e,q⟩:=h;obtain⟨⟨res,S1⟩,e1,e2⟩:=bind_some e;refine⟨F,L,S,env,res,S1,R,E,e1,?_⟩;cases res with
 | ok w=>cases e2;exact λ F1 L1 H1 v g1 R1 d1=>q F1 L1 H1 g1 R1 σ (E.mono g1)
 | ex c r=>cases e2;exact λ F1 L1 H1 cls dx g1 R1 x1=>q F1 L1 H1 g1 R1 σ cls dx (E.mono g1) x1
theorem aKF{i:Nat}{x:Str}{e:qw}{f:hB}{pos':Pos}(hN:X.N.Nodup)(hi:X.N[i]? = qq x)(hx:Loc X.env.scope x)(h:PE X e (mG X.K W f))(hs:swapsWith e (qq (.Name x pos')) pos.line X.env=pure false)(hf:X.fn x=true\/X.env.scope.names.lookup x=qq .local) :
 PS X (.Assign [.Name x pos'] e pos) (tX X.K W (nU i f)):=PS.weak (aCP hN hi hx h hs hf) λ D σ H h=>by
 obtain⟨F,L,S,env,fx,S',R,E,e,q⟩:=h;obtain⟨⟨res,S1⟩,e1,e2⟩:=bind_some e;refine⟨F,L,S,env,res,S1,R,E,e1,?_⟩;cases res with
 | ok w=>cases e2;exact λ F1 L1 H1 v g1 R1 d1=>q F1 L1 H1 g1 R1 _ ((E.mono g1).set i d1)
 | ex c r=>cases e2;exact λ F1 L1 H1 cls dx g1 R1 x1=>q F1 L1 H1 g1 R1 σ cls dx (E.mono g1) x1
theorem aIo{k:Str}{j:Nat}{p1:Pos}{kk:Nat}{e:qw}{f:hB}(h:PE X e (mG X.K W f))(hp:bP e=true):PE X (.Tuple [.Constant (.str k) j p1,e] kk pos) (mG X.K W (sS k f)):=
 PE.weak (yD (iE aCN (iE h mS (cU hp _ _)))) λ σ H Q h=>by
  obtain⟨F,L,S,env,res,S',R,E,e,q⟩:=h;obtain⟨⟨r1,S1⟩,e1,e2⟩:=bind_some e;refine⟨F,L,S,env,r1,S1,R,E,e1,?_⟩;cases r1 with
  | ex c r=>cases e2;exact q
  | ok w =>
    cases w with
    | d x =>
      cases e2;exact λ F1 L1 H1 v g1 R1 d1=>⟨by show 2<=qk;decide,λ p hp=>q _ L1 _ _ (g1.trans (Gr.new (R1.sub.free hp))) (R1.new hp) (Den.tup (bR.of bO) (.cons (.str k) (.cons (Den.mono (eP (R1.sub.free hp)) d1) .nil)))⟩
    | loc n=>cases e2
    | exc c r=>cases e2
theorem aHv{K:FrG}{fs:FA}{np:Nat}{call:List EV.W->aB->Option (ResX×aB)}(σ:L2.St)(H:Hp)(Q:VK)(h:mG K W (zH fs np call) σ H Q):aCy (mF K np call) W (dE K fs) σ H Q:=by
 obtain⟨F,L,S,env,res,S',R,E,e,q⟩:=h;obtain⟨⟨ws,S1⟩,e1,e⟩:=bind_some e
 split at e
 ·rename_i hn;exact⟨F,L,S,env,ws,S1,R,E,e1,λ F1 L1 H1 vs g1 R1 d1=>⟨F1,L1,S1,ws,res,S',hn,R1,d1,e,q.mono g1⟩⟩
 ·cases e
end
noncomputable def dJ(fb:FX)(n:Nat)(ws:List W)(S:aB):Option (ResX×aB):=(fb (ws.map qq++yAd (n-ws.length) qz) S).bind λ p=>match p.1 with
 | .fl (.rt w)=>(iU S.length p.2 w).bind λ q=>qq (.ok q.1,q.2)
 | .fl (.nx _)=>qq (.ok (.d .none),p.2.take S.length)
 | .ex _ c r=>qq (.ex c r,p.2.take S.length)
 | _=>qz
theorem aHo{K:FrG}{fb:FX}{N:List Str}{np:Nat}{vs:List V}{H:Hp}{Q:VK}{E:XK}(h:mF K np (dJ fb N.length) vs H Q E):tX K (λ _=>E) fb {nx:=λ _ H'=>Q .non H',rt:=Q } (L2.start N vs) H:=by
 obtain⟨F,L,S,ws,res,S',hn,R,dl,e,q⟩:=h;obtain⟨⟨fx,S1⟩,e1,e2⟩:=bind_some e;refine⟨F,L,S,_,fx,S1,R,aAX dl,e1,λ F1 L1 H1 g1 R1=>?_⟩
 cases fx with
 | ex aV c r =>
   cases e2;intro σ' cls dx E' x';obtain⟨sf,M,rfl⟩:=g1;have R2:=R1.cut;rw[R.len] at R2;exact q F1 L H1 cls dx ⟨sf,[],by simp⟩ R2 x'
 | fl f =>
   cases f with
   | nx aV =>
     cases e2;exact λ σ' E'=>sG (w:=.d .none) R.len g1 R1 Den.non rfl q
   | rt w' =>
     obtain⟨⟨w2,S2⟩,e3,e4⟩:=bind_some e2;cases e4;exact λ v d=>sG R.len g1 R1 d e3 q
   | bk aV=>cases e2
   | ct aV=>cases e2
noncomputable def kK(call:List EV.W->aB->Option (ResX×aB)):List EV.W->aB->Option (W×aB):=λ ws S=>(call ws S).bind λ p=>match p.1 with
 | .ok w=>qq (w,p.2)
 | .ex _ _=>qz
theorem aGl{P:qo}{w:zq}{K:FrG}{mg:Str->Option qx}{base:Heap}{k:Nat}{f:qv}{fd:xw}{ps:List Str}{np:Nat}{call:List EV.W->aB->Option (ResX×aB)}
 (F:FnOk P w K mg base (gO P w) k f fd ps (mF K np call)):FnOk P w K mg base eA k f fd ps (gX K np (kK call)):=by
 have hsp:∀ vs H Q E,gX K np (kK call) vs H Q E->mF K np call vs H Q E0:=λ vs H Q E h=>by
  obtain⟨F,L,S,ws,w,S',hn,R,dl,e,q⟩:=h;obtain⟨⟨res,S1⟩,e1,e2⟩:=bind_some e;cases res with
  | ok w1=>cases e2;exact⟨F,L,S,ws,_,_,hn,R,dl,e1,q⟩
  | ex c r=>cases e2
 refine⟨λ vs H Q E h=>F.len vs H Q E0 (hsp vs H Q E h),λ A outer s H args us vs Q E hr he hb hv h=>codeAny_mono (F.run A outer s H args us vs Q E0 hr he hb hv (hsp vs H Q E h)) λ r s' q=>?_⟩
 cases r with
 | ok fl=>cases fl<;>exact q
 | error e =>
   obtain⟨_,_,_,_,_,_,_,_,_,_,z⟩:=q;exact z
end EV
namespace EV
open PySem L2 PySem.Spec PyProof.Rows PySem.W
section
variable {prog : qo}{w : zq}{A : zx}{E : qx -> qj -> Prop}{s : qj}{K : FrG}{x D : qv}{ox : Obj}{odo : Option Obj}{name : Str}{tk : Tok}
theorem aBy{R:Result->qj->Prop}(X:K.In s.heap)(I:yBt s.heap x ox D odo)(hm:mroIn K D (.type "BaseException")=qq true)
 (h:qu (model prog w) A.in1 (Builtin.«object.__getattribute__» ⟨[.ref x,.str name tk],[]⟩) (λ bB s'=>match bB with | .done f=>R (.ok f) s' | .again c'=>c'.quiet=true/\vx (model prog w) A c' R s') (λ e s'=>R (.error e) s') s) :
 vx (model prog w) A (.call (.builtin "BaseException.__getattribute__") ⟨[.ref x,.str name tk],[]⟩) R s:=by
 obtain⟨hh,g,d,t,os⟩:=s;have L0:=I.type (M:=model prog w);have L1:=looks_mroIn (M:=model prog w) X hm;have L2:Looks (model prog w) hh (isInstance (.ref x) (.type "BaseException")) true:=L0.andThen L1;refine codeAny_call_builtin F.attr_ValueError.ga.plain F.entry_bexc_ga ?_;have hk:builtinKind "BaseException.__getattribute__" = qq .slot:=by decide +kernel
 have hsplit:splitId "BaseException.__getattribute__" = qq ("BaseException", "__getattribute__"):=by decide +kernel
 have ha:=F.args_bexc_ga (.ref x) (.str name tk);simp only[checkBuiltinCall,hk,hsplit];refine wB (L2.at ?_)
 repeat (any_goals (first | assumption | wp_step))
theorem aCJ{fill expr:Bool}{Q:qx->qj->Prop}(X:K.In s.heap)(I:yBt s.heap x ox D odo)(hga:findIn K (.ref D) "__getattribute__" = qq (qq (.builtin "BaseException.__getattribute__")))(hgt:findIn K (.ref D) "__getattr__" = qq qz)
 (h:vx (model prog w) A (.call (.builtin "BaseException.__getattribute__") ⟨[.ref x,.str name tk],[]⟩) (λ r s'=>match r with | .ok (.ret v)=>qu (model prog w) A (handedOut v) Q E s' | _=>False) s) :
 qu (model prog w) A (getAttrBy (.ref x) (.str name tk) fill expr) Q E s:=by
 obtain⟨hh,g,d,t,os⟩:=s;have L0:=I.type (M:=model prog w);have L1:=looks_findIn (M:=model prog w) X hga;have L2:=looks_findIn (M:=model prog w) X hgt;have f3:=F.attr_ValueError.ga.bind (.ref x);have hx2:(Value.builtin "BaseException.__getattribute__" == Value.builtin "object.__getattribute__")=false:=by decide +kernel
 have hx0:(expr&&onTheHeap (Value.builtin "BaseException.__getattribute__"))=false:=by cases expr<;>rfl
 unfold getAttrBy;refine zo (wB (L0.at (wB (L1.at ?_))));dsimp only;rw[hx2,Bool.and_false,if_neg yAs];unfold getAttrByItsOwn hookBefore;rw[if_pos (show onTheHeap (Value.ref D)=true from rfl)]
 refine wB (L2.at (wB (wpAny_attempt (zo ?_))));unfold callGetattribute boundAndCalled;rw[hx0,if_neg yAs,f3];refine wB (wP (wpAny_call (codeAny_mono h λ r s' q=>?_)))
 rcases r with e | (_ | _ | _ | v)
 all_goals first | exact q.elim | exact q
theorem aE4{a g:qx}(hc:(clsIn K D).isSome=true)(ha:findIn K (.ref D) name=qq (qq a))(hg:specialIn K a "__get__" = qq (qq g))(ht:takesIn K a=qq true):findObj K D odo name=qq (.bind g a):=by
 obtain⟨cd,hc⟩:=Option.isSome_iff_exists.mp hc;unfold findObj;rw[hc,yBa,ha,yBa];simp[hg,ht]
theorem aGe{g a:qx}{Q:Fin->qj->Prop}(X:K.In s.heap)(I:yBt s.heap x ox D odo)(hf:findObj K D odo name=qq (.bind g a))(h:vx (model prog w) A (.call g ⟨[a,.ref x,.ref D],[]⟩) (λ r s'=>match r with | .ok (.ret v)=>qu (model prog w) A (ret v) Q E s' | .ok _=>False | .error e=>E e s') s):qu (model prog w) A (Builtin.«object.__getattribute__» ⟨[.ref x,.str name tk],[]⟩) Q E s:=by
 obtain⟨hh,gg,d,t,os⟩:=s;have L0:=I.type (M:=model prog w);have L1:=looks_find (M:=model prog w) X I hf;unfold Builtin.«object.__getattribute__»
 repeat (any_goals (first | assumption | with_reducible refine L0.at ?_ | with_reducible refine L1.at ?_ | wp_step))
theorem aFv{v:qx}{Q:Fin->qj->Prop}(X:K.In s.heap)(I:yBt s.heap x ox D odo)(hf:findObj K D odo name=qq (.value v))(h:Q (.done (.ret v)) s):qu (model prog w) A (Builtin.«object.__getattribute__» ⟨[.ref x,.str name tk],[]⟩) Q E s:=by
 obtain⟨hh,gg,d,t,os⟩:=s;have L0:=I.type (M:=model prog w);have L1:=looks_find (M:=model prog w) X I hf;unfold Builtin.«object.__getattribute__»
 repeat (any_goals (first | assumption | with_reducible refine L0.at ?_ | with_reducible refine L1.at ?_ | wp_step))
end
structure XcOk(K:FrG)(D:qv):Prop where
 ga:findIn K (.ref D) "__getattribute__" = qq (qq (.builtin "BaseException.__getattribute__"))
 gt:findIn K (.ref D) "__getattr__" = qq qz
 mb:mroIn K D (.type "BaseException")=qq true
 mo:mroIn K D (.type "object")=qq true
 hd:hasDictIn K D=true
 rw:findIn K (.ref D) "row" = qq qz
 ca:findIn K (.ref D) "__class__" = qq (qq (.builtin "object.__class__"))
 cg:specialIn K (.builtin "object.__class__") "__get__" = qq (qq (.builtin "getset_descriptor.__get__"))
 ct:takesIn K (.builtin "object.__class__")=qq true
theorem XcOk.cl{K:FrG}{D:qv}(O:XcOk K D):(clsIn K D).isSome=true:=by
 obtain⟨cd,hc,_⟩:=aGj O.hd;rw[hc];rfl
theorem aBI{K:FrG}{x D:qv}{ox:Obj}{odo:Option Obj}(O:XcOk K D):KitX K (.ref x) (.ref D) (λ h=>yBt h x ox D odo) where
 ty:=λ _ _ _ I=>I.type
 it:=λ _ _ X _=>by
  obtain⟨cdD,hcD⟩:=Option.isSome_iff_exists.mp O.cl;unfold clsIn at hcD
  split at hcD
  ·rename_i c' d' cd' sl' ho;intro A' Q' E' s' k q;unfold isType loadHead;exact wB (wpAny_loadPart (k _ _ (X _ _ ho)) (wP q))
  ·cases hcD
 ne:=λ h tp dd aC n sl X htp=>by
  obtain⟨cdD,hcD⟩:=Option.isSome_iff_exists.mp O.cl;refine Bool.eq_false_iff.mpr λ q=>?_
  have e:D=tp:=Value.ref.inj (beq_iff_eq.mp q);subst e;unfold clsIn at hcD
  split at hcD
  ·rename_i c' d' cd' sl' ho;have z:=(X _ _ ho).symm.trans htp;cases z
  ·cases hcD
 ca:=λ {prog w A E Q s} X I k=>by
  unfold getAttr? getAttrBy?;refine wB (wpAny_mkText (wB (wpAny_attempt ?_)));refine aCJ (s:={s with toks:=s.toks+1 }) X I O.ga O.gt (aBy (s:={s with toks:=s.toks+1 }) X I O.mb (aGe (s:={s with toks:=s.toks+1 }) X I (aE4 O.cl O.ca O.cg O.ct) ?_))
  refine class_get (s:={s with toks:=s.toks+1 }) X I O.mo (wP ?_)
  show qu _ _ (handedOut (.ref D)) _ _ _;rw[handedOut_of rfl];exact wP (wP k)
end EV
namespace EV
open PySem L2 PySem.Spec PyProof.Rows PySem.W
theorem rO{P:qo}{w:zq}{H:Hp}{h:Heap}{a:qv}{o:HO}(x:eD P w H h a o):∃ u,h.get? a=qq u:=by
 cases o with
 | lst xs=>obtain⟨_,_,_,_,e⟩:=x;exact⟨_,e⟩
 | tup xs=>obtain⟨_,_,_,o,e,_⟩:=x;exact⟨o,e⟩
 | dK aN=>obtain⟨_,_,_,_,o,_,_,e,_⟩:=x;exact⟨o,e⟩
 | dT aN=>obtain⟨_,_,_,_,o,_,_,e,_⟩:=x;exact⟨o,e⟩
 | set S n=>obtain⟨o,_,_,_,e,_⟩:=x;exact⟨o,e⟩
 | ins C dx fs=>obtain⟨_,_,_,e,_⟩:=x;exact⟨_,e⟩
 | own y=>exact x
 | xd fs=>obtain⟨mA,hn,_⟩:=x;obtain⟨_,_,_,e,_⟩:=hn;exact⟨_,e⟩
 | met f y=>exact⟨_,x⟩
 | rng lo hi=>obtain⟨_,_,_,e⟩:=x;exact⟨_,e⟩
 | frz o u=>exact⟨o,x.1⟩
 | tbl ps=>exact⟨_,x⟩
 | ext φ=>exact x.2.1
noncomputable abbrev hV:List qx:=[.type "ValueError",.type "Exception",.type "BaseException",.type "object"]
theorem aB0{K:FrG}{h:Heap}{C:qv}{bmB:List qx}{newId:String}(X:K.In h)(q:excIn K C bmB newId=true):∃ bm N nm qn bs hd sn sub ab col dd k0 k1 k2 k3 k5 mN,
 h.get? C=qq (excClassObj nm qn C N bs bm hd sn sub ab col dd k0 k1 k2 k3 k5 newId)/\h.Ns N mN/\mN "__init__" = qz/\OwnTail h bmB bm:=by
 unfold excIn at q
 split at q
 ·rename_i dd cd sl ho
  split at q
  ·rename_i C' bm k0 k1 k2 k3 n k5 hm hs;simp only[yBq,beq_iff_eq,Bool.not_eq_true'] at q;obtain⟨⟨⟨⟨⟨rfl,rfl⟩,hdel⟩,ht⟩,hok⟩,hni⟩:=q;obtain⟨nm,bs,mro,ns,qn,hd,sn,sub,ab,col,del⟩:=cd;dsimp only at hm hdel hok hni;subst hm hdel;obtain⟨l⟩:=sl;simp only at hs;subst hs;exact⟨bm,ns,nm,qn,bs,hd,sn,sub,ab,col,dd,k0,k1,k2,k3,k5,_,X _ _ ho,.of_isNs (isNs_of_in X hok),nsMap_none_of_in X hok hni,tail_of_in X ht⟩
  ·cases q
 ·cases q
noncomputable def aCB(c:Str):FX:=λ env S=>qq (.ex env c .none,S)
theorem aGg{X:Cx}{W:XW}{c:Str}{C:qv}{np cpos pos:Pos}(hx:pN X W)(hc:X.calm=true)(hg:Gl X c)(hm:X.mg c=qq (.ref C))(hns:nsIn X.K qy c=qq (qq (.ref C)))(hq:excIn X.K C hV "ValueError.__new__" = true)
 (hd:(c==("__debug__" : Str))=false):PS X (.Raise (qq (.Call (.Name c np) [] [] cpos)) qz pos) (tX X.K W (aCB c)):=by
 rintro aA s σ H D I ⟨F0,L,S,env,fx,S',R,E,e,q⟩;cases e;obtain⟨bm,N,nm,qn,bs,hd',sn,sub,ab,col,dd,k0,k1,k2,k3,k5,mN,hC,hN,hni,T⟩:=aB0 I.kIn hq;refine wpAny_Raise_call_subT (C:=C) yCp (T.hasType PySem.F.excBase_ValueError.hasBase) (I.ok.hd hc) rfl hni (jN I hg hm ⟨rfl,evalArgs_empty ⟨rfl,yEd _,hC,hN,T,λ h' e me=>?_⟩⟩ hd)
 obtain⟨t,he,_,_⟩:=me.there;refine hx _ _ ⟨e,.ref C,qz,qz,s.heap,σ,H,rfl,mJ (I.kept (t':=s.toks) me.keeps),⟨_,_,he,rfl,rfl,rfl,Nat.lt_of_sub_pos (by simp),me.new,?_,.inl ⟨rfl,rfl⟩⟩,.inl rfl,pA (mJ I),λ b hb=>?_,q F0 L H Gr.refl R σ (.ref C) qz E ⟨C,rfl,hns,rfl⟩⟩
 ·cases z:H e with
  | none=>rfl
  | some u =>
    obtain⟨o,ho⟩:=rO (I.hok e u z);rw[me.new] at ho;cases ho
 ·cases z:s.heap.get? b with
  | none=>exact absurd z hb
  | some o=>exact iL (me.keeps b o z)
theorem wE{X:Cx}{aA:List (qv×Obj)}{σ:L2.St}{H:Hp}{s:qj}{h0:Heap}{a:qv}{o:HO}(I:Inv X aA σ H s)(B:Bel X aA h0)(ha:h0.get? a=qz)(hH:H a=qz)(new:eD X.prog X.w (aT H a o) s.heap a o):Inv X aA σ (aT H a o) s:=by
 have ne:∀ b,h0.get? b≠qz->b≠a:=λ b hb z=>hb (by rw[z];exact ha)
 have nt:∀ b u,H b=qq u->b≠a:=λ b u e z=>by rw[z,hH] at e;cases e
 refine⟨I.ok,I.os,I.bare,⟨I.base.keep,I.base.slot,λ b u e n hx=>?_,I.base.there,λ b xs e=>?_,λ b u v e=>?_,λ b ps e=>?_⟩,I.loc,I.cell,?_,λ x c e=>?_,λ p hp=>?_,λ b u e=>?_,I.len⟩
 ·rw[aX (ne b (B.s0 b u e hx))];exact I.base.free b u e n hx
 ·have q:=I.base.tups b xs e;rw[aX (nt b _ q)];exact q
 ·have q:=I.base.frzs b u v e;rw[aX (nt b _ q)];exact q
 ·obtain⟨m,q⟩:=I.base.tbls b ps e;exact⟨m,by rw[aX (nt b _ q)];exact q⟩
 ·rw[aX (ne _ B.loc)];exact I.free
 ·rw[aX (ne _ (B.cell x c e))];exact I.freeC x c e
 ·obtain⟨e,n,r⟩:=I.pin p hp;exact⟨e,by rw[aX (ne _ (B.pin p hp))];exact n,r⟩
 ·by_cases hb:b=a
  ·subst hb;rw[bO] at e;cases e;exact new
  ·rw[aX hb] at e;exact(I.hok b u e).stay (λ _ _ _ q=>q) (λ c q=>by rw[aX (nt c _ q)];exact q) λ c xs q=>by rw[aX (nt c _ q)];exact q
theorem aHA{X:Cx}{A:zx}{E:qx->qj->Prop}{aA:List (qv×Obj)}{σ:L2.St}{H:Hp}{s:qj}{i:Nat}{n:Str}{pos:Pos}{Q:Unit->qj->Prop}(I:Inv X aA σ H s)(hN:X.N.Nodup)(hi:X.N[i]? = qq n)(hl:X.env.kindOf n=qq .local)
 (h:∀ s',Inv X aA (σ.set i qz) H s'->Q () s'):qu (model X.prog X.w) A (do bindName X.env n .none;unbindBehindTheSuite X.env n pos) Q E s:=by
 obtain⟨m,hn,hm⟩:=id I.loc;have hk:(X.env.scope.kind==.class||(X.env.scope.kind==.module&&X.env.locals != X.env.globals))=false:=by rw[I.ok.kind];rfl
 refine wpAny_nameGoes_keeps hl hn hk λ h' v hn' hs=>h _ ?_
 have neL:∀ b o,X.s₀.heap.get? b=qq o->b≠X.env.locals:=λ b o e=>xAh (xAc (xAa e) I.ok.above)
 have nt:∀ b u,H b=qq u->b≠X.env.locals:=λ b u e z=>by rw[z,I.free] at e;cases e
 refine⟨I.ok,I.os,I.bare,⟨λ b o e nn hb hx=>?_,λ b o e nn hb hx=>?_,I.base.free,λ b o e hx=>?_,I.base.tups,I.base.frzs,I.base.tbls⟩,⟨_,hn',λ j y v' e1 e2 e3=>?_⟩,λ y c e=>?_,I.free,I.freeC,λ p hp=>?_,λ b u e=>?_,by simpa using I.len⟩
 ·exact(hs.2 b (neL b o e)).trans (I.base.keep b o e nn hb hx)
 ·obtain⟨sl,e1⟩:=I.base.slot b o e nn hb hx;exact⟨sl,(hs.2 b (neL b o e)).trans e1⟩
 ·obtain⟨o',e1⟩:=I.base.there b o e hx;exact⟨o',(hs.2 b (neL b o e)).trans e1⟩
 ·by_cases hj:j=i
  ·subst hj;rcases yDm j σ.length with z | z
   ·rw[yAl z] at e2;cases e2
   ·rw[yCl (by rw[yAo];exact z)] at e2;cases e2
  ·rw[yAj (Ne.symm hj)] at e2;obtain⟨u',r',q⟩:=hm j y v' e1 e2 e3;refine⟨u',r',?_⟩;rcases q with ⟨k,e⟩ | ⟨k,c,e,z⟩
   ·refine .inl ⟨k,?_⟩;have:y≠n:=λ e=>hj (wT hN e1 (e▸hi))
    simp[this,e]
   ·exact .inr ⟨k,c,e,z.sameBut hs (I.cne y c e)⟩
 ·obtain⟨w',z⟩:=I.cell y c e;exact⟨w',z.sameBut hs (I.cne y c e)⟩
 ·obtain⟨e,n,ne,nf,d⟩:=I.pin p hp;exact⟨(hs.2 p.1 ne).trans e,n,ne,nf,d⟩
 ·refine(I.hok b u e).stay (λ d w' hd q=>(hs.2 d ?_).trans q) (λ _ q=>q) λ _ _ q=>q
  rcases hd with z | z
  ·rw[z];exact nt b u e
  ·exact nt d _ z
noncomputable abbrev cZ(X:Cx)(aA:List (qv×Obj)):Cx:={X with pn:=X.pn++aA }
noncomputable abbrev mE(X:Cx)(e:qx):Cx:={X with A:=X.A.mark (qq e),calm:=false,xe:=λ _ _=>False }
theorem okP{X:Cx}{aA:List (qv×Obj)}(ok:X.Ok):(cZ X aA).Ok:=⟨ok.mod,ok.kind,ok.glob,ok.blt,ok.above,ok.inj,ok.has,ok.cab,ok.hd,ok.frames,ok.stk,ok.exf,ok.bs,ok.bsz,ok.noex,ok.exfs,ok.funs,ok.frf⟩
theorem aLh{X:Cx}{aA:List (qv×Obj)}(ok:(cZ X aA).Ok):X.Ok:=⟨ok.mod,ok.kind,ok.glob,ok.blt,ok.above,ok.inj,ok.has,ok.cab,ok.hd,ok.frames,ok.stk,ok.exf,ok.bs,ok.bsz,ok.noex,ok.exfs,ok.funs,ok.frf⟩
theorem aD3{X:Cx}{aA:List (qv×Obj)}{σ:L2.St}{H:Hp}{s:qj}(I:Inv X aA σ H s):Inv (cZ X aA) [] σ H s:=⟨okP I.ok,I.os,I.bare,I.base,I.loc,I.cell,I.free,I.freeC,λ p hp=>I.pin p (by rw[yAv] at hp;exact hp),I.hok,I.len⟩
theorem tD{X:Cx}{aA:List (qv×Obj)}{σ:L2.St}{H:Hp}{s:qj}(I:Inv (cZ X aA) [] σ H s):Inv X aA σ H s:=⟨aLh I.ok,I.os,I.bare,I.base,I.loc,I.cell,I.free,I.freeC,λ p hp=>I.pin p (by rw[yAv];exact hp),I.hok,I.len⟩
theorem aAg{X:Cx}{e:qx}{aA:List (qv×Obj)}{σ:L2.St}{H:Hp}{s:qj}(I:Inv X aA σ H s):Inv (mE X e) aA σ H s:=
 let ok:=I.ok
 ⟨⟨ok.mod,ok.kind,ok.glob,ok.blt,ok.above,ok.inj,ok.has,ok.cab,λ z=>(nomatch z),ok.frames,ok.stk,ok.exf,ok.bs,ok.bsz,ok.noex,ok.exfs,ok.funs,ok.frf⟩,I.os,I.bare,I.base,I.loc,I.cell,I.free,I.freeC,I.pin,I.hok,I.len⟩
theorem pX{X:Cx}{e:qx}{aA:List (qv×Obj)}{σ:L2.St}{H:Hp}{s:qj}(ok:X.Ok)(I:Inv (mE X e) aA σ H s):Inv X aA σ H s:=⟨ok,I.os,I.bare,I.base,I.loc,I.cell,I.free,I.freeC,I.pin,I.hok,I.len⟩
theorem spP{X:Cx}{aA:List (qv×Obj)}{D:Ends}{f:Flow}{s:qj}(h:SP (cZ X aA) [] D f s):SP X aA D f s:=by
 cases f with
 | next=>obtain⟨σ',H',I,q⟩:=h;exact⟨σ',H',tD I,q⟩
 | brk=>obtain⟨σ',H',I,q⟩:=h;exact⟨σ',H',tD I,q⟩
 | cont=>obtain⟨σ',H',I,q⟩:=h;exact⟨σ',H',tD I,q⟩
 | ret u=>obtain⟨v,σ',H',I,r,q⟩:=h;exact⟨v,σ',H',tD I,r,q⟩
structure Hd where
 d:Str
 sl:Option Nat
 f:FS
noncomputable def qM(i:Nat):Fl×aB->Option (Fl×aB)
 | (.nx e,S)=>qq (.nx (e.set i qz),S)
 | _=>qz
noncomputable def dB(tb:Str->Str->Option Bool)(c:Str)(r:D):List Hd->FS
 | []=>λ _ _=>qz
 | h::hs=>λ env S=>match tb c h.d with
   | some true=>(match h.sl with
     | none=>h.f env S
     | some i=>(h.f (env.set i (qq (.exc c r))) S).bind (qM i))
   | some false=>dB tb c r hs env S
   | none=>qz
noncomputable def nJ(tb:Str->Str->Option Bool)(fb:FX)(hs:List Hd):FX:=λ env S=>(fb env S).bind λ p=>match p.1 with
 | .fl f=>qq (.fl f,p.2)
 | .ex e c r=>(dB tb c r hs e p.2).bind λ q=>qq (.fl q.1,q.2)
noncomputable def tW(X:Cx)(h:Hd):ExceptHandler->Prop
 | .ExceptHandler (qq (.Name d _)) nm (b0::suite) _=>d=h.d/\Gl X d/\(d==("__debug__" : Str))=false/\(∃ C,nsIn X.K qy d=qq (qq (.ref C))/\X.mg d=qq (.ref C)) /\
    (match nm,h.sl with
      | none,qz=>True
      | some n,qq i=>X.N[i]? = qq n/\X.env.scope.names.lookup n=qq .local
      | _,_=>False)/\∀ e,bI (mE X e) (b0::suite) (cA X.K h.f)
 | _=>False
inductive HdsOk (X:Cx):List Hd->List ExceptHandler->Prop
 | nil:HdsOk X [] []
 | cons {h:Hd}{hs:List Hd}{a:ExceptHandler}{as:List ExceptHandler}:tW X h a->HdsOk X hs as->HdsOk X (h::hs) (a::as)
def aAi(K:FrG)(tb:Str->Str->Option Bool):Prop:=∀ c d b C C',tb c d=qq b->nsIn K qy c=qq (qq (.ref C))->nsIn K qy d=qq (qq (.ref C'))->exmOne K (.ref C) (.ref C')=qq b
end EV
namespace EV
open PySem L2 PySem.Spec PyProof.Rows PySem.W
noncomputable def vA(K:FrG)(C:qv)(bmB:List qx)(newId:String):Bool:=match K.lookup C with
 | some ⟨.type "type",_,.cls cd,sl⟩=>(match cd.mro,sl.toList with
   | .ref C'::bm,[_,_,_,_,qq (.builtin n),_]=>C'==C&&n==newId && !cd.hasDel&&cd.hasDict&&tailIn K bmB bm&&nsOkIn K cd.ns
   | _,_=>false)
 | _=>false
theorem xD{K:FrG}{h:Heap}{C:qv}{bmB:List qx}{newId:String}(X:K.In h)(q:vA K C bmB newId=true):∃ bm N nm qn bs sn sub ab col dd k0 k1 k2 k3 k5,
 h.get? C=qq (excClassObj nm qn C N bs bm true sn sub ab col dd k0 k1 k2 k3 k5 newId)/\OwnTail h bmB bm:=by
 unfold vA at q
 split at q
 ·rename_i dd cd sl ho
  split at q
  ·rename_i C' bm k0 k1 k2 k3 n k5 hm hs;simp only[yBq,beq_iff_eq,Bool.not_eq_true'] at q;obtain⟨⟨⟨⟨⟨rfl,rfl⟩,hdel⟩,hdi⟩,ht⟩,hok⟩:=q;obtain⟨nm,bs,mro,ns,qn,hd,sn,sub,ab,col,del⟩:=cd;dsimp only at hm hdel hok hdi;subst hm hdel hdi;obtain⟨l⟩:=sl;simp only at hs;subst hs;exact⟨bm,ns,nm,qn,bs,sn,sub,ab,col,dd,k0,k1,k2,k3,k5,X _ _ ho,tail_of_in X ht⟩
  ·cases q
 ·cases q
section
variable {prog : qo}{w : zq}{A : zx}{E : qx -> qj -> Prop}{h : Heap}{g : Array GenState}{d : Drawn}{t : Nat}{os : OsState}
variable {nm q : Str}{C N : qv}{bs bm : List qx}{sn : List Str}{sub : List qx}{ab : Bool}{col : Option Bool}{dd : Option qv}{k0 k1 k2 k3 k5 : Option qx}
theorem aFm(T:OwnTail h hV bm){bG:List qx}{fI:qv}{oI:Obj}{Q:PySem.Fin->qj->Prop}(hC:h.get? C=qq (excClassObj nm q C N bs bm true sn sub ab col dd k0 k1 k2 k3 k5 "ValueError.__new__"))
 (Li:Looks (model prog w) h (typeLookup (.ref C) "__init__") (qq (.ref fI))) (hfI:h.get? fI=qq oI) (hfc:oI.cls=.type "function")
 (hq:∀ h' e,Heap.MadeExcOf h h' e (.ref C) bG->qu (model prog w) A (call (.ref fI) (.ref e::bG)) (λ r s'=>r=.none/\Q (.done (.ret (.ref e))) s') E ⟨h',g,d,t,os⟩) (hrest:bG.length<=qk) :
 qu (model prog w) A (Builtin.«type.__call__» ⟨.ref C::bG,[]⟩) Q E ⟨h,g,d,t,os⟩:=by
 have F:=yCp
 repeat (first | with_reducible refine wpAny_loadPart_at hC ?_ | with_reducible refine wpAny_madeBy_exc hC ?_ | wp_step)
 refine codeAny_call_builtin_code (Code.quiet_builtin _ F.quiet) (wpAny_check_new_subU F F.hasB T hC ?_);refine codeAny_exc_new_subU F F.hasB F T hC ?_ hrest;show qu _ _ _ _ _ _;have kp:∀ b o,h.get? b=qq o->((h.push {cls:=.type "tuple",data:=.seq bG.toArray }).push {cls:=.ref C,data:=.fields #[.ref h.objs.size,.none,.none,.none,.bool false,.none] }).get? b=qq o:=λ b o e=>hpS _ (hpS _ e)
 have hC₁:=kp _ _ hC;have hfI₁:=kp _ _ hfI;have hget:((h.push {cls:=.type "tuple",data:=.seq bG.toArray }).push
  {cls:=.ref C,data:=.fields #[.ref h.objs.size,.none,.none,.none,.bool false,.none] }).get? (h.objs.size+1)=qq
  {cls:=.ref C,data:=.fields #[.ref h.objs.size,.none,.none,.none,.bool false,.none] }:=by heap_get
 have hcC:(Value.ref C::bm).contains (.ref C)=true:=by simp
 unfold isInstance
 repeat (first | with_reducible refine wpAny_loadPart_at hget ?_ | (with_reducible refine wpAny_isSubtype_exc hC₁ ?_;rw[hcC]) | wp_step)
 show qu _ _ (typeLookup (.ref C) _) _ _ _;refine(Li.keeps kp).at ?_;refine zo (wB ?_);unfold bindSpecial;refine wB (wpAny_typeOf (T:="function") ⟨_,hfI₁,hfc⟩ ?_);rw[if_pos (by decide)]
 refine wP (wB (wpAny_mono (hq _ (h.objs.size+1) ⟨kp,yCr (Nat.le_succ _),h.objs.size,hget,yCr (yAc _),?_⟩) (λ r s' hr=>?_) λ _ _ x=>x))
 ·exact hpS _ (Heap.get?_push_at rfl rfl)
 ·obtain⟨rfl,hQ⟩:=hr
  wp_walk
  exact hQ
theorem aFt(T:OwnTail h hV bm){bG:List qx}{fI:qv}{oI:Obj}{Q:qx->qj->Prop}(hC:h.get? C=qq (excClassObj nm q C N bs bm true sn sub ab col dd k0 k1 k2 k3 k5 "ValueError.__new__"))
 (Li:Looks (model prog w) h (typeLookup (.ref C) "__init__") (qq (.ref fI))) (hfI:h.get? fI=qq oI) (hfc:oI.cls=.type "function")
 (hq:∀ h' e,Heap.MadeExcOf h h' e (.ref C) bG->qu (model prog w) (A.under (.builtin "type.__call__" ⟨.ref C::bG,[]⟩)) (call (.ref fI) (.ref e::bG)) (λ r s'=>r=.none/\Q (.ref e) s') E ⟨h',g,d,t,os⟩) (hrest:bG.length<=qk) :
 qu (model prog w) A (call (.ref C) bG) Q E ⟨h,g,d,t,os⟩:=by
 have f1:=tc_lookup;have f2:=tc_bind (.ref C);have hT:(⟨h,g,d,t,os⟩:qj).TypeIs (.ref C) "type":=⟨_,hC,rfl⟩;refine wpAny_call (codeAny_of_tree ?_);show qu _ _ (callAny (.ref C) _) _ _ _
 repeat (any_goals (first | assumption | with_reducible refine wpAny_loadPart_at hC ?_ | wp_step))
 refine⟨rfl,?_⟩;refine codeAny_call_builtin_at (Code.quiet_builtin _ (by decide +kernel)) entry_typeCall (wpAny_check_type_call_sub hC (aFm (hrest:=hrest) T hC Li hfI hfc λ h' e hm=>?_))
 exact hq h' e hm
theorem aEY{bm:List qx}(T:OwnTail h hV bm)(self:qx):refuseLoop self "__setattr__" bm=pure ():=by
 induction T with
 | base=>exact PySem.F.store_ValueError.passes self
 | own _ _ _ _ ih=>rw[refuseLoop_ref];exact ih
theorem aFJ{K:FrG}{x:qv}{ox:Obj}{vs:Array qx}{name:Str}{v:qx}{Q:Unit->qj->Prop}(X:K.In h)(T:OwnTail h hV bm)(hC:h.get? C=qq (excClassObj nm q C N bs bm true sn sub ab col dd k0 k1 k2 k3 k5 "ValueError.__new__"))
 (hs:findIn K (.ref C) "__setattr__" = qq (qq (.builtin "object.__setattr__"))) (hn:findIn K (.ref C) name=qq qz) (hx:h.get? x=qq ox) (hc:ox.cls=.ref C) (hd:ox.dict=qz) (hdat:ox.data=.fields vs)
 (hq:∀ h' tk' d',d'≠x->h.get? d'=qz->h.objs.size<=d'->h'.get? x=qq {ox with dict:=qq d' }->h'.Ns1 d' (λ y=>if y=name then qq v else qz)->(∀ b o,b≠x->h.get? b=qq o->h'.get? b=qq o)->Q () ⟨h',g,d,tk',os⟩) :
 qu (model prog w) A (setAttr (.ref x) name v) Q E ⟨h,g,d,t,os⟩:=by
 have I:yBt h x ox C qz:=⟨hx,hc,by unfold notCls;rw[hdat],by rw[hd];trivial⟩
 have SF:=PySem.F.store_object;have hcO:(Value.ref C::bm).contains (.type "object")=true:=by rw[List.contains_cons,T.hasType (show hV.contains (.type "object")=true by decide),Bool.or_true]
 refine set_plain (s:=⟨h,g,d,t,os⟩) X I hs ?_;have sub:Looks (model prog w) h (isInstance (.ref x) (.type "object")) true:=I.type.andThen (λ A Q E s k z=>by
  obtain⟨hh,g,d,t,os⟩:=s;refine wpAny_isSubtype_exc (k _ _ hC) ?_;rw[hcO];exact z)
 refine codeAny_call_builtin SF.slot.plain SF.entry (@check_slot (model prog w) _ _ ⟨h,g,d,t+1,os⟩ "object.__setattr__" "object" "__setattr__" (.ref x) [.str name t,v] [] _ SF.kind SF.split sub (SF.args (.ref x) (.str name t) v) ?_);have L3:=looks_findIn (M:=model prog w) X hn;rw[osa_eq,refuse_eq];refine wB (wB (I.type.at (wB (wpAny_mroOf_exc hC ?_))));rw[refuseLoop_ref,aEY T];refine wP (wB (I.type.at (wB (L3.at (wB (wP ?_))))));show qu _ _ (Builtin.ObjectAttr.storeInOwnDict _ _ _ _ _ _) _ _ _;have hxs:x≠h.objs.size:=xAh (xAa hx);have hx₁:(h.push {cls:=.type "dict",data:=.dict #[] }).get? x=qq ox:=hpS _ hx;unfold Builtin.ObjectAttr.storeInOwnDict Builtin.ObjectAttr.ownDictForStores instanceDict
 repeat (first | (with_reducible refine wpAny_loadPart_at hx ?_;rw[hc]) | with_reducible refine wpAny_loadPart_at hC ?_ | wp_step)
 rw[hd];dsimp only;rw[if_neg (by simp[typeHasDict]),hdat]
 refine wB (wpAny_alloc' ?_);refine wB (wpAny_update' hx₁ ?_);refine wP ?_;have hgd:((h.push {cls:=.type "dict",data:=.dict #[] }).update x λ o=>{cls:=o.cls,dict:=qq h.objs.size,data:=o.data,slots:=o.slots }).get? h.objs.size=qq {cls:=.type "dict",data:=.dict #[] }:=
  (Heap.get?_update_ne _ _ _ _ hxs.symm).trans (Heap.get?_push_at rfl rfl)
 have hnd:((h.push {cls:=.type "dict",data:=.dict #[] }).update x λ o=>{cls:=o.cls,dict:=qq h.objs.size,data:=o.data,slots:=o.slots }).Ns h.objs.size (λ _=>qz):=
  ⟨_,#[],_,hgd,rfl,λ e he=>absurd he (by simp),λ _=>rfl⟩
 show qu _ _ (Builtin.ObjectAttr.storeInDict h.objs.size (.str name t) name v) _ _ _;unfold Builtin.ObjectAttr.storeInDict Builtin.ObjectAttr.newKeyGuard;refine wB (wP (wB (wpAny_nsSet1 (Heap.Ns1.of_empty hnd) λ h' hn' hs=>?_)))
 obtain⟨oD,esD,epD,hoD,hdD,hcD⟩:=hn'.count (Within.cons name v Within.nil);refine wB (wpAny_lookBehind hoD (by rw[hdD];exact pastItsLine_dict (xAg hcD (by rw[yCi,yCc,zw];omega))) ?_)
 refine wP ?_;show Q () _;refine hq h' _ h.objs.size hxs.symm (yCr (yAc _)) (yAc _) ?_ hn' λ b ob hbx hb=>?_
 ·refine(hs.2 x hxs).trans (yBv _ hx₁ ?_);have hfr:=(Heap.get?_some_iff.mp hx).2;obtain⟨oc,od,odt,osl⟩:=ox;cases odt<;>first | rfl | exact hfr
 ·exact(hs.2 b (xAh (xAa hb))).trans ((Heap.get?_update_ne _ _ _ _ hbx).trans (hpS _ hb))
end
structure XiOk(K:FrG)(C fI:qv):Prop where
 ex:vA K C hV "ValueError.__new__" = true
 it:findIn K (.ref C) "__init__" = qq (qq (.ref fI))
 sa:findIn K (.ref C) "__setattr__" = qq (qq (.builtin "object.__setattr__"))
 rw:findIn K (.ref C) "row" = qq qz
 kp:keepIn K (.ref C)=true
 fn:isFn K (.ref fI)=true
def aLZ(X:Cx)(C:qv):TS:=λ D σ H=>∃ a oe vs i,σ[0]? = qq (qq (.ref a))/\σ[1]? = qq (qq (.int i))/\H a=qq (.ext λ h=>h.get? a=qq oe)/\oe.cls=.ref C/\oe.dict=qz/\oe.data=.fields vs /\
 ∀ dx,H dx=qz->dx≠a->D.nx σ (aT (aT H dx (.xd [("row",.int i)])) a (.ext λ h=>h.get? a=qq {oe with dict:=qq dx }))
theorem aIm{X:Cx}{C fI:qv}(O:XiOk X.K C fI){n0 n1:Str}{p0 p1 pos pos':Pos}(h0:X.N[0]? = qq n0)(h1:X.N[1]? = qq n1)(v0:kC X.env.scope n0)(v1:kC X.env.scope n1)(d0:(n0==("__debug__" : Str))=false)(c0:(n0==("__classdict__" : Str))=false)(d1:(n1==("__debug__" : Str))=false)(c1:(n1==("__classdict__" : Str))=false) :
 PS X (.Assign [.Attribute (.Name n0 p0) "row" pos'] (.Name n1 p1) pos) (aLZ X C):=by
 rintro aA s σ H D I ⟨a,oe,vs,i,e0,e1,ea,hc,hd,hdat,q⟩;refine plainObj_wpAny_Assign_Attribute (aY (xY (pos:=p1) h1 v1 d1 c1 aA s σ H (λ v H'=>v=.int i/\H'=H) I ⟨_,e1,rfl,rfl⟩) λ u s1 g1=>?_) rfl
 obtain⟨y,H1,I1,ry,ey,eH⟩:=g1;subst ey eH;refine aY (xY (pos:=p0) h0 v0 d0 c0 aA s1 σ H1 (λ v H'=>v=.ref a/\H'=H1) I1 ⟨_,e0,rfl,rfl⟩) λ ov s2 g2=>?_
 obtain⟨x,H2,I2,rx,ex,eH⟩:=g2;subst ex eH;obtain rfl:ov=Value.ref a:=rx;obtain⟨bm,N,nm,qn,bs,sn,sub,ab,col,dd,k0,k1,k2,k3,k5,hC,T⟩:=xD I2.kIn O.ex;have he:=(I2.hok a _ ea).1;obtain⟨h2,g2,d2,t2,o2⟩:=s2;refine aFJ I2.kIn T hC O.sa O.rw he hc hd hdat λ h' tk' dx nx hnn hsz hx' hns hk=>?_
 have hdx:H2 dx=qz:=I2.hok.fresh hsz;refine⟨σ,_,?_,q dx hdx nx⟩;have hdo:∃ o,h'.get? dx=qq o:=let ⟨o,_,_,e,_⟩:=hns;⟨o,e⟩;have na:∀ b,H2 b=qz->b≠a:=λ b n z=>by rw[z,ea] at n;cases n
 have nd:∀ b u,h2.get? b=qq u->b≠dx:=λ b u e z=>by rw[z,hnn] at e;cases e
 have nd2:∀ b u,H2 b=qq u->b≠dx:=λ b u e z=>by rw[z,hdx] at e;cases e
 have un:Un X.fs [] H2 (aT (aT H2 dx (.xd [("row",.int i)])) a (.ext λ h=>h.get? a=qq {oe with dict:=qq dx })) h2 h':=by
  refine⟨λ b o e n _ _=>hk b o (na b n) e,λ b o e n _ _=>⟨o.slots,hk b o (na b n) e⟩,λ b o e n _=>?_,λ b o e _=>?_,λ b xs e=>?_,λ b o u e=>?_,λ b ps e=>⟨#[],?_⟩⟩
  ·rw[aX (na b n),aX (nd b o e)];exact n
  ·by_cases z:b=a
   ·rw[z];exact⟨_,hx'⟩
   ·exact⟨o,hk b o z e⟩
  ·rw[aX (λ z=>by rw[z,ea] at e;cases e),aX (nd2 b _ e)];exact e
  ·rw[aX (λ z=>by rw[z,ea] at e;cases e),aX (nd2 b _ e)];exact e
  ·rw[aX (λ z=>by rw[z,ea] at e;cases e),aX (nd2 b _ e),e];simp
 have hok:cE X.prog X.w (aT (aT H2 dx (.xd [("row",.int i)])) a (.ext λ h=>h.get? a=qq {oe with dict:=qq dx })) h':=λ b u e=>by
  by_cases z:b=a
  ·subst z;rw[bO] at e;cases e;exact⟨hx',⟨_,hx'⟩,λ h1 h2 q1 q2=>q2 _ q1⟩
  ·rw[aX z] at e
   by_cases z2:b=dx
   ·subst z2;rw[bO] at e;cases e;refine⟨_,hns,λ f=>?_⟩
    by_cases hf:f = "row"
    ·subst hf;rw[if_pos rfl];exact ry
    ·rw[if_neg hf,yAz];have:(f==("row" : Str))=false:=by rw[beq_eq_false_iff_ne];exact hf
     rw[this];exact trivial
   ·rw[aX z2] at e;refine(I2.hok b u e).stay (λ c v hcc k=>hk c v (λ y=>?_) k) (λ c k=>?_) λ c xs k=>?_
    ·rcases hcc with y2 | y2
     ·exact z (y2.symm.trans y)
     ·rw[y,ea] at y2;cases y2
    ·rw[aX (λ y=>by rw[y,ea] at k;cases k),aX (nd2 c _ k)];exact k
    ·rw[aX (λ y=>by rw[y,ea] at k;cases k),aX (nd2 c _ k)];exact k
 exact I2.un (t':=tk') un hok
noncomputable def nY(C:qv):Sp:=λ vs H Q _=>∃ a oe fv i,vs=[.ref a,.int i]/\H a=qq (.ext λ h=>h.get? a=qq oe)/\oe.cls=.ref C/\oe.dict=qz/\oe.data=.fields fv /\
 ∀ dx,H dx=qz->dx≠a->Q .non (aT (aT H dx (.xd [("row",.int i)])) a (.ext λ h=>h.get? a=qq {oe with dict:=qq dx }))
noncomputable def aEe(n0 n1:Str):List zy->Bool
 | [.Assign [.Attribute (.Name x _) a _] (.Name y _) _]=>decide (x=n0)&&decide (a = "row")&&decide (y=n1)
 | _=>false
noncomputable def zE(st:zy)(n0 n1:Str):Bool:=decide ((bD st).kind=.function) && !(bD st).isCoroutine && !(bD st).isGenerator&&decide (n0≠n1)&&loc (bD st) n0&&loc (bD st) n1&&(bD st).names.all (λ y=>!decide (y.2=.free)) &&
 !(n0==("__debug__" : Str)) && !(n0==("__classdict__" : Str)) && !(n1==("__debug__" : Str)) && !(n1==("__classdict__" : Str))&&aEe n0 n1 (cY st)
theorem aIO{P:qo}{w:zq}{K:FrG}{mg:Str->Option qx}{base:Heap}{x bA:Str}{st:zy}{fI C:qv}{fd:xw}{n0 n1:Str}{k:Nat}(Fu:Fun K x bA st fI fd)(h:zE st n0 n1=true)(O:XiOk K C fI):FnOk P w K mg base eA (k+1) fI fd [n0,n1] (nY C):=by
 obtain⟨h,h12⟩:=bQ h;obtain⟨h,h11⟩:=bQ h;obtain⟨h,h10⟩:=bQ h;obtain⟨h,h9⟩:=bQ h;obtain⟨h,h8⟩:=bQ h;obtain⟨h,h7⟩:=bQ h;obtain⟨h,h6⟩:=bQ h;obtain⟨h,h5⟩:=bQ h;obtain⟨h,h4⟩:=bQ h;obtain⟨h,h3⟩:=bQ h;obtain⟨h1,h2⟩:=bQ h;have hne:n0≠n1:=oqT h4;have sc:FnScope [n0,n1] [n0,n1] (bD st):=⟨oqT h1,qJ h2,qJ h3,by simp[hne],rfl,λ x hx=>by
  rcases List.mem_cons.mp hx with rfl | hx
  ·exact pF h5
  ·rw[yDc] at hx;subst hx;exact pF h6,λ y hy z=>by
  have:=List.all_eq_true.mp h7 y hy;rw[dqT z] at this;exact no this⟩
 refine Fu.ok sc (λ vs H Q E hsp=>?_) λ cdv A outer s H vs Q E hr hsp=>?_
 ·obtain⟨a,oe,fv,i,rfl,_⟩:=hsp;rfl
 ·have gL:∀ {y:Str},loc (bD st) y=true->kC (bD st) y:=λ hy=>by
   rcases pF hy with z | z
   ·exact .inl z
   ·exact .inr (.inl z)
  unfold aEe at h12
  split at h12
  ·rename_i x p0 a p' y p1 pos hb;obtain⟨q,q3⟩:=bQ h12;obtain⟨q1,q2⟩:=bQ q;have q1:=oqT q1;have q2:=oqT q2;have q3:=oqT q3;subst q1 q2 q3;rw[hb];refine⟨_,wS (aIm (X:=(fR eA P w K mg base [x,y] bA (bD st) fI cdv A outer s H E).nox) O rfl rfl (gL h5) (gL h6) (cX h8) (cX h9) (cX h10) (cX h11)) xR,?_⟩;obtain⟨a,oe,fv,i,rfl,e1,e2,e3,e4,e5⟩:=hsp;exact⟨a,oe,fv,i,rfl,rfl,e1,e2,e3,e4,λ dx f1 f2=>e5 dx f1 f2⟩
  ·exact no h12
theorem aE3{X:Cx}{aA:List (qv×Obj)}{σ:L2.St}{H H':Hp}{s:qj}{a:qv}{φ:Heap->Prop}(I:Inv X aA σ H s)(ea:H a=qq (.ext φ))(ha:H' a=qz)(hb:∀ b,b≠a->H' b=H b):Inv X aA σ H' s:=by
 have nt:∀ b u,H' b=qq u->b≠a:=λ b u e z=>by rw[z,ha] at e;cases e
 have ni:∀ b,H b=qz->H' b=qz:=λ b n=>by
  by_cases z:b=a
  ·rw[z];exact ha
  ·rw[hb b z];exact n
 refine⟨I.ok,I.os,I.bare,⟨I.base.keep,I.base.slot,λ b u e n hx=>ni b (I.base.free b u e n hx),I.base.there,λ b xs e=>?_,λ b u v e=>?_,λ b ps e=>?_⟩,I.loc,I.cell,ni _ I.free,λ x c e=>ni _ (I.freeC x c e),λ p hp=>?_,λ b u e=>?_,I.len⟩
 ·have q:=I.base.tups b xs e;rw[hb b (λ z=>by rw[z,ea] at q;cases q)];exact q
 ·have q:=I.base.frzs b u v e;rw[hb b (λ z=>by rw[z,ea] at q;cases q)];exact q
 ·obtain⟨m,q⟩:=I.base.tbls b ps e;exact⟨m,by rw[hb b (λ z=>by rw[z,ea] at q;cases q)];exact q⟩
 ·obtain⟨e,n,r⟩:=I.pin p hp;exact⟨e,ni _ n,r⟩
 ·have e':=e;rw[hb b (nt b u e)] at e';exact(I.hok b u e').stay (λ _ _ _ q=>q) (λ c q=>by rw[hb c (λ z=>by rw[z,ea] at q;cases q)];exact q) λ c xs q=>by rw[hb c (λ z=>by rw[z,ea] at q;cases q)];exact q
section
variable {M : Model}{A : zx}{E : qx -> qj -> Prop}{env : Env}
variable {nm q : Str}{C N : qv}{bs bm : List qx}{hdct : Bool}{sn : List Str}{sub : List qx}{ab : Bool}{col : Option Bool}{dd : Option qv}{k0 k1 k2 k3 k5 : Option qx}{newId : String}
theorem aFf{s:qj}{x:Sem qx}{Q:Flow->qj->Prop}(hh:A.handled=qz)
 (h:qu M A x (λ v s₁=>∃ e dx vs nm q N bs bm hdct sn sub ab col dd k0 k1 k2 k3 k5 newId,v=.ref e/\s₁.heap.get? C=qq (excClassObj nm q C N bs bm hdct sn sub ab col dd k0 k1 k2 k3 k5 newId)/\bm.contains (.type "BaseException")=true /\
   s₁.heap.get? e=qq {cls:=.ref C,dict:=dx,data:=.fields vs }/\vs[1]? = qq .none/\E (.ref e) s₁) E s) :
 qu M A (raiseStmt env (qq x) qz) Q E s:=by
 unfold raiseStmt;refine wB (wpAny_mono h (λ v s₁ h₁=>?_) λ _ _ x=>x)
 obtain⟨e,dx,vs,nm,q,N,bs,bm,hdct,sn,sub,ab,col,dd,k0,k1,k2,k3,k5,newId,rfl,hC,hbase,he,hv1,hE⟩:=h₁;have hcB:(Value.ref C::bm).contains (.type "BaseException")=true:=by rw[List.contains_cons,hbase,Bool.or_true]
 obtain⟨hp,g,d,tk,os⟩:=s₁
 repeat (first | with_reducible refine wpAny_loadPart_at he ?_ | with_reducible refine wpAny_loadPart_at hC ?_ | (with_reducible refine wpAny_isSubtype_exc hC ?_;rw[hcB]) | wp_step)
 rw[hv1];refine wP ?_;rw[if_neg (by decide)]
 exact wP (wpAny_raiseNew_none hh hE)
end
theorem aCe{X:Cx}{C fI:qv}{fd:xw}{n0 n1:Str}{k:Nat}(O:XiOk X.K C fI)(hr:Room (k+1) X.A)(F:FnOk X.prog X.w X.K X.mg X.base eA k fI fd [n0,n1] (nY C))(hbi:cS X.K fd [n0,n1] [])(hf:∃ oI,X.K.lookup fI=qq oI/\oI.cls=.type "function")
 {aA:List (qv×Obj)}{σ:L2.St}{H1:Hp}{s1:qj}{u:qx}{i:Int}{Q:qx->qj->Prop} (I1:Inv X aA σ H1 s1) (ru:aP (.int i) u)
 (hq:∀ s' ea dx ta,H1 ea=qz->H1 dx=qz->dx≠ea->s1.heap.get? ea=qz->Inv X aA σ (aT (aT H1 dx (.xd [("row",.int i)])) ea (.ext λ h=>h.get? ea=qq {cls:=.ref C,dict:=qq dx,data:=.fields #[.ref ta,.none,.none,.none,.bool false,.none] })) s'->(∀ b,s1.heap.get? b≠qz->s'.heap.get? b≠qz)->Q (.ref ea) s') :
 qu (model X.prog X.w) X.A (call (.ref C) [u]) Q X.xe s1:=by
 obtain⟨bm,N,nm,qn,bs,sn,sub,ab,col,dd,k0,k1,k2,k3,k5,hC,T⟩:=xD I1.kIn O.ex;obtain⟨oI,hoI,hoc⟩:=hf;have Li:=looks_findIn (M:=model X.prog X.w) I1.kIn O.it;have hoI1:=I1.kIn _ _ hoI;obtain⟨h1,gg1,d1,t1,o1⟩:=s1;refine aFt T hC Li hoI1 hoc (λ h' ea me=>?_) (by show 1<=qk;decide)
 obtain⟨ta,hea,_,_⟩:=me.there;have Ik:=I1.kept (t':=t1) me.keeps;have hHe:H1 ea=qz:=by
  cases z:H1 ea with
  | none=>rfl
  | some u =>
    obtain⟨o,ho⟩:=rO (I1.hok ea u z);rw[me.new] at ho;cases ho
 have It:=wE (o:=.ext λ h=>h.get? ea=qq {cls:=.ref C,data:=.fields #[.ref ta,.none,.none,.none,.bool false,.none] }) Ik (pA I1) me.new hHe ⟨hea,⟨_,hea⟩,λ h1 h2 q1 q2=>q2 _ q1⟩
 refine wpAny_call (codeAny_mono (F.run _ X.stack _ _ ⟨[.ref ea,u],[]⟩ [.ref ea,u] [.ref ea,.int i] (λ v H2=>v=.non/\∃ dx,H1 dx=qz/\dx≠ea/\H2=aT (aT (aT H1 ea (.ext λ h=>h.get? ea=qq {cls:=.ref C,data:=.fields #[.ref ta,.none,.none,.none,.bool false,.none] })) dx (.xd [("row",.int i)])) ea (.ext λ h=>h.get? ea=qq {cls:=.ref C,dict:=qq dx,data:=.fields #[.ref ta,.none,.none,.none,.bool false,.none] })) E0 (hr.make C [u] []) (It.env0.make C [u] []) (by have:=hbi _ [.ref ea,u] It.kIn rfl;rw[yAv] at this;exact this) (.cons rfl (.cons ru .nil))
  ⟨ea,_,_,i,rfl,bO,rfl,rfl,rfl,λ dx f1 f2=>⟨rfl,dx,by rw[aX f2] at f1;exact f1,f2,rfl⟩⟩) λ r s' hc=>?_)
 cases r with
 | error x=>exact hc.elim
 | ok fl =>
   cases fl with
   | next=>exact hc.elim
   | brk=>exact hc.elim
   | cont=>exact hc.elim
   | ret u2 =>
     obtain⟨v,H2,os,bare,un,hok,rv,rfl,dx,f1,f2,rfl⟩:=hc;have I3:=It.call' (ch:=[]) os un hok bare λ b z=>absurd z (by simp)
     have eH:aT (aT (aT H1 ea (.ext λ h=>h.get? ea=qq {cls:=.ref C,data:=.fields #[.ref ta,.none,.none,.none,.bool false,.none] })) dx (.xd [("row",.int i)])) ea (.ext λ h=>h.get? ea=qq {cls:=.ref C,dict:=qq dx,data:=.fields #[.ref ta,.none,.none,.none,.bool false,.none] }) =
      aT (aT H1 dx (.xd [("row",.int i)])) ea (.ext λ h=>h.get? ea=qq {cls:=.ref C,dict:=qq dx,data:=.fields #[.ref ta,.none,.none,.none,.bool false,.none] }):=by
      funext b
      by_cases z:b=ea
      ·subst z;rw[bO,bO]
      ·rw[aX z,aX z]
       by_cases z2:b=dx
       ·subst z2;rw[bO,bO]
       ·rw[aX z2,aX z2,aX z]
     rw[eH] at I3;refine⟨rv,hq s' ea dx ta hHe f1 f2 me.new I3 λ b hb=>?_⟩
     cases z:h1.get? b with
     | none=>exact absurd z hb
     | some o =>
       obtain⟨o',e'⟩:=un.there b o (me.keeps b o z) (by simp)
       exact iL e'
noncomputable def zZ(c:Str)(fe:FE):FE:=λ env S=>(fe env S).bind λ p=>match p.1 with
 | .d (.int i)=>qq (.d (.dict [(.str c,.int i)]),p.2)
 | _=>qz
theorem aH3{X:Cx}{c:Str}{C fI:qv}{fd:xw}{n0 n1:Str}{k:Nat}{np cpos:Pos}{e:qw}{fe:FE}(hg:Gl X c)(hm:X.mg c=qq (.ref C))(hns:nsIn X.K qy c=qq (qq (.ref C)))(O:XiOk X.K C fI)
 (hr:Room (k+1) X.A) (F:FnOk X.prog X.w X.K X.mg X.base eA k fI fd [n0,n1] (nY C)) (hbi:cS X.K fd [n0,n1] []) (hf:∃ oI,X.K.lookup fI=qq oI/\oI.cls=.type "function") (hd:(c==("__debug__" : Str))=false) (he:PE X e (aK X.K fe)) (hp:bP e=true) :
 PE X (.Call (.Name c np) [e] [] cpos) (aK X.K (zZ c fe)):=by
 rintro aA s σ H Q I ⟨F0,L,S,env,w,S',R,E,ef,q⟩;obtain⟨⟨w1,S1⟩,e1,e2⟩:=bind_some ef;cases w1 with
 | loc n=>cases e2
 | exc c r=>cases e2
 | d dd =>
   cases dd with
   | int i =>
     cases e2;have ha:PA X [e] (dE X.K (dX fe gH)):=lD he lR (cU hp _ _);refine xj (jN I hg hm ?_ hd);refine yCz (h₀:=X.base) I.ok.mod.kin O.kp (aY (ha cpos aA s σ H (λ vs H1=>vs=[.int i]/\∃ F1 L1,Gr F0 L F1 L1/\Rel X.K F1 L1 S1 H1) I ⟨F0,L,S,env,[.d (.int i)],S1,R,E,by unfold dX;rw[e1];rfl,λ F1 L1 H1 vs g1 R1 d1=>?_⟩) λ us s1 ⟨vs,H1,I1,r,ev,F1,L1,g1,R1⟩=>⟨I1.kIn,?_⟩) (cU hp _ _) rfl
     ·cases d1 with
      | cons d1 d2 =>
        cases d2;cases (show Den X.K F1 (.int i) _ from d1)
        exact⟨rfl,F1,L1,g1,R1⟩
     subst ev;obtain⟨u,rfl,ru⟩:=eT r;refine aCe O hr F hbi hf I1 ru λ s' ea dx ta f1 f2 f3 f4 I3 _=>⟨.ref ea,_,I3,rfl,?_⟩
     have h2:aT H1 dx (.xd [("row",.int i)]) ea=qz:=by rw[aX f3.symm];exact f1
     have R2:=(R1.new (o:=.xd [("row",.int i)]) f2).new (o:=.ext λ h=>h.get? ea=qq {cls:=.ref C,dict:=qq dx,data:=.fields #[.ref ta,.none,.none,.none,.bool false,.none] }) h2
     have hF:F1 dx=qz:=R1.sub.free f2;have hF2:aT F1 dx (.xd [("row",.int i)]) ea=qz:=(R1.new (o:=.xd [("row",.int i)]) f2).sub.free h2;exact q _ L1 _ _ ((g1.trans (Gr.new hF)).trans (Gr.new hF2)) R2 (Den.exc ⟨C,_,bO,rfl,rfl,hns,dx,rfl,by rw[aX f3];exact bO⟩)
   | _=>cases e2
noncomputable def nR(c:Str):FE:=λ _ S=>qq (.d (.dict [(.str c,.none)]),S)
theorem aHP{X:Cx}{c:Str}{C:qv}{np pos:Pos}(hg:Gl X c)(hm:X.mg c=qq (.ref C))(hns:nsIn X.K qy c=qq (qq (.ref C)))(hq:excIn X.K C hV "ValueError.__new__" = true)(kp:keepIn X.K (.ref C)=true)(hd:(c==("__debug__" : Str))=false):PE X (.Call (.Name c np) [] [] pos) (aK X.K (nR c)):=by
 rintro aA s σ H Q I ⟨F0,L,S,env,w,S',R,E,ef,q⟩;cases ef;refine xj (jN I hg hm ?_ hd);refine PySem.W.callWith_K0 I.kIn kp ?_;obtain⟨bm,N,nm,qn,bs,hd',sn,sub,ab,col,dd,k0,k1,k2,k3,k5,mN,hC,hN,hni,T⟩:=aB0 I.kIn hq;have FB:=yCp;obtain⟨h1,gg1,d1,t1,o1⟩:=s;refine wpAny_call_exc_subU (hrest:=yEd _) FB FB.hasB FB T hC hN hni λ h' ea me=>?_
 obtain⟨ta,hea,_,_⟩:=me.there;have hHe:H ea=qz:=by
  cases z:H ea with
  | none=>rfl
  | some u =>
    obtain⟨o,ho⟩:=rO (I.hok ea u z);rw[me.new] at ho;cases ho
 have It:=wE (o:=.ext λ h=>h.get? ea=qq {cls:=.ref C,data:=.fields #[.ref ta,.none,.none,.none,.bool false,.none] }) (I.kept (t':=t1) me.keeps) (pA I) me.new hHe ⟨hea,⟨_,hea⟩,λ h1 h2 q1 q2=>q2 _ q1⟩
 exact⟨.ref ea,_,It,rfl,q _ L _ _ (Gr.new (R.sub.free hHe)) (R.new hHe) (Den.exc ⟨C,_,bO,rfl,rfl,hns,rfl⟩)⟩
noncomputable def rY(c:Str)(fe:FE):FX:=λ env S=>(fe env S).bind λ p=>match p.1 with
 | .d (.int i)=>qq (.ex env c (.int i),p.2)
 | _=>qz
theorem aGs{X:Cx}{W:XW}{c:Str}{C fI:qv}{fd:xw}{n0 n1:Str}{k:Nat}{np cpos pos:Pos}{e:qw}{fe:FE}(hx:pN X W)(hc:X.calm=true)(hg:Gl X c)(hm:X.mg c=qq (.ref C))(hns:nsIn X.K qy c=qq (qq (.ref C)))(O:XiOk X.K C fI)
 (hr:Room (k+1) X.A) (F:FnOk X.prog X.w X.K X.mg X.base eA k fI fd [n0,n1] (nY C)) (hbi:cS X.K fd [n0,n1] []) (hf:∃ oI,X.K.lookup fI=qq oI/\oI.cls=.type "function") (hd:(c==("__debug__" : Str))=false) (he:PE X e (aK X.K fe)) (hp:bP e=true) :
 PS X (.Raise (qq (.Call (.Name c np) [e] [] cpos)) qz pos) (tX X.K W (rY c fe)):=by
 rintro aA s σ H D I ⟨F0,L,S,env,fx,S',R,E,ef,q⟩;obtain⟨⟨w1,S1⟩,e1,e2⟩:=bind_some ef;cases w1 with
 | loc n=>cases e2
 | exc c r=>cases e2
 | d dd =>
   cases dd with
   | int i =>
     cases e2;rw[arm_exec_Raise];simp only[evalOpt,Option.map];refine wB (ju (aFf (C:=C) (I.ok.hd hc) (wB (wpAny_mono ?_ (λ v s₃ h₃=>wB (ju (wP h₃))) λ _ _ x=>x))))
     have ha:PA X [e] (dE X.K (dX fe gH)):=lD he lR (cU hp _ _);refine xj (jN I hg hm ?_ hd);refine yCz (h₀:=X.base) I.ok.mod.kin O.kp (aY (ha cpos aA s σ H (λ vs H1=>vs=[.int i]/\∃ F1 L1,Gr F0 L F1 L1/\Rel X.K F1 L1 S1 H1) I ⟨F0,L,S,env,[.d (.int i)],S1,R,E,by unfold dX;rw[e1];rfl,λ F1 L1 H1 vs g1 R1 d1=>?_⟩) λ us s1 ⟨vs,H1,I1,r,ev,F1,L1,g1,R1⟩=>⟨I1.kIn,?_⟩) (cU hp _ _) rfl
     ·cases d1 with
      | cons d1 d2 =>
        cases d2;cases (show Den X.K F1 (.int i) _ from d1)
        exact⟨rfl,F1,L1,g1,R1⟩
     subst ev;obtain⟨u,rfl,ru⟩:=eT r;refine aCe O hr F hbi hf I1 ru λ s' ea dx ta f1 f2 f3 f4 I3 eY=>?_
     have hH3:aT H1 dx (.xd [("row",.int i)]) ea=qz:=by rw[aX f3.symm];exact f1
     have I4:=aE3 (H':=aT H1 dx (.xd [("row",.int i)])) I3 bO hH3 λ b z=>(aX z).symm
     have he4:=(I3.hok ea _ bO).1;obtain⟨bm,N,nm,qn,bs,sn,sub,ab,col,dd,k0,k1,k2,k3,k5,hC,T⟩:=xD I4.kIn O.ex;refine⟨ea,_,_,nm,qn,N,bs,bm,true,sn,sub,ab,col,dd,k0,k1,k2,k3,k5, "ValueError.__new__",rfl,hC,T.hasType PySem.F.excBase_ValueError.hasBase,he4,rfl,?_⟩;refine hx _ _ ⟨ea,.ref C,qq dx,qz,s1.heap,σ,aT H1 dx (.xd [("row",.int i)]),rfl,mJ I4,⟨_,_,he4,rfl,rfl,rfl,Nat.lt_of_sub_pos (by simp),f4,hH3,.inl ⟨rfl,rfl⟩⟩,.inl rfl,pA (mJ I1),eY,?_⟩
     have hF:F1 dx=qz:=R1.sub.free f2;exact q (aT F1 dx (.xd [("row",.int i)])) L1 _ (g1.trans (Gr.new hF)) (R1.new f2) σ (.ref C) (qq dx) (E.mono (g1.trans (Gr.new hF))) ⟨C,rfl,hns,dx,rfl,bO⟩
   | _=>cases e2
end EV
namespace EV
open PySem L2 PySem.Spec PyProof.Rows PySem.W
theorem aFH{K:FrG}{F:Hp}{L:List qv}{env:aQ}{σ:St}(h:EnvR K F L env σ)(i:Nat):EnvR K F L (env.set i qz) (σ.set i qz):=by
 refine⟨by rw[yAo,yAo];exact h.len,λ j u e=>?_⟩
 by_cases hj:i=j
 ·subst hj;rcases yDm i env.length with q | q
  ·rw[yAl q] at e;cases e
  ·rw[yCl (by rw[yAo];exact q)] at e;cases e
 ·rw[yAj hj] at e;obtain⟨x,e1,r1⟩:=h.get j u e;exact⟨x,by rw[yAj hj];exact e1,r1⟩
theorem aA7{X:Cx}{tb:Str->Str->Option Bool}(ht:aAi X.K tb)(hN:X.N.Nodup)(hf:∀ x,X.fn x=true){a:qv}{cls:qx}{dx:Option qv}{h0:Heap}{c:Str}{r:D}{D:Ends}{E:qx->qj->Prop} :
 ∀ {hs:List Hd}{as:List ExceptHandler},HdsOk X hs as->∀ {σ:L2.St}{H F:Hp}{L:List qv}{S S':aB}{env:aQ}{fl:Fl}{s:qj},Inv X [] σ H s->Trc s.heap h0 H a cls dx (qq .none)->Bel X [] h0->(∀ b,h0.get? b≠qz->s.heap.get? b≠qz) ->
  Rel X.K F L S H->EnvR X.K F L env σ->lW X.K F c r cls dx->dB tb c r hs env S=qq (fl,S')->(∀ F' L' H',Gr F L F' L'->Rel X.K F' L' S' H'->uH X.K D F' L' H' fl)->qu (model X.prog X.w) X.A (handleBy (.ref a) X.env as) (SP X [] D) E s
 | _,_,.nil,σ,H,F,L,S,S',env,fl,s,I,T,B,hb,R,En,Xk,e,q=>by cases e
 | h::hs,ah::as,.cons hd hr,σ,H,F,L,S,S',env,fl,s,I,T,B,hb,R,En,Xk,e,q=>by
   unfold tW at hd
   split at hd
   ·rename_i d np nm b0 suite pos;obtain⟨rfl,hg,hdb,⟨C',hns',hm'⟩,hnm,hsu⟩:=hd;obtain⟨C,rfl,hns,hx⟩:=id Xk;have Is:Inv (mE X (.ref a)) [] σ H s:=aAg I;obtain⟨oe,vs,he,hc,hdx,hdat,hsz,hnew,hHe,htr⟩:=id T.ex;have LT:Looks (model X.prog X.w) s.heap (typeOf (.ref a)) (.ref C):=hc▸(Looks.ld he).andThen .now;cases hb2:tb c h.d with
    | none =>
      have e':dB tb c r (h::hs) env S=qz:=by unfold dB;rw[hb2]
      rw[e'] at e;cases e
    | some b =>
      have hex:=ht c h.d b C C' hb2 hns hns';refine wpAny_handleBy_cons (codeAny_handlers_test (jN (X:=mE X (.ref a)) Is hg hm' ((exm_one I.kIn LT hex).here ?_) hdb)) (by intro z;cases z)
      cases b with
      | false =>
        have e':dB tb c r hs env S=qq (fl,S'):=by
         have:dB tb c r (h::hs) env S=dB tb c r hs env S:=by rw[dB];rw[hb2]
         rw[<- this];exact e
        exact aA7 ht hN hf hr I T B hb R En Xk e' q
      | true =>
        show vx _ _ _ _ _;cases nm with
        | none =>
          cases hsl:h.sl with
          | some i=>rw[hsl] at hnm;exact hnm.elim
          | none =>
            have e':h.f env S=qq (fl,S'):=by
             have:dB tb c r (h::hs) env S=h.f env S:=by rw[dB];rw[hb2];dsimp only;rw[hsl]
             rw[<- this];exact e
            refine codeAny_handlers_suite (oQ (v:=qz) I T B hb λ s1 I1 T1 hb1=>?_)
            refine wpAny_mono (hsu (.ref a) [] s1 σ H D (aAg I1) (gB R En e' q)) (λ f s2 h2=>?_) λ _ _ z=>z.elim
            cases f with
            | next=>obtain⟨σ',H',I',q'⟩:=h2;exact⟨σ',H',pX I.ok I',q'⟩
            | brk=>obtain⟨σ',H',I',q'⟩:=h2;exact⟨σ',H',pX I.ok I',q'⟩
            | cont=>obtain⟨σ',H',I',q'⟩:=h2;exact⟨σ',H',pX I.ok I',q'⟩
            | ret u=>obtain⟨v,σ',H',I',r',q'⟩:=h2;exact⟨v,σ',H',pX I.ok I',r',q'⟩
        | some n =>
          cases hsl:h.sl with
          | none=>rw[hsl] at hnm;exact hnm.elim
          | some i =>
            rw[hsl] at hnm;have e':(h.f (env.set i (qq (.exc c r))) S).bind (qM i)=qq (fl,S'):=by
             have:dB tb c r (h::hs) env S=(h.f (env.set i (qq (.exc c r))) S).bind (qM i):=by rw[dB];rw[hb2];dsimp only;rw[hsl]
             rw[<- this];exact e
            obtain⟨⟨fl1,S1⟩,e1,e2⟩:=bind_some e';cases fl1 with
            | rt w=>cases e2
            | bk e=>cases e2
            | ct e=>cases e2
            | nx e1' =>
              cases e2;refine codeAny_handlers_suite_as (oQ (v:=qz) I T B hb λ s1 I1 T1 hb1=>?_)
              obtain⟨oe1,vs1,he1,hc1,hdx1,hdat1,hsz1,hnew1,hHe1,htr1⟩:=id T1.ex;have I2:=wE (o:=.ext λ h=>h.get? a=qq oe1) I1 B hnew1 hHe1 ⟨he1,⟨_,he1⟩,λ h1 h2 q1 q2=>q2 _ q1⟩
              have g1:Gr F L (aT F a (.ext λ h=>h.get? a=qq oe1)) L:=Gr.new (R.sub.free hHe1)
              have xc:gJ X.K (aT F a (.ext λ h=>h.get? a=qq oe1)) a c r:=⟨C,oe1,bO,hc1,by unfold notCls;rw[hdat1],hns,by rw[hdx1];exact hx.mono g1.f⟩
              refine wQ (X:=mE X (.ref a)) (aAg I2) hN hnm.1 (.inl hnm.2) (v:=.ref a) (u:=.ref a) rfl (λ s2 I3=>?_) (.inl (hf n))
              refine wpAny_mono (hsu (.ref a) [] s2 _ _ {nx:=λ σ' H'=>D.nx (σ'.set i qz) H',rt:=λ _ _=>False } I3 (gB (R.new hHe1) ((En.mono g1).set i (w:=.exc c r) ⟨a,rfl,xc⟩) e1 λ F2 L2 H2 g2 R2 σ2 E2=>q F2 L2 H2 (g1.trans g2) R2 _ (aFH E2 i))) (λ f s3 h3=>?_) λ _ _ z=>z.elim
              cases f with
              | next =>
                obtain⟨σ',H',I',q'⟩:=h3;exact aHA (pX I.ok I') hN hnm.1 hnm.2 λ s4 I4=>⟨_,_,I4,q'⟩
              | brk=>obtain⟨σ',H',I',q'⟩:=h3;exact q'.elim
              | cont=>obtain⟨σ',H',I',q'⟩:=h3;exact q'.elim
              | ret u=>obtain⟨v,σ',H',I',r',q'⟩:=h3;exact q'.elim
   ·exact hd.elim
theorem aKW{X:Cx}{W:XW}{tb:Str->Str->Option Bool}(ht:aAi X.K tb)(hN:X.N.Nodup)(hf:∀ x,X.fn x=true)(Df:Dfb X){body:List zy}{h0:ExceptHandler}{as:List ExceptHandler}{pos:Pos}{fb:FX}{hs:List Hd}
 (hb:∀ aA W',bI ((cZ X aA).wish (gU (cZ X aA) W')) body (tX X.K W' fb)) (hh:∀ aA,HdsOk (cZ X aA) hs (h0::as)):PS X (.Try body (h0::as) [] [] pos) (tX X.K W (nJ tb fb hs)):=by
 rintro aA s σ H D I ⟨F,L,S,env,fx,S',R,E,e,q⟩;obtain⟨⟨p,S1⟩,e1,e2⟩:=bind_some e;have nxt:∀ {f:Flow}{s1:qj}{E':qx->qj->Prop},SP ((cZ X aA).wish E') [] D f s1->(match f with | .next=>qu (model X.prog X.w) X.A (execs [] X.env) (SP X aA D) X.xe s1 | f=>SP X aA D f s1):=λ {f s1 E'} h=>by
  have h2:=spP h.unwish;cases f with
  | next=>exact wpAny_execs_nil h2
  | brk=>exact h2
  | cont=>exact h2
  | ret u=>exact h2
 cases p with
 | fl f =>
   cases e2;exact wpAny_Try_except (wpAny_mono (hb aA (λ _ _ _ _=>False) [] s σ H D ((aD3 I).wish _) ⟨F,L,S,env,_,_,R,E,e1,q⟩) (λ f s1 h1=>nxt h1) λ e s1 h1=>by
    obtain⟨_,_,_,_,_,_,_,_,_,_,_,_,_,z⟩:=h1;exact z.elim)
 | ex env1 c r =>
   obtain⟨⟨fl,S2⟩,e3,e4⟩:=bind_some e2;cases e4;refine wpAny_Try_except (wpAny_mono (hb aA (λ σ' cls dx H'=>∃ F' L' aV S1,Gr F L F' L'/\Rel X.K F' L' S1 H'/\EnvR X.K F' L' aV σ'/\lW X.K F' c r cls dx/\dB tb c r hs aV S1=qq (fl,S2)) [] s σ H D ((aD3 I).wish _)
    ⟨F,L,S,env,_,_,R,E,e1,λ F1 L1 H1 g1 R1 σ1 cls dx E1 x1=>⟨F1,L1,env1,S1,g1,R1,E1,x1,e3⟩⟩) (λ f s1 h1=>nxt h1) λ e s1 h1=>?_)
   refine wL (X:=cZ X aA) ⟨Df.stk,Df.frm,Df.ex⟩ rfl h1 λ a cls dx h0 σ1 H1 s2 ea I2 T2 B2 hb2 hw=>?_
   subst ea;obtain⟨F1,L1,aV,S3,g1,R1,E1,x1,e5⟩:=hw;refine oQ (X:=cZ X aA) (v:=qz) I2 T2 B2 hb2 λ s3 I3 T3 hb3=>?_
   exact aY (aA7 (X:=cZ X aA) ht hN hf (hh aA) I3 T3 B2 hb3 R1 E1 x1 e5 λ F2 L2 H2 g2 R2=>q F2 L2 H2 (g1.trans g2) R2) λ f s4 h4=>spP h4
section
variable {X : Cx}{pos : Pos}
noncomputable def fB(tb:Str->Str->Option Bool)(c:Str):List Str->Option Bool
 | []=>qq false
 | d::ds=>match tb c d with
   | some true=>qq true
   | some false=>fB tb c ds
   | none=>qz
noncomputable def kQ:EV.W->Option (Str×D)
 | .exc c r=>qq (c,r)
 | .d (.dict [(.str c,r)])=>qq (c,r)
 | _=>qz
theorem wU{K:FrG}{F:Hp}{L:List qv}{w:EV.W}{v:V}{z:Str×D}(h:dM K F L w v)(e:kQ w=qq z):∃ a,v=.ref a/\gJ K F a z.1 z.2:=by
 unfold kQ at e
 split at e
 ·cases e;exact h
 ·cases e;cases (show Den K F _ v from h) with
  | exc x=>exact⟨_,rfl,x⟩
 ·cases e
noncomputable def iS(tb:Str->Str->Option Bool)(fa:FE)(ds:List Str):FE:=λ env S=>(fa env S).bind λ p=>(kQ p.1).bind λ z=>(fB tb z.1 ds).bind λ b=>qq (.d (.bool b),p.2)
end
end EV
namespace EV
open PySem L2 PySem.Spec PyProof.Rows PySem.W
def dN(K:FrG)(mg:Str->Option qx)(d:Str)(v:V):Prop:=(∃ C,v=.ref C/\nsIn K qy d=qq (qq (.ref C))/\mg d=qq (.ref C))\/(∃ n,v=.ty n/\mg d=qz/\zk d=qq (.type n)/\d ≠ "__name__")
noncomputable def qF:V->qx
 | .ref a=>.ref a
 | .ty n=>.type n
 | _=>.none
theorem dN.val{K:FrG}{mg:Str->Option qx}{d:Str}{v:V}{u:qx}(h:dN K mg d v)(r:aP v u):u=qF v:=by
 rcases h with ⟨C,rfl,_⟩ | ⟨n,rfl,_⟩<;>exact r
theorem dN.rel{K:FrG}{mg:Str->Option qx}{d:Str}{v:V}(h:dN K mg d v):aP v (qF v):=by
 rcases h with ⟨C,rfl,_⟩ | ⟨n,rfl,_⟩<;>rfl
structure XT(K:FrG)(mg:Str->Option qx)(tb:Str->Str->Option Bool):Prop where
 exm:aAi K tb
 cls:∀ c d b C,tb c d=qq b->nsIn K qy c=qq (qq (.ref C))->XcOk K C
 nm:∀ c d b,tb c d=qq b->∃ v,dN K mg d v/\∀ C,nsIn K qy c=qq (qq (.ref C))->kitOne K (.ref C) (qF v)=qq b
section
variable {X : Cx}{pos : Pos}{tb : Str -> Str -> Option Bool}
theorem aKZ{d:Str}{v:V}{p:Pos}(hg:Gl X d)(hd:(d==("__debug__" : Str))=false)(h:dN X.K X.mg d v):PE X (.Name d p) (tC v):=by
 rcases h with ⟨C,rfl,_,hm⟩ | ⟨n,rfl,hm,hv,hn⟩
 ·exact xT hg hm rfl hd
 ·exact aCu hg hm hv rfl hn hd
theorem aCl{aA:List (qv×Obj)}{σ:L2.St}{H F:Hp}{s:qj}{a:qv}{c:Str}{r:D}(I:Inv X aA σ H s)(sb:bL F H)(h:gJ X.K F a c r):∃ C oe od,nsIn X.K qy c=qq (qq (.ref C))/\yBt s.heap a oe C od:=by
 obtain⟨C,oe,h1,h2,h3,h4,h5⟩:=h;have e:=(I.hok a _ (sb _ _ h1)).1;cases r with
 | none=>exact⟨C,oe,qz,h4,e,h2,h3,by rw[show oe.dict=qz from h5];trivial⟩
 | int i =>
   obtain⟨dx,q1,q2⟩:=h5;obtain⟨od,ho⟩:=rO (I.hok dx _ (sb _ _ q2));exact⟨C,oe,qq od,h4,e,h2,h3,by rw[q1];exact ho⟩
 | _=>exact h5.elim
theorem aHI(T:XT X.K X.mg tb){d:Str}{v:V}(nv:dN X.K X.mg d v):cD X (.builtin "isinstance") (λ xs H Q=>∃ F L S a c r b,xs=[.ref a,v]/\Rel X.K F L S H/\gJ X.K F a c r/\tb c d=qq b/\Q (.bl b) H):=λ aA s σ H xs us Q I r aO=>by
 obtain⟨F,L,S,a,c,rr,b,e,R,xc,hb,q⟩:=aO;subst e;obtain⟨u,u2,rfl,r1,r2⟩:=pQ r;cases (show u=Value.ref a from r1)
 obtain rfl:=nv.val r2;obtain⟨C,oe,od,hC,J⟩:=aCl I R.sub xc;obtain⟨v',nv',hk⟩:=T.nm c d b hb;have:v'=v:=by
  rcases nv with ⟨C1,rfl,n1,m1⟩ | ⟨n,rfl,m1,n1,_⟩<;>rcases nv' with ⟨C2,rfl,n2,m2⟩ | ⟨n',rfl,m2,n2,_⟩
  ·rw[m1] at m2;cases m2;rfl
  ·rw[m1] at m2;cases m2
  ·rw[m1] at m2;cases m2
  ·rw[n1] at n2;cases n2;rfl
 subst this;exact kia_one (aBI (T.cls c d b C hb hC)) I.kIn J (hk C hC) (λ z=>nomatch z) λ tk=>⟨.bl b,H,I.tok _,rfl,q⟩
theorem aB2(T:XT X.K X.mg tb){c:Str}{C:qv}(hC:nsIn X.K qy c=qq (qq (.ref C))):∀ {ds:List Str}{vs:List V}{b:Bool},Paired (dN X.K X.mg) ds vs->fB tb c ds=qq b->kitAny X.K (.ref C) (vs.map qF)=qq b
 | _,_,_,.nil,e=>by cases e;rfl
 | d::ds,v::vs,b,.cons nv r,e=>by
   have e':(match tb c d with | some true=>qq true | some false=>fB tb c ds | none=>qz)=qq b:=e
   cases hb:tb c d with
   | none=>rw[hb] at e';cases e'
   | some b1 =>
     rw[hb] at e';obtain⟨v',nv',hk⟩:=T.nm c d b1 hb;have:v'=v:=by
      rcases nv with ⟨C1,rfl,n1,m1⟩ | ⟨n,rfl,m1,n1,_⟩<;>rcases nv' with ⟨C2,rfl,n2,m2⟩ | ⟨n',rfl,m2,n2,_⟩
      ·rw[m1] at m2;cases m2;rfl
      ·rw[m1] at m2;cases m2
      ·rw[m1] at m2;cases m2
      ·rw[n1] at n2;cases n2;rfl
     subst this;have hk:=hk C hC;rw[yAm];unfold kitAny;rw[hk];cases b1 with
     | true=>exact e'
     | false=>exact aB2 T hC r e'
theorem aCj:∀ {ds:List Str}{vs:List V}{us:List qx},Paired (dN X.K X.mg) ds vs->aM vs us->us=vs.map qF
 | _,_,_,.nil,.nil=>rfl
 | _,_,_,.cons nv r,.cons rv rs=>by rw[yAm,<- aCj r rs,nv.val rv]
theorem aG9(T:XT X.K X.mg tb){ds:List Str}{vs:List V}(nv:Paired (dN X.K X.mg) ds vs)(hne:ds≠[]):cD X (.builtin "isinstance") (λ xs H Q=>∃ F L S a c r b p,xs=[.ref a,.ref p]/\H p=qq (.tup vs)/\Rel X.K F L S H/\gJ X.K F a c r/\fB tb c ds=qq b/\Q (.bl b) H):=λ aA s σ H xs us Q I r aO=>by
 obtain⟨F,L,S,a,c,rr,b,p,e,hp,R,xc,hb,q⟩:=aO;subst e;obtain⟨u,u2,rfl,r1,r2⟩:=pQ r;cases (show u=Value.ref a from r1)
 cases (show u2=Value.ref p from r2)
 obtain⟨C,oe,od,hC,J⟩:=aCl I R.sub xc;obtain⟨_,aC,rv,o,ho,hc,n,hd⟩:=I.hok p _ hp;obtain rfl:=aCj nv rv;have hX:XcOk X.K C:=by
  cases ds with
  | nil=>exact absurd rfl hne
  | cons d ds =>
    have e':(match tb c d with | some true=>qq true | some false=>fB tb c ds | none=>qz)=qq b:=hb
    cases hb1:tb c d with
    | none=>rw[hb1] at e';cases e'
    | some b1=>exact T.cls c d b1 C hb1 hC
 obtain⟨oc,od',oda,osl⟩:=o;dsimp only at hc hd;subst hc hd;exact kia_tup (aBI hX) I.kIn J ho (aB2 T hC nv hb) (λ z=>nomatch z) λ tk=>⟨.bl b,H,I.tok _,rfl,q⟩
end
end EV
namespace EV
open PySem L2 PySem.Spec PyProof.Rows PySem.W
inductive Hx where
 | bl (b:Bool) | str (x:Str) | row (i:Nat) | isi (i:Nat) (d:Str) | isl (i:Nat) (ds:List Str)
inductive Hs where
 | set (j:Nat) (a:Hx) | tup (j:Nat) (as:List Hx) | lst (nw:Bool) (j:Nat) (as:List Hx) | app (j:Nat) (a:Hx) | cat (j:Nat) (as:List Hx)
noncomputable def iN(tb:Str->Str->Option Bool)(fa:FE):FE:=λ env S=>(fa env S).bind λ p=>(kQ p.1).bind λ z=>match z.2,tb z.1 z.1 with
 | .int i,qq _=>qq (.d (.int i),p.2)
 | _,_=>qz
section
variable (tb : Str -> Str -> Option Bool)
noncomputable def hv:Hx->FE
 | .bl b=>fC (.bool b)
 | .str x=>fC (.str x)
 | .row i=>iN tb (cP i)
 | .isi i d=>iS tb (cP i) [d]
 | .isl i ds=>iS tb (cP i) ds
noncomputable def jZ:List Hx->FA
 | []=>gH
 | a::as=>dX (hv tb a) (jZ as)
noncomputable def eY:Hs->FS
 | .set j a=>dY j (hv tb a)
 | .tup j as=>dY j (qO (jZ tb as))
 | .lst nw j as=>dY j (match nw with | true=>iX (iY (jZ tb as)) | false=>dF (iY (jZ tb as)))
 | .app j a=>pL (jX (cP j) (hv tb a))
 | .cat j as=>dY j (lX .Add (cP j) (dF (iY (jZ tb as))))
noncomputable def iO:List Hs->FS
 | []=>lO
 | a::as=>cN (eY tb a) (iO as)
end
section
variable (N : List Str)(sc : zv)
noncomputable def rK(i:Nat)(x:qw):Bool:=dZ (λ x _=>decide (N[i]? = qq x)&&gL sc x && !(x==("__debug__" : Str)) && !(x==("__classdict__" : Str))) x
noncomputable def qI(d:Str)(x:qw):Bool:=dZ (λ z _=>decide (z=d)&&gl sc z && !(z==("__debug__" : Str))) x
noncomputable def yZ:List Str->List qw->Bool
 | [],xs=>xs.isEmpty
 | d::ds,xs=>(match xs with
   | x::xs=>qI sc d x&&bP x&&yZ ds xs
   | []=>false)
noncomputable def qS:Hx->qw->Bool
 | .bl b,x=>jW (.bool b) x
 | .str k,x=>jW (.str k) x
 | .row i,x=>uK (λ o m _=>decide (m = "row")&&dZ (λ x _=>decide (N[i]? = qq x)&&gL sc x && !(x==("__debug__" : Str)) && !(x==("__classdict__" : Str))) o) x
 | .isi i d,x=>nZ "isinstance" sc (λ y=>rK N sc i y) (λ z=>qI sc d z) x
 | .isl i ds,x=>!ds.isEmpty&&decide (ds.length<=100)&&nZ "isinstance" sc (λ y=>rK N sc i y) (λ z=>kT (λ xs _ _=>yZ sc ds xs) z) x
noncomputable def pT:List Hx->List qw->Bool
 | [],xs=>xs.isEmpty
 | a::as,xs=>(match xs with
   | x::xs=>qS N sc a x&&bP x&&pT as xs
   | []=>false)
noncomputable def jV(j:Nat)(ts:List qw):Bool:=eW (λ t=>dZ (λ x _=>decide (N[j]? = qq x)&&loc sc x) t) ts
noncomputable def aDY:Hs->zy->Bool
 | .set j a,st=>fV (λ ts y _=>qS N sc a y&&dS y&&jV N sc j ts) st
 | .tup j as,st=>fV (λ ts y _=>kT (λ xs _ _=>pT N sc as xs) y&&dS y&&jV N sc j ts) st
 | .lst _ j as,st=>fV (λ ts y _=>nW (λ xs _=>pT N sc as xs) y&&dS y&&jV N sc j ts) st
 | .app j a,st=>rD (λ x _=>aAc "append" (λ y=>rK N sc j y) (λ z=>qS N sc a z) x&&dS x) st
 | .cat j as,st=>fV (λ ts y _=>oA (λ x o z _=>decide (o=.Add)&&rK N sc j x&&nW (λ xs _=>pT N sc as xs) z) y&&dS y&&jV N sc j ts) st
noncomputable def zG:List Hs->List zy->Bool
 | [],l=>l.isEmpty
 | a::as,l=>(match l with
   | st::r=>aDY N sc a st&&zG as r
   | []=>false)
end
section
variable {X : Cx}{tb : Str -> Str -> Option Bool}
theorem tO{i:Nat}{x:qw}(h:rK X.N X.env.scope i x=true):PE X x (aK X.K (cP i)):=eG (P:=λ x=>PE X x _) h λ x p h=>zK (dT (aL (aL (aL h)))) (yL (aR (aL (aL h)))) (cX (aR (aL h))) (cX (aR h))
def tR(K:FrG)(mg:Str->Option qx)(ns:List Str):Prop:=∀ d∈ns,∃ v,dN K mg d v
theorem zJ{d:Str}{v:V}{x:qw}(nv:dN X.K X.mg d v)(h:qI X.env.scope d x=true):PE X x (tC v):=eG (P:=λ x=>PE X x _) h λ x p h=>by
 obtain rfl:=dT (aL (aL h));exact aKZ (dH (aR (aL h))) (cX (aR h)) nv
theorem aCO:∀ {ds:List Str}{es:List qw},(∀ d∈ds,∃ v,dN X.K X.mg d v)->yZ X.env.scope ds es=true->∃ vs,Paired (dN X.K X.mg) ds vs/\PA X es (λ _ H Q=>Q vs H)
 | [],es,_,h=>dI (P:=λ es=>∃ vs,Paired (dN X.K X.mg) [] vs/\PA X es (λ _ H Q=>Q vs H)) h ⟨[],.nil,mS⟩
 | d::ds,[],_,h=>no h
 | d::ds,x::es,hn,h=>by
   obtain⟨v,nv⟩:=hn d xAd;obtain⟨vs,p,ha⟩:=aCO (λ d' hd=>hn d' (xAf _ hd)) (aR h)
   exact⟨v::vs,.cons nv p,iE (zJ nv (aL (aL h))) ha (cU (aR (aL h)) _ _)⟩
theorem aCx{d:Str}{v:V}{fa:FE}{y z:qw}{p q:Pos}(T:XT X.K X.mg tb)(nv:dN X.K X.mg d v)(hb:X.mg "isinstance" = qz)(hg:Gl X "isinstance")(hy:PE X y (aK X.K fa))(py:bP y=true)(hz:PE X z (tC v))(pz:bP z=true):PE X (.Call (.Name "isinstance" p) [y,z] [] q) (aK X.K (iS tb fa [d])):=by
 refine PE.weak (iC (aHI T nv) hg hb (by decide +kernel) (iE hy (iE hz mS (cU pz _ _)) (cU py _ _)) (by decide) (by decide) (cU py _ _) (oU (es:=[z]) (by unfold jK jK;rw[pz];rfl) _ _)) λ σ H Q hPq39=>?_
 obtain⟨F,L,S,env,w,S',R,E,e,q⟩:=hPq39;obtain⟨⟨w1,S1⟩,e1,e2⟩:=bind_some e;obtain⟨⟨c,r⟩,ez,e2⟩:=bind_some e2;obtain⟨b,e3,e4⟩:=bind_some e2;cases e4;refine⟨F,L,S,env,w1,_,R,E,e1,λ F1 L1 H1 v1 g1 R1 d1=>?_⟩
 obtain⟨a,rfl,xc⟩:=wU d1 ez;have e5:tb c d=qq b:=by
  have e3':(match tb c d with | some true=>qq true | some false=>qq false | none=>qz)=qq b:=e3
  cases hb:tb c d with
  | none=>rw[hb] at e3';cases e3'
  | some b'=>rw[hb] at e3';cases b'<;>exact e3'
 exact⟨F1,L1,_,a,c,r,b,rfl,R1,xc,e5,q F1 L1 H1 _ g1 R1 (Den.bl b)⟩
theorem aIu{ds:List Str}{vs:List V}{fa:FE}{y:qw}{es:List qw}{kk:Nat}{tp p q:Pos}(T:XT X.K X.mg tb)(nv:Paired (dN X.K X.mg) ds vs)(hne:ds≠[])(hl:ds.length<=100)(hb:X.mg "isinstance" = qz)(hg:Gl X "isinstance")(hy:PE X y (aK X.K fa))(py:bP y=true)(hz:PA X es (λ _ H Q=>Q vs H)) :
 PE X (.Call (.Name "isinstance" p) [y,.Tuple es kk tp] [] q) (aK X.K (iS tb fa ds)):=by
 refine PE.weak (iC (aG9 T nv hne) hg hb (by decide +kernel) (iE hy (iE (yD hz) mS rfl) (cU py _ _)) (by decide) (by decide) (cU py _ _) rfl) λ σ H Q hPq40=>?_
 obtain⟨F,L,S,env,w,S',R,E,e,q⟩:=hPq40;obtain⟨⟨w1,S1⟩,e1,e2⟩:=bind_some e;obtain⟨⟨c,r⟩,ez,e2⟩:=bind_some e2;obtain⟨b,e3,e4⟩:=bind_some e2;cases e4;refine⟨F,L,S,env,w1,_,R,E,e1,λ F1 L1 H1 v1 g1 R1 d1=>?_⟩
 obtain⟨a,rfl,xc⟩:=wU d1 ez;refine⟨by rw[<- nv.length];exact xAg hl (by decide),λ p hp=>⟨F1,L1,_,a,c,r,b,p,rfl,bO,R1.lay hp,xc,e3,q F1 L1 _ _ g1 (R1.lay hp) (Den.bl b)⟩⟩
theorem aIw{aA:List (qv×Obj)}{σ:L2.St}{H F:Hp}{s:qj}{a:qv}{c:Str}{i:Int}(I:Inv X aA σ H s)(sb:bL F H)(h:gJ X.K F a c (.int i)):∃ C oe od v,nsIn X.K qy c=qq (qq (.ref C))/\yBt s.heap a oe C (qq od)/\lookIn "row" od=qq (qq v)/\aP (.int i) v:=by
 obtain⟨C,oe,h1,h2,h3,h4,dx,q1,q2⟩:=h;have e:=(I.hok a _ (sb _ _ h1)).1;obtain⟨mA,hn,hr⟩:=I.hok dx _ (sb _ _ q2);obtain⟨od,ho,hl⟩:=aBn hn;have r:=hr "row";have hlk:List.lookup ("row" : Str) [(("row" : Str),V.int i)]=qq (V.int i):=rfl;rw[hlk] at r;obtain⟨v,hv,rv⟩:=qN.some_of r;exact⟨C,oe,od,v,h4,⟨e,h2,h3,by rw[q1];exact ho⟩,by rw[hl,hv],rv⟩
theorem aKY{i:Nat}{x:Str}{p pos:Pos}(T:XT X.K X.mg tb)(hN:X.N[i]? = qq x)(hv:kC X.env.scope x)(hd:(x==("__debug__" : Str))=false)(hcd:(x==("__classdict__" : Str))=false):PE X (.Attribute (.Name x p) "row" pos) (aK X.K (iN tb (cP i))):=by
 rintro aA s σ H Q I ⟨F,L,S,env,w,S',R,E,e,q⟩;obtain⟨⟨w1,S1⟩,e1,e2⟩:=bind_some e;obtain⟨⟨c,r⟩,ez,e2⟩:=bind_some e2;dsimp only at e2 ez
 split at e2
 ·rename_i j b hb;cases e2;refine Attribute_name (aY (zK (pos:=p) hN hv hd hcd aA s σ H (λ v H1=>∃ a F1 L1,v=.ref a/\Gr F L F1 L1/\Rel X.K F1 L1 S' H1/\gJ X.K F1 a c (.int j)) I ⟨F,L,S,env,_,_,R,E,e1,λ F1 L1 H1 v g1 R1 d1=>?_⟩) λ u s1 h1=>?_)
  ·obtain⟨a,rfl,xc⟩:=wU d1 ez;exact⟨a,F1,L1,rfl,g1,R1,xc⟩
  ·obtain⟨v,H1,I1,rv,a,F1,L1,rfl,g1,R1,xc⟩:=h1;obtain rfl:u=Value.ref a:=rv;obtain⟨C,oe,od,v,hC,J,hl,rv⟩:=aIw I1 R1.sub xc;have O:=T.cls c c b C hb hC;obtain⟨tk,rfl⟩:=rv;unfold getAttr;refine wB (wpAny_mkText (aCJ (s:={s1 with toks:=s1.toks+1 }) I1.kIn J O.ga O.gt (aBy (s:={s1 with toks:=s1.toks+1 }) I1.kIn J O.mb (aFv (s:={s1 with toks:=s1.toks+1 }) I1.kIn J (findObj_own O.hd O.rw rfl hl) ?_))))
   show qu _ _ (handedOut (.int j tk)) _ _ _;rw[handedOut_of rfl];exact wP ⟨.int j,H1,I1.tok _,⟨_,rfl⟩,q F1 L1 H1 _ g1 R1 (Den.int j)⟩
 ·cases e2
noncomputable def Hx.nms:Hx->List Str
 | .isi _ d=>[d]
 | .isl _ ds=>ds
 | _=>[]
theorem tI(T:XT X.K X.mg tb)(hb:X.mg "isinstance" = qz){a:Hx}(hn:tR X.K X.mg a.nms){x:qw}(h:qS X.N X.env.scope a x=true):PE X x (aK X.K (hv tb a)):=by
 cases a with
 | bl b=>exact lN (P:=λ x=>PE X x _) h λ _ _=>aDX
 | str k=>exact lN (P:=λ x=>PE X x _) h λ _ _=>aDe
 | row i =>
   refine aD0 (P:=λ x=>PE X x _) h λ o m ap h=>eG (P:=λ o=>PE X (.Attribute o m ap) _) (aR h) λ n p g=>?_
   obtain rfl:=dT (aL h);exact aKY T (dT (aL (aL (aL g)))) (yL (aR (aL (aL g)))) (cX (aR (aL g))) (cX (aR g))
 | isi i d =>
   obtain⟨v,nv⟩:=hn d xAd;exact tV (P:=λ x=>PE X x _) h λ p y z q hg hy py hz pz=>aCx T nv hb (dH hg) (tO hy) py (zJ nv hz) pz
 | isl i ds =>
   refine tV (P:=λ x=>PE X x _) (aR h) λ p y z q hg hy py hz pz=>nM (P:=λ z=>PE X (.Call (.Name "isinstance" p) [y,z] [] q) _) hz λ es kk tp hz=>?_
   obtain⟨vs,nv,ha⟩:=aCO hn hz;refine aIu T nv (λ z=>?_) (dT (aR (aL h))) hb (dH hg) (tO hy) py ha
   have:=aL (aL h);rw[z] at this;exact no this
theorem sM(T:XT X.K X.mg tb)(hb:X.mg "isinstance" = qz):∀ {as:List Hx}{xs:List qw},(∀ a∈as,tR X.K X.mg a.nms)->pT X.N X.env.scope as xs=true->PA X xs (dE X.K (jZ tb as))
 | [],xs,_,h=>dI (P:=λ xs=>PA X xs _) h lR
 | a::as,[],_,h=>no h
 | a::as,x::xs,hn,h=>lD (tI T hb (hn a xAd) (aL (aL h))) (sM T hb (λ b m=>hn b (xAf _ m)) (aR h)) (cU (aR (aL h)) _ _)
noncomputable def Hs.hxs:Hs->List Hx
 | .set _ a=>[a]
 | .tup _ as=>as
 | .lst _ _ as=>as
 | .app _ a=>[a]
 | .cat _ as=>as
theorem aKp(T:XT X.K X.mg tb)(hb:X.mg "isinstance" = qz)(nd:X.N.Nodup)(hf:∀ x,X.fn x=true){a:Hs}(hn:∀ b∈a.hxs,tR X.K X.mg b.nms){st:zy}(h:aDY X.N X.env.scope a st=true):PS X st (cA X.K (eY tb a)):=by
 have asg:∀ {j:Nat}{ts:List qw}{y:qw}{p:Pos}{fa:FE},jV X.N X.env.scope j ts=true->dS y=true->PE X y (aK X.K fa)->PS X (.Assign ts y p) (cA X.K (dY j fa)):=λ {j ts y p fa} g hy he =>
  eK (P:=λ ts=>PS X (.Assign ts y p) _) g λ _ g=>eG (P:=λ t=>PS X (.Assign [t] y p) _) g λ x q g=>tH nd (dT (aL g)) (mU (aR g)) he (kD hy _ _ _) (.inl (hf _))
 cases a with
 | set j a=>exact gW (P:=λ st=>PS X st _) h λ ts y p h=>asg (aR h) (aR (aL h)) (tI T hb (hn a xAd) (aL (aL h)))
 | tup j as=>exact gW (P:=λ st=>PS X st _) h λ ts y p h=>asg (aR h) (aR (aL h)) (nM (P:=λ y=>PE X y _) (aL (aL h)) λ xs _ _ h=>aDh (sM T hb hn h))
 | lst nw j as =>
   refine gW (P:=λ st=>PS X st _) h λ ts y p h=>asg (aR h) (aR (aL h)) ?_
   have z:PE X y (eX X.K (iY (jZ tb as))):=tS (P:=λ y=>PE X y _) (aL (aL h)) λ xs _ h=>sZ (sM T hb hn h)
   cases nw
   ·exact nT z
   ·exact aDH z
 | app j a =>
   exact aAj (P:=λ st=>PS X st _) h λ x p h=>aCX (aC6 (P:=λ x=>PE X x _) (aL h) λ o ap y cp h4 h3 h2 h5 h6 =>
    PE.weak (aDk PySem.F.plainAttrs_list PySem.F.slot_list_append PySem.F.type_list_append wD (tO h2) (lD (tI T hb (hn a xAd) h5) lR (cU h6 _ _)) (oX h3 _ _) (by rw[lY h6];rfl) h4 (lY h6) rfl) aDG) (kD (aR h) _ _ _)
 | cat j as =>
   exact gW (P:=λ st=>PS X st _) h λ ts y p h=>asg (aR h) (aR (aL h)) (aAb (P:=λ y=>PE X y _) (aL (aL h)) λ x o z _ h=>by
    obtain rfl:=dT (aL (aL h));exact aC7 (tO (aR (aL h))) (nT (tS (P:=λ y=>PE X y _) (aR h) λ xs _ h=>sZ (sM T hb hn h))))
theorem aCV(T:XT X.K X.mg tb)(hb:X.mg "isinstance" = qz)(nd:X.N.Nodup)(hf:∀ x,X.fn x=true):∀ {as:List Hs}{l:List zy},(∀ a∈as,∀ b∈a.hxs,tR X.K X.mg b.nms)->zG X.N X.env.scope as l=true->bI X l (cA X.K (iO tb as))
 | [],l,_,h=>dI (P:=λ l=>bI X l _) h aCL
 | a::as,[],_,h=>no h
 | a::as,st::l,hn,h=>aDD (aKp T hb nd hf (hn a xAd) (aL h)) (aCV T hb nd hf (λ b m=>hn b (xAf _ m)) (aR h))
end
end EV
namespace EV
open PySem L2 PySem.Spec PyProof.Rows PySem.W
inductive Xx where
 | s (a:Sx) | skip | seq (a b:Xx) | ifs (c:E) (a b:Xx) | loop (t:Tg) (it:E) (b:Xx)
 | raise (c:Str) | raise1 (c:Str) (e:E) | cal (f:Nat) (es:E) | set (i f:Nat) (es:E) | pair (i:Nat) (k:Str) (f:Nat) (es:E)
 | tri (b:Xx) (hs:List (Str×Option Nat×List Hs)) | mks (j:Nat) (cs:List Str) (e:E) | hnd (o:Nat) (it b:E) (c d:Str)
abbrev eC:=Nat->Option (Nat×(List W->aB->Option (ResX×aB)))
noncomputable def iK(CX:eC)(f:Nat)(fs:FA):hB:=λ env S=>match CX f with
 | some (np,call)=>zH fs np call env S
 | none=>qz
noncomputable def qH(fe:FE):List Str->FA
 | []=>gH
 | c::cs=>dX (zZ c fe) (qH fe cs)
section
variable (C : Calls)(CX : eC)(tb : Str -> Str -> Option Bool)
noncomputable def xx:Xx->FX
 | .s a=>xP (xs C a)
 | .skip=>aDf
 | .seq a b=>aEi (xx a) (xx b)
 | .ifs c a b=>xIf (tv C c) (xx a) (xx b)
 | .loop t it b=>tQ t (lv C it) (xx b)
 | .raise c=>aCB c
 | .raise1 c e=>rY c (ev C e)
 | .cal f es=>lK (iK CX f (av C es))
 | .set i f es=>nU i (iK CX f (av C es))
 | .pair i k f es=>nU i (sS k (iK CX f (av C es)))
 | .tri b hs=>nJ tb (xx b) (hs.map λ h=>⟨h.1,h.2.1,iO tb h.2.2⟩)
 | .mks j cs e=>xP (dY j (dF (iY (qH (ev C e) cs))))
 | .hnd o it b c d=>xP (iR (lM (fO .Eq (dF (dW (.one o) (lv C it) jC (iN tb (cP o)))) (ev C b)) (iS tb (nR c) [d])))
end
noncomputable def uI(k:Option qw->Option qw->Pos->Bool)(x:zy):Bool:=if h:x.ctorIdx=16 then @Stmt.Raise.elim (λ _=>Bool) x h k else false
theorem aDR{P:zy->Prop}{k:Option qw->Option qw->Pos->Bool}{x:zy}(h:uI k x=true)(g:∀ a b c,k a b c=true->P (.Raise a b c)):P x:=@Stmt.Raise.elim (λ e=>uI k e=true->P e) x (dA h) g h
noncomputable def kTr(k:List zy->List ExceptHandler->List zy->List zy->Pos->Bool)(x:zy):Bool:=if h:x.ctorIdx=17 then @Stmt.Try.elim (λ _=>Bool) x h k else false
theorem aLo{P:zy->Prop}{k:List zy->List ExceptHandler->List zy->List zy->Pos->Bool}{x:zy}(h:kTr k x=true)(g:∀ a b c d e,k a b c d e=true->P (.Try a b c d e)):P x:=@Stmt.Try.elim (λ e=>kTr k e=true->P e) x (dA h) g h
structure Xz where
 xo:List Str
 xb:List Str
 rc:List Str
 ri:List (Str×Str×zy)
section
variable (T : Tx)(Z : Xz)(N : List Str)
noncomputable def aLR(sc:zv)(h:Str×Option Nat×List Hs):ExceptHandler->Bool
 | .ExceptHandler t nm body _=>Z.xo.contains h.1&&t.any (λ t=>qI sc h.1 t)&&(match nm,h.2.1 with
    | none,qz=>true
    | some n,qq i=>decide (N[i]? = qq n)&&decide (sc.names.lookup n=qq .local)
    | _,_=>false) && !body.isEmpty&&zG N sc h.2.2 body&&h.2.2.all λ a=>a.hxs.all λ b=>b.nms.all λ d=>Z.xo.contains d||Z.xb.contains d
noncomputable def zL(sc:zv):List (Str×Option Nat×List Hs)->List ExceptHandler->Bool
 | [],as=>as.isEmpty
 | h::hs,as=>(match as with
   | a::as=>aLR Z N sc h a&&zL sc hs as
   | []=>false)
noncomputable def tK(f:Nat)(es:E)(sc:zv)(x:qw):Bool:=gD (λ x xs=>decide ((T.fn[f]?).map (·.1)=qq x)&&gl sc x && !(x==("__debug__" : Str))&&jH T N es sc xs&&jK xs && !xs.isEmpty) x
noncomputable def zN(e:E)(sc:zv):List Str->List qw->Bool
 | [],xs=>xs.isEmpty
 | c::cs,xs=>(match xs with
   | x::xs=>gD (λ n ys=>eW (λ y=>bH T N e sc y&&bP y) ys&&decide (n=c)&&gl sc n && !(n==("__debug__" : Str))&&(Z.ri.map (·.1)).contains c) x&&bP x&&zN e sc cs xs
   | []=>false)
noncomputable def aDa(o:Nat)(it b:E)(sc:zv)(x:qw):Bool:=tY (λ l op r=>decide (op=.Eq)&&aAf N (.one o) .no sc (λ g y=>qZ T N it sc g y) (λ _ _=>false) (λ s y=>qS N s (.row o) y) l&&bH T N b sc r) x
noncomputable def aC9(c d:Str)(sc:zv)(x:qw):Bool:=(Z.xo.contains d||Z.xb.contains d)&&nZ "isinstance" sc (λ y=>gD (λ n xs=>xs.isEmpty&&decide (n=c)&&gl sc n && !(n==("__debug__" : Str))&&Z.rc.contains c) y) (λ z=>qI sc d z) x
mutual
noncomputable def okX:Xx->zv->zy->Bool
 | .s a,sc,st=>okS T N a sc st
 | .ifs c a b,sc,st=>uU (λ x y z _=>jE T N c sc x&&jA a sc y&&jA b sc z) st
 | .loop t it b,sc,st=>uW (λ tg x y z _=>z.isEmpty&&nL false N sc t tg&&qZ T N it sc tg x&&bP x&&jA b sc y) st
 | .raise c,sc,st=>uI (λ e ca _=>qL ca&&e.any λ e=>gD (λ n xs=>xs.isEmpty&&decide (n=c)&&gl sc n && !(n==("__debug__" : Str))&&Z.rc.contains c) e) st
 | .raise1 c e,sc,st=>uI (λ x ca _=>qL ca&&x.any λ x=>gD (λ n xs=>eW (λ y=>bH T N e sc y&&bP y) xs&&decide (n=c)&&gl sc n && !(n==("__debug__" : Str))&&(Z.ri.map (·.1)).contains c) x) st
 | .cal f es,sc,st=>rD (λ x _=>tK T N f es sc x&&dS x) st
 | .set i f es,sc,st=>fV (λ ts y _=>tK T N f es sc y&&dS y&&jV N sc i ts) st
 | .pair i k f es,sc,st=>fV (λ ts y _=>kT (λ xs _ _=>zV (λ u v=>jW (.str k) u&&tK T N f es sc v&&bP v) xs) y&&dS y&&jV N sc i ts) st
 | .tri b hs,sc,st=>kTr (λ bd hds oe fb _=>oe.isEmpty&&fb.isEmpty && !hs.isEmpty&&jA b sc bd&&zL Z N sc hs hds) st
 | .mks j cs e,sc,st=>fV (λ ts y _=>nW (λ xs _=>zN T Z N e sc cs xs) y&&dS y&&jV N sc j ts) st
 | .hnd o it b c d,sc,st=>uJ (λ v _=>v.any λ x=>nH .And (λ l r=>aDa T N o it b sc l&&aC9 Z c d sc r) x) st
 | _,_,_=>false
noncomputable def jA:Xx->zv->List zy->Bool
 | .skip,_,l=>l.isEmpty
 | .seq a b,sc,l=>(match l with
   | st::r=>okX a sc st&&jA b sc r
   | []=>false)
 | _,_,_=>false
end
end
structure XCtx(T:Tx)(Z:Xz)(C:Calls)(CX:eC)(tb:Str->Str->Option Bool)(X:Cx)(W:XW):Prop where
 ctx:Ctx T C X.nox
 fly:pN X W
 own:PassesOwn (model X.prog X.w) X.A X.env X.xe
 dfb:Dfb X
 fn:∀ x,X.fn x=true
 xt:XT X.K X.mg tb
 cal:∃ k,Room k X.A/\∀ f np call x,CX f=qq (np,call)->(T.fn[f]?).map (·.1)=qq x->∃ fa fd ps,X.mg x=qq (.ref fa)/\keepIn X.K (.ref fa)=true/\cS X.K fd ps []/\FnOk X.prog X.w X.K X.mg X.base (gO X.prog X.w) k fa fd ps (mF X.K np call)
 xo:∀ d∈Z.xo,∃ C,nsIn X.K qy d=qq (qq (.ref C))/\X.mg d=qq (.ref C)
 xb:∀ d∈Z.xb,∃ n,X.mg d=qz/\zk d=qq (.type n)/\d ≠ "__name__"
 rc:∀ c∈Z.rc,∃ C,nsIn X.K qy c=qq (qq (.ref C))/\X.mg c=qq (.ref C)/\excIn X.K C hV "ValueError.__new__" = true/\keepIn X.K (.ref C)=true
 rm:Room 2 X.A
 ri:∀ c∈Z.ri.map (·.1),∃ C fI fd n0 n1,nsIn X.K qy c=qq (qq (.ref C))/\X.mg c=qq (.ref C)/\XiOk X.K C fI/\FnOk X.prog X.w X.K X.mg X.base eA 1 fI fd [n0,n1] (nY C)/\cS X.K fd [n0,n1] []/\∃ oI,X.K.lookup fI=qq oI/\oI.cls=.type "function"
section
variable {T : Tx}{Z : Xz}{C : Calls}{CX : eC}{tb : Str -> Str -> Option Bool}
theorem XCtx.nms{X:Cx}{W:XW}(h:XCtx T Z C CX tb X W){d:Str}(hd:(Z.xo.contains d||Z.xb.contains d)=true):∃ v,dN X.K X.mg d v:=by
 rcases Bool.or_eq_true_iff.mp hd with z | z
 ·obtain⟨C,h1,h2⟩:=h.xo d (by simpa using z)
  exact⟨.ref C,.inl ⟨C,rfl,h1,h2⟩⟩
 ·obtain⟨n,h1,h2,h3⟩:=h.xb d (by simpa using z)
  exact⟨.ty n,.inr ⟨n,rfl,h1,h2,h3⟩⟩
theorem XCtx.tri{X:Cx}{W:XW}(h:XCtx T Z C CX tb X W)(aA:List (qv×Obj))(W':XW):XCtx T Z C CX tb ((cZ X aA).wish (gU (cZ X aA) W')) W' where
 ctx:=⟨h.ctx.nd,h.ctx.calm,rfl,h.ctx.kind,h.ctx.room,h.ctx.blt,h.ctx.tbs,h.ctx.cns⟩
 fly:=λ _ _ z=>z.unwish
 own:=aCn (X:=cZ X aA) ⟨h.dfb.stk,h.dfb.frm,h.dfb.ex⟩
 dfb:=⟨h.dfb.stk,h.dfb.frm,h.dfb.ex⟩
 fn:=h.fn
 xt:=h.xt
 cal:=h.cal
 xo:=h.xo
 xb:=h.xb
 rc:=h.rc
 rm:=h.rm
 ri:=h.ri
theorem PI.nox{X:Cx}{tg iter:qw}{wi:TI}(h:PI X.nox tg iter wi):PI X tg iter wi:=λ aA s σ H R I hw =>
 wpAny_mono (h aA s σ H R (I.wish _) hw) (λ v s1 h1=>wpAny_mono h1 (λ itv s2 hPr4=>by obtain⟨it,fp,tn,J,H',e,I',t,t0,hf,r⟩:=hPr4;exact⟨it,fp,tn,J,H',e,I'.unwish,t,t0,hf,r⟩) λ _ _ z=>z.elim) λ _ _ z=>z.elim
theorem wO{X:Cx}{W:XW}(hX:XCtx T Z C CX tb X W){f:Nat}{es:E}{x:qw}(h:tK T X.N f es X.env.scope x=true):PE X x (mG X.K W (iK CX f (av C es))):=by
 refine jO (P:=λ x=>PE X x _) h λ n p xs q h=>?_
 intro aA s σ H Q I t;obtain⟨F,L,S,env,res,S',R,E,e,r⟩:=id t;unfold iK at e;cases hc:CX f with
 | none=>rw[hc] at e;cases e
 | some v =>
   obtain⟨np,call⟩:=v;obtain⟨k,hr,hk⟩:=hX.cal;have h5:=aL (aL h);have h4:=aL h5;have h3:=aL h4;have h2:=aL h3;obtain⟨fa,fd,ps,m1,m2,m3,m4⟩:=hk f np call n hc (dT h2);cases xs with
   | nil=>exact no (aR h)
   | cons y ys =>
     have ha:PA X (y::ys) (dE X.K (av C es)):=PA.nox ((sn (T:=T) (C:=C) es).a X.nox hX.ctx _ (aR h5));have hp:=aR (aL h);obtain⟨p1,p2⟩:=bQ hp;rw[hc] at e;exact aGc m4 hr (dH (aR h3)) m1 m2 m3 hX.fly ha (cX (aR h4)) (cU p1 _ _) (oU p2 _ _) aA s σ H Q I (aHv σ H Q ⟨F,L,S,env,res,S',R,E,e,r⟩)
theorem aCU{X:Cx}{W:XW}(hX:XCtx T Z C CX tb X W)(aA:List (qv×Obj)):∀ {hs:List (Str×Option Nat×List Hs)}{as:List ExceptHandler},zL Z X.N X.env.scope hs as=true->HdsOk (cZ X aA) (hs.map λ h=>⟨h.1,h.2.1,iO tb h.2.2⟩) as
 | [],as,h=>dI (P:=λ as=>HdsOk (cZ X aA) [] as) h .nil
 | h::hs,[],e=>no e
 | h::hs,a::as,e=>by
   refine .cons ?_ (aCU hX aA (aR e));have e1:=aL e;cases a with
   | ExceptHandler t nm body pos =>
     have e2:=aL e1;have e3:=aL e2;have e4:=aL e3;have e5:=aL e4;have hnm:=aR e4;have hne:=aR e3;have hss:=aR e2;have hall:=aR e1;refine nC (P:=λ t=>tW (cZ X aA) _ (.ExceptHandler t nm body pos)) (aR e5) λ t ht=>eG (P:=λ t=>tW (cZ X aA) _ (.ExceptHandler (qq t) nm body pos)) ht λ d np hd=>?_
     obtain rfl:=dT (aL (aL hd));cases body with
     | nil=>exact no hne
     | cons b0 suite =>
       refine⟨rfl,dH (aR (aL hd)),cX (aR hd),hX.xo _ (by simpa using aL e5),?_,λ ev=>?_⟩
       ·cases nm with
        | none =>
          cases hsl:h.2.1 with
          | none=>dsimp only;rw[hsl];trivial
          | some i=>rw[hsl] at hnm;exact no hnm
        | some n =>
          cases hsl:h.2.1 with
          | none=>rw[hsl] at hnm;exact no hnm
          | some i=>rw[hsl] at hnm;dsimp only;rw[hsl];exact⟨dT (aL hnm),dT (aR hnm)⟩
       ·refine aCV (X:=mE (cZ X aA) ev) hX.xt (hX.ctx.blt _ (by decide)) hX.ctx.nd hX.fn (λ a ha b hb d hd'=>hX.nms ?_) hss
        exact List.all_eq_true.mp (List.all_eq_true.mp (List.all_eq_true.mp hall a ha) b hb) d hd'
theorem aCC{X:Cx}{W:XW}(hX:XCtx T Z C CX tb X W){e:E}:∀ {cs:List Str}{xs:List qw},zN T Z X.N e X.env.scope cs xs=true->PA X.nox xs (dE X.K (qH (ev C e) cs))
 | [],xs,h=>dI (P:=λ xs=>PA X.nox xs _) h lR
 | c::cs,[],h=>no h
 | c::cs,x::xs,h=>by
   refine lD ?_ (aCC hX (aR h)) (cU (aR (aL h)) _ _);refine jO (P:=λ x=>PE X.nox x _) (aL (aL h)) λ n np ys q h=>?_
   have h4:=aL h;have h3:=aL h4;have h2:=aL h3;obtain rfl:=dT (aR h2);obtain⟨C,fI,fd,n0,n1,c1,c2,c3,c4,c5,c6⟩:=hX.ri n (by simpa using aR h)
   exact eK (P:=λ ys=>PE X.nox (.Call (.Name n np) ys [] q) _) (aL h2) λ y hy=>aH3 (X:=X.nox) (dH (aR h3)) c2 c1 c3 hX.rm c4 c5 c6 (cX (aR h4)) ((sn e).e X.nox hX.ctx _ (aL hy)) (aR hy)
theorem aCZ{X:Cx}{W:XW}(hX:XCtx T Z C CX tb X W){o:Nat}{it b:E}{x:qw}(h:aDa T X.N o it b X.env.scope x=true):PE X.nox x (aK X.K (fO .Eq (dF (dW (.one o) (lv C it) jC (iN tb (cP o)))) (ev C b))):=by
 refine zM (P:=λ x=>PE X.nox x _) h λ l op r p h h4=>?_
 obtain rfl:=dT (aL (aL h));refine aC8 hX.ctx.units (nT ?_) ((sn b).e X.nox hX.ctx _ (aR h)) (xC h4 .Eq);refine zX (P:=λ l=>PE X.nox l _) (aR (aL h)) λ e tg iter ifs scope p h1 h2 h3 h4 h5 h6 h7=>?_
 have sok:=xF h1;refine yH (X:=X.nox) (g:=mD X.K (.one o)) hX.ctx.calm sok (λ i x a1 a2=>sO h2 i (gIm a1).1 x a1 a2) ((sn it).i X.nox hX.ctx tg iter h4) (λ Y hY=>?_) (nG X.K (.one o)) (λ Y hY=>?_) (λ Y hY=>?_) (oP h5 X.nox.env)
 ·obtain⟨c1,c2,c3,c4⟩:=hX.ctx.comp sok.kind hY;have z:=nI (X:=Y) (.inl rfl) c1.nd c1.calm (t:=.one o) (tg:=tg) (by rw[c2,c3];exact h3)
  rw[c4] at z;exact z
 ·cases ifs with
  | nil=>exact wG
  | cons y r=>exact no (aR h6)
 ·obtain⟨aA,fp,Ca,s₀,H₀,rfl⟩:=hY;exact tI (X:=gP X.nox aA fp scope Ca s₀ H₀) (a:=.row o) hX.xt (hX.ctx.blt _ (by decide)) (λ _ z=>absurd z (by simp[Hx.nms])) h7
theorem aCA{X:Cx}{W:XW}(hX:XCtx T Z C CX tb X W){c d:Str}{x:qw}(h:aC9 Z c d X.env.scope x=true):PE X.nox x (aK X.K (iS tb (nR c) [d])):=by
 obtain⟨v,nv⟩:=hX.nms (aL h);refine tV (P:=λ x=>PE X.nox x _) (aR h) λ p y z q hg hy py hz pz=>aCx hX.xt nv (hX.ctx.blt _ (by decide)) (dH hg) ?_ py (zJ (X:=X.nox) nv hz) pz
 refine jO (P:=λ y=>PE X.nox y _) hy λ n np ys q h=>?_
 have h4:=aL h;have h3:=aL h4;have h2:=aL h3;obtain rfl:=dT (aR h2);obtain⟨C,c1,c2,c3,c4⟩:=hX.rc n (by simpa using aR h)
 exact dI (P:=λ ys=>PE X.nox (.Call (.Name n np) ys [] q) _) (aL h2) (aHP (X:=X.nox) (dH (aR h3)) c2 c1 c3 c4 (cX (aR h4)))
def SX(T:Tx)(Z:Xz)(C:Calls)(CX:eC)(tb:Str->Str->Option Bool)(c:Xx):Prop:=∀ X W,XCtx T Z C CX tb X W->∀ st,okX T Z X.N c X.env.scope st=true->PS X st (tX X.K W (xx C CX tb c))
def SXs(T:Tx)(Z:Xz)(C:Calls)(CX:eC)(tb:Str->Str->Option Bool)(c:Xx):Prop:=∀ X W,XCtx T Z C CX tb X W->∀ st,jA T Z X.N c X.env.scope st=true->bI X st (tX X.K W (xx C CX tb c))
theorem sx(c:Xx):SX T Z C CX tb c/\SXs T Z C CX tb c:=by
 have N2:∀ {c:Xx},SX T Z C CX tb c->(∀ N sc st,jA T Z N c sc st=false)->SX T Z C CX tb c/\SXs T Z C CX tb c:=λ q hh=>⟨q,λ X W hX st h=>by rw[hh] at h;exact no h⟩
 have asg:∀ {X:Cx}{W:XW},XCtx T Z C CX tb X W->∀ {j:Nat}{ts:List qw}{y:qw}{p:Pos}{f:hB},jV X.N X.env.scope j ts=true->dS y=true->PE X y (mG X.K W f)->PS X (.Assign ts y p) (tX X.K W (nU j f)):=λ {X W} hX {j ts y p f} g hy he =>
  eK (P:=λ ts=>PS X (.Assign ts y p) _) g λ _ g=>eG (P:=λ t=>PS X (.Assign [t] y p) _) g λ x q g=>aKF hX.ctx.nd (dT (aL g)) (mU (aR g)) he (kD hy _ _ _) (.inl (hX.fn _))
 induction c with
 | s a=>exact N2 (λ X W hX st h=>x_s ((ss a).1 X.nox hX.ctx hX.fn st h)) λ _ _ _=>rfl
 | skip=>exact⟨λ X W hX st h=>no h,λ X W hX st h=>dI (P:=λ st=>bI X st _) h aKG⟩
 | seq a b aU bN=>exact⟨λ X W hX st h=>no h,λ X W hX st h=>by
    cases st with
    | nil=>exact no h
    | cons s r=>exact aJ5 (aU.1 X W hX _ (aL h)) (bN.2 X W hX _ (aR h))⟩
 | ifs c a b aU bN=>exact N2 (λ X W hX st h=>aEa (P:=λ st=>PS X st _) h λ x y z p h=>aLY ((sn c).t X.nox hX.ctx _ (aL (aL h))).1 (aU.2 X W hX _ (aR (aL h))) (bN.2 X W hX _ (aR h))) λ _ _ _=>rfl
 | loop t it b bN=>exact N2 (λ X W hX st h=>aDN (P:=λ st=>PS X st _) h λ tg x y z p h=>dI (P:=λ z=>PS X (.For tg x y z p) _) (aL (aL (aL (aL h))))
    (aJ6 hX.own hX.ctx.calm (PI.nox ((sn it).i X.nox hX.ctx _ _ (aR (aL (aL h))))) (nI (X:=X) (.inr hX.fn) hX.ctx.nd hX.ctx.calm (aR (aL (aL (aL h))))) (nG X.K t) (bN.2 X W hX _ (aR h)) (oP (aR (aL h)) X.env))) λ _ _ _=>rfl
 | raise c=>exact N2 (λ X W hX st h=>aDR (P:=λ st=>PS X st _) h λ e ca p h=>sY (P:=λ ca=>PS X (.Raise e ca p) _) (aL h) (nC (P:=λ e=>PS X (.Raise e qz p) _) (aR h) λ e h=>jO (P:=λ e=>PS X (.Raise (qq e) qz p) _) h λ n np xs q h=>by
    have h4:=aL h;have h3:=aL h4;have h2:=aL h3;obtain rfl:=dT (aR h2);obtain⟨C,c1,c2,c3,_⟩:=hX.rc n (by simpa using aR h)
    exact dI (P:=λ xs=>PS X (.Raise (qq (.Call (.Name n np) xs [] q)) qz p) _) (aL h2) (aGg hX.fly hX.ctx.calm (dH (aR h3)) c2 c1 c3 (cX (aR h4))))) λ _ _ _=>rfl
 | raise1 c e=>exact N2 (λ X W hX st h=>aDR (P:=λ st=>PS X st _) h λ x ca p h=>sY (P:=λ ca=>PS X (.Raise x ca p) _) (aL h) (nC (P:=λ x=>PS X (.Raise x qz p) _) (aR h) λ x h=>jO (P:=λ x=>PS X (.Raise (qq x) qz p) _) h λ n np xs q h=>by
    have h4:=aL h;have h3:=aL h4;have h2:=aL h3;obtain rfl:=dT (aR h2);obtain⟨C,fI,fd,n0,n1,c1,c2,c3,c4,c5,c6⟩:=hX.ri n (by simpa using aR h)
    exact eK (P:=λ xs=>PS X (.Raise (qq (.Call (.Name n np) xs [] q)) qz p) _) (aL h2) λ y hy=>aGs hX.fly hX.ctx.calm (dH (aR h3)) c2 c1 c3 hX.rm c4 c5 c6 (cX (aR h4)) (PE.nox ((sn e).e X.nox hX.ctx _ (aL hy))) (aR hy))) λ _ _ _=>rfl
 | cal f es=>exact N2 (λ X W hX st h=>aAj (P:=λ st=>PS X st _) h λ x p h=>aIi (wO hX (aL h)) (kD (aR h) _ _ _)) λ _ _ _=>rfl
 | set i f es=>exact N2 (λ X W hX st h=>gW (P:=λ st=>PS X st _) h λ ts y p h=>asg hX (aR h) (aR (aL h)) (wO hX (aL (aL h)))) λ _ _ _=>rfl
 | pair i k f es=>exact N2 (λ X W hX st h=>gW (P:=λ st=>PS X st _) h λ ts y p h=>asg hX (aR h) (aR (aL h)) (nM (P:=λ y=>PE X y _) (aL (aL h)) λ xs kk q h=>aC5 (P:=λ xs=>PE X (.Tuple xs kk q) _) h λ u v h=>lN (P:=λ u=>PE X (.Tuple [u,v] kk q) _) (aL (aL h)) λ j p1=>aIo (wO hX (aR (aL h))) (aR h))) λ _ _ _=>rfl
 | mks j cs e=>exact N2 (λ X W hX st h=>x_s (gW (P:=λ st=>PS X.nox st _) h λ ts y p h=>eK (P:=λ ts=>PS X.nox (.Assign ts y p) _) (aR h) λ _ g=>eG (P:=λ t=>PS X.nox (.Assign [t] y p) _) g λ x q g=>tH (X:=X.nox) hX.ctx.nd (dT (aL g)) (mU (aR g)) (nT (tS (P:=λ y=>PE X.nox y _) (aL (aL h)) λ xs _ h=>sZ (aCC hX h))) (kD (aR (aL h)) _ _ _) (.inl (hX.fn _)))) λ _ _ _=>rfl
 | hnd o it b c d=>exact N2 (λ X W hX st h=>x_s (aDL (P:=λ st=>PS X.nox st _) h λ _ p h=>nC (P:=λ v=>PS X.nox (.Return v p) _) h λ x h=>aDz (pE (P:=λ x=>PE X.nox x _) h (λ l r p h=>PE.weak (sN (aCZ hX (aL h)) (yB (aCA hX (aR h)))) sL) λ l b c r p h=>PE.weak (sN (aCZ hX (aL h)) (aCA hX (aR h))) sL))) λ _ _ _=>rfl
 | tri b hs bN=>exact N2 (λ X W hX st h=>aLo (P:=λ st=>PS X st _) h λ bd hds oe fb p h=>by
    have h4:=aL h;have h3:=aL h4;have h2:=aL h3;refine dI (P:=λ oe=>PS X (.Try bd hds oe fb p) _) (aL h2) (dI (P:=λ fb=>PS X (.Try bd hds [] fb p) _) (aR h2) ?_)
    have hh:=λ aA=>aCU hX aA (aR h)
    cases hds with
    | nil =>
      cases hs with
      | nil=>exact no (aR h3)
      | cons a b=>exact no (aR h)
    | cons h0 as=>exact aKW hX.xt.exm hX.ctx.nd hX.fn hX.dfb (λ aA W'=>bN.2 _ W' (hX.tri aA W') _ (aR h4)) hh) λ _ _ _=>rfl
end
end EV
namespace EV
open PySem L2 PySem.Spec PyProof.Rows PySem.W
structure FnX where
 name:Str
 np:Nat
 N:List Str
 body:Sx ⊕ Xx
 st:zy
noncomputable def FnX.fn(G:FnX):Fn:={name:=G.name,np:=G.np,N:=G.N,body:=.skip,st:=G.st }
noncomputable def eV(C:Calls)(CX:eC)(tb:Str->Str->Option Bool)(G:FnX):List W->aB->Option (W×aB):=match G.body with
 | .inl b=>cB (xs C b) G.N.length
 | .inr x=>kK (dJ (xx C CX tb x) G.N.length)
section
variable (fs : List Fn)(gs : List FnX)(tb : Str -> Str -> Option Bool)
noncomputable def aJW(d:Nat)(C:Calls)(CX:eC):Calls:=λ f=>if f<fs.length then aG fs (d+1) f else (gs[f-fs.length]?).map λ G=>(G.np,eV C CX tb G)
noncomputable def aJF(C:Calls)(CX:eC):eC:=λ f=>if f<fs.length then qz else (gs[f-fs.length]?).bind λ G=>match G.body with
 | .inl _=>qz
 | .inr x=>qq (G.np,dJ (xx C CX tb x) G.N.length)
noncomputable def aE:Nat->Calls×eC
 | 0=>(λ _=>qz,λ _=>qz)
 | d+1=>(aJW fs gs tb d (aE d).1 (aE d).2,aJF fs gs tb (aE d).1 (aE d).2)
noncomputable def iZ(t:Tbs):Tx:=⟨(fs.map λ F=>(F.name,F.np))++gs.map λ G=>(G.name,G.np),t.tb,t.cn⟩
noncomputable def tG(t:Tbs)(Z:Xz)(G:FnX):Bool:=
 decide ((bD G.st).kind=.function) && !(bD G.st).isCoroutine && !(bD G.st).isGenerator&&sF G.N&&decide (G.np<=G.N.length)&&(G.N.take G.np).all (loc (bD G.st))&&(bD G.st).names.all (λ y=>!decide (y.2=.free)) &&
  (match G.body with
    | .inl b=>iV (iZ fs gs t) G.N b (bD G.st) (cY G.st)
    | .inr x=>jA (iZ fs gs t) Z G.N x (bD G.st) (cY G.st))
end
theorem aBg{fs:List Fn}{gs:List FnX}{t:Tbs}{Z:Xz}{G:FnX}(h:tG fs gs t Z G=true):FnScope G.N (G.N.take G.np) (bD G.st)/\(match G.body with
 | .inl b=>iV (iZ fs gs t) G.N b (bD G.st) (cY G.st)
 | .inr x=>jA (iZ fs gs t) Z G.N x (bD G.st) (cY G.st))=true/\(G.N.take G.np).length=G.np:=by
 obtain⟨h,h8⟩:=bQ h;obtain⟨h,h7⟩:=bQ h;obtain⟨h,h6⟩:=bQ h;obtain⟨h,h5⟩:=bQ h;obtain⟨h,h4⟩:=bQ h;obtain⟨h,h3⟩:=bQ h;obtain⟨h1,h2⟩:=bQ h;have hl:(G.N.take G.np).length=G.np:=by
  rw[yBe];have:=oqT h5;omega
 refine⟨⟨oqT h1,qJ h2,qJ h3,wX h4,by rw[hl],λ x hx=>pF (List.all_eq_true.mp h6 x hx),λ y hy=>?_⟩,h8,hl⟩
 have:=List.all_eq_true.mp h7 y hy;intro z;rw[dqT z] at this;exact no this
structure XK0(K:FrG)(mg:Str->Option qx)(Z:Xz)(tb:Str->Str->Option Bool):Prop where
 xt:XT K mg tb
 xo:∀ d∈Z.xo,∃ C,nsIn K qy d=qq (qq (.ref C))/\mg d=qq (.ref C)
 xb:∀ d∈Z.xb,∃ n,mg d=qz/\zk d=qq (.type n)/\d ≠ "__name__"
 rc:∀ c∈Z.rc,∃ C,nsIn K qy c=qq (qq (.ref C))/\mg c=qq (.ref C)/\excIn K C hV "ValueError.__new__" = true/\keepIn K (.ref C)=true
 ri:∀ z∈Z.ri,∃ C fI fd,nsIn K qy z.1=qq (qq (.ref C))/\mg z.1=qq (.ref C)/\XiOk K C fI/\Fun K "__init__" z.2.1 z.2.2 fI fd/\zE z.2.2 "self" "row" = true/\cS K fd ["self", "row"] []/\∃ oI,K.lookup fI=qq oI/\oI.cls=.type "function"
section
variable {P : qo}{w : zq}{K : FrG}{mg : Str -> Option qx}{base : Heap}{fs : List Fn}{gs : List FnX}{tb : Str -> Str -> Option Bool}{t : Tbs}{Z : Xz}
theorem aBw{f:Nat}{x:Str}(h:((iZ fs gs t).fn[f]?).map (·.1)=qq x):(∃ F,f<fs.length/\fs[f]? = qq F/\F.name=x)\/(∃ G,¬ f<fs.length/\gs[f-fs.length]? = qq G/\G.name=x):=by
 unfold iZ at h;dsimp only at h
 by_cases hf:f<fs.length
 ·rw[xAj (by simpa using hf),xAb] at h
  cases q:fs[f]? with
  | none=>rw[q] at h;cases h
  | some F=>rw[q] at h;exact .inl ⟨F,hf,rfl,Option.some.inj h⟩
 ·rw[yAe (by simpa using hf),xAb,yAg] at h
  cases q:gs[f-fs.length]? with
  | none=>rw[q] at h;cases h
  | some G=>rw[q] at h;exact .inr ⟨G,hf,rfl,Option.some.inj h⟩
theorem aBB(hk:∀ F∈fs,qX fs t F=true)(gk:∀ G∈gs,tG fs gs t Z G=true)(top:∀ F∈fs,∃ fa fd,Fun K F.name F.name F.st fa fd/\mg F.name=qq (.ref fa)/\cS K fd (F.N.take F.np) [])(topX:∀ G∈gs,∃ fa fd,Fun K G.name G.name G.st fa fd/\mg G.name=qq (.ref fa)/\cS K fd (G.N.take G.np) [])
 (hb:∀ x∈bltNames,mg x=qz) (ht:∀ x aN,(x,aN)∈t.tb->∃ a,mg x=qq (.ref a)/\mZ K w a aN) (hcn:∀ x ts,(x,ts)∈t.cn->∃ a,mg x=qq (.ref a)/\lJ K a ts) (X0:XK0 K mg Z tb) :
 ∀ d,(∀ f np call x,(aE fs gs tb d).1 f=qq (np,call)->((iZ fs gs t).fn[f]?).map (·.1)=qq x->∃ fa fd ps,mg x=qq (.ref fa)/\keepIn K (.ref fa)=true/\cS K fd ps []/\FnOk P w K mg base eA (d+2) fa fd ps (gX K np call)) /\
  (∀ f np call x,(aE fs gs tb d).2 f=qq (np,call)->((iZ fs gs t).fn[f]?).map (·.1)=qq x->∃ fa fd ps,mg x=qq (.ref fa)/\keepIn K (.ref fa)=true/\cS K fd ps []/\FnOk P w K mg base (gO P w) (d+2) fa fd ps (mF K np call)) /\
  (∀ g G np call fa fd,gs[g]? = qq G->(aE fs gs tb d).1 (fs.length+g)=qq (np,call)->Fun K G.name G.name G.st fa fd->FnOk P w K mg base eA (d+2) fa fd (G.N.take G.np) (gX K np call))
 | 0=>⟨λ f np call x e=>(by cases e),λ f np call x e=>(by cases e),λ g G np call fa fd _ e=>(by cases e)⟩
 | d+1=>by
   obtain⟨ih1,ih2,_⟩:=aBB hk gk top topX hb ht hcn X0 d;have raising:∀ (G:FnX) (x:Xx),G∈gs->G.body=.inr x->∀ fa fd,Fun K G.name G.name G.st fa fd->FnOk P w K mg base (gO P w) (d+1+2) fa fd (G.N.take G.np) (mF K G.np (dJ (xx (aE fs gs tb d).1 (aE fs gs tb d).2 tb x) G.N.length)):=λ G x hG hbd fa fd Fu=>by
    obtain⟨sc,hok,hl⟩:=aBg (gk G hG);rw[hbd] at hok;refine Fun.okX Fu sc (λ vs H Q E h=>?_) λ X A vs H Q E e1 e2 e3 e4 e5 e6 e7 e8 e9 D hr h=>?_
    ·obtain⟨F1,L,S,ws,w1,S',hn,R,dl,_⟩:=h;rw[hl,<- hn];exact dl.length.symm
    ·subst e1 e2 e3 e4 e5;refine⟨_,(sx (T:=iZ fs gs t) (Z:=Z) (C:=(aE fs gs tb d).1) (CX:=(aE fs gs tb d).2) (tb:=tb) x).2 (X.wish (gU X λ _=>E)) (λ _=>E) ?_ _ (by show jA _ _ X.N x X.env.scope _=true;rw[e6,e7];exact hok),aHo h⟩
     have hri:∀ c∈Z.ri.map (·.1),∃ C fI fd n0 n1,nsIn X.K qy c=qq (qq (.ref C))/\X.mg c=qq (.ref C)/\XiOk X.K C fI/\FnOk X.prog X.w X.K X.mg X.base eA 1 fI fd [n0,n1] (nY C)/\cS X.K fd [n0,n1] []/\∃ oI,X.K.lookup fI=qq oI/\oI.cls=.type "function":=λ c hc=>by
      obtain⟨z,hz,rfl⟩:=List.mem_map.mp hc;obtain⟨C,fI,fd,r1,r2,r3,r4,r5,r6,r7⟩:=X0.ri z hz;exact⟨C,fI,fd, "self", "row",r1,r2,r3,aIO r4 r5 r3,r6,r7⟩
     exact {ctx:=⟨by show X.N.Nodup;rw[e6];exact sc.nd,e8,rfl,by show X.env.scope.kind=_;rw[e7];exact sc.kind,⟨d+2,hr,ih1⟩,hb,ht,hcn⟩,fly:=λ _ _ z=>z.unwish,own:=aCn (X:=X) D,dfb:=D.wish _,fn:=e9,xt:=X0.xt,cal:=⟨d+2,hr,ih2⟩,xo:=X0.xo,xb:=X0.xb,rc:=X0.rc,rm:=hr.mono (by omega),ri:=hri }
   have each:∀ G∈gs,∀ fa fd,Fun K G.name G.name G.st fa fd->FnOk P w K mg base eA (d+1+2) fa fd (G.N.take G.np) (gX K G.np (eV (aE fs gs tb d).1 (aE fs gs tb d).2 tb G)):=λ G hGm fa fd Fu=>by
    unfold eV;cases hbd:G.body with
    | inr x=>exact aGl (raising G x hGm hbd fa fd Fu)
    | inl b =>
      dsimp only;obtain⟨sc,hok,hl⟩:=aBg (gk G hGm);rw[hbd] at hok;refine Fu.ok sc (λ vs H Q E h=>?_) λ cdv A outer s H vs Q E hr h=>?_
      ·obtain⟨F1,L,S,ws,w1,S',hn,R,dl,_⟩:=h;rw[hl,<- hn];exact dl.length.symm
      ·exact⟨_,(ss (T:=iZ fs gs t) (C:=(aE fs gs tb d).1) b).2 _ ⟨sc.nd,rfl,rfl,sc.kind,⟨d+2,hr,λ f' np' call' x' e1 e2=>ih1 f' np' call' x' e1 e2⟩,hb,λ x aN hx=>ht x aN hx,λ x ts hx=>hcn x ts hx⟩ (λ _=>rfl) _ hok,aC2 h⟩
   refine⟨λ f np call x e q=>?_,λ f np call x e q=>?_,λ g G np call fa fd hG e Fu=>?_⟩
   ·rcases aBw q with ⟨F,hf,hF,rfl⟩ | ⟨G,hf,hG,rfl⟩
    ·have e':aG fs (d+1) f=qq (np,call):=by
      have:(aE fs gs tb (d+1)).1 f=aG fs (d+1) f:=if_pos hf;rw[<- this];exact e
     obtain⟨fa,fd,Fu,hm,hbi⟩:=top F (xAi hF);exact⟨fa,fd,_,hm,Fu.kp,hbi,(aCa fs t hk top hb ht hcn (d+1) f F np call fa fd hF e' Fu).mono (Nat.le_add_right _ _)⟩
    ·have e':(gs[f-fs.length]?).map (λ G=>(G.np,eV (aE fs gs tb d).1 (aE fs gs tb d).2 tb G))=qq (np,call):=by
      have:(aE fs gs tb (d+1)).1 f=(gs[f-fs.length]?).map λ G=>(G.np,eV (aE fs gs tb d).1 (aE fs gs tb d).2 tb G):=if_neg hf
      rw[<- this];exact e
     rw[hG] at e';cases e';have hGm:G∈gs:=xAi hG;obtain⟨fa,fd,Fu,hm,hbi⟩:=topX G hGm;exact⟨fa,fd,_,hm,Fu.kp,hbi,each G hGm fa fd Fu⟩
   ·rcases aBw q with ⟨F,hf,hF,rfl⟩ | ⟨G,hf,hG,rfl⟩
    ·have e':(qz:Option (Nat×(List EV.W->aB->Option (ResX×aB))))=qq (np,call):=by
      have:(aE fs gs tb (d+1)).2 f=qz:=if_pos hf;rw[<- this];exact e
     cases e'
    ·have e':((gs[f-fs.length]?).bind λ G=>match G.body with | .inl _=>qz | .inr x=>qq (G.np,dJ (xx (aE fs gs tb d).1 (aE fs gs tb d).2 tb x) G.N.length))=qq (np,call):=by
      have:(aE fs gs tb (d+1)).2 f=(gs[f-fs.length]?).bind λ G=>match G.body with | .inl _=>qz | .inr x=>qq (G.np,dJ (xx (aE fs gs tb d).1 (aE fs gs tb d).2 tb x) G.N.length):=if_neg hf
      rw[<- this];exact e
     rw[hG] at e';have hGm:G∈gs:=xAi hG;obtain⟨fa,fd,Fu,hm,hbi⟩:=topX G hGm;cases hbd:G.body with
     | inl b=>rw[yBa,hbd] at e';cases e'
     | inr x =>
       rw[yBa,hbd] at e';cases e';exact⟨fa,fd,_,hm,Fu.kp,hbi,raising G x hGm hbd fa fd Fu⟩
   ·have e':(gs[g]?).map (λ G=>(G.np,eV (aE fs gs tb d).1 (aE fs gs tb d).2 tb G))=qq (np,call):=by
     have:(aE fs gs tb (d+1)).1 (fs.length+g)=(gs[fs.length+g-fs.length]?).map λ G=>(G.np,eV (aE fs gs tb d).1 (aE fs gs tb d).2 tb G):=if_neg (by omega)
     rw[yCh] at this;rw[<- this];exact e
    rw[hG] at e';cases e';exact each G (xAi hG) fa fd Fu
end
noncomputable def lV(l:List (Str×Str×Bool))(c d:Str):Option Bool:=(l.find? λ e=>e.1==c&&e.2.1==d).map (·.2.2)
structure EntTop(K:FrG)(e:Str×Str×Bool):Prop where
 ex:∃ C,nsIn K qy e.1=qq (qq (.ref C))/\XcOk K C/\((∃ C',nsIn K qy e.2.1=qq (qq (.ref C'))/\exmOne K (.ref C) (.ref C')=qq e.2.2/\kitOne K (.ref C) (.ref C')=qq e.2.2) \/
  ∃ n,nsIn K qy e.2.1=qq qz/\zk e.2.1=qq (.type n)/\e.2.1 ≠ "__name__" /\ kitOne K (.ref C) (.type n)=qq e.2.2)
theorem yR{l:List (Str×Str×Bool)}{c d:Str}{b:Bool}(h:lV l c d=qq b):(c,d,b)∈l:=by
 unfold lV at h;obtain⟨e,h1,h2⟩:=Option.map_eq_some_iff.mp h;have h3:=List.find?_some h1;have h4:=List.mem_of_find?_eq_some h1;obtain⟨c',d',b'⟩:=e;obtain⟨q1,q2⟩:=bQ h3;have q1:c'=c:=by simpa using q1
 have q2:d'=d:=by simpa using q2
 have h2:b'=b:=h2;subst q1 q2 h2;exact h4
theorem aJ0{K:FrG}{mg:Str->Option qx}{l:List (Str×Str×Bool)}(hm:∀ x v,nsIn K qy x=qq (qq v)->mg x=qq v)(hn:∀ x,nsIn K qy x=qq qz->mg x=qz)(h:∀ e∈l,EntTop K e):XT K mg (lV l) where
 exm:=λ c d b C C' hb hc hd=>by
  obtain⟨C1,h1,_,h3⟩:=(h _ (yR hb)).ex;have h1:nsIn K qy c=qq (qq (.ref C1)):=h1;rw[hc] at h1;cases h1;rcases h3 with ⟨C2,q1,q2,_⟩ | ⟨n,q1,_⟩
  ·have q1:nsIn K qy d=qq (qq (.ref C2)):=q1;rw[hd] at q1;cases q1;exact q2
  ·have q1:nsIn K qy d=qq qz:=q1;rw[hd] at q1;cases q1
 cls:=λ c d b C hb hc=>by
  obtain⟨C1,h1,h2,_⟩:=(h _ (yR hb)).ex;have h1:nsIn K qy c=qq (qq (.ref C1)):=h1;rw[hc] at h1;cases h1;exact h2
 nm:=λ c d b hb=>by
  obtain⟨C1,h1,_,h3⟩:=(h _ (yR hb)).ex;have h1:nsIn K qy c=qq (qq (.ref C1)):=h1;rcases h3 with ⟨C2,q1,_,q3⟩ | ⟨n,q1,q2,q3,q4⟩
  ·exact⟨.ref C2,.inl ⟨C2,rfl,q1,hm _ _ q1⟩,λ C hc=>by rw[hc] at h1;cases h1;exact q3⟩
  ·exact⟨.ty n,.inr ⟨n,rfl,hn _ q1,q2,q3⟩,λ C hc=>by rw[hc] at h1;cases h1;exact q4⟩
structure RcTop(K:FrG)(c:Str):Prop where
 ex:∃ C,nsIn K qy c=qq (qq (.ref C))/\excIn K C hV "ValueError.__new__" = true/\keepIn K (.ref C)=true
structure RiTop(K:FrG)(z:Str×Str×zy):Prop where
 ex:∃ (C fI:qv) (oc:qx) (od an:Option qv) (sl:Array (Option qx)) (kV dc pm cd ct:qx),nsIn K qy z.1=qq (qq (.ref C))/\XiOk K C fI/\K.lookup fI=qq ⟨oc,od,.func (fnOf "__init__" z.2.1 (fH z.2.2) (cY z.2.2) (bD z.2.2) .none kV dc pm an cd ct),sl⟩ /\
  codeIn K cd z.2.1=true/\keepIn K (.ref fI)=true
noncomputable def yT(st:zy):Bool:=match fH st with
 | ⟨[],as,qz,[],_,qz,_⟩=>decide ((["self", "row"]:List Str)=as.map (·.arg))
 | _=>false
theorem aFC{x bA:Str}{st:zy}(h:yT st=true)(kV doc pm:qx)(an:Option qv)(cdv ct:qx)(us:List qx)(hu:us.length=(["self", "row"]:List Str).length):bindArgs (fnOf x bA (fH st) (cY st) (bD st) .none kV doc pm an cdv ct) ⟨us,[]⟩=pure ((["self", "row"]:List Str).zip us):=by
 unfold yT at h
 split at h
 ·rename_i as kd df e;have h1:=oqT h;rw[e];rw[h1] at hu ⊢;obtain⟨i1,i2⟩:=wV (ns:=as.map (·.arg)) (us:=us) (by rw[<- h1];decide) hu
  have m:((as.map (·.arg)).take (as.map (·.arg)).length).filter (λ n=>(((as.map (·.arg)).zip us).lookup n).isNone)=[]:=by
   rw[yAk,List.filter_eq_nil_iff];intro n hn;rw[i1 n hn];decide
  unfold bindArgs;have q:seqItems? Value.none=(pure qz:Sem (Option (Array qx))):=rfl;simp only[yBl,q,pure_bind,yCf,yDe,yAv,List.forIn_nil,yDo,yCc,List.drop_nil,List.zip_nil_right,yEp,hu,gt_iff_lt,yBb,decide_false,yEa,yAx,if_false,m,List.isEmpty_nil,Bool.not_true,i2,Option.isNone_none]
 ·exact no h
structure XoTop(K:FrG)(c:Str):Prop where
 ex:∃ C,nsIn K qy c=qq (qq (.ref C))
structure XbTop(K:FrG)(d:Str):Prop where
 ex:∃ n,nsIn K qy d=qq qz/\zk d=qq (.type n)/\d ≠ "__name__"
theorem law_ofX{l:yEl}{q:qo}{loose:List Str}{XP:(Str->Option qx)->Heap->Prop}{YP:zq->Heap->Prop}{d:DefRec}{K:Params->FrG}(fs:List Fn)(gs:List FnX)(tb:Tbs)(Z:Xz)(xl:List (Str×Str×Bool))(f D:Nat)(L:FnX)(x:Str)
 (hn:l.most=qq 63) (hdf:d.params.defaults=[]) (hr:Room (D+2) callerA) (hY:∀ (w:zq) (h:Heap),YP w h->(K w.params).In h)
 (hk:∀ F∈fs,qX fs tb F=true) (gk:∀ G∈gs,tG fs gs tb Z G=true) (hb:∀ F∈fs,mP F) (gb:∀ G∈gs,mP G.fn) (hL:gs[f]? = qq L) (hname:L.name=d.name) (hps:L.N.take L.np=[x])
 (top:∀ w:zq,∀ h:Heap,(K w.params).In h->∀ F∈fs,TopFn (K w.params) F) (topX:∀ w:zq,∀ h:Heap,(K w.params).In h->∀ G∈gs,TopFn (K w.params) G.fn) (tbl:∀ w:zq,∀ h:Heap,(K w.params).In h->∀ t∈tb.tb,TabTop (K w.params) w t) (cnl:∀ w:zq,∀ h:Heap,(K w.params).In h->∀ t∈tb.cn,ConTop (K w.params) t) (tbn:∀ w:zq,∀ h:Heap,(K w.params).In h->∀ x∈bltNames,yBw (K w.params) qy x=qq qz)
 (rit:∀ w:zq,∀ h:Heap,(K w.params).In h->∀ z∈Z.ri,RiTop (K w.params) z) (rik:∀ z∈Z.ri,zE z.2.2 "self" "row" = true/\yT z.2.2=true) (ent:∀ w:zq,∀ h:Heap,(K w.params).In h->∀ e∈xl,EntTop (K w.params) e) (rct:∀ w:zq,∀ h:Heap,(K w.params).In h->∀ c∈Z.rc,RcTop (K w.params) c) (xot:∀ w:zq,∀ h:Heap,(K w.params).In h->∀ c∈Z.xo,XoTop (K w.params) c) (xbt:∀ w:zq,∀ h:Heap,(K w.params).In h->∀ c∈Z.xb,XbTop (K w.params) c)
 (main:∀ ns:List Int,ns.length<=63->(∀ i∈ns,yAf i<=1048576)->∃ call S',(aE fs gs (lV xl) D).1 (fs.length+f)=qq (1,call)/\call [.d (.list (ns.map yAh))] []=qq (.d (.bool true),S')) :
 PySem.W.WalkO q loose XP YP l.row.toRowW d [] (λ f vs=>PySem.call f vs):=by
 obtain⟨call,S0,hcall,_⟩:=main [] (by simp) (by simp)
 refine aHd hn hdf λ w s₀ s₁ mg mb fa a vs ns G Y hmg hobj hints bS hsm hg=>?_
 have KX:=hY w _ Y;have tops:∀ F:Fn,mP F->TopFn (K w.params) F->∃ fa fd,Fun (K w.params) F.name F.name F.st fa fd/\mg F.name=qq (.ref fa)/\cS (K w.params) fd (F.N.take F.np) []:=λ F hF hT=>by
  obtain⟨f,oc,od,an,sl,kV,dc,pm,cd,ct,a,l,c,k⟩:=hT.ex;have Fu:=aC3 (st:=F.st) l c k;exact⟨f,_,Fu,yEf KX G.T.g a,Fu.binds hF⟩
 have hmv:∀ x v,nsIn (K w.params) qy x=qq (qq v)->mg x=qq v:=λ x v e=>yEf KX G.T.g e
 have hmn:∀ x,nsIn (K w.params) qy x=qq qz->mg x=qz:=λ x e=>PySem.W.mg_none_of KX G.T.g e
 have hblt:∀ x∈bltNames,mg x=qz:=λ y hy=>hmn y (tbn w _ KX y hy)
 have htab:∀ x aN,(x,aN)∈tb.tb->∃ a,mg x=qq (.ref a)/\mZ (K w.params) w a aN:=λ x aN hx=>by
  obtain⟨a,es,ep,a1,l1,c1⟩:=(tbl w _ KX (x,aN) hx).ex;exact⟨a,yEf KX G.T.g a1,es,ep,l1,c1⟩
 have hcon:∀ x ts,(x,ts)∈tb.cn->∃ a,mg x=qq (.ref a)/\lJ (K w.params) a ts:=λ x ts hx=>by
  obtain⟨a,a1,c1⟩:=(cnl w _ KX (x,ts) hx).ex;exact⟨a,yEf KX G.T.g a1,c1⟩
 have X0:XK0 (K w.params) mg Z (lV xl):=⟨aJ0 hmv hmn (ent w _ KX),λ d hd=>by
  obtain⟨C,h⟩:=(xot w _ KX d hd).ex;exact⟨C,h,hmv _ _ h⟩,λ d hd=>by
  obtain⟨n,h1,h2,h3⟩:=(xbt w _ KX d hd).ex;exact⟨n,hmn _ h1,h2,h3⟩,λ c hc=>by
  obtain⟨C,h1,h2⟩:=(rct w _ KX c hc).ex;exact⟨C,h1,hmv _ _ h1,h2⟩,λ z hz=>by
  obtain⟨C,fI,oc,od,an,sl,kV,dc,pm,cd,ct,a1,a2,a3,a4,a5⟩:=(rit w _ KX z hz).ex;have Fu:Fun (K w.params) "__init__" z.2.1 z.2.2 fI _:=aC3 (st:=z.2.2) a3 a4 a5;refine⟨C,fI,_,a1,hmv _ _ a1,a2,Fu,(rik z hz).1,Fu.binds λ kV doc pm an cdv ct us hu=>aFC (rik z hz).2 kV doc pm an cdv ct us hu,_,a3,?_⟩
  have q:=a2.fn;unfold isFn at q;have q:=beq_iff_eq.mp q;unfold typeIn at q;simp only[a3] at q;exact Option.some.inj q⟩
 have hLm:L∈gs:=xAi hL;obtain⟨fa1,fd,Fu,hmg1,hbi⟩:=tops L.fn (gb L hLm) (topX w _ KX L hLm);have hmg1:mg L.name=qq (.ref fa1):=hmg1;rw[<- hname,hmg1] at hmg;cases hmg;refine L2.law_call (fd:=fd) (sp:=gX (K w.params) 1 call) (CX:=eA) (x:=x) KX G.T.g G.T.b G.T.builtins G.T.nolimit hg hobj hints (xAg bS (by decide)) hr (λ base kb nb=>?_) (λ s u=>?_) (λ H hO hS=>?_) λ _ _ _ z=>z
 ·have P1:=(aBB (P:=l.prog) (w:=w) (base:=base) (Z:=Z) hk gk (λ F hF=>tops F (hb F hF) (top w _ KX F hF)) (λ G hG=>tops G.fn (gb G hG) (topX w _ KX G hG)) hblt htab hcon X0 D).2.2 f L 1 call _ _ hL hcall Fu
  rw[hps] at P1;exact P1
 ·obtain⟨oc,od,kV,doc,pm,an,cdv,ct,osl,rfl,lk,hcd⟩:=Fu.ex;have:=gb L hLm kV doc pm an cdv ct [u] (by show [u].length=(L.N.take L.np).length;rw[hps];rfl)
  have e:L.fn.N.take L.fn.np=[x]:=hps;rw[e] at this;exact .of_eq this
 ·obtain⟨call',S',hcall',hrun⟩:=main ns bS hsm;rw[hcall] at hcall';cases hcall';refine⟨H,[],[],[.d (.list (ns.map yAh))],.d (.bool true),S',rfl,⟨bL.refl _,List.nodup_nil,rfl,λ n a ds e=>by simp at e,λ n a e=>by simp at e⟩,.cons (Den.lst hS (DenL.of_ints ns)) .nil,hrun,λ F' L' H' v g R d=>?_⟩
  cases (show Den (K w.params) F' (.bool true) v from d)
  rfl
end EV
namespace EV
open PySem L2
theorem aB7{α:Type}(S:List α)(a b:α):(S++[a]).set S.length b=S++[b]:=by simp
theorem xB{α:Type}{t:Tg}{fc:FT}{fe:FE}{env:aQ}{S:aB}(enc g:α->D)(p:α->Bool):∀ (l:List α) (aW:List D),aW.length+l.length<=qk ->
 (∀ a∈l,∃ e1,t.put (enc a) env=qq e1/\(∀ S',fc e1 S'=qq (p a,S'))/\(p a=true->∀ S',fe e1 S'=qq (.d (g a),S'))) ->
 gT t fc fe S.length env (l.map enc) (S++[qq aW])=qq (S++[qq (aW++(l.filter p).map g)])
 | [],aW,_,_=>by simp[gT]
 | a::l,aW,hz,h=>by
   obtain⟨e1,h1,h2,h3⟩:=h a xAd;have hlt:aW.length<qk:=by simp at hz;omega
   have bG:=λ x (hx:x∈l)=>h x (xAf _ hx)
   simp only[yAm,gT,h1,yBa,h2];cases hp:p a with
   | false =>
     simp only[yAx,if_false];rw[xB enc g p l aW (by simp at hz;omega) bG]
     simp[yCj,hp]
   | true =>
     have ea:fS (S++[qq aW]) (.loc S.length) (.d (g a))=qq (.d .none,S++[qq (aW++[g a])]):=by
      unfold fS;simp only[yAe (yAc S.length),yEn,yBi];rw[if_pos hlt,aB7]
     simp only[if_true,h3 hp,yBa,ea];rw[xB enc g p l (aW++[g a]) (by simp at hz ⊢;omega) bG]
     simp[yCj,hp]
theorem aF2{α:Type}{t:Tg}{fi:FL}{fc:FT}{fe:FE}{env:aQ}{S S1:aB}(enc g:α->D)(p:α->Bool)(l:List α)(hi:fi env S=qq (l.map enc,S1))(hz:l.length<=qk)
 (h:∀ a∈l,∃ e1,t.put (enc a) (clr t.slots env)=qq e1/\(∀ S',fc e1 S'=qq (p a,S'))/\(p a=true->∀ S',fe e1 S'=qq (.d (g a),S'))):dW t fi fc fe env S=qq ((l.filter p).map g,S1):=by
 unfold dW;rw[hi];simp only[yBa];rw[xB enc g p l [] (by simpa using hz) h]
 simp
theorem wM{α:Type}{t:Tg}{fc:FT}{fe:FE}{env:aQ}{S:aB}(enc g:α->D)(p:α->Bool):∀ (l:List α) (aW:List D),aW.length+l.length<=qk ->
 (∀ a∈l,∃ e1,t.put (enc a) env=qq e1/\(∀ aW,fc e1 (S++[qq aW])=qq (p a,S++[qq aW]))/\(p a=true->∀ aW,fe e1 (S++[qq aW])=qq (.d (g a),S++[qq aW]))) ->
 gT t fc fe S.length env (l.map enc) (S++[qq aW])=qq (S++[qq (aW++(l.filter p).map g)])
 | [],aW,_,_=>by simp[gT]
 | a::l,aW,hz,h=>by
   obtain⟨e1,h1,h2,h3⟩:=h a xAd;have hlt:aW.length<qk:=by simp at hz;omega
   have bG:=λ x (hx:x∈l)=>h x (xAf _ hx)
   simp only[yAm,gT,h1,yBa,h2];cases hp:p a with
   | false =>
     simp only[yAx,if_false];rw[wM enc g p l aW (by simp at hz;omega) bG]
     simp[yCj,hp]
   | true =>
     have ea:fS (S++[qq aW]) (.loc S.length) (.d (g a))=qq (.d .none,S++[qq (aW++[g a])]):=by
      unfold fS;simp only[yAe (yAc S.length),yEn,yBi];rw[if_pos hlt,aB7]
     simp only[if_true,h3 hp,yBa,ea];rw[wM enc g p l (aW++[g a]) (by simp at hz ⊢;omega) bG]
     simp[yCj,hp]
theorem rW{α:Type}{t:Tg}{fi:FL}{fc:FT}{fe:FE}{env:aQ}{S S1:aB}(enc g:α->D)(p:α->Bool)(l:List α)(hi:fi env S=qq (l.map enc,S1))(hz:l.length<=qk)
 (h:∀ a∈l,∃ e1,t.put (enc a) (clr t.slots env)=qq e1/\(∀ aW,fc e1 (S1++[qq aW])=qq (p a,S1++[qq aW]))/\(p a=true->∀ aW,fe e1 (S1++[qq aW])=qq (.d (g a),S1++[qq aW]))):dW t fi fc fe env S=qq ((l.filter p).map g,S1):=by
 unfold dW;rw[hi];simp only[yBa];rw[wM enc g p l [] (by simpa using hz) h]
 simp
theorem kH{α:Type}{t:Tg}{fi:FL}{fe:FE}{env:aQ}{S S1:aB}(enc g:α->D)(l:List α)(hi:fi env S=qq (l.map enc,S1))(hz:l.length<=qk)
 (h:∀ a∈l,∃ e1,t.put (enc a) (clr t.slots env)=qq e1/\∀ S',fe e1 S'=qq (.d (g a),S')):dW t fi jC fe env S=qq (l.map g,S1):=by
 rw[aF2 (fc:=jC) enc g (λ _=>true) l hi hz λ a ha=>let ⟨e1,h1,h2⟩:=h a ha;⟨e1,h1,λ _=>rfl,λ _=>h2⟩]
 rw[List.filter_eq_self.mpr (λ _ _=>rfl)]
theorem aGk(n:Nat):∀ lo:Int,jB lo n=(yAy n).map λ k=>yAh (lo+(k:Nat)):=by
 induction n with
 | zero=>intro lo;rfl
 | succ n ih =>
   intro lo;rw[jB,ih,List.range_succ_eq_map,yAm,List.map_map];congr 1
   ·simp
   ·apply List.map_congr_left;intro k _;simp only[Function.comp];congr 1
    push_cast
    omega
end EV
namespace BM
theorem rU(n:Nat):0<2^n:=Nat.two_pow_pos n
noncomputable def bl(n:Nat):Nat:=if n=0 then 0 else n.log2+1
noncomputable def aLX(l:List Bool):Nat:=(l.takeWhile id).length
noncomputable def hi(l:List Bool):Nat:=l.length-aLX (l.reverse.map (!·))
end BM
namespace BM
end BM
namespace BM
open PySem
theorem aFr(a:Nat):((a:Int)).natAbs=a:=by omega
theorem aE5(a:Nat):yAf a=if a=0 then 0 else a.log2+1:=by
 unfold yAf
 by_cases h:a=0
 ·subst h;rfl
 ·rw[if_neg h,if_neg (by simp;omega),aFr]
theorem aFh{a n:Nat}(h:a<2^n):yAf a<=n:=by
 rw[aE5]
 split
 ·exact yEd _
 ·rename_i h0;exact(Nat.log2_lt h0).mpr h
theorem aBs(n:Nat):((2^n:Nat):Int)=(2:Int)^n:=by simp
theorem aLi{x y:Int}(h:y.natAbs.log2<9000):yBr x y=false:=by
 unfold yBr;dsimp only;have:¬ ((if (y==0)=true then 0 else y.natAbs.log2/30+1)>300):=by
  split
  ·omega
  ·omega
 rw[dqF this];rfl
end BM
namespace EV
open PySem L2 BM
theorem cV(i j:Int):bW .Add (.int i) (.int j)=qq (.int (i+j)):=rfl
theorem fG(i j:Int):bW .Sub (.int i) (.int j)=qq (.int (i-j)):=rfl
theorem fY{w:Nat}(h1:w<=100000):bW .LShift (.int 1) (.int w)=qq (.int ((2^w:Nat):Int)):=by
 have c:(0:Int)<=w/\(yAf 1:Int)+w<=2^27:=⟨by omega,by(have:(yAf 1:Int)=1:=(by decide);omega)⟩
 simp only[bW,pG];rw[if_pos c,Int.one_mul,xAm,aBs]
theorem aGM{n a k:Nat}(h:n<2^a)(h2:a+k<=100000):bW .LShift (.int n) (.int k)=qq (.int ((n*2^k:Nat):Int)):=by
 have c:(0:Int)<=(k:Nat)/\((yAf (n:Int):Nat):Int)+(k:Nat)<=2^27:=by
  have:=aFh h;exact⟨by omega,by omega⟩
 simp only[bW,pG];rw[if_pos c,xAm,<- aBs];congr 2
theorem dQ{i j:Int}(h:0<j):bW .Mod (.int i) (.int j)=qq (.int (i%j)):=by
 simp only[bW,pG];rw[if_pos (by omega),Int.fmod_eq_emod_of_nonneg _ (by omega)]
theorem kF{i j:Int}(h:0<j)(h2:j<2^64):bW .FloorDiv (.int i) (.int j)=qq (.int (i/j)):=by
 simp only[bW,pG];have h3:j.natAbs.log2<9000:=Nat.lt_trans ((Nat.log2_lt (by omega)).mpr (show j.natAbs<2^64 by omega)) (by decide)
 rw[if_pos ⟨by omega,aLi h3⟩,Int.fdiv_eq_ediv_of_nonneg _ (by omega)]
theorem aEZ{i j:Int}(h1 : -(2^64)<j)(h2:j<2^64):kO i j=true:=by
 unfold kO;have:=intBits_le_64 h1 h2;have h:¬ (yAf j>vk):=Nat.not_lt.mpr this;rw[dqF h];simp
theorem aEO{i j:Int}(h1 : -(2^64)<i)(h2:i<2^64):kO i j=true:=by
 unfold kO;have:=intBits_le_64 h1 h2;have h:¬ (yAf i>vk):=Nat.not_lt.mpr this;rw[dqF h];simp
theorem mQ{i j:Int}(h1 : -(2^64)<j)(h2:j<2^64):bW .Mult (.int i) (.int j)=qq (.int (i*j)):=by
 show(if kO i j=true then qq (yAh (i*j)) else qz)=_
 rw[if_pos (aEZ h1 h2)]
theorem mL{i j:Int}(h1 : -(2^64)<i)(h2:i<2^64):bW .Mult (.int i) (.int j)=qq (.int (i*j)):=by
 show(if kO i j=true then qq (yAh (i*j)) else qz)=_
 rw[if_pos (aEO h1 h2)]
theorem lC{xs ys:List D}(h:xs.length+ys.length<=1000000):bW .Add (.list xs) (.list ys)=qq (.list (xs++ys)):=by
 show(if xs.length+ys.length<=qk then qq (yAw (xs++ys)) else qz)=_
 rw[if_pos (by rw[zw];omega)]
theorem aGO{i:Int}{k:Nat}(h:k<=1000000)(h2:i.natAbs<2^64):bW .Pow (.int i) (.int k)=qq (.int (i^k)):=by
 have c:0<=((k:Nat):Int)/\((k:Nat):Int)<=1000000/\i.natAbs<2^64:=⟨by omega,by omega,h2⟩
 simp only[bW,pG];rw[if_pos c,xAm]
theorem bT(i j:Int):aZ .Eq (.int i) (.int j)=qq (.bool (i==j)):=rfl
theorem aId(i j:Int):aZ .NotEq (.int i) (.int j)=qq (.bool (!(i==j))):=rfl
theorem dC(i j:Int):aZ .Lt (.int i) (.int j)=qq (.bool (decide (i<j))):=rfl
theorem sQ(i j:Int):aZ .LtE (.int i) (.int j)=qq (.bool (decide (i<=j))):=rfl
theorem iI(i j:Int):aZ .Gt (.int i) (.int j)=qq (.bool (decide (j<i))):=rfl
theorem lI(i j:Int):aZ .GtE (.int i) (.int j)=qq (.bool (decide (j<=i))):=rfl
end EV
namespace EV
open PySem L2 BM
theorem oB{α β:Type}(a:α)(f:α->Option β):(qq a).bind f=f a:=of_eq_true (eq_self (f a))
theorem oM{α β:Type}(a:α)(f:α->β):(qq a).map f=qq (f a):=of_eq_true (eq_self (qq (f a)))
noncomputable def cl(fs:List Fn)(d f:Nat)(ws:List W)(S:aB):Option (W×aB):=match aG fs d f with
 | some (np,call)=>if ws.length=np then call ws S else qz
 | none=>qz
theorem aFN(fs:List Fn)(d f:Nat)(fa:FA)(env:aQ)(S:aB):fZ (aG fs d) f fa env S=(fa env S).bind λ p=>cl fs d f p.1 p.2:=by
 unfold fZ cl pY;cases aG fs d f with
 | none=>cases fa env S<;>rfl
 | some q=>rfl
theorem cR{fs:List Fn}{f:Nat}{F:Fn}(h:fs[f]? = qq F)(d:Nat)(ws:List W)(S:aB)(hw:ws.length=F.np):cl fs (d+1) f ws S=cB (xs (aG fs d) F.body) F.N.length ws S:=by
 have e:aG fs (d+1) f=qq (F.np,cB (xs (aG fs d) F.body) F.N.length):=by
  show(fs[f]?).map _=_;rw[h];rfl
 unfold cl;rw[e];exact if_pos hw
theorem szT{n:Nat}(h:n<=1000):(n<=qk)=True:=by
 rw[zw];exact eq_true (by omega)
end EV
namespace EV
open PySem L2 BM
theorem wI(w:Nat):((2^w:Nat):Int)-1=((2^w-1:Nat):Int):=by
 have:=rU w;omega
theorem mH{fa:FE}{env:aQ}{S S1:aB}{w:Nat}(h:fa env S=qq (.d (.int w),S1))(hw:w<=1000000):pW fa env S=qq ((yAy w).map (λ k=>yAh (k:Nat)),S1):=by
 have c : -(2^62)<=((w:Nat):Int)/\((w:Nat):Int)<2^62:=⟨by omega,by omega⟩
 unfold pW;rw[h,oB];simp only[];rw[if_pos c,aGk,xAm];congr 2;apply List.map_congr_left;intro k _;rw[Int.zero_add]
theorem mX{xs:List D}{k:Nat}{x:D}(h:xs[k]? = qq x):bC (.list xs) (.int k)=qq x:=by
 have hl:k<xs.length:=(gIm h).1;show(hZ xs.length ((k:Nat):Int)).bind (λ j=>xs[j]?)=qq x
 unfold hZ;rw[if_pos (by omega),if_pos (by omega),oB,xAm]
 exact h
theorem pC{xs:List D}{k:Nat}{x:D}(h:xs[k]? = qq x):bC (.tuple xs) (.int k)=qq x:=mX (xs:=xs) h
theorem yN(xs:List D)(k:Nat):dL xs qz (qq (k:Nat))=xs.take k:=by
 unfold dL;rw[HT.sIx_none,HT.sIx_nat,yCk,yEp];rcases Nat.le_total k xs.length with h | h
 ·rw[yDv h]
 ·rw[yEi h,yAk,yBd h]
theorem cH{xs:List D}:gI [.list xs]=qq (.int xs.length):=rfl
theorem cJ{xs:List D}:gI [.tuple xs]=qq (.int xs.length):=rfl
theorem yM{xs:List D}:mR [.list xs]=qq (.tuple xs):=rfl
theorem yI{xs:List D}:mR [.tuple xs]=qq (.tuple xs):=rfl
theorem mT{i:Int}:qW [.int i]=qq (.int i):=rfl
theorem mW{k:Bool}:qW [.bool k]=qq (.int (if k then 1 else 0)):=rfl
theorem aJo{α:Type}(a:α):List.take 1 [a]=[a]:=rfl
theorem aIA{α:Type}(a b:α):List.take 1 [a,b]=[a]:=rfl
theorem aJO{α:Type}(a b:α):List.take 2 [a,b]=[a,b]:=rfl
end EV
namespace EV
open PySem L2 PySem.Spec PyProof.Rows PySem.W
theorem aDS{K:FrG}{D:qv}(a2:findIn K (.ref D) "__getattribute__" = qq (qq (.builtin "BaseException.__getattribute__")))(a3:findIn K (.ref D) "__getattr__" = qq qz)(a4:mroIn K D (.type "BaseException")=qq true)(a5:mroIn K D (.type "object")=qq true)(a6:hasDictIn K D=true)
 (a7:findIn K (.ref D) "__class__" = qq (qq (.builtin "object.__class__"))) (a8:specialIn K (.builtin "object.__class__") "__get__" = qq (qq (.builtin "getset_descriptor.__get__"))) (a9:takesIn K (.builtin "object.__class__")=qq true) (a0:findIn K (.ref D) "row" = qq qz):XcOk K D:=⟨a2,a3,a4,a5,a6,a0,a7,a8,a9⟩
theorem ent_own{K:FrG}{c d:Str}{b:Bool}{C C':qv}(a1:nsIn K qy c=qq (qq (.ref C)))(a2:findIn K (.ref C) "__getattribute__" = qq (qq (.builtin "BaseException.__getattribute__")))(a3:findIn K (.ref C) "__getattr__" = qq qz)(a4:mroIn K C (.type "BaseException")=qq true)(a5:mroIn K C (.type "object")=qq true)(a6:hasDictIn K C=true)
 (a7:findIn K (.ref C) "__class__" = qq (qq (.builtin "object.__class__"))) (a8:specialIn K (.builtin "object.__class__") "__get__" = qq (qq (.builtin "getset_descriptor.__get__"))) (a9:takesIn K (.builtin "object.__class__")=qq true) (a0:findIn K (.ref C) "row" = qq qz) (b1:nsIn K qy d=qq (qq (.ref C'))) (b2:exmOne K (.ref C) (.ref C')=qq b) (b3:kitOne K (.ref C) (.ref C')=qq b):EntTop K (c,d,b):=
 ⟨C,a1,aDS a2 a3 a4 a5 a6 a7 a8 a9 a0,.inl ⟨C',b1,b2,b3⟩⟩
theorem ent_blt{K:FrG}{c d:Str}{b:Bool}{C:qv}{n:String}(a1:nsIn K qy c=qq (qq (.ref C)))(a2:findIn K (.ref C) "__getattribute__" = qq (qq (.builtin "BaseException.__getattribute__")))(a3:findIn K (.ref C) "__getattr__" = qq qz)(a4:mroIn K C (.type "BaseException")=qq true)(a5:mroIn K C (.type "object")=qq true)(a6:hasDictIn K C=true)
 (a7:findIn K (.ref C) "__class__" = qq (qq (.builtin "object.__class__"))) (a8:specialIn K (.builtin "object.__class__") "__get__" = qq (qq (.builtin "getset_descriptor.__get__"))) (a9:takesIn K (.builtin "object.__class__")=qq true) (a0:findIn K (.ref C) "row" = qq qz) (b1:nsIn K qy d=qq qz) (b2:zk d=qq (.type n)) (hn:d ≠ "__name__") (b3:kitOne K (.ref C) (.type n)=qq b):EntTop K (c,d,b):=
 ⟨C,a1,aDS a2 a3 a4 a5 a6 a7 a8 a9 a0,.inr ⟨n,b1,b2,hn,b3⟩⟩
theorem topX_mk{K:FrG}{name:Str}{np:Nat}{N:List Str}{body:Sx ⊕ Xx}{st:zy}{f:qv}{oc:qx}{od an:Option qv}{sl:Array (Option qx)}{kV dc pm cd ct:qx}(a:yBw K qy name=qq (qq (.ref f)))
 (l:K.lookup f=qq ⟨oc,od,.func (yBl name name (fH st) (cY st) (bD st) .none kV dc pm an cd ct),sl⟩) (c:yCs K cd name=true) (k:yBg K (.ref f)=true):TopFn K (FnX.fn ⟨name,np,N,body,st⟩):=
 ⟨f,oc,od,an,sl,kV,dc,pm,cd,ct,a,l,c,k⟩
theorem rc_mk{K:FrG}{c:Str}{C:qv}(a1:nsIn K qy c=qq (qq (.ref C)))(a2:excIn K C [.type "ValueError",.type "Exception",.type "BaseException",.type "object"] "ValueError.__new__" = true)(a3:keepIn K (.ref C)=true):RcTop K c:=⟨C,a1,a2,a3⟩
theorem ri_mk{K:FrG}{c bA:Str}{st:zy}{C fI:qv}{oc:qx}{od an:Option qv}{sl:Array (Option qx)}{kV dc pm cd ct:qx}(a1:nsIn K qy c=qq (qq (.ref C)))(a3:findIn K (.ref C) "__init__" = qq (qq (.ref fI)))(a2:vA K C [.type "ValueError",.type "Exception",.type "BaseException",.type "object"] "ValueError.__new__" = true)(a4:findIn K (.ref C) "__setattr__" = qq (qq (.builtin "object.__setattr__")))(a5:findIn K (.ref C) "row" = qq qz)
 (a6:keepIn K (.ref C)=true) (a7:isFn K (.ref fI)=true) (a8:K.lookup fI=qq ⟨oc,od,.func (fnOf "__init__" bA (fH st) (cY st) (bD st) .none kV dc pm an cd ct),sl⟩) (a9:codeIn K cd bA=true) (b1:keepIn K (.ref fI)=true):RiTop K (c,bA,st):=
 ⟨C,fI,oc,od,an,sl,kV,dc,pm,cd,ct,a1,⟨a2,a3,a4,a5,a6,a7⟩,a8,a9,b1⟩
theorem xo_mk{K:FrG}{c:Str}{C:qv}(a1:nsIn K qy c=qq (qq (.ref C))):XoTop K c:=⟨C,a1⟩
theorem xb_mk{K:FrG}{c:Str}{n:String}(a1:nsIn K qy c=qq qz)(a2:zk c=qq (.type n))(a3:c ≠ "__name__"):XbTop K c:=⟨n,a1,a2,a3⟩
section
variable {fs : List Fn}{gs : List FnX}{tb : Str -> Str -> Option Bool}
noncomputable def cC(fs:List Fn)(gs:List FnX)(tb:Str->Str->Option Bool)(d f:Nat)(ws:List EV.W)(S:aB):Option (EV.W×aB):=match (aE fs gs tb d).1 f with
 | some (np,call)=>if ws.length=np then call ws S else qz
 | none=>qz
theorem cT(d f:Nat)(fa:FA)(env:aQ)(S:aB):fZ (aE fs gs tb d).1 f fa env S=(fa env S).bind λ p=>cC fs gs tb d f p.1 p.2:=by
 unfold fZ cC pY;cases (aE fs gs tb d).1 f with
 | none=>cases fa env S<;>rfl
 | some q=>rfl
theorem kL(d f:Nat)(ws:List EV.W)(S:aB)(h:f<fs.length):cC fs gs tb (d+1) f ws S=cl fs (d+1) f ws S:=by
 have:(aE fs gs tb (d+1)).1 f=aG fs (d+1) f:=if_pos h;unfold cC cl;rw[this]<;>cases aG fs (d+1) f<;>rfl
theorem mY{g:Nat}{G:FnX}(hG:gs[g]? = qq G)(d:Nat)(ws:List EV.W)(S:aB)(h:ws.length=G.np):cC fs gs tb (d+1) (fs.length+g) ws S=eV (aE fs gs tb d).1 (aE fs gs tb d).2 tb G ws S:=by
 have:(aE fs gs tb (d+1)).1 (fs.length+g)=(gs[fs.length+g-fs.length]?).map λ G=>(G.np,eV (aE fs gs tb d).1 (aE fs gs tb d).2 tb G):=if_neg (by omega)
 rw[yCh,hG] at this;unfold cC;rw[this];exact if_pos h
noncomputable def hW(fs:List Fn)(gs:List FnX)(tb:Str->Str->Option Bool)(d f:Nat)(ws:List EV.W)(S:aB):Option (ResX×aB):=match (aE fs gs tb d).2 f with
 | some (np,call)=>if ws.length=np then call ws S else qz
 | none=>qz
theorem wC(d f:Nat)(fa:FA)(env:aQ)(S:aB):iK (aE fs gs tb d).2 f fa env S=(fa env S).bind λ p=>hW fs gs tb d f p.1 p.2:=by
 unfold iK hW zH;cases (aE fs gs tb d).2 f with
 | none=>cases fa env S<;>rfl
 | some q=>rfl
theorem aCS{g:Nat}{G:FnX}{x:Xx}(hG:gs[g]? = qq G)(hx:G.body=.inr x)(d:Nat)(ws:List EV.W)(S:aB)(h:ws.length=G.np):hW fs gs tb (d+1) (fs.length+g) ws S=dJ (xx (aE fs gs tb d).1 (aE fs gs tb d).2 tb x) G.N.length ws S:=by
 have:(aE fs gs tb (d+1)).2 (fs.length+g)=(gs[fs.length+g-fs.length]?).bind λ G=>match G.body with | .inl _=>qz | .inr x=>qq (G.np,dJ (xx (aE fs gs tb d).1 (aE fs gs tb d).2 tb x) G.N.length):=if_neg (by omega)
 rw[yCh,hG,yBa,hx] at this;unfold hW;rw[this];exact if_pos h
theorem aF3{g d:Nat}{G:FnX}{w r:EV.W}{S:aB}(h:gs[g]? = qq G)(hn:G.np=1)(e:cC fs gs tb (d+1) (fs.length+g) [w] []=qq (r,S)):∃ call S',(aE fs gs tb (d+1)).1 (fs.length+g)=qq (1,call)/\call [w] []=qq (r,S'):=by
 refine⟨eV (aE fs gs tb d).1 (aE fs gs tb d).2 tb G,S,?_,?_⟩
 ·have:(aE fs gs tb (d+1)).1 (fs.length+g)=(gs[fs.length+g-fs.length]?).map λ G=>(G.np,eV (aE fs gs tb d).1 (aE fs gs tb d).2 tb G):=if_neg (by omega)
  rw[yCh,h] at this;rw[this,<- hn];rfl
 ·rw[<- mY h d [w] [] (by rw[hn];rfl)]
  exact e
end
end EV
namespace EV
open PySem L2 BM
section
variable {C : Calls}{env : aQ}{S S1 S2 S3 S4 : aB}{a b c e es r : E}
variable {s t u : Sx}{aV : aQ}{R : Option (Fl×aB)}{w : W}
end
end EV
namespace K22
open PySem L2 EV BM
local macro_rules
 | `(tactic| omega)=>`(tactic| first | (with_reducible assumption) | (with_reducible exact yAc _) | (with_reducible exact Nat.le_add_right _ _) | (with_reducible exact xAg ‹_› (by decide)) | (with_reducible exact xAc ‹_› (by decide)) | (with_reducible exact yDz ‹_› (by decide)) | (with_reducible exact yDk ‹_›) | (with_reducible exact xAg (yDk ‹_›) (by decide)) | (with_reducible exact xAg (Nat.add_le_add_right ‹_› _) (by decide)) | (with_reducible exact Nat.add_le_add_left (by decide) _) | (with_reducible exact yDp ‹_›) | (with_reducible exact Nat.lt_of_not_le ‹_›) | (with_reducible exact Nat.not_lt_of_le ‹_›) | (with_reducible exact Nat.not_le_of_lt ‹_›) | (with_reducible exact xAc ‹_› ‹_›) | (with_reducible exact xAg ‹_› ‹_›) | (with_reducible exact xAg ‹_› (Nat.add_le_add_left (by decide) _)) | (with_reducible exact xAg ‹_› (xAg (Nat.add_le_add_right ‹_› _) (by decide))) | omega (config:={}))
 | `(tactic| simp only[evs])=>`(tactic| simp only[evs,True])
 | `(tactic| simp only[evs,$ls,*])=>`(tactic| simp only[aJk,aIK,aJY,aHR,aIC,aIY,aIW,aIv,aLb,aIq,aIg,aKB,aIR,aHT,zD,aHy,aIQ,aIc,aH5,aJ9,aIk,aH7,aJV,aJt,aI2,aJJ,aJU,aGP,aIs,aIl,aJP,aKV,aLc,aII,aGL,aK4,aHq,aH6,aIN,aHb,aHa,pO,oW,aBV,lE,aGz,aC4,pI,aCI,aCr,aHH,aIf,aGS,cN,dY,nA,kX,iR,aKP,pL,lO,lX,fUn,fO,cK,f2,f1,gN,eZ,dr,uL,fC,cP,iU,aFN,dX,gH,qO,iY,dF,nP,oC,uC,uV,uG,lM,uF,tB,aLB,qQ,B.g,aKJ,aKh,aK6,aLa,aKi,qC,Tg.put,kI,Tg.slots,yAm,yCf,yCi,yCc,Nat.reduceAdd,Nat.reduceSub,yEm,yAp,List.replicate_zero,List.cons_append,yDe,yBi,yBs,yBo,yBp,oB,oM,yAk,Bool.not_false,Bool.not_true,yAx,if_true,if_false,reduceIte,Nat.reduceLeDiff,Nat.reduceEqDiff,szT,List.take_nil,List.take_zero,aI4,aL2,zS,aJo,aIA,aJO,$ls,*])
noncomputable def top(i:Nat):zy:=PySem.Challenge.pw_fewbits_k22_looked_at.main.body.getD i (.Pass ⟨0,0,0,0⟩)
noncomputable def oG:List (Str×Tv):=[("in",.int 0),("num",.int 0),("not",.int 1),("and",.int 2),("or",.int 2),("xor",.int 2),("add",.int 2),("sub",.int 2),("mul",.int 2),("left",.int 1),("right",.int 1),("slide",.int 1),("cut",.int 1),("wide",.int 1),("sign",.int 1),("same",.int 2),("less",.int 2),("under",.int 2),("pick",.int 3)]
noncomputable def rX:List Tv:=[.str "left",.str "right",.str "slide"]
noncomputable def vY:List Tv:=[.str "same",.str "less",.str "under"]
noncomputable def vR:List Tv:=[.str "wide",.str "sign"]
noncomputable def tbs:Tbs:=⟨[("OPERAND_COUNTS",oG)],[("SHIFTS",rX),("COMPARES",vY),("WIDENINGS",vR)]⟩
abbrev J0:E:=.int 0
abbrev J1:E:=.int 1
abbrev J2:E:=.int 2
abbrev J3:E:=.int 3
abbrev J4:E:=.int 4
abbrev J5:E:=.int 5
abbrev J7:E:=.int 7
abbrev J8:E:=.int 8
abbrev V0:E:=.var 0
abbrev V1:E:=.var 1
abbrev V2:E:=.var 2
abbrev V3:E:=.var 3
abbrev V4:E:=.var 4
abbrev V5:E:=.var 5
abbrev V6:E:=.var 6
abbrev V7:E:=.var 7
abbrev V8:E:=.var 8
abbrev V9:E:=.var 9
noncomputable def aDx:Sx:=(.seq (.ret (.bin .Sub (.bin .LShift J1 V0) J1))
 .skip)
noncomputable def aFF:Sx:=(.seq (.ret (.sl V0 (.cons J2 .nil) (.cons (.bin .Add J2 (.tab "OPERAND_COUNTS" oG (.ix V0 J0))) .nil)))
 .skip)
noncomputable def aAG:E:=(.comp (.ix V1 V2) (.one 2) (.it (.call 1 (.cons V0 .nil))) .no)
noncomputable def aEQ:Sx:=(.seq (.ret (.blt .tup (.cons (.fz aAG) .nil)))
 .skip)
noncomputable def aAH:E:=(.comp (.cmp .Eq V4 V3) (.one 4) (.it V1) .no)
noncomputable def aE0:Sx:=(.seq (.set 2 (.ix V0 J0))
 (.seq (.set 3 (.ix V0 J1))
 (.seq (.ifs (.cmp .In V2 (.con "COMPARES" vY)) (.seq (.ret (.and (.cmp .Eq V3 J1) (.cmp .Eq (.ix V1 J0) (.ix V1 J1))))
 .skip) .skip)
 (.seq (.ifs (.cmp .Eq V2 (.str "pick")) (.seq (.ret (.cmp .Eq V1 (.tup (.cons J1 (.cons V3 (.cons V3 .nil))))))
 .skip) .skip)
 (.seq (.ifs (.cmp .Eq V2 (.str "cut")) (.seq (.ret (.cmp .GtE (.ix V1 J0) V3))
 .skip) .skip)
 (.seq (.ifs (.cmp .In V2 (.con "WIDENINGS" vR)) (.seq (.ret (.cmp .LtE (.ix V1 J0) V3))
 .skip) .skip)
 (.seq (.ret (.blt .all (.cons (.fz aAH) .nil)))
 .skip)))))))
noncomputable def aES:Sx:=(.seq (.ifs (.cmp .Eq (.ix V0 J0) (.str "num")) (.seq (.ret (.cmp .LtE (.ix V0 J2) (.call 0 (.cons (.ix V0 J1) .nil))))
 .skip) .skip)
 (.seq (.ifs (.cmp .In (.ix V0 J0) (.con "SHIFTS" rX)) (.seq (.ret (.cmp .LtE (.ix V0 J3) (.int 63)))
 .skip) .skip)
 (.seq (.ret (.bl true))
 .skip)))
noncomputable def fD:Sx:=(.seq (.setT (.many [3,4]) (.sl V0 .no (.cons J2 .nil)))
 (.seq (.put V0 J1 (.bin .Add V4 J1))
 (.seq (.ifs (.and (.cmp .Lt (.bin .Add (.bin .FloorDiv V4 (.int 12)) J1) (.blt .len (.cons V3 .nil))) (.cmp .Eq (.bin .Mod (.ix V3 J0) J2) J1)) (.seq (.ifs (.cmp .Eq (.bin .Mod V4 (.int 12)) J0) (.seq (.put V0 J2 (.ix V3 (.bin .Add (.bin .FloorDiv V4 (.int 12)) J1)))
 .skip) .skip)
 (.seq (.set 5 (.bin .Mod (.ix V0 J2) V1))
 (.seq (.put V0 J2 (.bin .FloorDiv (.ix V0 J2) V1))
 (.seq (.ret V5)
 .skip)))) .skip)
 (.seq (.ifs (.cmp .Lt V4 (.blt .len (.cons V3 .nil))) (.seq (.ret (.bin .Mod (.ix V3 V4) V1))
 .skip) .skip)
 (.seq (.set 2 (.bin .Add (.bin .Mult V4 (.int 7919)) J5))
 (.seq (.ifs (.cmp .Gt (.blt .len (.cons (.ix V0 J0) .nil)) J0) (.seq (.set 2 (.bin .Add V2 (.bin .Mult (.ix (.ix V0 J0) (.bin .Mod (.bin .Mult V4 J7) (.blt .len (.cons (.ix V0 J0) .nil)))) (.bin .Add (.int 48271) V4))))
 .skip) .skip)
 (.seq (.set 2 (.bin .Mod (.bin .Mult (.bin .Mod V2 (.int 2147483629)) (.bin .Add V4 J3)) (.int 2147483629)))
 (.seq (.set 2 (.bin .Mod (.bin .Mult V2 V2) (.int 2147483587)))
 (.seq (.ret (.bin .Mod (.bin .Mod (.bin .Mult V2 V2) (.int 1999999973)) V1))
 .skip)))))))))
noncomputable def vL:Sx:=(.seq (.ifs (.cmp .Lt V1 (.int 31)) (.seq (.ret (.call 5 (.cons V0 (.cons (.bin .LShift J1 V1) .nil))))
 .skip) .skip)
 (.seq (.ret (.bin .Add (.call 5 (.cons V0 (.cons (.bin .LShift J1 (.int 30)) .nil))) (.bin .LShift (.call 5 (.cons V0 (.cons (.bin .LShift J1 (.bin .Sub V1 (.int 30))) .nil))) (.int 30))))
 .skip))
noncomputable def aAP:Sx:=(.seq (.ret (.ix (.fz (.lst (.cons J1 (.cons (.int 64) (.cons (.bin .Add J1 (.call 5 (.cons V0 (.cons J8 .nil)))) (.cons (.bin .Add J1 (.call 5 (.cons V0 (.cons (.int 64) .nil)))) .nil)))))) (.call 5 (.cons V0 (.cons J4 .nil)))))
 .skip)
noncomputable def wH:Sx:=(.seq (.set 2 (.call 5 (.cons V0 (.cons J5 .nil))))
 (.seq (.set 3 (.fz (.lst (.cons J0 (.cons (.bin .Sub (.bin .LShift J1 V1) J1) (.cons (.bin .LShift J1 (.call 5 (.cons V0 (.cons V1 .nil)))) (.cons (.bin .Sub (.bin .LShift J1 (.call 5 (.cons V0 (.cons V1 .nil)))) J1) .nil)))))))
 (.seq (.ifs (.cmp .Lt V2 J4) (.seq (.ret (.ix V3 V2))
 .skip) .skip)
 (.seq (.ret (.call 6 (.cons V0 (.cons V1 .nil))))
 .skip))))
noncomputable def oO:Sx:=(.seq (.ifs (.cmp .Eq (.ix (.ix V1 V2) J1) V3) (.seq (.ret V2)
 .skip) .skip)
 (.seq (.set 4 (.ix (.fz (.lst (.cons (.str "wide") (.cons (.str "sign") .nil)))) (.call 5 (.cons V0 (.cons J2 .nil)))))
 (.seq (.ifs (.cmp .Gt (.ix (.ix V1 V2) J1) V3) (.seq (.set 4 (.str "cut"))
 .skip) .skip)
 (.seq (.expr (.app V1 (.tup (.cons V4 (.cons V3 (.cons V2 .nil))))))
 (.seq (.ret (.bin .Sub (.blt .len (.cons V1 .nil)) J1))
 .skip)))))
noncomputable def aEE:E:=(.comp V4 (.one 4) (.rng1 (.blt .len (.cons V1 .nil))) (.cmp .Eq (.ix (.ix V1 V4) J1) V2))
noncomputable def oH:Sx:=(.seq (.setC false 3 aEE)
 (.seq (.ifs (.and (.cmp .NotEq V3 (.fz (.lst .nil))) (.cmp .Gt (.call 5 (.cons V0 (.cons J4 .nil))) J0)) (.seq (.ret (.ix V3 (.bin .Sub (.bin .Sub (.blt .len (.cons V3 .nil)) J1) (.call 5 (.cons V0 (.cons (.blt .len (.cons V3 .nil)) .nil))))))
 .skip) .skip)
 (.seq (.ret (.call 9 (.cons V0 (.cons V1 (.cons (.call 5 (.cons V0 (.cons (.blt .len (.cons V1 .nil)) .nil))) (.cons V2 .nil))))))
 .skip)))
noncomputable def vB:Sx:=(.seq (.set 3 (.call 5 (.cons V0 (.cons (.blt .len (.cons V1 .nil)) .nil))))
 (.seq (.set 4 (.ix (.ix V1 V3) J1))
 (.seq (.ifs (.cmp .Eq V2 (.str "cut")) (.seq (.ret (.tup (.cons (.str "cut") (.cons (.bin .Add J1 (.call 5 (.cons V0 (.cons V4 .nil)))) (.cons V3 .nil)))))
 .skip) .skip)
 (.seq (.ret (.tup (.cons V2 (.cons (.bin .Add V4 (.call 5 (.cons V0 (.cons (.bin .Sub (.int 65) V4) .nil)))) (.cons V3 .nil)))))
 .skip))))
noncomputable def vN:Sx:=(.seq (.set 4 (.ix (.fz (.lst (.cons (.call 5 (.cons V0 (.cons V3 .nil))) (.cons (.call 5 (.cons V0 (.cons (.int 64) .nil))) .nil)))) (.bin .FloorDiv (.call 5 (.cons V0 (.cons J4 .nil))) J3)))
 (.seq (.ret (.tup (.cons V2 (.cons V3 (.cons (.call 10 (.cons V0 (.cons V1 (.cons V3 .nil)))) (.cons V4 .nil))))))
 .skip))
noncomputable def vW:Sx:=(.seq (.set 4 (.call 10 (.cons V0 (.cons V1 (.cons V3 .nil)))))
 (.seq (.set 5 (.call 10 (.cons V0 (.cons V1 (.cons V3 .nil)))))
 (.seq (.ifs (.cmp .In V2 (.tup (.cons (.str "same") (.cons (.str "less") (.cons (.str "under") .nil))))) (.seq (.set 3 J1)
 .skip) .skip)
 (.seq (.ret (.tup (.cons V2 (.cons V3 (.cons V4 (.cons V5 .nil))))))
 .skip))))
noncomputable def gQ:Sx:=(.seq (.set 2 (.fz (.lst (.cons (.str "in") (.cons (.str "num") (.cons (.str "num") (.cons (.str "not") (.cons (.str "and") (.cons (.str "or") (.cons (.str "xor") (.cons (.str "add") (.cons (.str "sub") (.cons (.str "mul") (.cons (.str "left") (.cons (.str "right") (.cons (.str "slide") (.cons (.str "cut") .nil)))))))))))))))))
 (.seq (.set 2 (.bin .Add V2 (.fz (.lst (.cons (.str "wide") (.cons (.str "sign") (.cons (.str "same") (.cons (.str "less") (.cons (.str "under") (.cons (.str "pick") .nil))))))))))
 (.seq (.set 3 (.ix V2 (.call 5 (.cons V0 (.cons (.int 20) .nil)))))
 (.seq (.set 4 (.ix (.ix V1 (.call 5 (.cons V0 (.cons (.blt .len (.cons V1 .nil)) .nil)))) J1))
 (.seq (.ifs (.cmp .Eq (.call 5 (.cons V0 (.cons J4 .nil))) J1) (.seq (.set 4 (.call 7 (.cons V0 .nil)))
 .skip) .skip)
 (.seq (.ifs (.cmp .Eq V3 (.str "in")) (.seq (.set 5 (.tup (.cons (.str "in") (.cons V4 .nil))))
 .skip) (.seq (.ifs (.cmp .Eq V3 (.str "num")) (.seq (.set 5 (.tup (.cons (.str "num") (.cons V4 (.cons (.call 8 (.cons V0 (.cons V4 .nil))) .nil)))))
 .skip) (.seq (.ifs (.cmp .Eq V3 (.str "not")) (.seq (.set 5 (.tup (.cons (.str "not") (.cons V4 (.cons (.call 10 (.cons V0 (.cons V1 (.cons V4 .nil)))) .nil)))))
 .skip) (.seq (.ifs (.cmp .In V3 (.tup (.cons (.str "left") (.cons (.str "right") (.cons (.str "slide") .nil))))) (.seq (.set 5 (.call 12 (.cons V0 (.cons V1 (.cons V3 (.cons V4 .nil))))))
 .skip) (.seq (.ifs (.cmp .In V3 (.tup (.cons (.str "cut") (.cons (.str "wide") (.cons (.str "sign") .nil))))) (.seq (.set 5 (.call 11 (.cons V0 (.cons V1 (.cons V3 .nil)))))
 .skip) (.seq (.ifs (.cmp .Eq V3 (.str "pick")) (.seq (.set 6 (.call 10 (.cons V0 (.cons V1 (.cons J1 .nil)))))
 (.seq (.set 5 (.bin .Add (.tup (.cons (.str "pick") (.cons V4 (.cons V6 .nil)))) (.sl (.call 13 (.cons V0 (.cons V1 (.cons V3 (.cons V4 .nil))))) (.cons J2 .nil) .no)))
 .skip)) (.seq (.set 5 (.call 13 (.cons V0 (.cons V1 (.cons V3 (.cons V4 .nil))))))
 .skip))
 .skip))
 .skip))
 .skip))
 .skip))
 .skip))
 (.seq (.expr (.app V1 V5))
 .skip)))))))
noncomputable def vD:E:=(.rng1 (.ix (.fz (.lst (.cons (.call 5 (.cons V0 (.cons J3 .nil))) (.cons J7 .nil)))) (.blt .int (.cons (.cmp .Eq (.call 5 (.cons V0 (.cons J8 .nil))) J1) .nil))))
noncomputable def vE:Sx:=(.seq (.expr (.app V5 (.call 5 (.cons V0 (.cons (.blt .len (.cons V2 .nil)) .nil)))))
 .skip)
noncomputable def rN:E:=(.rng1 V1)
noncomputable def rM:Sx:=(.seq (.ifs (.cmp .Lt (.blt .len (.cons V2 .nil)) (.int 37)) (.seq (.expr (.call 14 (.cons V0 (.cons V2 .nil))))
 .skip) .skip)
 .skip)
noncomputable def jI:Sx:=(.seq (.set 2 (.new (.lst (.cons (.tup (.cons (.str "in") (.cons (.call 7 (.cons V0 .nil)) .nil))) .nil))))
 (.seq (.loop (.one 3) rN rM)
 (.seq (.set 4 (.fz (.lst (.cons (.bin .Sub (.blt .len (.cons V2 .nil)) J1) (.cons (.call 5 (.cons V0 (.cons (.blt .len (.cons V2 .nil)) .nil))) .nil)))))
 (.seq (.set 5 (.new (.lst (.cons (.ix V4 (.blt .int (.cons (.cmp .Eq (.call 5 (.cons V0 (.cons J4 .nil))) J1) .nil))) .nil))))
 (.seq (.loop (.one 3) vD vE)
 (.seq (.ret (.tup (.cons (.blt .tup (.cons V2 .nil)) (.cons (.blt .tup (.cons V5 .nil)) .nil))))
 .skip))))))
noncomputable def aFp:Sx:=(.seq (.ifs (.cmp .In V0 (.tup (.cons (.str "in") (.cons (.str "num") .nil)))) (.seq (.ret J0)
 .skip) .skip)
 (.seq (.ifs (.cmp .In V0 (.tup (.cons (.str "and") (.cons (.str "or") (.cons (.str "xor") (.cons (.str "add") (.cons (.str "sub") (.cons (.str "mul") (.cons (.str "same") (.cons (.str "less") (.cons (.str "under") .nil))))))))))) (.seq (.ret J2)
 .skip) .skip)
 (.seq (.ret (.bin .Add J1 (.bin .Mult J2 (.blt .int (.cons (.cmp .Eq V0 (.str "pick")) .nil)))))
 .skip)))
noncomputable def aAF:E:=(.comp V3 (.one 3) (.it V1) (.cmp .NotEq V3 (.ix V0 J1)))
noncomputable def aEN:Sx:=(.seq (.set 2 (.ix V0 J0))
 (.seq (.ifs (.cmp .In V2 (.tup (.cons (.str "same") (.cons (.str "less") (.cons (.str "under") .nil))))) (.seq (.ret (.and (.cmp .Eq (.ix V0 J1) J1) (.cmp .Eq (.ix V1 J0) (.ix V1 J1))))
 .skip) .skip)
 (.seq (.ifs (.cmp .Eq V2 (.str "cut")) (.seq (.ret (.cmp .GtE (.ix V1 J0) (.ix V0 J1)))
 .skip) .skip)
 (.seq (.ifs (.cmp .In V2 (.tup (.cons (.str "wide") (.cons (.str "sign") .nil)))) (.seq (.ret (.cmp .LtE (.ix V1 J0) (.ix V0 J1)))
 .skip) .skip)
 (.seq (.ifs (.cmp .Eq V2 (.str "pick")) (.seq (.ret (.and (.cmp .Eq (.ix V1 J0) J1) (.and (.cmp .Eq (.ix V1 J1) (.ix V0 J1)) (.cmp .Eq (.ix V1 J2) (.ix V0 J1)))))
 .skip) .skip)
 (.seq (.ret (.cmp .Eq (.fz aAF) (.fz (.lst .nil))))
 .skip))))))
noncomputable def vF:E:=(.comp (.ix (.ix V0 V4) J1) (.one 4) (.it V3) .no)
noncomputable def vC:E:=(.comp V4 (.one 4) (.it V3) (.cmp .GtE V4 V1))
noncomputable def aEM:Sx:=(.seq (.set 2 (.ix V0 V1))
 (.seq (.set 3 (.sl V2 (.cons J2 .nil) (.cons (.bin .Add J2 (.call 16 (.cons (.ix V2 J0) .nil))) .nil)))
 (.seq (.ifs (.or (.cmp .Lt (.ix V2 J1) J1) (.cmp .Gt (.ix V2 J1) (.int 64))) (.seq (.ret (.tup (.cons (.str "width") (.cons V1 .nil))))
 .skip) .skip)
 (.seq (.ifs (.cmp .NotEq (.fz vC) (.fz (.lst .nil))) (.seq (.ret (.tup (.cons (.str "row") (.cons V1 .nil))))
 .skip) .skip)
 (.seq (.ifs (.not (.call 17 (.cons V2 (.cons (.fz vF) .nil)))) (.seq (.ret (.tup (.cons (.str "fit") (.cons V1 .nil))))
 .skip) .skip)
 (.seq (.ifs (.or (.and (.cmp .Eq (.ix V2 J0) (.str "num")) (.cmp .GtE (.ix V2 J2) (.bin .LShift J1 (.ix V2 J1)))) (.and (.cmp .In (.ix V2 J0) (.tup (.cons (.str "left") (.cons (.str "right") (.cons (.str "slide") .nil))))) (.cmp .Gt (.ix V2 J3) (.int 63)))) (.seq (.ret (.tup (.cons (.str "number") (.cons V1 .nil))))
 .skip) .skip)
 (.seq (.ret (.tup (.cons (.str "good") (.cons (.bl true) .nil))))
 .skip)))))))
noncomputable def vK:E:=(.comp V4 (.one 4) (.it V1) (.cmp .GtE V4 (.blt .len (.cons V0 .nil))))
noncomputable def kY:E:=(.rng1 (.blt .len (.cons V0 .nil)))
noncomputable def iA:Sx:=(.seq (.set 3 (.call 18 (.cons V0 (.cons V2 .nil))))
 (.seq (.ifs (.cmp .NotEq (.ix V3 J0) (.str "good")) (.seq (.ret V3)
 .skip) .skip)
 .skip))
noncomputable def aBa:Sx:=(.seq (.loop (.one 2) kY iA)
 (.seq (.ifs (.cmp .NotEq (.fz vK) (.fz (.lst .nil))) (.seq (.ret (.tup (.cons (.str "row") (.cons (.blt .len (.cons V0 .nil)) .nil))))
 .skip) .skip)
 (.seq (.ret (.tup (.cons (.str "good") (.cons (.bl true) .nil))))
 .skip)))
noncomputable def aAT:Sx:=(.seq (.set 4 (.bin .Sub (.bin .Pow (.int 10) (.int 20)) J1))
 (.seq (.set 5 (.fz (.lst (.cons J0 (.cons (.int 65) (.cons (.int 64) (.cons (.int 63) (.cons V2 (.cons (.bin .Add V2 J1) (.cons (.blt .mn (.cons V4 (.cons (.bin .Add V1 J1) .nil))) (.cons (.blt .mx (.cons J0 (.cons (.bin .Sub V1 J1) .nil))) (.cons (.bin .LShift J1 V3) (.cons (.call 5 (.cons V0 (.cons (.int 70) .nil))) .nil)))))))))))))
 (.seq (.ret (.ix (.bin .Add V5 (.fz (.lst (.cons (.ix (.fz (.lst (.cons J7 (.cons V4 .nil)))) (.blt .int (.cons (.cmp .Gt V3 (.int 39)) .nil))) .nil)))) (.call 5 (.cons V0 (.cons (.int 11) .nil)))))
 .skip)))
noncomputable def vJ:Sx:=(.seq (.set 3 (.ix V1 V2))
 (.seq (.ifs (.cmp .Eq (.call 5 (.cons V0 (.cons J5 .nil))) J1) (.seq (.set 7 (.fz (.lst (.cons (.str "and") (.cons (.str "or") (.cons (.str "mul") (.cons (.str "same") (.cons (.str "less") (.cons (.str "under") (.cons (.str "left") (.cons (.str "slide") .nil)))))))))))
 (.seq (.ifs (.cmp .Lt (.blt .len (.cons V3 .nil)) J4) (.seq (.set 7 (.fz (.lst (.cons (.str "num") (.cons (.str "not") (.cons (.str "cut") (.cons (.str "wide") (.cons (.str "sign") .nil))))))))
 .skip) .skip)
 (.seq (.ifs (.cmp .Eq (.blt .len (.cons V3 .nil)) J4) (.seq (.ret (.bin .Add (.bin .Add (.sl V1 .no (.cons V2 .nil)) (.fz (.lst (.cons (.bin .Add (.tup (.cons (.ix V7 (.call 5 (.cons V0 (.cons J8 .nil)))) .nil)) (.sl V3 (.cons J1 .nil) .no)) .nil)))) (.sl V1 (.cons (.bin .Add V2 J1) .nil) .no)))
 .skip) .skip)
 (.seq (.ifs (.cmp .Eq (.blt .len (.cons V3 .nil)) J3) (.seq (.ret (.bin .Add (.bin .Add (.sl V1 .no (.cons V2 .nil)) (.fz (.lst (.cons (.bin .Add (.tup (.cons (.ix V7 (.call 5 (.cons V0 (.cons J5 .nil)))) .nil)) (.sl V3 (.cons J1 .nil) .no)) .nil)))) (.sl V1 (.cons (.bin .Add V2 J1) .nil) .no)))
 .skip) .skip)
 .skip)))) .skip)
 (.seq (.set 4 (.bin .Add J1 (.call 5 (.cons V0 (.cons (.bin .Sub (.blt .len (.cons V3 .nil)) J1) .nil)))))
 (.seq (.set 5 (.blt .mn (.cons (.ix V3 J1) (.cons (.ix (.fz (.lst (.cons (.int 39) (.cons (.int 64) .nil)))) (.blt .int (.cons (.cmp .Eq (.blt .len (.cons V3 .nil)) J3) .nil))) .nil))))
 (.seq (.set 6 (.call 20 (.cons V0 (.cons (.ix V3 V4) (.cons V2 (.cons V5 .nil))))))
 (.seq (.ret (.bin .Add (.bin .Add (.sl V1 .no (.cons V2 .nil)) (.fz (.lst (.cons (.bin .Add (.bin .Add (.sl V3 .no (.cons V4 .nil)) (.tup (.cons V6 .nil))) (.sl V3 (.cons (.bin .Add V4 J1) .nil) .no)) .nil)))) (.sl V1 (.cons (.bin .Add V2 J1) .nil) .no)))
 .skip))))))
noncomputable def vH:E:=(.comp (.ix V5 J1) (.one 5) (.it (.call 2 (.cons V2 (.cons V0 .nil)))) .no)
noncomputable def vG:E:=(.comp (.cmp .GtE V4 V1) (.one 4) (.it (.call 1 (.cons V2 .nil))) .no)
noncomputable def aAN:Xx:=(.seq (.s (.set 2 (.ix (.var 0) (.var 1))))
 (.seq (.ifs (.or (.cmp .Lt (.ix (.var 2) (.int 1)) (.int 1)) (.cmp .Gt (.ix (.var 2) (.int 1)) (.int 64))) (.seq (.raise1 "NoWidth" (.var 1))
 .skip) .skip)
 (.seq (.ifs (.blt .any (.cons (.fz vG) .nil)) (.seq (.raise1 "NoRow" (.var 1))
 .skip) .skip)
 (.seq (.s (.set 3 (.blt .tup (.cons (.fz vH) .nil))))
 (.seq (.ifs (.not (.call 3 (.cons (.var 2) (.cons (.var 3) .nil)))) (.seq (.raise1 "NoFit" (.var 1))
 .skip) .skip)
 (.seq (.ifs (.not (.call 4 (.cons (.var 2) .nil))) (.seq (.raise1 "NoNumber" (.var 1))
 .skip) .skip)
 .skip))))))
noncomputable def wW:E:=(.comp (.cmp .GtE V4 (.blt .len (.cons V2 .nil))) (.one 4) (.it V3) .no)
noncomputable def oR:E:=(.rng1 (.blt .len (.cons V2 .nil)))
noncomputable def kE:Xx:=(.seq (.cal 22 (.cons (.var 2) (.cons (.var 1) .nil)))
 .skip)
noncomputable def aDi:Xx:=(.seq (.s (.setT (.many [2,3]) (.var 0)))
 (.seq (.loop (.one 1) oR kE)
 (.seq (.ifs (.blt .any (.cons (.fz wW) .nil)) (.seq (.raise1 "NoRow" (.blt .len (.cons (.var 2) .nil)))
 .skip) .skip)
 (.seq (.s (.ret (.bl true)))
 .skip))))
noncomputable def aA2:Xx:=(.seq (.s (.set 1 (.tup (.cons (.str "none") (.cons (.int 0) .nil)))))
 (.seq (.tri (.seq (.pair 1 "good" 23 (.cons (.var 0) .nil))
 .skip) [("NoWidth",qq 2,[.tup 1 [.str "width",.row 2]]),("NoRow",qq 2,[.tup 1 [.str "row",.row 2]]),("NoFit",qq 2,[.tup 1 [.str "fit",.row 2]]),("NoNumber",qq 2,[.tup 1 [.str "number",.row 2]])])
 (.seq (.s (.ret (.var 1)))
 .skip)))
noncomputable def aAK:Xx:=(.seq (.s (.set 1 (.fz (.lst .nil))))
 (.seq (.tri (.seq (.cal 23 (.cons (.var 0) .nil))
 .skip) [("BitsError",qq 2,[.lst false 1 [.isi 2 "ValueError",.isi 2 "NoWidth",.isi 2 "NoRow",.isi 2 "NoFit"],.cat 1 [.isi 2 "NoNumber",.isl 2 ["NoLine", "TooMany"]]])])
 (.seq (.s (.ret (.var 1)))
 .skip)))
noncomputable def aAI:E:=(.comp (.cmp .In V3 (.tup (.cons (.str "any") (.cons (.ix V1 J0) .nil)))) (.one 3) (.it (.fz (.lst (.cons (.str "any") (.cons (.str "width") (.cons (.str "row") (.cons (.str "fit") (.cons (.str "number") (.cons (.str "no") .nil))))))))) .no)
noncomputable def oJ:Sx:=(.seq (.set 2 (.call 24 (.cons V0 .nil)))
 (.seq (.ifs (.or (.cmp .NotEq V2 V1) (.cmp .NotEq (.isi (.ix V2 J1) .bool) (.cmp .Eq (.ix V1 J0) (.str "good")))) (.seq (.ret (.bl false))
 .skip) .skip)
 (.seq (.ifs (.cmp .Eq (.ix V1 J0) (.str "good")) (.seq (.ret (.bl true))
 .skip) .skip)
 (.seq (.ret (.cmp .Eq (.call 25 (.cons V0 .nil)) (.fz aAI)))
 .skip))))
noncomputable def aAE:Xx:=(.seq (.mks 1 ["NoLine", "NoWidth", "NoRow", "NoFit", "NoNumber"] (.var 0))
 (.seq (.hnd 2 (.it (.var 1)) (.fz (.lrep (.fz (.lst (.cons (.var 0) .nil))) (.int 5))) "TooMany" "BitsError")
 .skip))
noncomputable def sB:E:=(.rng1 V2)
noncomputable def xQ:Sx:=(.seq (.set 4 (.call 21 (.cons V1 (.cons V4 (.cons V6 .nil)))))
 (.seq (.ifs (.cmp .Eq (.call 5 (.cons V1 (.cons J3 .nil))) J1) (.seq (.set 6 (.call 5 (.cons V1 (.cons (.blt .len (.cons V4 .nil)) .nil))))
 .skip) .skip)
 .skip))
noncomputable def qT:Sx:=(.seq (.set 1 (.new (.lst (.cons V0 (.cons J0 (.cons J0 .nil))))))
 (.seq (.set 2 (.call 5 (.cons V1 (.cons J4 .nil))))
 (.seq (.set 3 (.call 15 (.cons V1 (.cons (.bin .Add J1 (.blt .mn (.cons (.blt .len (.cons V0 .nil)) (.cons (.int 24) .nil)))) .nil))))
 (.seq (.set 4 (.fz (.lof (.ix V3 J0))))
 (.seq (.set 5 (.ix V3 J1))
 (.seq (.set 6 (.call 5 (.cons V1 (.cons (.blt .len (.cons V4 .nil)) .nil))))
 (.seq (.loop (.one 7) sB xQ)
 (.seq (.ifs (.cmp .Eq (.call 5 (.cons V1 (.cons J4 .nil))) J1) (.seq (.set 5 (.bin .Add (.sl V5 .no (.cons J7 .nil)) (.tup (.cons (.bin .Sub (.bin .Add (.blt .len (.cons V4 .nil)) (.call 5 (.cons V1 (.cons J3 .nil)))) J1) .nil))))
 .skip) .skip)
 (.seq (.set 8 (.call 5 (.cons V1 (.cons (.int 16) .nil))))
 (.seq (.ifs (.cmp .Eq V8 J1) (.seq (.set 4 (.fz (.lst .nil)))
 .skip) .skip)
 (.seq (.ifs (.cmp .Eq V8 J2) (.seq (.set 4 (.bin .Add (.bin .Add V4 V4) V4))
 .skip) .skip)
 (.seq (.set 9 (.tup (.cons (.blt .tup (.cons V4 .nil)) (.cons V5 .nil))))
 (.seq (.set 10 (.call 19 (.cons V4 (.cons V5 .nil))))
 (.seq (.ifs (.not (.call 27 (.cons V6 .nil))) (.seq (.ret (.bl false))
 .skip) .skip)
 (.seq (.ret (.and (.call 26 (.cons V9 (.cons (.var 10) .nil))) (.and (.call 26 (.cons V3 (.cons (.tup (.cons (.str "good") (.cons (.bl true) .nil))) .nil))) (.call 26 (.cons V9 (.cons (.var 10) .nil))))))
 .skip)))))))))))))))
noncomputable def fns:List Fn:=[
 {name:="full",np:=1,N:=["width"],body:=aDx,st:=top 1 },
 {name:="operands",np:=1,N:=["row"],body:=aFF,st:=top 15 },
 {name:="of_operands",np:=2,N:=["row", "values", "k"],body:=aEQ,st:=top 16 },
 {name:="widths_fit",np:=2,N:=["row", "widths", "word", "width", "each"],body:=aE0,st:=top 18 },
 {name:="number_fits",np:=1,N:=["row"],body:=aES,st:=top 19 },
 {name:="_law_draw",np:=2,N:=["_law_state", "_law_many_here", "_law_cell", "_law_script", "_law_k", "_law_digit"],body:=fD,st:=top 23 },
 {name:="_law_number",np:=2,N:=["_law_state", "_law_width_here"],body:=vL,st:=top 24 },
 {name:="_law_width",np:=1,N:=["_law_state"],body:=aAP,st:=top 25 },
 {name:="_law_num",np:=2,N:=["_law_state", "_law_width_here", "_law_sort", "_law_some"],body:=wH,st:=top 26 },
 {name:="_law_fit",np:=4,N:=["_law_state", "_law_rows", "_law_a", "_law_width_here", "_law_word"],body:=oO,st:=top 27 },
 {name:="_law_operand",np:=3,N:=["_law_state", "_law_rows", "_law_width_here", "_law_some", "_law_k"],body:=oH,st:=top 28 },
 {name:="_law_turned_width",np:=3,N:=["_law_state", "_law_rows", "_law_word", "_law_a", "_law_width_here"],body:=vB,st:=top 29 },
 {name:="_law_shift",np:=4,N:=["_law_state", "_law_rows", "_law_word", "_law_width_here", "_law_k"],body:=vN,st:=top 30 },
 {name:="_law_pair",np:=4,N:=["_law_state", "_law_rows", "_law_word", "_law_width_here", "_law_a", "_law_b"],body:=vW,st:=top 31 },
 {name:="_law_row",np:=2,N:=["_law_state", "_law_rows", "_law_some", "_law_word", "_law_width_here", "_law_row_here", "_law_c"],body:=gQ,st:=top 32 },
 {name:="_law_program",np:=2,N:=["_law_state", "_law_most", "_law_rows", "_law_k", "_law_last", "_law_outs"],body:=jI,st:=top 33 },
 {name:="_law_many",np:=1,N:=["_law_word"],body:=aFp,st:=top 34 },
 {name:="_law_fitting",np:=2,N:=["_law_row_here", "_law_widths", "_law_word", "_law_width_here"],body:=aEN,st:=top 35 },
 {name:="_law_row_due",np:=2,N:=["_law_rows", "_law_k", "_law_row_here", "_law_some", "_law_a"],body:=aEM,st:=top 36 },
 {name:="_law_due",np:=2,N:=["_law_rows", "_law_outs", "_law_k", "_law_due_here", "_law_out"],body:=aBa,st:=top 37 },
 {name:="_law_other",np:=4,N:=["_law_state", "_law_old", "_law_r", "_law_most", "_law_nines", "_law_some"],body:=aAT,st:=top 38 },
 {name:="_law_spoiled",np:=3,N:=["_law_state", "_law_rows", "_law_r", "_law_row_here", "_law_at", "_law_most", "_law_other_here", "_law_some"],body:=vJ,st:=top 39 }]
noncomputable def gns:List FnX:=[
 {name:="look_at_row",np:=2,N:=["rows", "k", "row", "widths", "operand", "ahead"],body:=.inr aAN,st:=top 20 },
 {name:="look",np:=1,N:=["program", "k", "rows", "outs", "out"],body:=.inr aDi,st:=top 21 },
 {name:="_law_told",np:=1,N:=["_law_program_here", "_law_said", "e"],body:=.inr aA2,st:=top 40 },
 {name:="_law_classes",np:=1,N:=["_law_program_here", "_law_said", "e"],body:=.inr aAK,st:=top 41 },
 {name:="_law_meets",np:=2,N:=["_law_program_here", "_law_due_here", "_law_found", "_law_word"],body:=.inl oJ,st:=top 42 },
 {name:="_law_made_by_hand",np:=1,N:=["_law_number_here", "_law_some", "_law_one"],body:=.inr aAE,st:=top 43 },
 {name:="law",np:=1,N:=["_law_script", "_law_state", "_law_many_here", "_law_good", "_law_rows", "_law_outs", "_law_r", "_law_k", "_law_sort", "_law_program_here", "_law_due_here"],body:=.inl qT,st:=top 44 }]
noncomputable def xz:Xz:=⟨["NoWidth", "NoRow", "NoFit", "NoNumber", "BitsError", "NoLine", "TooMany"],["ValueError"],["TooMany"],[("NoNumber", "NoNumber.__init__",oY (top 8) 0),("NoFit", "NoFit.__init__",oY (top 7) 0),("NoRow", "NoRow.__init__",oY (top 6) 0),("NoWidth", "NoWidth.__init__",oY (top 5) 0),("NoLine", "NoLine.__init__",oY (top 4) 0)]⟩
noncomputable def xl:List (Str×Str×Bool):=("NoNumber", "NoWidth",false)::("NoNumber", "NoRow",false)::("NoNumber", "NoFit",false)::("NoNumber", "NoNumber",true)::("NoNumber", "BitsError",true)::("NoNumber", "NoLine",false)::("NoNumber", "TooMany",false)::("NoNumber", "ValueError",true)::("NoFit", "NoWidth",false)::("NoFit", "NoRow",false)::("NoFit", "NoFit",true)::("NoFit", "NoNumber",false)::("NoFit", "BitsError",true)::("NoFit", "NoLine",false)::("NoFit", "TooMany",false)::("NoFit", "ValueError",true)::("NoRow", "NoWidth",false)::("NoRow", "NoRow",true)::("NoRow", "NoFit",false)::("NoRow", "NoNumber",false)::("NoRow", "BitsError",true)::("NoRow", "NoLine",false)::("NoRow", "TooMany",false)::("NoRow", "ValueError",true)::("NoWidth", "NoWidth",true)::("NoWidth", "NoRow",false)::("NoWidth", "NoFit",false)::("NoWidth", "NoNumber",false)::("NoWidth", "BitsError",true)::("NoWidth", "NoLine",false)::("NoWidth", "TooMany",false)::("NoWidth", "ValueError",true)::("TooMany", "BitsError",true)::("NoLine", "NoLine",true)::[]
noncomputable def cI(ns:List Int)(k:Nat)(x:Int):List D:=[.list (ns.map yAh),.int k,.int x]
theorem aHi{α:Type}{S:List α}{n:Nat}{a v:α}(h:S[n]? = qq a):(S.set n v)[n]? = qq v:=yAl (gIm h).1
theorem wF{α:Type}(S:List α)(n:Nat)(v:α):(S.set n v).take S.length=S.set n v:=by
 rw[yBd];rw[yAo];exact yAc _
theorem aCW(a b c:D):bC (.list [a,b,c]) (.int 0)=qq a:=rfl
theorem aCR(a b c:D):bC (.list [a,b,c]) (.int 2)=qq c:=rfl
theorem aLP(a b c:D):dL [a,b,c] qz (qq 2)=[a,b]:=rfl
theorem mO{ns:List Int}{k:Nat}(h:k<ns.length):bC (.list (ns.map yAh)) (.int k)=qq (.int ns[k]):=mX (by rw[xAb,yAa h];rfl)
theorem oZ(i:Int){w:Nat}(hw:0<w):∃ r:Nat,i%(w:Int)=(r:Int)/\r<w:=by
 have h0:=Int.emod_nonneg i (show(w:Int)≠0 by omega)
 have h1:=Int.emod_lt_of_pos i (show(0:Int)<(w:Int) by omega)
 exact⟨(i%(w:Int)).toNat,by omega,by omega⟩
theorem aK1:hZ 3 1=qq 1:=rfl
theorem aDp:hZ 3 2=qq 2:=rfl
theorem lA(ns:List Int):(ns.map yAh).length=ns.length:=yAg ..
noncomputable def mK:Sx:=match fD with
 | .seq _ (.seq _ (.seq _ r))=>r
 | _=>.skip
theorem mI(i p:Int)(hp:0<p)(hp2:p<=2147483647) : -(2^64)<i%p/\i%p<2^64:=by
 have h0:=Int.emod_nonneg i (show p≠0 by omega)
 have h1:=Int.emod_lt_of_pos i hp;exact⟨by omega,by omega⟩
theorem aFU(C:Calls)(n k m:Nat)(ns:List Int)(x:Int)(S:aB)(e2 e5:Option W)(hS:S[n]? = qq (qq (cI ns (k+1) x)))(hm:0<m)(hk:k<=100000) :
 ∃ r:Nat,r<m/\xs C mK [qq (.loc n),qq (.d (.int m)),e2,qq (.d (.list (ns.map yAh))),qq (.d (.int k)),e5] S=qq (.rt (.d (.int r)),S):=by
 unfold cI at hS;have hm':(0:Int)<(m:Int):=by omega
 by_cases c1:k<ns.length
 ·have d1:decide ((k:Int)<((ns.length:Nat):Int))=true:=dqT (by omega)
  obtain⟨r,er,hr⟩:=oZ ns[k] hm;refine⟨r,hr,?_⟩;simp only[evs,mK,fD,cH,cJ,lA,dC,d1,mO c1,dQ hm',er]
 ·have d1:decide ((k:Int)<((ns.length:Nat):Int))=false:=dqF (by omega)
  have bB:∀ c:Int,∃ r:Nat,r<m/\c%2147483629*((k:Int)+3)%2147483629*(c%2147483629*((k:Int)+3)%2147483629)%2147483587*(c%2147483629*((k:Int)+3)%2147483629*(c%2147483629*((k:Int)+3)%2147483629)%2147483587)%1999999973%(m:Int)=(r:Int):=λ c=>by
   obtain⟨r,er,hr⟩:=oZ (c%2147483629*((k:Int)+3)%2147483629*(c%2147483629*((k:Int)+3)%2147483629)%2147483587*(c%2147483629*((k:Int)+3)%2147483629*(c%2147483629*((k:Int)+3)%2147483629)%2147483587)%1999999973) hm;exact⟨r,hr,er⟩
  by_cases c2:0<ns.length
  ·have d2:decide ((0:Int)<((ns.length:Nat):Int))=true:=dqT (by omega)
   obtain⟨q,eq,hq⟩:=oZ ((k:Int)*7) c2;obtain⟨r,hr,er⟩:=bB ((k:Int)*7919+5+ns[q]*(48271+(k:Int)));refine⟨r,hr,?_⟩;have s1:=mI ((k:Int)*7919+5+ns[q]*(48271+(k:Int))) 2147483629 (by decide) (by decide)
   have s2:=mI (((k:Int)*7919+5+ns[q]*(48271+(k:Int)))%2147483629*((k:Int)+3)) 2147483629 (by decide) (by decide)
   have s3:=mI (((k:Int)*7919+5+ns[q]*(48271+(k:Int)))%2147483629*((k:Int)+3)%2147483629*(((k:Int)*7919+5+ns[q]*(48271+(k:Int)))%2147483629*((k:Int)+3)%2147483629)) 2147483587 (by decide) (by decide)
   simp only[evs,mK,fD,cH,cJ,lA,dC,d1,mQ (i:=(k:Int)) (j:=7919) (by decide) (by decide),cV,hS,aCW,iI,d2,mQ (i:=(k:Int)) (j:=7) (by decide) (by decide),dQ (i:=(k:Int)*7) (j:=((ns.length:Nat):Int)) (by omega),eq,mO hq,
    mQ (i:=ns[q]) (j:=48271+(k:Int)) (by omega) (by omega),dQ (j:=2147483629) (by decide),mL s1.1 s1.2,mL s2.1 s2.2,dQ (j:=2147483587) (by decide),mL s3.1 s3.2,dQ (j:=1999999973) (by decide),dQ hm',er]
  ·have d2:decide ((0:Int)<((ns.length:Nat):Int))=false:=dqF (by omega)
   obtain⟨r,hr,er⟩:=bB ((k:Int)*7919+5);refine⟨r,hr,?_⟩;have s1:=mI ((k:Int)*7919+5) 2147483629 (by decide) (by decide)
   have s2:=mI (((k:Int)*7919+5)%2147483629*((k:Int)+3)) 2147483629 (by decide) (by decide)
   have s3:=mI (((k:Int)*7919+5)%2147483629*((k:Int)+3)%2147483629*(((k:Int)*7919+5)%2147483629*((k:Int)+3)%2147483629)) 2147483587 (by decide) (by decide)
   simp only[evs,mK,fD,cH,cJ,lA,dC,d1,mQ (i:=(k:Int)) (j:=7919) (by decide) (by decide),cV,hS,aCW,iI,d2,dQ (j:=2147483629) (by decide),mL s1.1 s1.2,mL s2.1 s2.2,dQ (j:=2147483587) (by decide),mL s3.1 s3.2,dQ (j:=1999999973) (by decide),dQ hm',er]
noncomputable def lG:Sx:=match fD with
 | .seq _ (.seq _ (.seq i _))=>i
 | _=>.skip
noncomputable def xE:Sx:=match fD with
 | .seq _ (.seq p _)=>p
 | _=>.skip
noncomputable def sD:Sx:=match fD with
 | .seq p _=>p
 | _=>.skip
theorem aG6(d n k m:Nat)(ns:List Int)(x:Int)(S:aB)(hS:S[n]? = qq (qq (cI ns k x)))(hm:0<m)(hm2:m<2^64)(hk:k<=100000) :
 ∃ (r:Nat) (x':Int),r<m/\cl fns (d+1) 5 [.loc n,.d (.int m)] S=qq (.d (.int r),S.set n (qq (cI ns (k+1) x'))):=by
 have hm':(0:Int)<(m:Int):=by omega
 have hm2':(m:Int)<2^64:=by exact_mod_cast hm2
 have e1:(k:Int)/12+1=((k/12+1:Nat):Int):=by omega
 have e2:(k:Int)+1=((k+1:Nat):Int):=by omega
 have gs:=λ v=>aHi (v:=v) hS
 have start:(cN (xs (aG fns d) sD) (xs (aG fns d) xE)) [qq (.loc n),qq (.d (.int m)),qz,qz,qz,qz] S=qq (.nx [qq (.loc n),qq (.d (.int m)),qz,qq (.d (.list (ns.map yAh))),qq (.d (.int k)),qz],S.set n (qq (cI ns (k+1) x))):=by
  unfold cI at hS ⊢;simp only[evs,sD,xE,fD,gY,fM,kA,hS,aLP,lT,nE,aK1,cV,e2]
 have dG:∀ (R:Option (Fl×aB)),cN (xs (aG fns d) lG) (xs (aG fns d) mK) [qq (.loc n),qq (.d (.int m)),qz,qq (.d (.list (ns.map yAh))),qq (.d (.int k)),qz] (S.set n (qq (cI ns (k+1) x)))=R ->
  cl fns (d+1) 5 [.loc n,.d (.int m)] S=R.bind λ p=>match p.1 with
   | .rt w=>iU S.length p.2 w
   | .nx _=>qq (.d .none,p.2.take S.length)
   | _=>qz:=λ R hR=>by
  rw[cR rfl d _ S rfl,<- hR];simp only[cN] at start ⊢;cases q:xs (aG fns d) sD [qq (.loc n),qq (.d (.int m)),qz,qz,qz,qz] S with
  | none=>rw[q] at start;cases start
  | some z =>
    obtain⟨fl,S1⟩:=z;rw[q] at start;simp only[oB] at start;cases fl with
    | nx e =>
      simp only at start;show((cN (xs (aG fns d) sD) (cN (xs (aG fns d) xE) (cN (xs (aG fns d) lG) (xs (aG fns d) mK)))) [qq (.loc n),qq (.d (.int m)),qz,qz,qz,qz] S).bind _=_;simp only[cN,q,oB,start]
      all_goals rfl
    | rt w=>cases start
    | bk e=>cases start
    | ct e=>cases start
 have hS2:(S.set n (qq (cI ns (k+1) x)))[n]? = qq (qq (cI ns (k+1) x)):=gs _;have skip:xs (aG fns d) lG [qq (.loc n),qq (.d (.int m)),qz,qq (.d (.list (ns.map yAh))),qq (.d (.int k)),qz] (S.set n (qq (cI ns (k+1) x)))=qq (.nx [qq (.loc n),qq (.d (.int m)),qz,qq (.d (.list (ns.map yAh))),qq (.d (.int k)),qz],S.set n (qq (cI ns (k+1) x))) ->
  ∃ (r:Nat) (x':Int),r<m/\cl fns (d+1) 5 [.loc n,.d (.int m)] S=qq (.d (.int r),S.set n (qq (cI ns (k+1) x'))):=λ h=>by
  obtain⟨r,hr,ht⟩:=aFU (aG fns d) n k m ns x _ qz qz hS2 hm hk;refine⟨r,x,hr,?_⟩;rw[dG _ rfl];simp only[cN,h,oB,ht,iU,wF]
 by_cases c1:k/12+1<ns.length
 ·have d1:decide (((k/12+1:Nat):Int)<((ns.length:Nat):Int))=true:=dqT (by omega)
  have i0:bC (.list (ns.map yAh)) (.int 0)=qq (.int ns[0]):=mO (k:=0) (by omega)
  rcases yBf (ns[0]%2==1) with c2 | c2
  ·rcases yBf ((k:Int)%12==0) with c3 | c3
   ·obtain⟨r,er,hr⟩:=oZ ns[k/12+1] hm;refine⟨r,ns[k/12+1]/(m:Int),hr,?_⟩;rw[dG _ rfl];unfold cI at hS2 ⊢;simp only[evs,lG,fD,lT,nE,aDp,cV,kF (i:=(k:Int)) (j:=12) (by decide) (by decide),e1,cH,cJ,lA,dC,d1,i0,dQ (i:=ns[0]) (j:=2) (by decide),bT,c2,dQ (i:=(k:Int)) (j:=12) (by decide),c3,hS2,gs,yEq,mO c1,aCR,dQ hm',er,kF hm' hm2',wF]
   ·obtain⟨r,er,hr⟩:=oZ x hm;refine⟨r,x/(m:Int),hr,?_⟩;rw[dG _ rfl];unfold cI at hS2 ⊢;simp only[evs,lG,fD,lT,nE,aDp,cV,kF (i:=(k:Int)) (j:=12) (by decide) (by decide),e1,cH,cJ,lA,dC,d1,i0,dQ (i:=ns[0]) (j:=2) (by decide),bT,c2,dQ (i:=(k:Int)) (j:=12) (by decide),c3,hS2,gs,yEq,aCR,dQ hm',er,kF hm' hm2',wF]
  ·apply skip;simp only[evs,lG,fD,cV,kF (i:=(k:Int)) (j:=12) (by decide) (by decide),e1,cH,cJ,lA,dC,d1,i0,dQ (i:=ns[0]) (j:=2) (by decide),bT,c2]
 ·have d1:decide (((k/12+1:Nat):Int)<((ns.length:Nat):Int))=false:=dqF (by omega)
  apply skip;simp only[evs,lG,fD,cV,kF (i:=(k:Int)) (j:=12) (by decide) (by decide),e1,cH,cJ,lA,dC,d1]
inductive Wd where
 | «in» | num | not | and | or | xor | add | sub | mul | left | right | slide | cut | wide | sign | same | less | under | pick
 deriving DecidableEq
noncomputable def Wd.s:Wd->Str
 | .in => "in" | .num => "num" | .not => "not" | .and => "and" | .or => "or" | .xor => "xor" | .add => "add" | .sub => "sub" | .mul => "mul" | .left => "left" | .right => "right" | .slide => "slide"
 | .cut => "cut" | .wide => "wide" | .sign => "sign" | .same => "same" | .less => "less" | .under => "under" | .pick => "pick"
structure Rw where
 wd:Wd
 w:Nat
 args:List Nat
noncomputable def nD(n:Nat):D:=.int n
noncomputable def Rw.d(r:Rw):D:=.tuple (.str r.wd.s::nD r.w::r.args.map nD)
def gG(ws:List Nat)(r:Rw):Prop:=1<=r.w/\r.w<=64/\match r.wd,r.args with
 | .in,[]=>True
 | .num,[n]=>n<2^r.w
 | .not,[a]=>ws[a]? = qq r.w
 | .and,[a,b] | .or,[a,b] | .xor,[a,b] | .add,[a,b] | .sub,[a,b] | .mul,[a,b]=>ws[a]? = qq r.w/\ws[b]? = qq r.w
 | .left,[a,k] | .right,[a,k] | .slide,[a,k]=>ws[a]? = qq r.w/\k<64
 | .cut,[a]=>∃ v,ws[a]? = qq v/\r.w<=v
 | .wide,[a] | .sign,[a]=>∃ v,ws[a]? = qq v/\v<=r.w
 | .same,[a,b] | .less,[a,b] | .under,[a,b]=>r.w=1/\∃ v,ws[a]? = qq v/\ws[b]? = qq v
 | .pick,[c,a,b]=>ws[c]? = qq 1/\ws[a]? = qq r.w/\ws[b]? = qq r.w
 | _,_=>False
noncomputable def cM:List Nat->List Rw->Prop
 | _,[]=>True
 | ws,r::rs=>gG ws r/\cM (ws++[r.w]) rs
theorem vM:∀ {rs:List Rw}{ws:List Nat}{r:Rw},cM ws rs->gG (ws++rs.map (·.w)) r->cM ws (rs++[r])
 | [],ws,r,_,h=>⟨by simpa using h,True.intro⟩
 | q::rs,ws,r,⟨h1,h2⟩,h=>⟨h1,vM h2 (by simpa using h)⟩
noncomputable def aJ(S:aB)(n p:Nat)(ns:List Int)(k:Nat)(x:Int)(rs:List Rw):aB:=(S.set n (qq (cI ns k x))).set p (qq (rs.map Rw.d))
section
variable {S : aB}{n p : Nat}{ns : List Int}{k : Nat}{x : Int}{rs : List Rw}
structure At0(S:aB)(n p:Nat):Prop where
 hn:n<S.length
 ne:n≠p
structure At(S:aB)(n p:Nat):Prop extends At0 S n p where
 hp:p<S.length
theorem At0.state(h:At0 S n p):(aJ S n p ns k x rs)[n]? = qq (qq (cI ns k x)):=by
 unfold aJ;rw[yAj h.ne.symm,yAl h.hn]
theorem At.rows(h:At S n p):(aJ S n p ns k x rs)[p]? = qq (qq (rs.map Rw.d)):=by
 unfold aJ;rw[yAl (by rw[yAo];exact h.hp)]
theorem At.rowsT(h:At S n p)(T:aB):(aJ S n p ns k x rs++T)[p]? = qq (qq (rs.map Rw.d)):=by
 rw[xAj (by simp[aJ];exact h.hp)]
 exact h.rows
theorem At0.len(h:At0 S n p):(aJ S n p ns k x rs).length=S.length:=by simp[aJ]
theorem At0.take(h:At0 S n p)(k':Nat)(x':Int)(aI:List Rw):(aJ S n p ns k' x' aI).take (aJ S n p ns k x rs).length=aJ S n p ns k' x' aI:=by
 rw[h.len,yBd];rw[h.len];exact yAc _
theorem At0.put(h:At0 S n p)(k':Nat)(x':Int):(aJ S n p ns k x rs).set n (qq (cI ns k' x'))=aJ S n p ns k' x' rs:=by
 unfold aJ;rw[List.set_comm _ _ h.ne.symm,yEq]
theorem At.putR(h:At S n p)(r:Rw):(aJ S n p ns k x rs).set p (qq (rs.map Rw.d++[r.d]))=aJ S n p ns k x (rs++[r]):=by
 unfold aJ;rw[yEq,yBm];rfl
end
section
variable {S : aB}{n p : Nat}{ns : List Int}{k : Nat}{x : Int}{rs : List Rw}
theorem dR(h:At0 S n p)(d m:Nat)(hm:0<m)(hm2:m<2^64)(hk:k<=100000):∃ (r:Nat) (x':Int),r<m/\cl fns (d+1) 5 [.loc n,.d (.int m)] (aJ S n p ns k x rs)=qq (.d (.int r),aJ S n p ns (k+1) x' rs):=by
 obtain⟨r,x',hr,e⟩:=aG6 d n k m ns x _ h.state hm hm2 hk;exact⟨r,x',hr,by rw[e,h.put]⟩
theorem fF(h:At0 S n p)(d m:Nat){i:Int}(hi:i=(m:Nat))(hm:0<m)(hm2:m<2^64)(hk:k<=100000):∃ (r:Nat) (x':Int),r<m/\cl fns (d+1) 5 [.loc n,.d (.int i)] (aJ S n p ns k x rs)=qq (.d (.int r),aJ S n p ns (k+1) x' rs):=by
 subst hi;exact dR h d m hm hm2 hk
theorem aBR{w:Nat}(h:w<64):2^w<2^64:=yDt (by decide) h
theorem aFw(h:At0 S n p)(d w:Nat)(hw:w<=64)(hk:k<=99000):∃ (r k':Nat) (x':Int),r<2^w/\k'<=k+2/\cl fns (d+2) 6 [.loc n,.d (.int w)] (aJ S n p ns k x rs)=qq (.d (.int r),aJ S n p ns k' x' rs):=by
 by_cases c:w<31
 ·have d1:decide ((w:Int)<31)=true:=dqT (by omega)
  obtain⟨r,x',hr,e⟩:=dR (ns:=ns) (k:=k) (x:=x) (rs:=rs) h d (2^w) (rU w) (aBR (by omega)) (by omega)
  refine⟨r,k+1,x',hr,by omega,?_⟩
  rw[cR rfl (d+1) _ _ rfl];simp only[evs,cB,vL,dC,d1,fY (show w<=100000 by omega),e,h.take]
 ·have d1:decide ((w:Int)<31)=false:=dqF (by omega)
  have e1:(w:Int)-30=((w-30:Nat):Int):=by omega
  have s30:=fY (w:=30) (by decide)
  rw[show((30:Nat):Int)=30 from rfl] at s30
  obtain⟨r,x',hr,e⟩:=dR (ns:=ns) (k:=k) (x:=x) (rs:=rs) h d (2^30) (by decide) (by decide) (by omega)
  obtain⟨q,x2,hq,e'⟩:=dR (ns:=ns) (k:=k+1) (x:=x') (rs:=rs) h d (2^(w-30)) (rU _) (aBR (by omega)) (by omega)
  have hb:r+q*2^30<2^w:=by
   have e3:(2:Nat)^w=2^(w-30)*2^30:=by rw[<- Nat.pow_add,show w-30+30=w by omega]
   have h3:(q+1)*2^30<=2^(w-30)*2^30:=Nat.mul_le_mul_right _ hq;rw[Nat.add_mul] at h3;omega
  have sh:bW .LShift (.int q) (.int 30)=qq (.int ((q*2^30:Nat):Int)):=aGM (n:=q) (a:=w-30) (k:=30) hq (by omega)
  have ad:(r:Int)+((q*2^30:Nat):Int)=((r+q*2^30:Nat):Int):=(Int.natCast_add _ _).symm;refine⟨r+q*2^30,k+2,x2,hb,by omega,?_⟩
  rw[cR rfl (d+1) _ _ rfl];simp only[evs,cB,vL,dC,d1,s30,e,fG,e1,fY (show w-30<=100000 by omega),e',sh,cV,ad,h.take]
end
theorem at4(a b c e:D){r:Nat}(h1:r<4):∃ x,(x=a\/x=b\/x=c\/x=e)/\bC (.list [a,b,c,e]) (.int r)=qq x:=by
 have:r=0\/r=1\/r=2\/r=3:=by omega
 rcases this with rfl | rfl | rfl | rfl
 ·exact⟨a,.inl rfl,rfl⟩
 ·exact⟨b,.inr (.inl rfl),rfl⟩
 ·exact⟨c,.inr (.inr (.inl rfl)),rfl⟩
 ·exact⟨e,.inr (.inr (.inr rfl)),rfl⟩
section
variable {S : aB}{n p : Nat}{ns : List Int}{k : Nat}{x : Int}{rs : List Rw}
theorem aBM(h:At0 S n p)(d:Nat)(hk:k<=99000):∃ (w:Nat) (x':Int),1<=w/\w<=64/\cl fns (d+2) 7 [.loc n] (aJ S n p ns k x rs)=qq (.d (.int w),aJ S n p ns (k+3) x' rs):=by
 obtain⟨r1,x1,h1,e1⟩:=fF (ns:=ns) (k:=k) (x:=x) (rs:=rs) h d 8 (i:=8) rfl (by decide) (by decide) (by omega)
 obtain⟨r2,x2,h2,e2⟩:=fF (ns:=ns) (k:=k+1) (x:=x1) (rs:=rs) h d 64 (i:=64) rfl (by decide) (by decide) (by omega)
 obtain⟨r3,x3,h3,e3⟩:=fF (ns:=ns) (k:=k+2) (x:=x2) (rs:=rs) h d 4 (i:=4) rfl (by decide) (by decide) (by omega)
 have a1:(1:Int)+(r1:Int)=((1+r1:Nat):Int):=by omega
 have a2:(1:Int)+(r2:Int)=((1+r2:Nat):Int):=by omega
 obtain⟨y,hy,e⟩:=at4 (.int 1) (.int 64) (.int ((1+r1:Nat):Int)) (.int ((1+r2:Nat):Int)) h3;obtain⟨w,oE,bY,rfl⟩:∃ w:Nat,1<=w/\w<=64/\y=.int w:=by
  rcases hy with rfl | rfl | rfl | rfl
  ·exact⟨1,by decide,by decide,rfl⟩
  ·exact⟨64,by decide,by decide,rfl⟩
  ·exact⟨_,by omega,by omega,rfl⟩
  ·exact⟨_,by omega,by omega,rfl⟩
 refine⟨w,x3,oE,bY,?_⟩;rw[cR rfl (d+1) _ _ rfl];simp only[evs,cB,aAP,e1,e2,e3,cV,a1,a2,e,h.take]
end
theorem zF(a b:D):bC (.list [a,b]) (.int ((0:Nat):Int))=qq a:=rfl
theorem yV(a b:D):bC (.list [a,b]) (.int ((1:Nat):Int))=qq b:=rfl
theorem aCv{t:Tg}{fb:FS}(P:Nat->aQ->aB->Prop):∀ (ds:List D) (i:Nat) (env:aQ) (S:aB),P i env S->(∀ j d env S,i<=j->j<i+ds.length->P j env S->∃ e1 aV S',t.put d env=qq e1/\fb e1 S=qq (.nx aV,S')/\P (j+1) aV S') ->
 ∃ aV S',kP t fb ds env S=qq (.nx aV,S')/\P (i+ds.length) aV S'
 | [],i,env,S,h0,_=>⟨env,S,rfl,h0⟩
 | d::ds,i,env,S,h0,h=>by
   obtain⟨e1,aV,S',h1,h2,h3⟩:=h i d env S (yAc _) (by simp) h0
   obtain⟨env2,S2,h4,h5⟩:=aCv P ds (i+1) aV S' h3 λ j d' env S a b=>h j d' env S (by omega) (by simp at b ⊢;omega)
   refine⟨env2,S2,by simp only[kP,h1,oB,h2];exact h4,?_⟩
   have:i+(d::ds).length=i+1+ds.length:=by simp;omega
   rw[this];exact h5
theorem yJ{t:Tg}{fi:FL}{fb:FS}{env:aQ}{S S1:aB}{ds:List D}(P:Nat->aQ->aB->Prop)(hi:fi env S=qq (ds,S1))(h0:P 0 env S1)(h:∀ j d env S,j<ds.length->P j env S->∃ e1 aV S',t.put d env=qq e1/\fb e1 S=qq (.nx aV,S')/\P (j+1) aV S') :
 ∃ aV S',lS t fi fb env S=qq (.nx aV,S')/\P ds.length aV S':=by
 obtain⟨aV,S',h1,h2⟩:=aCv (t:=t) (fb:=fb) P ds 0 env S1 h0 λ j d env S _ b=>h j d env S (by omega)
 exact⟨aV,S',by unfold lS;rw[hi,oB];exact h1,by simpa using h2⟩
theorem uN(b:Bool):∃ q:Nat,q<2/\(if b then (1:Int) else 0)=(q:Int):=by
 cases b
 ·exact⟨0,by decide,rfl⟩
 ·exact⟨1,by decide,rfl⟩
theorem at2(a b:D){r:Nat}(h1:r<2):∃ x,(x=a\/x=b)/\bC (.list [a,b]) (.int r)=qq x:=by
 have:r=0\/r=1:=by omega
 rcases this with rfl | rfl
 ·exact⟨a,.inl rfl,rfl⟩
 ·exact⟨b,.inr rfl,rfl⟩
theorem iH{C:Calls}{a r:Sx}{env e1:aQ}{S S1:aB}(h:xs C a env S=qq (.nx e1,S1)):xs C (.seq a r) env S=xs C r e1 S1:=by simp only[lE,cN,h,oB]
theorem aDQ(ns:List Int)(k:Nat)(x:Int):aJ [qz] 0 1 ns k x []=[qq (cI ns k x)]:=rfl
theorem at1:At0 [qz] 0 1:=⟨by decide,by decide⟩
noncomputable abbrev s0(ns:List Int)(k:Nat)(x:Int):aB:=[qq (cI ns k x)]
section
variable {ns : List Int}{k : Nat}{x : Int}
theorem aDm(d m:Nat)(hm:0<m)(hm2:m<2^64)(hk:k<=100000):∃ (r:Nat) (x':Int),r<m/\cl fns (d+1) 5 [.loc 0,.d (.int m)] (s0 ns k x)=qq (.d (.int r),s0 ns (k+1) x'):=by
 obtain⟨r,x',hr,e⟩:=dR (rs:=[]) (ns:=ns) (k:=k) (x:=x) at1 d m hm hm2 hk;exact⟨r,x',hr,e⟩
theorem nF(d m:Nat){i:Int}(hi:i=(m:Nat))(hm:0<m)(hm2:m<2^64)(hk:k<=100000):∃ (r:Nat) (x':Int),r<m/\cl fns (d+1) 5 [.loc 0,.d (.int i)] (s0 ns k x)=qq (.d (.int r),s0 ns (k+1) x'):=by
 subst hi;exact aDm d m hm hm2 hk
end
section
variable {S : aB}{n p : Nat}{ns : List Int}{k : Nat}{x : Int}{rs : List Rw}
theorem aJH(h:At0 S n p)(d w:Nat)(hw:1<=w)(bY:w<=64)(hk:k<=98000):∃ (r k':Nat) (x':Int),r<2^w/\k'<=k+5/\cl fns (d+3) 8 [.loc n,.d (.int w)] (aJ S n p ns k x rs)=qq (.d (.int r),aJ S n p ns k' x' rs):=by
 have hw3:w<2^64:=by omega
 have hp:=rU w;obtain⟨r1,x1,h1,e1⟩:=fF (ns:=ns) (k:=k) (x:=x) (rs:=rs) h (d+1) 5 (i:=5) rfl (by decide) (by decide) (by omega)
 obtain⟨r2,x2,h2,e2⟩:=dR (ns:=ns) (k:=k+1) (x:=x1) (rs:=rs) h (d+1) w (by omega) hw3 (by omega)
 obtain⟨r3,x3,h3,e3⟩:=dR (ns:=ns) (k:=k+2) (x:=x2) (rs:=rs) h (d+1) w (by omega) hw3 (by omega)
 by_cases c:r1<4
 ·have d1:decide ((r1:Int)<4)=true:=dqT (by omega)
  obtain⟨y,hy,e⟩:=at4 (.int 0) (.int ((2^w-1:Nat):Int)) (.int ((2^r2:Nat):Int)) (.int ((2^r3-1:Nat):Int)) c;obtain⟨q,hq,rfl⟩:∃ q:Nat,q<2^w/\y=.int q:=by
   have l2:2^r2<2^w:=yDt (by decide) h2
   have l3:2^r3<2^w:=yDt (by decide) h3
   rcases hy with rfl | rfl | rfl | rfl
   ·exact⟨0,hp,rfl⟩
   ·exact⟨_,by omega,rfl⟩
   ·exact⟨_,l2,rfl⟩
   ·exact⟨_,by omega,rfl⟩
  refine⟨q,k+3,x3,hq,by omega,?_⟩
  rw[cR rfl (d+2) _ _ rfl];simp only[evs,cB,wH,e1,fY (show w<=100000 by omega),fG,wI,e2,fY (show r2<=100000 by omega),e3,fY (show r3<=100000 by omega),dC,d1,e,h.take]
 ·have d1:decide ((r1:Int)<4)=false:=dqF (by omega)
  obtain⟨r,k',x',hr,hk',e⟩:=aFw (ns:=ns) (k:=k+3) (x:=x3) (rs:=rs) h d w bY (by omega)
  refine⟨r,k',x',hr,by omega,?_⟩
  rw[cR rfl (d+2) _ _ rfl];simp only[evs,cB,wH,e1,fY (show w<=100000 by omega),fG,wI,e2,fY (show r2<=100000 by omega),e3,fY (show r3<=100000 by omega),dC,d1,e,h.take]
end
theorem yG:∀ L:List Nat,yCb (L.map nD)=true
 | []=>rfl
 | a::r=>by
   have ih:=yG r;simp only[yAm,yCb,ih,Bool.and_true];rfl
theorem wJ:∀ L:List Nat,yCd (L.map nD)=0
 | []=>rfl
 | a::r=>by
   have ih:=wJ r;simp only[yAm,yCd,ih];rfl
theorem xV(L:List Nat):aZ .NotEq (.list (L.map nD)) (.list [])=qq (.bool (!L.isEmpty)):=by
 have h1:(yAw (L.map nD)).canLay0=true:=yG L;have h2:(yAw (L.map nD)).depth<=60:=by
  show yCd (L.map nD)+1<=60;rw[wJ];decide
 unfold aZ jT;simp only[];rw[if_pos ⟨h1,rfl,h2⟩];cases L<;>rfl
theorem aIe(L:List Nat):aZ .Eq (.list (L.map nD)) (.list [])=qq (.bool L.isEmpty):=by
 have h1:(yAw (L.map nD)).canLay0=true:=yG L;have h2:(yAw (L.map nD)).depth<=60:=by
  show yCd (L.map nD)+1<=60;rw[wJ];decide
 unfold aZ jT;simp only[];rw[if_pos ⟨h1,rfl,h2⟩];cases L<;>rfl
theorem dU(r:Rw):bC r.d (.int 1)=qq (.int r.w):=pC (xs:=.str r.wd.s::nD r.w::r.args.map nD) (k:=1) rfl
noncomputable def wdE(a b:Wd):Bool:=match aZ .Eq (.str a.s) (.str b.s) with
 | some (.bool c)=>c==decide (a=b)
 | _=>false
theorem aH0(a b:Wd):wdE a b=true:=by
 have h:∀ i:Fin 19,∀ j:Fin 19,wdE (Wd.ofNat i) (Wd.ofNat j)=true:=by decide +kernel
 have e:∀ a:Wd,∃ i:Fin 19,Wd.ofNat i=a:=λ a=>⟨⟨a.ctorIdx,by cases a<;>decide⟩,Wd.ofNat_ctorIdx a⟩
 obtain⟨i,rfl⟩:=e a;obtain⟨j,rfl⟩:=e b;exact h i j
theorem fK(a b:Wd):aZ .Eq (.str a.s) (.str b.s)=qq (.bool (decide (a=b))):=by
 have h:=aH0 a b;unfold wdE at h
 split at h
 ·rename_i c e;rw[e,eq_of_beq h]
 ·cases h
theorem rV(a:Wd):aZ .In (.str a.s) (.tuple [.str "left",.str "right",.str "slide"])=qq (.bool (decide (a=.left\/a=.right\/a=.slide))):=by cases a<;>rfl
theorem aJx(a:Wd):aZ .In (.str a.s) (.tuple [.str "cut",.str "wide",.str "sign"])=qq (.bool (decide (a=.cut\/a=.wide\/a=.sign))):=by cases a<;>rfl
theorem sA(a:Wd):aZ .In (.str a.s) (.tuple [.str "same",.str "less",.str "under"])=qq (.bool (decide (a=.same\/a=.less\/a=.under))):=by cases a<;>rfl
theorem bV{C:Calls}{c:E}{t bG:Sx}{env:aQ}{S S1:aB}{r:Option (Fl×aB)}(h:tv C c env S=qq (false,S1))(k:xs C bG env S1=r):xs C (.seq (.ifs c t .skip) bG) env S=r:=by
 rw[<- k];simp only[lE,pI,aBV,cN,kX,lO,h,oB,yAx,if_false]
theorem cL{C:Calls}{c:E}{t e bG:Sx}{env:aQ}{S S1 S2:aB}{w:W}(h:tv C c env S=qq (true,S1))(k:xs C t env S1=qq (.rt w,S2)):xs C (.seq (.ifs c t e) bG) env S=qq (.rt w,S2):=by
 simp only[lE,pI,cN,kX,h,oB,if_true,k]
theorem bZ{C:Calls}{e:E}{bG:Sx}{env:aQ}{S S1:aB}{w:W}(h:ev C e env S=qq (w,S1)):xs C (.seq (.ret e) bG) env S=qq (.rt w,S1):=by
 simp only[lE,aC4,cN,iR,h,oB]
theorem cG{C:Calls}{i:Nat}{e:E}{bG:Sx}{env aV:aQ}{S S1:aB}{w:W}{r:Option (Fl×aB)}(h:ev C e env S=qq (w,S1))(he:env.set i (qq w)=aV)(k:xs C bG aV S1=r):xs C (.seq (.set i e) bG) env S=r:=by
 subst he;rw[<- k];simp only[lE,aCI,cN,dY,h,oB]
theorem kJ{fs:List Fn}{f:Nat}{F:Fn}(h:fs[f]? = qq F)(d:Nat){ws:List W}{env:aQ}{S S1:aB}{x:D}(hw:ws.length=F.np)(he:ws.map qq++yAd (F.N.length-ws.length) qz=env)(hS:S1.take S.length=S1)(k:xs (aG fs d) F.body env S=qq (.rt (.d x),S1)):cl fs (d+1) f ws S=qq (.d x,S1):=by
 subst he;rw[cR h d ws S hw];simp only[cB,k,oB,iU,hS]
theorem gC{C:Calls}{i:Nat}{x:Str}{env:aQ}{S:aB}{a:D}{b:Bool}(h:env[i]? = qq (qq (.d a)))(hc:aZ .Eq a (.str x)=qq (.bool b)):tv C (.cmp .Eq (.var i) (.str x)) env S=qq (b,S):=by
 simp only[evs,h,hc]
theorem iJ{C:Calls}{i:Nat}{e:E}{env:aQ}{S:aB}{a t:D}{b:Bool}(h:env[i]? = qq (qq (.d a)))(he:ev C e env S=qq (.d t,S))(hc:aZ .In a t=qq (.bool b)):tv C (.cmp .In (.var i) e) env S=qq (b,S):=by
 simp only[evs,h,he,hc]
noncomputable def eN:Sx->Sx
 | .seq _ b=>b
 | x=>x
noncomputable def hdS:Sx->Sx
 | .seq a _=>a
 | x=>x
theorem eS{C:Calls}{c:E}{a b:Sx}{env:aQ}{S S1:aB}{r:Option (Fl×aB)}(h:tv C c env S=qq (true,S1))(k:xs C a env S1=r):xs C (.ifs c a b) env S=r:=by
 rw[<- k];simp only[pI,kX,h,oB,if_true]
theorem sX{C:Calls}{c:E}{a b:Sx}{env:aQ}{S S1:aB}{r:Option (Fl×aB)}(h:tv C c env S=qq (false,S1))(k:xs C b env S1=r):xs C (.ifs c a b) env S=r:=by
 rw[<- k];simp only[pI,kX,h,oB,yAx,if_false]
theorem eR{C:Calls}{a b:Sx}{env e1:aQ}{S S1:aB}{r:Option (Fl×aB)}(h:xs C a env S=qq (.nx e1,S1))(k:xs C b e1 S1=r):xs C (.seq a b) env S=r:=by
 rw[iH h];exact k
theorem yQ{C:Calls}{a:Sx}{env e1:aQ}{S S1:aB}(h:xs C a env S=qq (.nx e1,S1)):xs C (.seq a .skip) env S=qq (.nx e1,S1):=eR h rfl
theorem fL{C:Calls}{i:Nat}{e:E}{env:aQ}{S S1:aB}{w:W}(h:ev C e env S=qq (w,S1)):xs C (.seq (.set i e) .skip) env S=qq (.nx (env.set i (qq w)),S1):=cG h rfl rfl
theorem qV{C:Calls}{s:Sx}{c:E}{a b:Sx}{env r:aQ}{S S1:aB}(hs:s=.ifs c a (.seq b .skip))(h:tv C c env S=qq (false,S))(k:xs C b env S=qq (.nx r,S1)):xs C s env S=qq (.nx r,S1):=by
 rw[hs];exact sX h (yQ k)
section
variable {S : aB}{n p : Nat}{ns : List Int}{k : Nat}{x : Int}{rs : List Rw}
theorem sI{a:Nat}{r:Rw}(h:rs[a]? = qq r):bC (.list (rs.map Rw.d)) (.int a)=qq r.d:=mX (by rw[xAb,h];rfl)
theorem eQ(rs:List Rw):(rs.map Rw.d).length=rs.length:=yAg ..
theorem aCg(h:At S n p)(hl:rs.length<=1000)(r:Rw):fS (aJ S n p ns k x rs) (.loc p) (.d r.d)=qq (.d .none,aJ S n p ns k x (rs++[r])):=by
 unfold fS;simp only[h.rows];rw[if_pos (by rw[eQ,zw];omega),h.putR]
structure Opd(rs aI:List Rw)(a w:Nat):Prop where
 ext:∃ t,aI=rs++t/\t.length<=1
 ok:cM [] aI
 wd:(aI.map (·.w))[a]? = qq w
theorem kR{a:Nat}{r:Rw}(h:rs[a]? = qq r):(rs.map (·.w))[a]? = qq r.w:=by rw[xAb,h];rfl
theorem aCY(h:At S n p)(d a w:Nat)(hr:cM [] rs)(ha:a<rs.length)(hl:rs.length<=100)(hw:1<=w)(bY:w<=64)(hk:k<=99000) :
 ∃ (a' k':Nat) (x':Int) (aI:List Rw),Opd rs aI a' w/\k'<=k+1/\cl fns (d+2) 9 [.loc n,.loc p,.d (.int a),.d (.int w)] (aJ S n p ns k x rs)=qq (.d (.int a'),aJ S n p ns k' x' aI):=by
 obtain⟨r,hra⟩:∃ r,rs[a]? = qq r:=⟨rs[a],yAa ha⟩;have ga:=sI hra
 by_cases c:r.w=w
 ·refine⟨a,k,x,rs,⟨⟨[],by simp,by simp⟩,hr,by rw[kR hra,c]⟩,by omega,?_⟩
  rw[cR rfl (d+1) _ _ rfl];simp only[evs,cB,oO,h.rows,ga,dU,bT,c,beq_self_eq_true,h.take]
 ·have c':(((r.w:Nat):Int)==((w:Nat):Int))=false:=by
   rw[beq_eq_false_iff_ne];intro z;exact c (by exact_mod_cast z)
  obtain⟨q,x',hq,e⟩:=fF (ns:=ns) (k:=k) (x:=x) (rs:=rs) h.toAt0 d 2 (i:=2) rfl (by decide) (by decide) (by omega)
  have bB:∀ wd:Wd,gG ([]++rs.map (·.w)) ⟨wd,w,[a]⟩->Opd rs (rs++[⟨wd,w,[a]⟩]) rs.length w:=λ wd ok=>⟨⟨_,rfl,yAc _⟩,vM hr ok,by simp⟩
  have len1:∀ r:Rw,((rs++[r]).length:Int)-1=((rs.length:Nat):Int):=λ r=>by simp
  have ap:∀ wd:Wd,fS (aJ S n p ns (k+1) x' rs) (.loc p) (.d (.tuple [.str wd.s,.int w,.int a]))=qq (.d .none,aJ S n p ns (k+1) x' (rs++[⟨wd,w,[a]⟩])):=λ wd=>aCg h (by omega) ⟨wd,w,[a]⟩
  by_cases c2:w<r.w
  ·have d2:decide (((w:Nat):Int)<((r.w:Nat):Int))=true:=dqT (by omega)
   refine⟨rs.length,k+1,x',_,bB .cut ⟨hw,bY,r.w,by simpa using kR hra,yDk c2⟩,by omega,?_⟩
   have ap':=ap .cut;simp only[Wd.s] at ap';have:q=0\/q=1:=by omega
   rw[cR rfl (d+1) _ _ rfl];rcases this with rfl | rfl
   all_goals simp only[evs,cB,oO,h.rows,ga,dU,bT,c',e,zF,yV,iI,d2,jX,ap',cH,cJ,eQ,fG,len1,h.take]
  ·have d2:decide (((w:Nat):Int)<((r.w:Nat):Int))=false:=dqF (by omega)
   have:q=0\/q=1:=by omega
   rcases this with rfl | rfl
   ·refine⟨rs.length,k+1,x',_,bB .wide ⟨hw,bY,r.w,by simpa using kR hra,yDp c2⟩,by omega,?_⟩
    have ap':=ap .wide;simp only[Wd.s] at ap';rw[cR rfl (d+1) _ _ rfl];simp only[evs,cB,oO,h.rows,ga,dU,bT,c',e,zF,iI,d2,jX,ap',cH,cJ,eQ,fG,len1,h.take]
   ·refine⟨rs.length,k+1,x',_,bB .sign ⟨hw,bY,r.w,by simpa using kR hra,yDp c2⟩,by omega,?_⟩
    have ap':=ap .sign;simp only[Wd.s] at ap';rw[cR rfl (d+1) _ _ rfl];simp only[evs,cB,oO,h.rows,ga,dU,bT,c',e,yV,iI,d2,jX,ap',cH,cJ,eQ,fG,len1,h.take]
end
section
variable {S : aB}{n p : Nat}{ns : List Int}{k : Nat}{x : Int}{rs : List Rw}
theorem vU:∀ {rs:List Rw}{ws:List Nat}{a:Nat}{r:Rw},cM ws rs->rs[a]? = qq r->1<=r.w/\r.w<=64
 | q::rs,ws,0,r,⟨h1,_⟩,e=>by
   have e':q=r:=by simpa using e
   subst e';exact⟨h1.1,h1.2.1⟩
 | q::rs,ws,a+1,r,⟨_,h2⟩,e=>vU h2 (by simpa using e)
 | [],_,_,_,_,e=>by simp at e
noncomputable def oV:Sx:=match oH with
 | .seq _ r=>r
 | _=>.skip
theorem oN(h:At S n p)(d w:Nat)(hr:cM [] rs)(h0:0<rs.length)(hl:rs.length<=100)(hw:1<=w)(bY:w<=64)(hk:k<=98000) :
 ∃ (a k':Nat) (x':Int) (aI:List Rw),Opd rs aI a w/\k'<=k+3/\cl fns (d+3) 10 [.loc n,.loc p,.d (.int w)] (aJ S n p ns k x rs)=qq (.d (.int a),aJ S n p ns k' x' aI):=by
 have hc:dW (.one 4) (lv (aG fns (d+2)) (.rng1 (.blt .len (.cons (.var 1) .nil)))) (tv (aG fns (d+2)) (.cmp .Eq (.ix (.ix (.var 1) (.var 4)) (.int 1)) (.var 2))) (ev (aG fns (d+2)) (.var 4)) [qq (.loc n),qq (.loc p),qq (.d (.int w)),qz,qz] (aJ S n p ns k x rs)
  = qq (((yAy rs.length).filter λ j=>(rs.map (·.w))[j]?==qq w).map nD,aJ S n p ns k x rs):=by
  refine rW nD nD (λ j=>(rs.map (·.w))[j]?==qq w) (yAy rs.length) ?_ (by rw[List.length_range,zw];omega) (λ j hj=>?_)
  ·simp only[pO,oW];refine mH ?_ (by omega)
   simp only[evs,h.rows,cH,cJ,eQ]
  ·have hj':j<rs.length:=by simpa using hj
   obtain⟨r,hrj⟩:∃ r,rs[j]? = qq r:=⟨rs[j],yAa hj'⟩;have hb:((rs.map (·.w))[j]?==qq w)=(((r.w:Nat):Int)==((w:Nat):Int)):=by
    rw[kR hrj,Bool.eq_iff_iff];simp;omega
   refine⟨_,rfl,λ aW=>?_,λ _ aW=>?_⟩
   ·rw[hb];simp only[evs,clr,yAi,yAq,nD,h.rowsT,sI hrj,dU,bT]
   ·simp only[evs,clr,yAi,yAq,nD]
 generalize hL:(yAy rs.length).filter (λ j=>(rs.map (·.w))[j]?==qq w)=L at hc
 have hmem:∀ a∈L,(rs.map (·.w))[a]? = qq w:=λ a ha=>by
  rw[<- hL] at ha;simpa using (List.mem_filter.mp ha).2
 have bS:L.length<=rs.length:=by
  rw[<- hL];have:=List.length_filter_le (λ j=>(rs.map (·.w))[j]?==qq w) (yAy rs.length)
  simpa using this
 have set:xs (aG fns (d+2)) (.setC false 3 (.comp (.var 4) (.one 4) (.rng1 (.blt .len (.cons (.var 1) .nil))) (.cmp .Eq (.ix (.ix (.var 1) (.var 4)) (.int 1)) (.var 2)))) [qq (.loc n),qq (.loc p),qq (.d (.int w)),qz,qz] (aJ S n p ns k x rs)=qq (.nx [qq (.loc n),qq (.loc p),qq (.d (.int w)),qq (.d (.list (L.map nD))),qz],aJ S n p ns k x rs):=by
  simp only[aCr,dY,dF];show((dW _ _ _ _ _ _).bind _).bind _=_;rw[hc];simp only[evs]
 have dG:∀ R,xs (aG fns (d+2)) oV [qq (.loc n),qq (.loc p),qq (.d (.int w)),qq (.d (.list (L.map nD))),qz] (aJ S n p ns k x rs)=R->cl fns (d+3) 10 [.loc n,.loc p,.d (.int w)] (aJ S n p ns k x rs)=R.bind λ q=>match q.1 with
  | .rt w=>iU (aJ S n p ns k x rs).length q.2 w
  | .nx _=>qq (.d .none,q.2.take (aJ S n p ns k x rs).length)
  | _=>qz:=λ R hR=>by
  rw[cR rfl (d+2) _ _ rfl,<- hR];show((cN (xs (aG fns (d+2)) (.setC false 3 (.comp (.var 4) (.one 4) (.rng1 (.blt .len (.cons (.var 1) .nil))) (.cmp .Eq (.ix (.ix (.var 1) (.var 4)) (.int 1)) (.var 2))))) (xs (aG fns (d+2)) oV)) [qq (.loc n),qq (.loc p),qq (.d (.int w)),qz,qz] (aJ S n p ns k x rs)).bind _=_;simp only[cN,set,oB]
  all_goals rfl
 rw[dG _ rfl];clear dG set hc;have hr64:rs.length<2^64:=by omega
 have nn:=xV L;have ll:(L.map nD).length=L.length:=yAg ..;rcases yBf L.isEmpty with hE | hE
 ·rw[hE] at nn;obtain⟨q,x1,hq,e1⟩:=dR (ns:=ns) (k:=k) (x:=x) (rs:=rs) h.toAt0 (d+1) rs.length h0 hr64 (by omega)
  obtain⟨a,k',x',aI,ho,hk',e2⟩:=aCY (ns:=ns) (k:=k+1) (x:=x1) h d q w hr hq hl hw bY (by omega)
  refine⟨a,k',x',aI,ho,by omega,?_⟩
  simp only[evs,oV,oH,nn,h.rows,cH,cJ,eQ,e1,e2,h.take]
 ·rw[hE] at nn;have hL0:0<L.length:=by
   cases L with
   | nil=>cases hE
   | cons b r=>simp
  obtain⟨q4,x1,hq4,e1⟩:=fF (ns:=ns) (k:=k) (x:=x) (rs:=rs) h.toAt0 (d+1) 4 (i:=4) rfl (by decide) (by decide) (by omega)
  by_cases c:0<q4
  ·have d1:decide ((0:Int)<(q4:Int))=true:=dqT (by omega)
   obtain⟨q,x2,hq,e2⟩:=dR (ns:=ns) (k:=k+1) (x:=x1) (rs:=rs) h.toAt0 (d+1) L.length hL0 (by omega) (by omega)
   have e3:((L.length:Nat):Int)-1-(q:Int)=((L.length-1-q:Nat):Int):=by omega
   obtain⟨a,ha⟩:∃ a,L[L.length-1-q]? = qq a:=⟨L[L.length-1-q],yAa (by omega)⟩
   have ga:bC (.list (L.map nD)) (.int ((L.length-1-q:Nat):Int))=qq (.int a):=mX (by rw[xAb,ha];rfl)
   refine⟨a,k+2,x2,rs,⟨⟨[],by simp,by simp⟩,hr,hmem a (xAi ha)⟩,by omega,?_⟩
   simp only[evs,oV,oH,nn,e1,iI,d1,cH,cJ,ll,fG,e2,e3,ga,h.take]
  ·have d1:decide ((0:Int)<(q4:Int))=false:=dqF (by omega)
   obtain⟨q,x2,hq,e2⟩:=dR (ns:=ns) (k:=k+1) (x:=x1) (rs:=rs) h.toAt0 (d+1) rs.length h0 hr64 (by omega)
   obtain⟨a,k',x',aI,ho,hk',e3⟩:=aCY (ns:=ns) (k:=k+2) (x:=x2) h d q w hr hq hl hw bY (by omega)
   refine⟨a,k',x',aI,ho,by omega,?_⟩
   simp only[evs,oV,oH,nn,e1,iI,d1,h.rows,cH,cJ,eQ,e2,e3,h.take]
end
section
variable {S : aB}{n p : Nat}{ns : List Int}{k : Nat}{x : Int}{rs : List Rw}
theorem aFQ(h:At S n p)(d:Nat)(wd:Wd)(rL:wd=.cut\/wd=.wide\/wd=.sign)(hr:cM [] rs)(h0:0<rs.length)(hl:rs.length<=100)(hk:k<=98000) :
 ∃ (r:Rw) (x':Int),gG (rs.map (·.w)) r/\cl fns (d+2) 11 [.loc n,.loc p,.d (.str wd.s)] (aJ S n p ns k x rs)=qq (.d r.d,aJ S n p ns (k+2) x' rs):=by
 obtain⟨a,x1,ha,e1⟩:=dR (ns:=ns) (k:=k) (x:=x) (rs:=rs) h.toAt0 d rs.length h0 (by omega) (by omega)
 obtain⟨r,hra⟩:∃ r,rs[a]? = qq r:=⟨rs[a],yAa ha⟩;obtain⟨oE,bY⟩:=vU hr hra;have ga:=sI hra;have cw:=fK wd .cut;rw[show Wd.cut.s=("cut" : Str) from rfl] at cw
 have e65:(65:Int)-(r.w:Int)=((65-r.w:Nat):Int):=by omega
 by_cases c:wd=.cut
 ·subst c;obtain⟨q,x2,hq,e2⟩:=dR (ns:=ns) (k:=k+1) (x:=x1) (rs:=rs) h.toAt0 d r.w (by omega) (by omega) (by omega)
  have a1:(1:Int)+(q:Int)=((1+q:Nat):Int):=by omega
  refine⟨⟨.cut,1+q,[a]⟩,x2,⟨by show 1<=1+q;omega,by show 1+q<=64;omega,r.w,kR hra,by show 1+q<=r.w;omega⟩,?_⟩
  rw[cR rfl (d+1) _ _ rfl];simp only[evs,cB,vB,h.rows,cH,cJ,eQ,e1,ga,dU,cw,decide_true,e2,cV,a1,h.take];rfl
 ·obtain⟨q,x2,hq,e2⟩:=dR (ns:=ns) (k:=k+1) (x:=x1) (rs:=rs) h.toAt0 d (65-r.w) (by omega) (by omega) (by omega)
  have a1:(r.w:Int)+(q:Int)=((r.w+q:Nat):Int):=by omega
  rw[dqF c] at cw;have ok:gG (rs.map (·.w)) ⟨wd,r.w+q,[a]⟩:=by
   refine⟨by show 1<=r.w+q;omega,by show r.w+q<=64;omega,?_⟩
   rcases rL with rfl | rfl | rfl
   ·exact absurd rfl c
   ·exact⟨r.w,kR hra,by show r.w<=r.w+q;omega⟩
   ·exact⟨r.w,kR hra,by show r.w<=r.w+q;omega⟩
  refine⟨⟨wd,r.w+q,[a]⟩,x2,ok,?_⟩;rw[cR rfl (d+1) _ _ rfl];simp only[evs,cB,vB,h.rows,cH,cJ,eQ,e1,ga,dU,cw,fG,e65,e2,cV,a1,h.take];rfl
theorem Opd.len{rs aI:List Rw}{a w:Nat}(o:Opd rs aI a w):rs.length<=aI.length/\aI.length<=rs.length+1:=by
 obtain⟨t,rfl,h⟩:=o.ext;simp;omega
theorem Opd.keep{rs aI:List Rw}{a w b v:Nat}(o:Opd rs aI a w)(h:(rs.map (·.w))[b]? = qq v):(aI.map (·.w))[b]? = qq v:=by
 obtain⟨t,rfl,_⟩:=o.ext;rw[yBm,xAj (gIm h).1];exact h
theorem aF9(h:At S n p)(d w:Nat)(wd:Wd)(rL:wd=.left\/wd=.right\/wd=.slide)(hr:cM [] rs)(h0:0<rs.length)(hl:rs.length<=90)(hw:1<=w)(bY:w<=64)(hk:k<=97000) :
 ∃ (r:Rw) (k':Nat) (x':Int) (aI:List Rw),cM [] aI/\rs.length<=aI.length/\aI.length<=rs.length+1/\gG (aI.map (·.w)) r/\k'<=k+6/\cl fns (d+4) 12 [.loc n,.loc p,.d (.str wd.s),.d (.int w)] (aJ S n p ns k x rs)=qq (.d r.d,aJ S n p ns k' x' aI):=by
 obtain⟨q1,x1,h1,e1⟩:=dR (ns:=ns) (k:=k) (x:=x) (rs:=rs) h.toAt0 (d+2) w (by omega) (by omega) (by omega)
 obtain⟨q2,x2,h2,e2⟩:=fF (ns:=ns) (k:=k+1) (x:=x1) (rs:=rs) h.toAt0 (d+2) 64 (i:=64) rfl (by decide) (by decide) (by omega)
 obtain⟨q3,x3,h3,e3⟩:=fF (ns:=ns) (k:=k+2) (x:=x2) (rs:=rs) h.toAt0 (d+2) 4 (i:=4) rfl (by decide) (by decide) (by omega)
 obtain⟨a,k',x',aI,ho,hk',e4⟩:=oN (ns:=ns) (k:=k+3) (x:=x3) h d w hr h0 (by omega) hw bY (by omega)
 have bB:∀ kk:Nat,kk<64->gG (aI.map (·.w)) ⟨wd,w,[a,kk]⟩:=λ kk hkk=>by
  refine⟨hw,bY,?_⟩;rcases rL with rfl | rfl | rfl<;>exact⟨ho.wd,hkk⟩
 have hq:(q3:Int)/3=((0:Nat):Int)\/(q3:Int)/3=((1:Nat):Int):=by omega
 rcases hq with hq | hq
 ·refine⟨⟨wd,w,[a,q1]⟩,k',x',aI,ho.ok,ho.len.1,ho.len.2,bB q1 (by omega),by omega,?_⟩
  rw[cR rfl (d+3) _ _ rfl];simp only[evs,cB,vN,e1,e2,e3,kF (i:=(q3:Int)) (j:=3) (by decide) (by decide),hq,zF,e4,h.take]
  rfl
 ·refine⟨⟨wd,w,[a,q2]⟩,k',x',aI,ho.ok,ho.len.1,ho.len.2,bB q2 (by omega),by omega,?_⟩
  rw[cR rfl (d+3) _ _ rfl];simp only[evs,cB,vN,e1,e2,e3,kF (i:=(q3:Int)) (j:=3) (by decide) (by decide),hq,yV,e4,h.take]
  rfl
noncomputable def pM(wd:Wd)(w:Nat):Nat:=if (wd=.same\/wd=.less\/wd=.under) then 1 else w
theorem aCb(h:At S n p)(d w:Nat)(wd:Wd)(hr:cM [] rs)(h0:0<rs.length)(hl:rs.length<=90)(hw:1<=w)(bY:w<=64)(hk:k<=97000) :
 ∃ (a b k':Nat) (x':Int) (aI:List Rw),cM [] aI/\(∃ t,aI=rs++t/\t.length<=2)/\(aI.map (·.w))[a]? = qq w/\(aI.map (·.w))[b]? = qq w/\k'<=k+6 /\
  cl fns (d+4) 13 [.loc n,.loc p,.d (.str wd.s),.d (.int w)] (aJ S n p ns k x rs)=qq (.d (.tuple [.str wd.s,.int (pM wd w:Nat),.int a,.int b]),aJ S n p ns k' x' aI):=by
 obtain⟨a,k1,x1,rs1,o1,hk1,e1⟩:=oN (ns:=ns) (k:=k) (x:=x) h d w hr h0 (by omega) hw bY (by omega)
 have l1:=o1.len;obtain⟨b,k2,x2,rs2,o2,hk2,e2⟩:=oN (ns:=ns) (k:=k1) (x:=x1) h d w o1.ok (by omega) (by omega) hw bY (by omega)
 refine⟨a,b,k2,x2,rs2,o2.ok,?_,o2.keep o1.wd,o2.wd,by omega,?_⟩
 ·obtain⟨t1,rfl,ht1⟩:=o1.ext;obtain⟨t2,rfl,ht2⟩:=o2.ext;exact⟨t1++t2,by simp,by simp;omega⟩
 ·rw[cR rfl (d+3) _ _ rfl]
  by_cases c:wd=.same\/wd=.less\/wd=.under
  ·have is:=sA wd;rw[dqT c] at is;have pw:pM wd w=1:=if_pos c;simp only[evs,cB,vW,e1,e2,is,pw,h.take];rfl
  ·have is:=sA wd;rw[dqF c] at is;have pw:pM wd w=w:=if_neg c;simp only[evs,cB,vW,e1,e2,is,pw,h.take]
end
noncomputable def cO(k:Nat):Sx:=match gQ with
 | .seq a1 (.seq a2 (.seq a3 (.seq a4 (.seq a5 (.seq a6 (.seq a7 _))))))=>[a1,a2,a3,a4,a5,a6,a7].getD k .skip
 | _=>.skip
theorem aFW:gQ=.seq (cO 0) (.seq (cO 1) (.seq (cO 2) (.seq (cO 3) (.seq (cO 4) (.seq (cO 5) (.seq (cO 6) .skip)))))):=rfl
theorem aKl(a b c e f:D):bW .Add (.tuple [a,b,c]) (.tuple [e,f])=qq (.tuple [a,b,c,e,f]):=by
 show(if [a,b,c].isEmpty=false/\[a,b,c].length+[e,f].length<=qk then qq (yCy ([a,b,c]++[e,f])) else qz)=_
 rw[if_pos ⟨rfl,by rw[zw];show 3+2<=16777216;decide⟩]
 rfl
theorem aLf(a b c e:D):dL [a,b,c,e] (qq 2) qz=[c,e]:=rfl
theorem aJT:(HT.sIx 4 0 (qq 2)=0/\HT.sIx 4 4 qz=4)=False:=by simp[HT.sIx]
section
variable {S : aB}{n p : Nat}{ns : List Int}{k : Nat}{x : Int}{rs : List Rw}
theorem aHK(h:At S n p)(d w:Nat)(wd:Wd)(l2 e5 e6:Option W)(hr:cM [] rs)(h0:0<rs.length)(hl:rs.length<=80)(hw:1<=w)(bY:w<=64)(hk:k<=96000) :
 ∃ (r:Rw) (k':Nat) (x':Int) (aI:List Rw) (e6':Option W),cM [] aI/\rs.length<=aI.length/\aI.length<=rs.length+3/\gG (aI.map (·.w)) r/\k'<=k+12 /\
  xs (aG fns (d+4)) (cO 5) [qq (.loc n),qq (.loc p),l2,qq (.d (.str wd.s)),qq (.d (.int w)),e5,e6] (aJ S n p ns k x rs)=qq (.nx [qq (.loc n),qq (.loc p),l2,qq (.d (.str wd.s)),qq (.d (.int w)),qq (.d r.d),e6'],aJ S n p ns k' x' aI):=by
 have c1:aZ .Eq (.str wd.s) (.str "in")=qq (.bool (decide (wd=.in))):=fK wd .in
 by_cases k1:wd=.in
 ·subst k1;refine⟨⟨.in,w,[]⟩,k,x,rs,e6,hr,by omega,by omega,⟨hw,bY,True.intro⟩,by omega,?_⟩
  exact eS (gC rfl c1) (fL rfl)
 rw[dqF k1] at c1;have q1:=λ {r S1}=>qV (C:=aG fns (d+4)) (s:=cO 5) (env:=[qq (.loc n),qq (.loc p),l2,qq (.d (.str wd.s)),qq (.d (.int w)),e5,e6]) (S:=aJ S n p ns k x rs) (r:=r) (S1:=S1) rfl (gC rfl c1)
 clear c1;have c2:aZ .Eq (.str wd.s) (.str "num")=qq (.bool (decide (wd=.num))):=fK wd .num
 by_cases k2:wd=.num
 ·subst k2;obtain⟨q,k',x',hq,hk',e⟩:=aJH (ns:=ns) (k:=k) (x:=x) (rs:=rs) h.toAt0 (d+1) w hw bY (by omega)
  refine⟨⟨.num,w,[q]⟩,k',x',rs,e6,hr,by omega,by omega,⟨hw,bY,hq⟩,by omega,q1 (eS (gC rfl c2) (fL ?_))⟩
  simp only[evs,e];rfl
 rw[dqF k2] at c2;have q2:=λ {r S1} h=>q1 (qV (r:=r) (S1:=S1) rfl (gC rfl c2) h)
 clear c2;have c3:aZ .Eq (.str wd.s) (.str "not")=qq (.bool (decide (wd=.not))):=fK wd .not
 by_cases k3:wd=.not
 ·subst k3;obtain⟨a,k',x',aI,o,hk',e⟩:=oN (ns:=ns) (k:=k) (x:=x) h (d+1) w hr h0 (by omega) hw bY (by omega)
  have l:=o.len;refine⟨⟨.not,w,[a]⟩,k',x',aI,e6,o.ok,by omega,by omega,⟨hw,bY,o.wd⟩,by omega,q2 (eS (gC rfl c3) (fL ?_))⟩
  simp only[evs,e];rfl
 rw[dqF k3] at c3;have q3:=λ {r S1} h=>q2 (qV (r:=r) (S1:=S1) rfl (gC rfl c3) h)
 clear c3;have c4:=rV wd
 by_cases k4:wd=.left\/wd=.right\/wd=.slide
 ·rw[dqT k4] at c4;obtain⟨r,k',x',aI,ok,l1,l2,okr,hk',e⟩:=aF9 (ns:=ns) (k:=k) (x:=x) h d w wd k4 hr h0 (by omega) hw bY (by omega)
  refine⟨r,k',x',aI,e6,ok,by omega,by omega,okr,by omega,q3 (eS (iJ rfl rfl c4) (fL ?_))⟩
  simp only[evs,e]
 rw[dqF k4] at c4;have q4:=λ {r S1} h=>q3 (qV (r:=r) (S1:=S1) rfl (iJ rfl rfl c4) h)
 clear c4;have c5:=aJx wd
 by_cases k5:wd=.cut\/wd=.wide\/wd=.sign
 ·rw[dqT k5] at c5;obtain⟨r,x',okr,e⟩:=aFQ (ns:=ns) (k:=k) (x:=x) h (d+2) wd k5 hr h0 (by omega) (by omega)
  refine⟨r,k+2,x',rs,e6,hr,by omega,by omega,okr,by omega,q4 (eS (iJ rfl rfl c5) (fL ?_))⟩
  simp only[evs,e]
 rw[dqF k5] at c5;have q5:=λ {r S1} h=>q4 (qV (r:=r) (S1:=S1) rfl (iJ rfl rfl c5) h)
 clear c5;have c6:aZ .Eq (.str wd.s) (.str "pick")=qq (.bool (decide (wd=.pick))):=fK wd .pick
 by_cases k6:wd=.pick
 ·subst k6;obtain⟨c,k1',x1,rs1,o1,hk1,e1⟩:=oN (ns:=ns) (k:=k) (x:=x) h (d+1) 1 hr h0 (by omega) (by decide) (by decide) (by omega)
  have l1:=o1.len;obtain⟨a,b,k',x',aI,ok,⟨t,rfl,ht⟩,wa,wb,hk',e2⟩:=aCb (ns:=ns) (k:=k1') (x:=x1) h d w .pick o1.ok (by omega) (by omega) hw bY (by omega)
  have wc:((rs1++t).map (·.w))[c]? = qq 1:=by
   rw[yBm,xAj (gIm o1.wd).1];exact o1.wd
  rw[show((1:Nat):Int)=1 from rfl] at e1
  refine⟨⟨.pick,w,[c,a,b]⟩,k',x',rs1++t,qq (.d (.int c)),ok,by simp;omega,by simp;omega,⟨hw,bY,wc,wa,wb⟩,by omega,q5 (eS (gC rfl c6) (cG (S1:=aJ S n p ns k1' x1 rs1) (w:=.d (.int c)) ?_ rfl (fL ?_)))⟩
  ·simp only[evs,e1]
  ·simp only[evs,e2,gY,fM,kA,aJT,aLf,aKl];rfl
 rw[dqF k6] at c6;obtain⟨a,b,k',x',aI,ok,⟨t,rfl,ht⟩,wa,wb,hk',e2⟩:=aCb (ns:=ns) (k:=k) (x:=x) h d w wd hr h0 (by omega) hw bY (by omega)
 have okr:gG ((rs++t).map (·.w)) ⟨wd,pM wd w,[a,b]⟩:=by
  clear q1 q2 q3 q4 q5 c6 e2;cases wd
  all_goals first | exact⟨hw,bY,wa,wb⟩ | exact⟨yAc 1,oqT rfl,rfl,w,wa,wb⟩ | exact absurd rfl k1 | exact absurd rfl k2 | exact absurd rfl k3 | exact absurd rfl k6 | exact absurd (.inl rfl) k4 | exact absurd (.inr (.inl rfl)) k4 | exact absurd (.inr (.inr rfl)) k4 | exact absurd (.inl rfl) k5 | exact absurd (.inr (.inl rfl)) k5 | exact absurd (.inr (.inr rfl)) k5
 refine⟨⟨wd,pM wd w,[a,b]⟩,k',x',rs++t,e6,ok,by simp,by simp;omega,okr,by omega,q5 (sX (gC rfl c6) (fL ?_))⟩
 simp only[evs,e2];rfl
end
noncomputable def uR:List Wd:=[.in,.num,.num,.not,.and,.or,.xor,.add,.sub,.mul,.left,.right,.slide,.cut,.wide,.sign,.same,.less,.under,.pick]
noncomputable def hU:D:=.list (uR.map λ w=>yCe w.s)
section
variable {S : aB}{n p : Nat}{ns : List Int}{k : Nat}{x : Int}{rs : List Rw}
theorem aIS(h:At S n p)(d:Nat)(hr:cM [] rs)(h0:0<rs.length)(hl:rs.length<=80)(hk:k<=95000) :
 ∃ (k':Nat) (x':Int) (aI:List Rw),cM [] aI/\rs.length<=aI.length/\aI.length<=rs.length+4/\k'<=k+20/\cl fns (d+5) 14 [.loc n,.loc p] (aJ S n p ns k x rs)=qq (.d .none,aJ S n p ns k' x' aI):=by
 have s01:xs (aG fns (d+4)) (.seq (cO 0) (cO 1)) [qq (.loc n),qq (.loc p),qz,qz,qz,qz,qz] (aJ S n p ns k x rs)=qq (.nx [qq (.loc n),qq (.loc p),qq (.d hU),qz,qz,qz,qz],aJ S n p ns k x rs):=by
  simp only[evs,cO,gQ,yAt,yAu];rw[lC (by simp)]
  simp only[evs];rfl
 obtain⟨q1,x1,h1,e1⟩:=fF (ns:=ns) (k:=k) (x:=x) (rs:=rs) h.toAt0 (d+3) 20 (i:=20) rfl (by decide) (by decide) (by omega)
 obtain⟨wd,rL⟩:∃ wd,uR[q1]? = qq wd:=⟨uR[q1],yAa (by simpa [uR] using h1)⟩
 have gw:bC hU (.int q1)=qq (.str wd.s):=mX (by rw[xAb,rL];rfl)
 have s2:xs (aG fns (d+4)) (cO 2) [qq (.loc n),qq (.loc p),qq (.d hU),qz,qz,qz,qz] (aJ S n p ns k x rs)=qq (.nx [qq (.loc n),qq (.loc p),qq (.d hU),qq (.d (.str wd.s)),qz,qz,qz],aJ S n p ns (k+1) x1 rs):=by
  simp only[evs,cO,gQ,yAt,yAu,e1,gw]
 obtain⟨a,x2,ha,e2⟩:=dR (ns:=ns) (k:=k+1) (x:=x1) (rs:=rs) h.toAt0 (d+3) rs.length h0 (by omega) (by omega)
 obtain⟨r,hra⟩:∃ r,rs[a]? = qq r:=⟨rs[a],yAa ha⟩;obtain⟨oE,bY⟩:=vU hr hra;have s3:xs (aG fns (d+4)) (cO 3) [qq (.loc n),qq (.loc p),qq (.d hU),qq (.d (.str wd.s)),qz,qz,qz] (aJ S n p ns (k+1) x1 rs)=qq (.nx [qq (.loc n),qq (.loc p),qq (.d hU),qq (.d (.str wd.s)),qq (.d (.int r.w)),qz,qz],aJ S n p ns (k+2) x2 rs):=by
  simp only[evs,cO,gQ,yAt,yAu,h.rows,cH,cJ,eQ,e2,sI hra,dU]
 obtain⟨q3,x3,h3,e3⟩:=fF (ns:=ns) (k:=k+2) (x:=x2) (rs:=rs) h.toAt0 (d+3) 4 (i:=4) rfl (by decide) (by decide) (by omega)
 obtain⟨w,k4,x4,hw3,hw4,hk4,s4⟩:∃ (w k4:Nat) (x4:Int),1<=w/\w<=64/\k4<=k+6/\xs (aG fns (d+4)) (cO 4) [qq (.loc n),qq (.loc p),qq (.d hU),qq (.d (.str wd.s)),qq (.d (.int r.w)),qz,qz] (aJ S n p ns (k+2) x2 rs)=qq (.nx [qq (.loc n),qq (.loc p),qq (.d hU),qq (.d (.str wd.s)),qq (.d (.int w)),qz,qz],aJ S n p ns k4 x4 rs):=by
  rcases yBf ((q3:Int)==1) with c | c
  ·obtain⟨w,x4,g1,g2,e4⟩:=aBM (ns:=ns) (k:=k+3) (x:=x3) (rs:=rs) h.toAt0 (d+2) (by omega)
   refine⟨w,k+6,x4,g1,g2,by omega,?_⟩
   simp only[evs,cO,gQ,yAt,yAu,e3,bT,c,e4]
  ·refine⟨r.w,k+3,x3,oE,bY,by omega,?_⟩
   simp only[evs,cO,gQ,yAt,yAu,e3,bT,c]
 obtain⟨rr,k',x',aI,e6',ok,l1,l2,okr,hk',s5⟩:=aHK (ns:=ns) (k:=k4) (x:=x4) h d w wd (qq (.d hU)) qz qz hr h0 hl hw3 hw4 (by omega)
 refine⟨k',x',aI++[rr],vM ok (by simpa using okr),by simp;omega,by simp;omega,by omega,?_⟩
 rw[cR rfl (d+4) _ _ rfl];have full:xs (aG fns (d+4)) gQ [qq (.loc n),qq (.loc p),qz,qz,qz,qz,qz] (aJ S n p ns k x rs)=qq (.nx [qq (.loc n),qq (.loc p),qq (.d hU),qq (.d (.str wd.s)),qq (.d (.int w)),qq (.d rr.d),e6'],aJ S n p ns k' x' (aI++[rr])):=by
  have s01':∀ r:Sx,xs (aG fns (d+4)) (.seq (cO 0) (.seq (cO 1) r)) [qq (.loc n),qq (.loc p),qz,qz,qz,qz,qz] (aJ S n p ns k x rs)=xs (aG fns (d+4)) r [qq (.loc n),qq (.loc p),qq (.d hU),qz,qz,qz,qz] (aJ S n p ns k x rs):=λ r=>by
   simp only[lE,cN] at s01 ⊢;cases q:xs (aG fns (d+4)) (cO 0) [qq (.loc n),qq (.loc p),qz,qz,qz,qz,qz] (aJ S n p ns k x rs) with
   | none=>rw[q] at s01;cases s01
   | some z =>
     obtain⟨fl,S1⟩:=z;rw[q] at s01;cases fl with
     | nx e =>
       simp only[oB] at s01 ⊢;rw[s01];simp only[oB]
     | rt w=>cases s01
     | bk e=>cases s01
     | ct e=>cases s01
  rw[aFW,s01',iH s2,iH s3,iH s4,iH s5];simp only[evs,cO,gQ,yAt,yAu,jX,aCg h (show aI.length<=1000 by omega)]
 show((xs (aG fns (d+4)) gQ [qq (.loc n),qq (.loc p),qz,qz,qz,qz,qz] (aJ S n p ns k x rs)).bind _)=_;rw[full];simp only[oB,h.take]
end
noncomputable def eM(k:Nat):Sx:=match jI with
 | .seq a1 (.seq a2 (.seq a3 (.seq a4 (.seq a5 (.seq a6 _)))))=>[a1,a2,a3,a4,a5,a6].getD k .skip
 | _=>.skip
theorem aFd:jI=.seq (eM 0) (.seq (eM 1) (.seq (eM 2) (.seq (eM 3) (.seq (eM 4) (.seq (eM 5) .skip))))):=rfl
theorem aEf(ns:List Int)(k:Nat)(x:Int)(rs:List Rw)(o:List D):aJ [qz,qz,qq o] 0 1 ns k x rs=[qq (cI ns k x),qq (rs.map Rw.d),qq o]:=rfl
theorem nS:At [qz,qz] 0 1:=⟨⟨by decide,by decide⟩,by decide⟩
theorem rE(o:List D):At [qz,qz,qq o] 0 1:=⟨⟨by show 0<3;decide,by decide⟩,by show 1<3;decide⟩
theorem aFg(d most:Nat)(ns:List Int)(hm:most<=30)(kk:Nat)(xx:Int)(hkk:kk<=40000):∃ (rs:List Rw) (aF:List Nat) (k:Nat) (x:Int),cM [] rs/\0<rs.length/\rs.length<=40/\(∀ o∈aF,o<rs.length)/\0<aF.length/\aF.length<=8/\k<=kk+1000 /\
 cl fns (d+6) 15 [.loc 0,.d (.int most)] [qq (cI ns kk xx)]=qq (.d (.tuple [.tuple (rs.map Rw.d),.tuple (aF.map nD)]),[qq (cI ns k x)]):=by
 obtain⟨w,x0,oE,bY,e0⟩:=aBM (ns:=ns) (k:=kk) (x:=xx) (rs:=[]) at1 (d+3) (by omega)
 rw[aDQ,aDQ] at e0;have p0:xs (aG fns (d+5)) (eM 0) [qq (.loc 0),qq (.d (.int most)),qz,qz,qz,qz] [qq (cI ns kk xx)]=qq (.nx [qq (.loc 0),qq (.d (.int most)),qq (.loc 1),qz,qz,qz],aJ [qz,qz] 0 1 ns (kk+3) x0 [⟨.in,w,[]⟩]):=by
  simp only[evs,eM,jI,yAt,yAu,iX,e0];rfl
 obtain⟨env1,S1,p1,a3,rs,k1,x1,ok1,l0,l1,hk1,rfl,rfl⟩:=yJ (t:=.one 3) (fi:=lv (aG fns (d+5)) rN) (fb:=xs (aG fns (d+5)) rM) (env:=[qq (.loc 0),qq (.d (.int most)),qq (.loc 1),qz,qz,qz]) (S:=aJ [qz,qz] 0 1 ns (kk+3) x0 [⟨.in,w,[]⟩])
  (λ j env S=>∃ (a3:Option W) (rs:List Rw) (k:Nat) (x:Int),cM [] rs/\0<rs.length/\rs.length<=40/\k<=kk+3+20*j/\env=[qq (.loc 0),qq (.d (.int most)),qq (.loc 1),a3,qz,qz]/\S=aJ [qz,qz] 0 1 ns k x rs)
  (show lv (aG fns (d+5)) rN _ _=qq ((yAy most).map (λ k=>yAh (k:Nat)),_) by
    simp only[rN,pO,oW];exact mH (by simp only[evs]) (by omega))
  ⟨qz,[⟨.in,w,[]⟩],kk+3,x0,⟨⟨oE,bY,True.intro⟩,True.intro⟩,by simp,by simp,by omega,rfl,rfl⟩ (by
   rintro j dd env S hj ⟨a3,rs,k,x,ok,l0,l1,hk,rfl,rfl⟩;have hj':j<most:=by simpa using hj
   refine⟨[qq (.loc 0),qq (.d (.int most)),qq (.loc 1),qq (.d dd),qz,qz],[qq (.loc 0),qq (.d (.int most)),qq (.loc 1),qq (.d dd),qz,qz],?_⟩
   by_cases c:rs.length<37
   ·have d1:decide (((rs.length:Nat):Int)<37)=true:=dqT (by omega)
    obtain⟨k',x',aI,ok',g1,g2,hk',e⟩:=aIS (ns:=ns) (k:=k) (x:=x) nS d ok l0 (by omega) (by omega)
    refine⟨_,rfl,?_,qq (.d dd),aI,k',x',ok',by omega,by omega,by omega,rfl,rfl⟩
    simp only[evs,rM,nS.rows,cH,cJ,eQ,dC,d1,e]
   ·have d1:decide (((rs.length:Nat):Int)<37)=false:=dqF (by omega)
    refine⟨_,rfl,?_,qq (.d dd),rs,k,x,ok,l0,l1,by omega,rfl,rfl⟩
    simp only[evs,rM,nS.rows,cH,cJ,eQ,dC,d1])
 have hk2:k1<=kk+700:=by simp at hk1;omega
 obtain⟨q,x2,hq,e2⟩:=dR (ns:=ns) (k:=k1) (x:=x1) (rs:=rs) nS.toAt0 (d+4) rs.length l0 (by omega) (by omega)
 have len1:((rs.length:Nat):Int)-1=((rs.length-1:Nat):Int):=by omega
 have p2:xs (aG fns (d+5)) (eM 2) [qq (.loc 0),qq (.d (.int most)),qq (.loc 1),a3,qz,qz] (aJ [qz,qz] 0 1 ns k1 x1 rs)=qq (.nx [qq (.loc 0),qq (.d (.int most)),qq (.loc 1),a3,qq (.d (.list [.int ((rs.length-1:Nat):Int),.int q])),qz],aJ [qz,qz] 0 1 ns (k1+1) x2 rs):=by
  simp only[evs,eM,jI,yAt,yAu,nS.rows,cH,cJ,eQ,fG,len1,e2]
 obtain⟨q3,x3,hq3,e3⟩:=fF (ns:=ns) (k:=k1+1) (x:=x2) (rs:=rs) nS.toAt0 (d+4) 4 (i:=4) rfl (by decide) (by decide) (by omega)
 obtain⟨b3,hb3,eb3⟩:=uN ((q3:Int)==1);obtain⟨y,hy,ey⟩:=at2 (.int ((rs.length-1:Nat):Int)) (.int q) hb3;obtain⟨o1,ho1,rfl⟩:∃ o:Nat,o<rs.length/\y=.int o:=by
  rcases hy with rfl | rfl
  ·exact⟨_,by omega,rfl⟩
  ·exact⟨_,hq,rfl⟩
 have p3:xs (aG fns (d+5)) (eM 3) [qq (.loc 0),qq (.d (.int most)),qq (.loc 1),a3,qq (.d (.list [.int ((rs.length-1:Nat):Int),.int q])),qz] (aJ [qz,qz] 0 1 ns (k1+1) x2 rs)=qq (.nx [qq (.loc 0),qq (.d (.int most)),qq (.loc 1),a3,qq (.d (.list [.int ((rs.length-1:Nat):Int),.int q])),qq (.loc 2)],aJ [qz,qz,qq ([o1].map nD)] 0 1 ns (k1+2) x3 rs):=by
  simp only[evs,eM,jI,yAt,yAu,iX,e3,bT,mT,mW,eb3,ey];rfl
 obtain⟨q4,x4,hq4,e4⟩:=fF (ns:=ns) (k:=k1+2) (x:=x3) (rs:=rs) (rE ([o1].map nD)).toAt0 (d+4) 3 (i:=3) rfl (by decide) (by decide) (by omega)
 obtain⟨q5,x5,hq5,e5⟩:=fF (ns:=ns) (k:=k1+3) (x:=x4) (rs:=rs) (rE ([o1].map nD)).toAt0 (d+4) 8 (i:=8) rfl (by decide) (by decide) (by omega)
 obtain⟨b5,hb5,eb5⟩:=uN ((q5:Int)==1);obtain⟨z,hz,ez⟩:=at2 (.int q4) (.int 7) hb5;obtain⟨m,hm7,rfl⟩:∃ m:Nat,m<=7/\z=.int m:=by
  rcases hz with rfl | rfl
  ·exact⟨_,by omega,rfl⟩
  ·exact⟨7,by decide,rfl⟩
 obtain⟨env2,S2,p4,a3',aF,k6,x6,ho,ol,hk6,rfl,rfl⟩:=yJ (t:=.one 3) (fi:=lv (aG fns (d+5)) vD) (fb:=xs (aG fns (d+5)) vE) (env:=[qq (.loc 0),qq (.d (.int most)),qq (.loc 1),a3,qq (.d (.list [.int ((rs.length-1:Nat):Int),.int q])),qq (.loc 2)]) (S:=aJ [qz,qz,qq ([o1].map nD)] 0 1 ns (k1+2) x3 rs) (S1:=aJ [qz,qz,qq ([o1].map nD)] 0 1 ns (k1+4) x5 rs) (ds:=(yAy m).map (λ k=>yAh (k:Nat)))
  (λ j env S=>∃ (a3:Option W) (aF:List Nat) (k:Nat) (x:Int),(∀ o∈aF,o<rs.length)/\aF.length=j+1/\k<=k1+4+j/\env=[qq (.loc 0),qq (.d (.int most)),qq (.loc 1),a3,qq (.d (.list [.int ((rs.length-1:Nat):Int),.int q])),qq (.loc 2)]/\S=aJ [qz,qz,qq (aF.map nD)] 0 1 ns k x rs)
  (by
    simp only[vD,pO,oW];refine mH ?_ (by omega)
    simp only[yAm,yCf] at e4 e5;simp only[evs,e4,e5,bT,mT,mW,eb5,ez])
  ⟨a3,[o1],k1+4,x5,by simpa using ho1,rfl,by omega,rfl,rfl⟩ (by
   rintro j dd env S hj ⟨a3,aF,k,x,ho,ol,hk,rfl,rfl⟩;have hj':j<m:=by simpa using hj
   obtain⟨q6,x6,hq6,e6⟩:=dR (ns:=ns) (k:=k) (x:=x) (rs:=rs) (rE (aF.map nD)).toAt0 (d+4) rs.length l0 (by omega) (by omega)
   refine⟨[qq (.loc 0),qq (.d (.int most)),qq (.loc 1),qq (.d dd),qq (.d (.list [.int ((rs.length-1:Nat):Int),.int q])),qq (.loc 2)],[qq (.loc 0),qq (.d (.int most)),qq (.loc 1),qq (.d dd),qq (.d (.list [.int ((rs.length-1:Nat):Int),.int q])),qq (.loc 2)],aJ [qz,qz,qq ((aF++[q6]).map nD)] 0 1 ns (k+1) x6 rs,rfl,?_,qq (.d dd),aF++[q6],k+1,x6,?_,by simp;omega,by omega,rfl,rfl⟩
   ·have ap:fS (aJ [qz,qz,qq (aF.map nD)] 0 1 ns (k+1) x6 rs) (.loc 2) (.d (.int q6))=qq (.d .none,aJ [qz,qz,qq ((aF++[q6]).map nD)] 0 1 ns (k+1) x6 rs):=by
     rw[aEf,aEf];unfold fS;simp only[yBs,yBi];rw[if_pos (by rw[yAg,zw];omega),yBm]
     rfl
    simp only[evs,vE,(rE (aF.map nD)).rows,cH,cJ,eQ,e6,jX,ap]
   ·intro o h;rcases List.mem_append.mp h with z | z
    ·exact ho o z
    ·rw[List.mem_singleton.mp z];exact hq6)
 have ol':aF.length=m+1:=by simpa using ol
 have hk7:k6<=k1+4+m:=by simpa using hk6
 refine⟨rs,aF,k6,x6,ok1,l0,l1,ho,by omega,by omega,by omega,?_⟩
 rw[cR rfl (d+5) _ _ rfl];have full:xs (aG fns (d+5)) jI [qq (.loc 0),qq (.d (.int most)),qz,qz,qz,qz] [qq (cI ns kk xx)]=qq (.rt (.d (.tuple [.tuple (rs.map Rw.d),.tuple (aF.map nD)])),aJ [qz,qz,qq (aF.map nD)] 0 1 ns k6 x6 rs):=by
  have p1':xs (aG fns (d+5)) (eM 1) [qq (.loc 0),qq (.d (.int most)),qq (.loc 1),qz,qz,qz] (aJ [qz,qz] 0 1 ns (kk+3) x0 [⟨.in,w,[]⟩])=qq (.nx [qq (.loc 0),qq (.d (.int most)),qq (.loc 1),a3,qz,qz],aJ [qz,qz] 0 1 ns k1 x1 rs):=p1;have p4':xs (aG fns (d+5)) (eM 4) [qq (.loc 0),qq (.d (.int most)),qq (.loc 1),a3,qq (.d (.list [.int ((rs.length-1:Nat):Int),.int q])),qq (.loc 2)] (aJ [qz,qz,qq ([o1].map nD)] 0 1 ns (k1+2) x3 rs)=qq (.nx [qq (.loc 0),qq (.d (.int most)),qq (.loc 1),a3',qq (.d (.list [.int ((rs.length-1:Nat):Int),.int q])),qq (.loc 2)],aJ [qz,qz,qq (aF.map nD)] 0 1 ns k6 x6 rs):=p4;rw[aFd,iH p0,iH p1',iH p2,iH p3,iH p4'];have g2:(aJ [qz,qz,qq (aF.map nD)] 0 1 ns k6 x6 rs)[2]? = qq (qq (aF.map nD)):=rfl;simp only[evs,eM,jI,yAt,yAu,(rE (aF.map nD)).rows,g2,yM,yI]
 show((xs (aG fns (d+5)) jI [qq (.loc 0),qq (.d (.int most)),qz,qz,qz,qz] [qq (cI ns kk xx)]).bind _)=_;rw[full];simp only[oB,iU];rfl
noncomputable def cW:Wd->Nat
 | .in | .num=>0
 | .not | .left | .right | .slide | .cut | .wide | .sign=>1
 | .pick=>3
 | _=>2
theorem aHg(wd:Wd):tM oG (.str wd.s)=qq (.int (cW wd:Nat)):=by cases wd<;>kernel_rfl
theorem lQ(r:Rw):bC r.d (.int 0)=qq (.str r.wd.s):=pC (xs:=.str r.wd.s::nD r.w::r.args.map nD) (k:=0) rfl
theorem aBS{fa:FE}{fl fh:FO}{env:aQ}{S:aB}(r:Rw)(c:Nat)(h1:fa env S=qq (.d r.d,S))(h2:fl env S=qq (qq 2,S))(h3:fh env S=qq (qq ((2+c:Nat):Int),S)):gY fa fl fh env S=qq (.d (.tuple ((r.args.take c).map nD)),S):=by
 have i2:HT.sIx (yCe r.wd.s::nD r.w::r.args.map nD).length 0 (qq 2)=2:=by
  rw[show(2:Int)=((2:Nat):Int) from rfl,HT.sIx_nat]
  simp
 have e:dL (yCe r.wd.s::nD r.w::r.args.map nD) (qq 2) (qq ((2+c:Nat):Int))=(r.args.take c).map nD:=by
  unfold dL;rw[i2,HT.sIx_nat];simp only[List.drop_succ_cons,yCk,yCi,yAg];rw[yEg];rcases Nat.le_total c r.args.length with z | z
  ·rw[yDv (by omega),show 2+c-2=c by omega]
  ·rw[yEi (by omega),yBd (by simp),yBd (by simpa using z)]
 unfold gY;rw[h1,oB];simp only[];rw[h2,oB];simp only[];rw[h3,oB];simp only[dr,oB,Rw.d];rw[e]
theorem aAV(d:Nat)(r:Rw)(S:aB):cl fns (d+1) 1 [.d r.d] S=qq (.d (.tuple ((r.args.take (cW r.wd)).map nD)),S):=by
 have e2:(2:Int)+((cW r.wd:Nat):Int)=((2+cW r.wd:Nat):Int):=by omega
 have sl:ev (aG fns d) (.sl (.var 0) (.cons (.int 2) .nil) (.cons (.bin .Add (.int 2) (.tab "OPERAND_COUNTS" oG (.ix (.var 0) (.int 0)))) .nil)) [qq (.d r.d)] S=qq (.d (.tuple ((r.args.take (cW r.wd)).map nD)),S):=by
  simp only[zD];refine aBS r (cW r.wd) (by simp only[evs]) (by simp only[evs,fM]) ?_
  simp only[evs,fM,lQ,aHg,cV,e2]
 rw[cR rfl d _ S rfl];show((cN (iR (ev (aG fns d) (.sl (.var 0) (.cons (.int 2) .nil) (.cons (.bin .Add (.int 2) (.tab "OPERAND_COUNTS" oG (.ix (.var 0) (.int 0)))) .nil)))) lO) [qq (.d r.d)] S).bind _=_;simp only[cN,iR,sl,oB,iU,yAk]
theorem aGH(d w:Nat)(h:w<=100000)(S:aB):cl fns (d+1) 0 [.d (.int w)] S=qq (.d (.int ((2^w-1:Nat):Int)),S):=by
 rw[cR rfl d _ S rfl];simp only[evs,cB,aDx,fY h,fG,wI]
section
variable {C : Calls}{CX : eC}{tb : Str -> Str -> Option Bool}
theorem xk{a b:Xx}{env e1:aQ}{S S1:aB}{r:Option (FlX×aB)}(h:xx C CX tb a env S=qq (.fl (.nx e1),S1))(k:xx C CX tb b e1 S1=r):xx C CX tb (.seq a b) env S=r:=by
 show(xx C CX tb a env S).bind _=r;rw[h];exact k
theorem sV{a b:Xx}{env:aQ}{S S1:aB}{w:W}(h:xx C CX tb a env S=qq (.fl (.rt w),S1)):xx C CX tb (.seq a b) env S=qq (.fl (.rt w),S1):=by
 show(xx C CX tb a env S).bind _=_;rw[h];rfl
theorem eU{a b:Xx}{env e:aQ}{S S1:aB}{c:Str}{r:D}(h:xx C CX tb a env S=qq (.ex e c r,S1)):xx C CX tb (.seq a b) env S=qq (.ex e c r,S1):=by
 show(xx C CX tb a env S).bind _=_;rw[h];rfl
theorem iW{a:Sx}{env:aQ}{S S1:aB}{fl:Fl}(h:xs C a env S=qq (fl,S1)):xx C CX tb (.s a) env S=qq (.fl fl,S1):=by
 show(xs C a env S).bind _=_;rw[h];rfl
theorem rG{c:E}{a b:Xx}{env:aQ}{S S1:aB}{r:Option (FlX×aB)}(h:tv C c env S=qq (true,S1))(k:xx C CX tb a env S1=r):xx C CX tb (.ifs c a b) env S=r:=by
 show(tv C c env S).bind _=r;rw[h];exact k
theorem gZ{c:E}{a b:Xx}{env:aQ}{S S1:aB}{r:Option (FlX×aB)}(h:tv C c env S=qq (false,S1))(k:xx C CX tb b env S1=r):xx C CX tb (.ifs c a b) env S=r:=by
 show(tv C c env S).bind _=r;rw[h];exact k
end
noncomputable def aD:Str->Str->Option Bool:=lV xl
inductive Ft4 where
 | width | row | fit | number
noncomputable def Ft4.c:Ft4->Str
 | .width => "NoWidth" | .row => "NoRow" | .fit => "NoFit" | .number => "NoNumber"
noncomputable def Ft4.s:Ft4->Str
 | .width => "width" | .row => "row" | .fit => "fit" | .number => "number"
noncomputable def mC:Wd->Nat
 | .in=>0
 | .num | .not | .cut | .wide | .sign=>1
 | .pick=>3
 | _=>2
def Ar(r:Rw):Prop:=r.args.length=mC r.wd
noncomputable def bJ(a b:Nat):Bool:=((a:Nat):Int)==((b:Nat):Int)
noncomputable def aH(rs:List Rw)(a:Nat):Rw:=rs.getD a ⟨.in,0,[]⟩
noncomputable def dD(wd:Wd)(w:Nat)(vs:List Nat):Bool:=match wd with
 | .same | .less | .under=>bJ w 1&&bJ (vs.getD 0 0) (vs.getD 1 0)
 | .pick=>bJ (vs.getD 0 0) 1&&(bJ (vs.getD 1 0) w&&bJ (vs.getD 2 0) w)
 | .cut=>decide (((w:Nat):Int)<=((vs.getD 0 0:Nat):Int))
 | .wide | .sign=>decide (((vs.getD 0 0:Nat):Int)<=((w:Nat):Int))
 | _=>vs.all λ v=>bJ v w
noncomputable def eE(r:Rw):Bool:=match r.wd with
 | .num=>decide (r.args.getD 0 0<2^r.w)
 | .left | .right | .slide=>decide (r.args.getD 1 0<=63)
 | _=>true
noncomputable def bE(r:Rw):List Nat:=r.args.take (cW r.wd)
noncomputable def eJ(rs:List Rw)(k:Nat)(r:Rw):Option Ft4:=
 if r.w<1\/64<r.w then qq .width
 else if (bE r).any (λ a=>decide (((k:Nat):Int)<=((a:Nat):Int)))=true then qq .row
 else if dD r.wd r.w ((bE r).map λ a=>(aH rs a).w)=false then qq .fit
 else if eE r=false then qq .number else qz
theorem aHM(wd:Wd):cW wd<=mC wd:=by cases wd<;>decide
theorem xK{r:Rw}(h:Ar r):(bE r).length=cW r.wd:=by
 unfold bE;rw[yBe,h];exact yDv (aHM r.wd)
theorem yO{r:Rw}(h:Ar r):(bE r).length<=3:=by
 rw[xK h];cases r.wd<;>decide
theorem aCk(a:Wd):aZ .In (.str a.s) (.tuple [.str "wide",.str "sign"])=qq (.bool (decide (a=.wide\/a=.sign))):=by cases a<;>rfl
theorem pU{vs:List Nat}{k:Nat}(h:k<vs.length):bC (.tuple (vs.map nD)) (.int k)=qq (.int ((vs.getD k 0:Nat):Int)):=by
 refine pC ?_;rw[xAb,yAa h,yCq,yAa h];rfl
theorem iG{vs:List Nat}{k:Nat}(h:k<vs.length):bC (.list (vs.map nD)) (.int k)=qq (.int ((vs.getD k 0:Nat):Int)):=pU h
theorem aL5(a b c x y z:Int):aZ .Eq (.tuple [.int a,.int b,.int c]) (.tuple [.int x,.int y,.int z])=qq (.bool ((a==x)&&((b==y)&&(c==z)))):=by
 unfold aZ jT;simp only[PyData.canLay0,yCb,PyData.depth,yCd,yCx,PyData.eqvAll,Bool.and_true,Bool.true_and];rfl
theorem aKI{vs:List Nat}(h:vs.length=3):vs.map nD=[.int ((vs.getD 0 0:Nat):Int),.int ((vs.getD 1 0:Nat):Int),.int ((vs.getD 2 0:Nat):Int)]:=by
 match vs,h with
 | [a,b,c],_=>rfl
theorem all_map{α:Type}(g:α->Bool)(l:List α):uE [.list (l.map λ x=>yBh (g x))]=qq (.bool (l.all g)):=by
 have:iD (l.map λ x=>yBh (g x))=qq (l.map g):=by
  induction l with
  | nil=>rfl
  | cons a l ih=>simp only[yAm,iD,ih,oB]
 show(iD _).bind _=_;rw[this,oB];simp[List.all_map]
theorem any_map{α:Type}(g:α->Bool)(l:List α):tN [.list (l.map λ x=>yBh (g x))]=qq (.bool (l.any g)):=by
 have:iD (l.map λ x=>yBh (g x))=qq (l.map g):=by
  induction l with
  | nil=>rfl
  | cons a l ih=>simp only[yAm,iD,ih,oB]
 show(iD _).bind _=_;rw[this,oB];simp[List.any_map]
theorem aCf{wd:Wd}(h1:¬(wd=.same\/wd=.less\/wd=.under))(h2:¬ wd=.pick)(h3:¬ wd=.cut)(h4:¬(wd=.wide\/wd=.sign))(w:Nat)(vs:List Nat):dD wd w vs=vs.all λ v=>bJ v w:=by
 cases wd<;>first | rfl | (exact absurd rfl h2) | (exact absurd rfl h3) | (exact absurd (.inl rfl) h1) | (exact absurd (.inr (.inl rfl)) h1) | (exact absurd (.inr (.inr rfl)) h1) | (exact absurd (.inl rfl) h4) | (exact absurd (.inr rfl) h4)
theorem aGG(d:Nat)(r:Rw)(vs:List Nat)(hv:vs.length=cW r.wd)(S:aB):cl fns (d+1) 3 [.d r.d,.d (.tuple (vs.map nD))] S=qq (.d (.bool (dD r.wd r.w vs)),S):=by
 have r0:=lQ r;have r1:=dU r;have t1:=iJ (C:=aG fns d) (i:=2) (S:=S) (e:=.con "COMPARES" vY) (env:=[qq (.d r.d),qq (.d (.tuple (vs.map nD))),qq (.d (.str r.wd.s)),qq (.d (.int r.w)),qz]) rfl rfl (sA r.wd);have t2:=gC (C:=aG fns d) (i:=2) (S:=S) (x:="pick") (env:=[qq (.d r.d),qq (.d (.tuple (vs.map nD))),qq (.d (.str r.wd.s)),qq (.d (.int r.w)),qz]) rfl (fK r.wd .pick);have t3:=gC (C:=aG fns d) (i:=2) (S:=S) (x:="cut") (env:=[qq (.d r.d),qq (.d (.tuple (vs.map nD))),qq (.d (.str r.wd.s)),qq (.d (.int r.w)),qz]) rfl (fK r.wd .cut);have t4:=iJ (C:=aG fns d) (i:=2) (S:=S) (e:=.con "WIDENINGS" vR) (env:=[qq (.d r.d),qq (.d (.tuple (vs.map nD))),qq (.d (.str r.wd.s)),qq (.d (.int r.w)),qz]) rfl rfl (aCk r.wd);refine kJ rfl d rfl rfl yAk (cG (w:=.d (.str r.wd.s)) (S1:=S) (by simp only[evs,r0]) rfl (cG (w:=.d (.int r.w)) (S1:=S) (by simp only[evs,r1]) rfl ?_))
 show xs (aG fns d) _ [qq (.d r.d),qq (.d (.tuple (vs.map nD))),qq (.d (.str r.wd.s)),qq (.d (.int r.w)),qz] S=_
 by_cases c1:r.wd=.same\/r.wd=.less\/r.wd=.under
 ·rw[dqT c1] at t1;have hn:vs.length=2:=by rcases c1 with c | c | c<;>rw[hv,c]<;>rfl
  have g0:bC (.tuple (vs.map nD)) (.int 0)=qq (.int ((vs.getD 0 0:Nat):Int)):=pU (k:=0) (by omega)
  have g1:bC (.tuple (vs.map nD)) (.int 1)=qq (.int ((vs.getD 1 0:Nat):Int)):=pU (k:=1) (by omega)
  have ef:dD r.wd r.w vs=(bJ r.w 1&&bJ (vs.getD 0 0) (vs.getD 1 0)):=by rcases c1 with c | c | c<;>rw[c]<;>rfl
  rw[ef];refine cL t1 (bZ ?_);unfold bJ;generalize yCy (vs.map nD)=T at *;rcases yBf (((r.w:Nat):Int)==1) with z | z
  ·simp only[evs,bT,z,g0,g1];rw[show(((r.w:Nat):Int)==((1:Nat):Int))=true from z]
   rfl
  ·simp only[evs,bT,z];rw[show(((r.w:Nat):Int)==((1:Nat):Int))=false from z]
   rfl
 rw[dqF c1] at t1;refine bV t1 ?_
 by_cases c2:r.wd=.pick
 ·rw[dqT c2] at t2;have hn:vs.length=3:=by rw[hv,c2];rfl
  have ef:dD r.wd r.w vs=(bJ (vs.getD 0 0) 1&&(bJ (vs.getD 1 0) r.w&&bJ (vs.getD 2 0) r.w)):=by rw[c2];rfl
  rw[ef];refine cL t2 (bZ ?_);have e:=aL5 ((vs.getD 0 0:Nat):Int) ((vs.getD 1 0:Nat):Int) ((vs.getD 2 0:Nat):Int) 1 (r.w:Nat) (r.w:Nat);rw[<- aKI hn] at e;simp only[evs,e];rfl
 rw[dqF c2] at t2;refine bV t2 ?_
 by_cases c3:r.wd=.cut
 ·rw[dqT c3] at t3;have hn:vs.length=1:=by rw[hv,c3];rfl
  have ef:dD r.wd r.w vs=decide (((r.w:Nat):Int)<=((vs.getD 0 0:Nat):Int)):=by rw[c3];rfl
  have g0:bC (.tuple (vs.map nD)) (.int 0)=qq (.int ((vs.getD 0 0:Nat):Int)):=pU (k:=0) (by omega)
  rw[ef];exact cL t3 (bZ (by simp only[evs,g0,lI]))
 rw[dqF c3] at t3;refine bV t3 ?_
 by_cases c4:r.wd=.wide\/r.wd=.sign
 ·rw[dqT c4] at t4;have hn:vs.length=1:=by rcases c4 with c | c<;>rw[hv,c]<;>rfl
  have ef:dD r.wd r.w vs=decide (((vs.getD 0 0:Nat):Int)<=((r.w:Nat):Int)):=by rcases c4 with c | c<;>rw[c]<;>rfl
  have g0:bC (.tuple (vs.map nD)) (.int 0)=qq (.int ((vs.getD 0 0:Nat):Int)):=pU (k:=0) (by omega)
  rw[ef];exact cL t4 (bZ (by simp only[evs,g0,sQ]))
 rw[dqF c4] at t4;refine bV t4 (bZ ?_);rw[aCf c1 c2 c3 c4];have hc:lv (aG fns d) aAH [qq (.d r.d),qq (.d (.tuple (vs.map nD))),qq (.d (.str r.wd.s)),qq (.d (.int r.w)),qz] S=qq (vs.map (λ v=>yBh (bJ v r.w)),S):=by
  refine kH (fi:=lv (aG fns d) (.it (.var 1))) (fe:=ev (aG fns d) (.cmp .Eq (.var 4) (.var 3))) nD (λ v=>yBh (bJ v r.w)) vs ?_ (by rw[zw,hv];cases r.wd<;>decide) λ v _=>?_
  ·simp only[evs,fA]
  ·refine⟨_,rfl,λ S'=>?_⟩
   simp only[evs,clr,yAi,yAq,nD,bT];rfl
 simp only[evs,hc,all_map]
theorem ar1{r:Rw}(h:r.args.length=1):bC r.d (.int 2)=qq (.int ((r.args.getD 0 0:Nat):Int)):=by
 obtain⟨wd,w,args⟩:=r
 match args,h with
 | [a],_=>rfl
theorem ar2{r:Rw}(h:r.args.length=2):bC r.d (.int 3)=qq (.int ((r.args.getD 1 0:Nat):Int)):=by
 obtain⟨wd,w,args⟩:=r
 match args,h with
 | [a,b],_=>rfl
theorem aHG(a w:Nat):decide (((a:Nat):Int)<=((2^w-1:Nat):Int))=decide (a<2^w):=by
 have:=Nat.two_pow_pos w;rw[decide_eq_decide];omega
theorem aCm{r:Rw}(h1:¬ r.wd=.num)(h2:¬(r.wd=.left\/r.wd=.right\/r.wd=.slide)):eE r=true:=by
 obtain⟨wd,w,args⟩:=r;cases wd<;>first | rfl | (exact absurd rfl h1) | (exact absurd (.inl rfl) h2) | (exact absurd (.inr (.inl rfl)) h2) | (exact absurd (.inr (.inr rfl)) h2)
theorem aGN(d:Nat)(r:Rw)(ar:Ar r)(hw:r.w<=64)(S:aB):cl fns (d+2) 4 [.d r.d] S=qq (.d (.bool (eE r)),S):=by
 have r0:=lQ r;have r1:=dU r;refine kJ rfl (d+1) rfl rfl yAk ?_;show xs (aG fns (d+1)) _ [qq (.d r.d)] S=_
 by_cases c1:r.wd=.num
 ·have e1:aZ .Eq (.str r.wd.s) (.str "num")=qq (.bool true):=by have:=fK r.wd .num;rw[dqT c1] at this;exact this
  have a1:=ar1 (r:=r) (by rw[ar,c1];rfl)
  have fu:=aGH d r.w (by omega) S
  have ef:eE r=decide (r.args.getD 0 0<2^r.w):=by unfold eE;rw[c1]
  rw[ef,<- aHG];generalize r.d=R at *;exact cL (S1:=S) (by simp only[evs,r0,e1]) (bZ (by simp only[evs,a1,r1,fu,sQ]))
 have e1:aZ .Eq (.str r.wd.s) (.str "num")=qq (.bool false):=by have:=fK r.wd .num;rw[dqF c1] at this;exact this
 refine bV (S1:=S) (by simp only[evs,r0,e1]) ?_
 by_cases c2:r.wd=.left\/r.wd=.right\/r.wd=.slide
 ·have e2:aZ .In (.str r.wd.s) (.tuple (rX.map Tv.d))=qq (.bool true):=by have:=rV r.wd;rw[dqT c2] at this;exact this
  have a2:=ar2 (r:=r) (by rw[ar];rcases c2 with c | c | c<;>rw[c]<;>rfl)
  have ef:eE r=decide (r.args.getD 1 0<=63):=by unfold eE;rcases c2 with c | c | c<;>rw[c]
  have ee:decide (((r.args.getD 1 0:Nat):Int)<=63)=decide (r.args.getD 1 0<=63):=by rw[decide_eq_decide];omega
  rw[ef,<- ee];generalize r.d=R at *;exact cL (S1:=S) (by simp only[evs,r0,e2]) (bZ (by simp only[evs,a2,sQ]))
 have e2:aZ .In (.str r.wd.s) (.tuple (rX.map Tv.d))=qq (.bool false):=by have:=rV r.wd;rw[dqF c2] at this;exact this
 rw[aCm c1 c2];exact bV (S1:=S) (by simp only[evs,r0,e2]) (bZ (by simp only[evs]))
theorem xS{rs:List Rw}{a:Nat}(h:a<rs.length):bC (.tuple (rs.map Rw.d)) (.int a)=qq (aH rs a).d:=by
 refine pC ?_;unfold aH;rw[xAb,yAa h,yCq,yAa h];rfl
theorem aGi(d:Nat)(rs:List Rw)(r:Rw)(ar:Ar r)(h:∀ a∈bE r,a<rs.length)(S:aB):cl fns (d+2) 2 [.d r.d,.d (.tuple (rs.map Rw.d))] S=qq (.d (.tuple ((bE r).map λ a=>(aH rs a).d)),S):=by
 have op:=aAV d r S;refine kJ rfl (d+1) rfl rfl yAk ?_;show xs (aG fns (d+1)) _ [qq (.d r.d),qq (.d (.tuple (rs.map Rw.d))),qz] S=_;have hc:lv (aG fns (d+1)) aAG [qq (.d r.d),qq (.d (.tuple (rs.map Rw.d))),qz] S=qq ((bE r).map (λ a=>(aH rs a).d),S):=by
  refine kH (fi:=lv (aG fns (d+1)) (.it (.call 1 (.cons (.var 0) .nil)))) (fe:=ev (aG fns (d+1)) (.ix (.var 1) (.var 2))) nD (λ a=>(aH rs a).d) (bE r) ?_ (by rw[zw];have:=yO ar;omega) λ a ha=>?_
  ·simp only[evs,op,fA];rfl
  ·refine⟨_,rfl,λ S'=>?_⟩
   have g:=xS (h a ha);simp only[evs,clr,yAi,yAq,nD,g]
 exact bZ (by simp only[evs,hc,yM,yI])
noncomputable def jQ(rs:List Rw):Nat->Nat->Option (Ft4×Nat)
 | 0,_=>qz
 | n+1,k=>match eJ rs k (aH rs k) with
   | some f=>qq (f,k)
   | none=>jQ rs n (k+1)
noncomputable def fN(rs:List Rw)(aF:List Nat):Option (Ft4×Nat):=match jQ rs rs.length 0 with
 | some z=>qq z
 | none=>if aF.any (λ o=>decide (((rs.length:Nat):Int)<=((o:Nat):Int)))=true then qq (.row,rs.length) else qz
noncomputable def aEh(k:Nat):Option Ft4->ResX
 | none=>.ok (.d .none)
 | some f=>.ex f.c (.int k)
noncomputable def aLq:Option (Ft4×Nat)->ResX
 | none=>.ok (.d (.bool true))
 | some z=>.ex z.1.c (.int (z.2:Nat))
theorem aAa{rs:List Rw}{k:Nat}(h:k<rs.length):rs[k]? = qq (aH rs k):=by
 unfold aH;rw[yCq,yAa h];rfl
theorem sW{rs:List Rw}{k:Nat}(h:k<rs.length):aH rs k∈rs:=xAi (aAa h)
theorem mM{C:Calls}{CX:eC}{x:Xx}{n:Nat}{ws:List W}{env e:aQ}{S:aB}{c:Str}{r:D}(he:ws.map qq++yAd (n-ws.length) qz=env)(k:xx C CX aD x env S=qq (.ex e c r,S)):dJ (xx C CX aD x) n ws S=qq (.ex c r,S):=by
 unfold dJ;rw[he,k,oB];show qq (ResX.ex c r,S.take S.length)=_;rw[yAk]
theorem aHL{C:Calls}{CX:eC}{x:Xx}{n:Nat}{ws:List W}{env e:aQ}{S:aB}(he:ws.map qq++yAd (n-ws.length) qz=env)(k:xx C CX aD x env S=qq (.fl (.nx e),S)):dJ (xx C CX aD x) n ws S=qq (.ok (.d .none),S):=by
 unfold dJ;rw[he,k,oB];show qq (ResX.ok (.d .none),S.take S.length)=_;rw[yAk]
theorem aCp{C:Calls}{CX:eC}{x:Xx}{n:Nat}{ws:List W}{env:aQ}{S:aB}{y:D}(he:ws.map qq++yAd (n-ws.length) qz=env)(k:xx C CX aD x env S=qq (.fl (.rt (.d y)),S)):dJ (xx C CX aD x) n ws S=qq (.ok (.d y),S):=by
 unfold dJ;rw[he,k,oB];show qq (ResX.ok (.d y),S.take S.length)=_;rw[yAk]
theorem yU{C:Calls}{i:Nat}{env:aQ}{S:aB}{R:D}{w:Nat}(h:env[i]? = qq (qq (.d R)))(h1:bC R (.int 1)=qq (.int w)):tv C (.or (.cmp .Lt (.ix (.var i) (.int 1)) (.int 1)) (.cmp .Gt (.ix (.var i) (.int 1)) (.int 64))) env S=qq (decide (w<1\/64<w),S):=by
 by_cases c1:w<1
 ·have d1:decide (((w:Nat):Int)<1)=true:=dqT (by omega)
  rw[dqT (Or.inl c1)];simp only[evs,h,h1,dC,d1]
 ·have d1:decide (((w:Nat):Int)<1)=false:=dqF (by omega)
  have d2:decide ((64:Int)<((w:Nat):Int))=decide (w<1\/64<w):=by rw[decide_eq_decide];omega
  rw[<- d2];simp only[evs,h,h1,dC,iI,d1]
theorem aJL(d:Nat)(rs:List Rw)(k:Nat)(hk:k<rs.length)(ar:Ar (aH rs k))(S:aB):hW fns gns aD (d+3) 22 [.d (.tuple (rs.map Rw.d)),.d (.int k)] S=qq (aEh k (eJ rs k (aH rs k)),S):=by
 rw[show hW fns gns aD (d+3) 22=hW fns gns aD (d+3) (fns.length+0) from rfl,aCS (x:=aAN) rfl rfl (d+2) _ S rfl]
 have rk:=xS hk;generalize aH rs k=r at *;have r1:=dU r;have op:cC fns gns aD (d+2) 1 [.d r.d] S=qq (.d (.tuple ((bE r).map nD)),S):=(kL (d+1) 1 _ _ (by decide)).trans (aAV (d+1) r S)
 have of':(∀ a∈bE r,a<rs.length)->cC fns gns aD (d+2) 2 [.d r.d,.d (.tuple (rs.map Rw.d))] S=qq (.d (.tuple ((bE r).map λ a=>(aH rs a).d)),S):=λ h=>(kL (d+1) 2 _ _ (by decide)).trans (aGi d rs r ar h S)
 have wf:∀ vs:List Nat,vs.length=cW r.wd->cC fns gns aD (d+2) 3 [.d r.d,.d (.tuple (vs.map nD))] S=qq (.d (.bool (dD r.wd r.w vs)),S):=λ vs hv=>(kL (d+1) 3 _ _ (by decide)).trans (aGG (d+1) r vs hv S)
 have nf:r.w<=64->cC fns gns aD (d+2) 4 [.d r.d] S=qq (.d (.bool (eE r)),S):=λ h=>(kL (d+1) 4 _ _ (by decide)).trans (aGN d r ar h S)
 have ol:=xK ar;have o3:=yO ar;unfold eJ;generalize eE r=bn at *;generalize (aE fns gns aD (d+2)).2=CX at *;have ha:lv (aE fns gns aD (d+2)).1 vG [qq (.d (.tuple (rs.map Rw.d))),qq (.d (.int k)),qq (.d r.d),qz,qz,qz] S=qq ((bE r).map (λ a=>yBh (decide (((k:Nat):Int)<=((a:Nat):Int)))),S):=by
  refine kH (fi:=lv (aE fns gns aD (d+2)).1 (.it (.call 1 (.cons (.var 2) .nil)))) (fe:=ev (aE fns gns aD (d+2)).1 (.cmp .GtE (.var 4) (.var 1))) nD (λ a=>yBh (decide (((k:Nat):Int)<=((a:Nat):Int)))) (bE r) ?_ (by rw[zw];omega) λ a _=>?_
  ·simp only[evs,cT,op,fA]
  ·refine⟨_,rfl,λ S'=>?_⟩
   simp only[evs,clr,yAi,yAq,nD,lI]
 have hb:(∀ a∈bE r,a<rs.length)->lv (aE fns gns aD (d+2)).1 vH [qq (.d (.tuple (rs.map Rw.d))),qq (.d (.int k)),qq (.d r.d),qz,qz,qz] S=qq (((bE r).map λ a=>(aH rs a).w).map nD,S):=λ h=>by
  have of':=of' h;rw[List.map_map];refine kH (fi:=lv (aE fns gns aD (d+2)).1 (.it (.call 2 (.cons (.var 2) (.cons (.var 0) .nil))))) (fe:=ev (aE fns gns aD (d+2)).1 (.ix (.var 5) (.int 1))) (λ a=>(aH rs a).d) (nD ∘ λ a=>(aH rs a).w) (bE r) ?_ (by rw[zw];omega) λ a _=>?_
  ·simp only[evs,cT,of',fA]
  ·refine⟨_,rfl,λ S'=>?_⟩
   simp only[evs,clr,yAi,yAq,dU];rfl
 have q1:∀ bG,xx (aE fns gns aD (d+2)).1 CX aD (.seq (.s (.set 2 (.ix (.var 0) (.var 1)))) bG) [qq (.d (.tuple (rs.map Rw.d))),qq (.d (.int k)),qz,qz,qz,qz] S=xx (aE fns gns aD (d+2)).1 CX aD bG [qq (.d (.tuple (rs.map Rw.d))),qq (.d (.int k)),qq (.d r.d),qz,qz,qz] S:=λ bG=>xk (iW (by simp only[evs,rk])) rfl
 by_cases c1:r.w<1\/64<r.w
 ·rw[if_pos c1];refine mM rfl ((q1 _).trans (eU (rG (S1:=S) ?_ (eU rfl))));rw[yU rfl r1,dqT c1]
 rw[if_neg c1];have t1:=yU (C:=(aE fns gns aD (d+2)).1) (i:=2) (env:=[qq (.d (.tuple (rs.map Rw.d))),qq (.d (.int k)),qq (.d r.d),qz,qz,qz]) (S:=S) rfl r1;rw[dqF c1] at t1;have t2:tv (aE fns gns aD (d+2)).1 (.blt .any (.cons (.fz vG) .nil)) [qq (.d (.tuple (rs.map Rw.d))),qq (.d (.int k)),qq (.d r.d),qz,qz,qz] S=qq ((bE r).any λ a=>decide (((k:Nat):Int)<=((a:Nat):Int)),S):=by
  simp only[evs,ha,any_map]
 by_cases c2:((bE r).any λ a=>decide (((k:Nat):Int)<=((a:Nat):Int)))=true
 ·rw[if_pos c2];rw[c2] at t2;exact mM rfl ((q1 _).trans (xk (gZ t1 rfl) (eU (rG t2 (eU rfl)))))
 rw[if_neg c2];have lt:∀ a∈bE r,a<rs.length:=λ a m=>by
  have z:=c2;rw[yDr] at z;rcases yDm a k with q | q
  ·omega
  ·exact absurd ⟨a,m,dqT (by omega)⟩ z
 rw[Bool.eq_false_iff.mpr c2] at t2;have hb:=hb lt;have wf:=wf ((bE r).map λ a=>(aH rs a).w) (by rw[yAg];exact ol)
 have t3:xs (aE fns gns aD (d+2)).1 (.set 3 (.blt .tup (.cons (.fz vH) .nil))) [qq (.d (.tuple (rs.map Rw.d))),qq (.d (.int k)),qq (.d r.d),qz,qz,qz] S=qq (.nx [qq (.d (.tuple (rs.map Rw.d))),qq (.d (.int k)),qq (.d r.d),qq (.d (.tuple (((bE r).map λ a=>(aH rs a).w).map nD))),qz,qz],S):=by
  simp only[evs,hb,yM,yI]
 have t4:tv (aE fns gns aD (d+2)).1 (.not (.call 3 (.cons (.var 2) (.cons (.var 3) .nil)))) [qq (.d (.tuple (rs.map Rw.d))),qq (.d (.int k)),qq (.d r.d),qq (.d (.tuple (((bE r).map λ a=>(aH rs a).w).map nD))),qz,qz] S=qq (!dD r.wd r.w ((bE r).map λ a=>(aH rs a).w),S):=by
  simp only[evs,cT,wf]
 have t5:tv (aE fns gns aD (d+2)).1 (.not (.call 4 (.cons (.var 2) .nil))) [qq (.d (.tuple (rs.map Rw.d))),qq (.d (.int k)),qq (.d r.d),qq (.d (.tuple (((bE r).map λ a=>(aH rs a).w).map nD))),qz,qz] S=qq (!bn,S):=by
  have nf:=nf (by omega)
  simp only[evs,cT,nf]
 generalize dD r.wd r.w ((bE r).map λ a=>(aH rs a).w)=bf at *
 cases bf with
 | false=>exact mM rfl ((q1 _).trans (xk (gZ t1 rfl) (xk (gZ t2 rfl) (xk (iW t3) (eU (rG t4 (eU rfl)))))))
 | true =>
   cases bn with
   | false=>exact mM rfl ((q1 _).trans (xk (gZ t1 rfl) (xk (gZ t2 rfl) (xk (iW t3) (xk (gZ t4 rfl) (eU (rG t5 (eU rfl))))))))
   | true=>exact aHL rfl ((q1 _).trans (xk (gZ t1 rfl) (xk (gZ t2 rfl) (xk (iW t3) (xk (gZ t4 rfl) (xk (gZ t5 rfl) rfl))))))
theorem vV{rs:List Rw}{n k:Nat}:jQ rs (n+1) k=(match eJ rs k (aH rs k) with
 | some f=>qq (f,k)
 | none=>jQ rs n (k+1)):=rfl
noncomputable def flL(e:aQ):Option (Ft4×Nat)->FlX
 | none=>.fl (.nx e)
 | some z=>.ex e z.1.c (.int (z.2:Nat))
theorem aBG(d:Nat)(rs:List Rw)(ar:∀ r∈rs,Ar r)(S:aB)(p o:D):∀ (n j:Nat) (a1:Option W),j+n=rs.length ->
 ∃ a1':Option W,nN (.one 1) (xx (aE fns gns aD (d+3)).1 (aE fns gns aD (d+3)).2 aD kE) ((List.range' j n).map nD) [qq (.d p),a1,qq (.d (.tuple (rs.map Rw.d))),qq (.d o),qz] S=qq (flL [qq (.d p),a1',qq (.d (.tuple (rs.map Rw.d))),qq (.d o),qz] (jQ rs n j),S)
 | 0,j,a1,_=>⟨a1,rfl⟩
 | n+1,j,a1,h=>by
   have la:=aJL d rs j (by omega) (ar _ (sW (by omega))) S
   obtain⟨a1',ih⟩:=aBG d rs ar S p o n (j+1) (qq (.d (nD j))) (by omega)
   rw[vV];have eb:xx (aE fns gns aD (d+3)).1 (aE fns gns aD (d+3)).2 aD (.cal 22 (.cons (.var 2) (.cons (.var 1) .nil))) [qq (.d p),qq (.d (nD j)),qq (.d (.tuple (rs.map Rw.d))),qq (.d o),qz] S=lK (λ _ S'=>qq (aEh j (eJ rs j (aH rs j)),S')) [qq (.d p),qq (.d (nD j)),qq (.d (.tuple (rs.map Rw.d))),qq (.d o),qz] S:=by
    show lK (iK (aE fns gns aD (d+3)).2 22 (av (aE fns gns aD (d+3)).1 (.cons (.var 2) (.cons (.var 1) .nil)))) _ S=_;have e:av (aE fns gns aD (d+3)).1 (.cons (.var 2) (.cons (.var 1) .nil)) [qq (.d p),qq (.d (nD j)),qq (.d (.tuple (rs.map Rw.d))),qq (.d o),qz] S=qq ([.d (.tuple (rs.map Rw.d)),.d (nD j)],S):=by simp only[evs]
    unfold lK;rw[wC,e,oB];show yCn (hW fns gns aD (d+3) 22 [.d (.tuple (rs.map Rw.d)),.d (.int j)] S) _=_;rw[la]
   generalize (aE fns gns aD (d+3)).1=C at *;generalize (aE fns gns aD (d+3)).2=CX at *;show ∃ a1',((xx C CX aD kE [qq (.d p),qq (.d (nD j)),qq (.d (.tuple (rs.map Rw.d))),qq (.d o),qz] S).bind λ q=>_)=_
   cases hf:eJ rs j (aH rs j) with
   | none =>
     rw[hf] at eb;refine⟨a1',?_⟩;rw[show xx C CX aD kE [qq (.d p),qq (.d (nD j)),qq (.d (.tuple (rs.map Rw.d))),qq (.d o),qz] S=qq (.fl (.nx [qq (.d p),qq (.d (nD j)),qq (.d (.tuple (rs.map Rw.d))),qq (.d o),qz]),S) from xk eb rfl,oB]
     exact ih
   | some f =>
     rw[hf] at eb;refine⟨qq (.d (nD j)),?_⟩;rw[show xx C CX aD kE [qq (.d p),qq (.d (nD j)),qq (.d (.tuple (rs.map Rw.d))),qq (.d o),qz] S=qq (.ex [qq (.d p),qq (.d (nD j)),qq (.d (.tuple (rs.map Rw.d))),qq (.d o),qz] f.c (.int j),S) from eU eb,oB]
     rfl
noncomputable def bM(rs:List Rw)(aF:List Nat):D:=.tuple [.tuple (rs.map Rw.d),.tuple (aF.map nD)]
theorem aBZ(d:Nat)(rs:List Rw)(aF:List Nat)(ar:∀ r∈rs,Ar r)(hl:rs.length<=1000)(ho:aF.length<=1000)(S:aB):hW fns gns aD (d+4) 23 [.d (bM rs aF)] S=qq (aLq (fN rs aF),S):=by
 rw[show hW fns gns aD (d+4) 23=hW fns gns aD (d+4) (fns.length+1) from rfl,aCS (x:=aDi) rfl rfl (d+3) _ S rfl]
 obtain⟨a1,lo⟩:=aBG d rs ar S (bM rs aF) (.tuple (aF.map nD)) rs.length 0 qz (by omega)
 rw[<- List.range_eq_range'] at lo;unfold fN;generalize jQ rs rs.length 0=z at *;have ll:gI [.tuple (rs.map Rw.d)]=qq (.int rs.length):=by rw[cJ,yAg]
 have pu:Tg.put (.many [2,3]) (bM rs aF) [qq (.d (bM rs aF)),qz,qz,qz,qz]=qq [qq (.d (bM rs aF)),qz,qq (.d (.tuple (rs.map Rw.d))),qq (.d (.tuple (aF.map nD))),qz]:=rfl;generalize bM rs aF=P at *;generalize (aE fns gns aD (d+3)).1=C at *;generalize (aE fns gns aD (d+3)).2=CX at *;have i0:lv C oR [qq (.d P),qz,qq (.d (.tuple (rs.map Rw.d))),qq (.d (.tuple (aF.map nD))),qz] S=qq ((yAy rs.length).map nD,S):=by
  refine mH ?_ (by omega)
  generalize yCy (rs.map Rw.d)=R at *;simp only[evs,ll]
 have hc:lv C wW [qq (.d P),a1,qq (.d (.tuple (rs.map Rw.d))),qq (.d (.tuple (aF.map nD))),qz] S=qq (aF.map (λ o=>yBh (decide (((rs.length:Nat):Int)<=((o:Nat):Int)))),S):=by
  refine kH (fi:=lv C (.it (.var 3))) (fe:=ev C (.cmp .GtE (.var 4) (.blt .len (.cons (.var 2) .nil)))) nD (λ o=>yBh (decide (((rs.length:Nat):Int)<=((o:Nat):Int)))) aF ?_ (by rw[zw];omega) λ a _=>?_
  ·simp only[evs,fA]
  ·refine⟨_,rfl,λ S'=>?_⟩
   generalize yCy (rs.map Rw.d)=R at *;simp only[evs,clr,yAi,yAq,ll,nD,lI]
 have ta:tv C (.blt .any (.cons (.fz wW) .nil)) [qq (.d P),a1,qq (.d (.tuple (rs.map Rw.d))),qq (.d (.tuple (aF.map nD))),qz] S=qq (aF.any λ o=>decide (((rs.length:Nat):Int)<=((o:Nat):Int)),S):=by
  simp only[evs,hc,any_map]
 have s1:xx C CX aD (.s (.setT (.many [2,3]) (.var 0))) [qq (.d P),qz,qz,qz,qz] S=qq (.fl (.nx [qq (.d P),qz,qq (.d (.tuple (rs.map Rw.d))),qq (.d (.tuple (aF.map nD))),qz]),S):=by
  refine iW ?_;show nA _ _ _ _=_;unfold nA;rw[show ev C (.var 0) [qq (.d P),qz,qz,qz,qz] S=qq (.d P,S) from rfl,oB]
  show(Tg.put _ _ _).bind _=_;rw[pu];rfl
 have s2:xx C CX aD (.loop (.one 1) oR kE) [qq (.d P),qz,qq (.d (.tuple (rs.map Rw.d))),qq (.d (.tuple (aF.map nD))),qz] S=qq (flL [qq (.d P),a1,qq (.d (.tuple (rs.map Rw.d))),qq (.d (.tuple (aF.map nD))),qz] z,S):=by
  show tQ (.one 1) (lv C oR) (xx C CX aD kE) _ _=_;unfold tQ;rw[i0,oB];exact lo
 cases z with
 | some z=>exact mM rfl (xk s1 (eU s2))
 | none =>
   have s2:xx C CX aD (.loop (.one 1) oR kE) [qq (.d P),qz,qq (.d (.tuple (rs.map Rw.d))),qq (.d (.tuple (aF.map nD))),qz] S=qq (.fl (.nx [qq (.d P),a1,qq (.d (.tuple (rs.map Rw.d))),qq (.d (.tuple (aF.map nD))),qz]),S):=s2;dsimp only
   by_cases c:(aF.any λ o=>decide (((rs.length:Nat):Int)<=((o:Nat):Int)))=true
   ·rw[c] at ta;rw[if_pos c];have ra:xx C CX aD (.raise1 "NoRow" (.blt .len (.cons (.var 2) .nil))) [qq (.d P),a1,qq (.d (.tuple (rs.map Rw.d))),qq (.d (.tuple (aF.map nD))),qz] S=qq (.ex [qq (.d P),a1,qq (.d (.tuple (rs.map Rw.d))),qq (.d (.tuple (aF.map nD))),qz] "NoRow" (.int rs.length),S):=by
     show rY "NoRow" _ _ _=_;unfold rY;generalize yCy (rs.map Rw.d)=R at *;simp only[evs,ll]
    exact mM rfl (xk s1 (xk s2 (eU (rG ta (eU ra)))))
   ·rw[Bool.eq_false_iff.mpr c] at ta;rw[if_neg c];exact aCp rfl (xk s1 (xk s2 (xk (gZ ta rfl) (sV (iW (by simp only[evs]))))))
theorem aG2(a:Wd):aZ .In (.str a.s) (.tuple [.str "in",.str "num"])=qq (.bool (decide (a=.in\/a=.num))):=by cases a<;>rfl
theorem aJg(a:Wd):aZ .In (.str a.s) (.tuple [.str "and",.str "or",.str "xor",.str "add",.str "sub",.str "mul",.str "same",.str "less",.str "under"])=qq (.bool (decide (cW a=2))):=by cases a<;>kernel_rfl
theorem aGw(d:Nat)(a:Wd)(S:aB):cl fns (d+1) 16 [.d (.str a.s)] S=qq (.d (.int (cW a:Nat)),S):=by
 have t1:=iJ (C:=aG fns d) (i:=0) (S:=S) (e:=.tup (.cons (.str "in") (.cons (.str "num") .nil))) (env:=[qq (.d (.str a.s))]) rfl rfl (aG2 a);have t2:=iJ (C:=aG fns d) (i:=0) (S:=S) (e:=.tup (.cons (.str "and") (.cons (.str "or") (.cons (.str "xor") (.cons (.str "add") (.cons (.str "sub") (.cons (.str "mul") (.cons (.str "same") (.cons (.str "less") (.cons (.str "under") .nil)))))))))) (env:=[qq (.d (.str a.s))]) rfl rfl (aJg a);refine kJ rfl d rfl rfl yAk ?_;show xs (aG fns d) _ [qq (.d (.str a.s))] S=_
 by_cases c1:a=.in\/a=.num
 ·rw[dqT c1] at t1;rw[show cW a=0 by rcases c1 with c | c<;>rw[c]<;>rfl]
  exact cL t1 (bZ rfl)
 rw[dqF c1] at t1;refine bV t1 ?_
 by_cases c2:cW a=2
 ·rw[dqT c2] at t2;rw[c2];exact cL t2 (bZ rfl)
 rw[dqF c2] at t2;refine bV t2 (bZ ?_);have e:=fK a .pick
 by_cases c3:a=.pick
 ·rw[dqT c3] at e;have e:aZ .Eq (.str a.s) (.str "pick")=qq (.bool true):=e;rw[show cW a=3 by rw[c3];rfl]
  simp only[evs,e,mT,mW,mQ (i:=2) (j:=1) (by decide) (by decide),cV]
  rfl
 ·rw[dqF c3] at e;have e:aZ .Eq (.str a.s) (.str "pick")=qq (.bool false):=e;have h1:cW a=1:=by
   cases a<;>first | rfl | (exact absurd rfl c3) | (exact absurd rfl c2) | (exact absurd (.inl rfl) c1) | (exact absurd (.inr rfl) c1)
  rw[h1];simp only[evs,e,mT,mW,mQ (i:=2) (j:=0) (by decide) (by decide),cV]
  rfl
theorem aGU(vs:List Nat)(w:Nat):(vs.filter λ v=>!(((v:Nat):Int)==((w:Nat):Int))).isEmpty=vs.all λ v=>bJ v w:=by
 induction vs with
 | nil=>rfl
 | cons a l ih =>
   rw[yCj,yDb,<- ih];unfold bJ;cases ((a:Nat):Int)==((w:Nat):Int)<;>rfl
theorem aE8(d:Nat)(r:Rw)(vs:List Nat)(hv:vs.length=cW r.wd)(S:aB):cl fns (d+1) 17 [.d r.d,.d (.list (vs.map nD))] S=qq (.d (.bool (dD r.wd r.w vs)),S):=by
 have r0:=lQ r;have r1:=dU r;have t1:=iJ (C:=aG fns d) (i:=2) (S:=S) (e:=.tup (.cons (.str "same") (.cons (.str "less") (.cons (.str "under") .nil)))) (env:=[qq (.d r.d),qq (.d (.list (vs.map nD))),qq (.d (.str r.wd.s)),qz]) rfl rfl (sA r.wd);have t2:=gC (C:=aG fns d) (i:=2) (S:=S) (x:="pick") (env:=[qq (.d r.d),qq (.d (.list (vs.map nD))),qq (.d (.str r.wd.s)),qz]) rfl (fK r.wd .pick);have t3:=gC (C:=aG fns d) (i:=2) (S:=S) (x:="cut") (env:=[qq (.d r.d),qq (.d (.list (vs.map nD))),qq (.d (.str r.wd.s)),qz]) rfl (fK r.wd .cut);have t4:=iJ (C:=aG fns d) (i:=2) (S:=S) (e:=.tup (.cons (.str "wide") (.cons (.str "sign") .nil))) (env:=[qq (.d r.d),qq (.d (.list (vs.map nD))),qq (.d (.str r.wd.s)),qz]) rfl rfl (aCk r.wd);refine kJ rfl d rfl rfl yAk (cG (w:=.d (.str r.wd.s)) (S1:=S) (by simp only[evs,r0]) rfl ?_)
 show xs (aG fns d) _ [qq (.d r.d),qq (.d (.list (vs.map nD))),qq (.d (.str r.wd.s)),qz] S=_
 by_cases c1:r.wd=.same\/r.wd=.less\/r.wd=.under
 ·rw[dqT c1] at t1;have hn:vs.length=2:=by rcases c1 with c | c | c<;>rw[hv,c]<;>rfl
  have g0:bC (.list (vs.map nD)) (.int 0)=qq (.int ((vs.getD 0 0:Nat):Int)):=iG (k:=0) (by omega)
  have g1:bC (.list (vs.map nD)) (.int 1)=qq (.int ((vs.getD 1 0:Nat):Int)):=iG (k:=1) (by omega)
  have ef:dD r.wd r.w vs=(bJ r.w 1&&bJ (vs.getD 0 0) (vs.getD 1 0)):=by rcases c1 with c | c | c<;>rw[c]<;>rfl
  rw[ef];refine cL t1 (bZ ?_);unfold bJ;generalize yAw (vs.map nD)=T at *;rcases yBf (((r.w:Nat):Int)==1) with z | z
  ·simp only[evs,r1,bT,z,g0,g1];rw[show(((r.w:Nat):Int)==((1:Nat):Int))=true from z]
   rfl
  ·simp only[evs,r1,bT,z];rw[show(((r.w:Nat):Int)==((1:Nat):Int))=false from z]
   rfl
 rw[dqF c1] at t1;refine bV t1 ?_
 by_cases c3:r.wd=.cut
 ·rw[dqT c3] at t3;have hn:vs.length=1:=by rw[hv,c3];rfl
  have ef:dD r.wd r.w vs=decide (((r.w:Nat):Int)<=((vs.getD 0 0:Nat):Int)):=by rw[c3];rfl
  have g0:bC (.list (vs.map nD)) (.int 0)=qq (.int ((vs.getD 0 0:Nat):Int)):=iG (k:=0) (by omega)
  rw[ef];exact cL t3 (bZ (by simp only[evs,g0,r1,lI]))
 rw[dqF c3] at t3;refine bV t3 ?_
 by_cases c4:r.wd=.wide\/r.wd=.sign
 ·rw[dqT c4] at t4;have hn:vs.length=1:=by rcases c4 with c | c<;>rw[hv,c]<;>rfl
  have ef:dD r.wd r.w vs=decide (((vs.getD 0 0:Nat):Int)<=((r.w:Nat):Int)):=by rcases c4 with c | c<;>rw[c]<;>rfl
  have g0:bC (.list (vs.map nD)) (.int 0)=qq (.int ((vs.getD 0 0:Nat):Int)):=iG (k:=0) (by omega)
  rw[ef];exact cL t4 (bZ (by simp only[evs,g0,r1,sQ]))
 rw[dqF c4] at t4;refine bV t4 ?_
 by_cases c2:r.wd=.pick
 ·rw[dqT c2] at t2;have hn:vs.length=3:=by rw[hv,c2];rfl
  have ef:dD r.wd r.w vs=(bJ (vs.getD 0 0) 1&&(bJ (vs.getD 1 0) r.w&&bJ (vs.getD 2 0) r.w)):=by rw[c2];rfl
  have g0:bC (.list (vs.map nD)) (.int 0)=qq (.int ((vs.getD 0 0:Nat):Int)):=iG (k:=0) (by omega)
  have g1:bC (.list (vs.map nD)) (.int 1)=qq (.int ((vs.getD 1 0:Nat):Int)):=iG (k:=1) (by omega)
  have g2:bC (.list (vs.map nD)) (.int 2)=qq (.int ((vs.getD 2 0:Nat):Int)):=iG (k:=2) (by omega)
  rw[ef];refine cL t2 (bZ ?_);have u1:(((vs.getD 0 0:Nat):Int)==1)=bJ (vs.getD 0 0) 1:=rfl;have u2:(((vs.getD 1 0:Nat):Int)==((r.w:Nat):Int))=bJ (vs.getD 1 0) r.w:=rfl;have u3:(((vs.getD 2 0:Nat):Int)==((r.w:Nat):Int))=bJ (vs.getD 2 0) r.w:=rfl;generalize yAw (vs.map nD)=T at *;generalize bJ (vs.getD 0 0) 1=b1 at *;generalize bJ (vs.getD 1 0) r.w=b2 at *;generalize bJ (vs.getD 2 0) r.w=b3 at *;cases b1<;>cases b2<;>simp only[evs,g0,g1,g2,r1,bT,u1,u2,u3,yEa,Bool.true_and]
 rw[dqF c2] at t2;refine bV t2 (bZ ?_);rw[aCf c1 c2 c3 c4,<- aGU];have hc:lv (aG fns d) aAF [qq (.d r.d),qq (.d (.list (vs.map nD))),qq (.d (.str r.wd.s)),qz] S=qq ((vs.filter λ v=>!(((v:Nat):Int)==((r.w:Nat):Int))).map nD,S):=by
  refine rW (fi:=lv (aG fns d) (.it (.var 1))) (fc:=tv (aG fns d) (.cmp .NotEq (.var 3) (.ix (.var 0) (.int 1)))) (fe:=ev (aG fns d) (.var 3)) nD nD (λ v=>!(((v:Nat):Int)==((r.w:Nat):Int))) vs ?_ (by rw[zw,hv];cases r.wd<;>decide) λ v _=>?_
  ·simp only[evs,fA]
  ·refine⟨_,rfl,λ aW=>?_,λ _ aW=>?_⟩
   ·simp only[evs,clr,yAi,yAq,nD,r1,aId]
   ·simp only[evs,clr,yAi,yAq]
 simp only[evs,hc,aIe]
noncomputable def jS(k:Nat):Option Ft4->D
 | none=>.tuple [.str "good",.bool true]
 | some f=>.tuple [.str f.s,.int k]
noncomputable def cF:Option (Ft4×Nat)->D
 | none=>.tuple [.str "good",.bool true]
 | some z=>.tuple [.str z.1.s,.int (z.2:Nat)]
theorem xA{rs:List Rw}{a:Nat}(h:a<rs.length):bC (.list (rs.map Rw.d)) (.int a)=qq (aH rs a).d:=xS h
theorem aBX(l:List Nat)(k:Nat):(!(l.filter λ a=>decide (((k:Nat):Int)<=((a:Nat):Int))).isEmpty)=l.any λ a=>decide (((k:Nat):Int)<=((a:Nat):Int)):=by
 induction l with
 | nil=>rfl
 | cons a l ih =>
   rw[yCj,yEe,<- ih];cases decide (((k:Nat):Int)<=((a:Nat):Int))<;>rfl
theorem aHY{C:Calls}{i:Nat}{env:aQ}{S:aB}{r:Rw}(h:env[i]? = qq (qq (.d r.d)))(ar:Ar r)(hw:r.w<=64):tv C (.or (.and (.cmp .Eq (.ix (.var i) (.int 0)) (.str "num")) (.cmp .GtE (.ix (.var i) (.int 2)) (.bin .LShift (.int 1) (.ix (.var i) (.int 1))))) (.and (.cmp .In (.ix (.var i) (.int 0)) (.tup (.cons (.str "left") (.cons (.str "right") (.cons (.str "slide") .nil))))) (.cmp .Gt (.ix (.var i) (.int 3)) (.int 63)))) env S=qq (!eE r,S):=by
 have r0:=lQ r;have r1:=dU r;have is:=rV r.wd;have en:=fK r.wd .num;have en:aZ .Eq (.str r.wd.s) (.str "num")=qq (.bool (decide (r.wd=.num))):=en
 by_cases c1:r.wd=.num
 ·rw[dqT c1] at en;rw[dqF (by rw[c1];decide)] at is
  have a1:=ar1 (r:=r) (by rw[ar,c1];rfl)
  have sh:=fY (w:=r.w) (by omega)
  have ef:eE r=decide (r.args.getD 0 0<2^r.w):=by unfold eE;rw[c1]
  have eg:decide (((2^r.w:Nat):Int)<=((r.args.getD 0 0:Nat):Int)) = !decide (r.args.getD 0 0<2^r.w):=by rw[<- decide_not,decide_eq_decide];omega
  rw[ef,<- eg];generalize r.d=R at *;cases hd:decide (((2^r.w:Nat):Int)<=((r.args.getD 0 0:Nat):Int))<;>simp only[evs,h,r0,r1,en,a1,sh,lI,hd,is]
 rw[dqF c1] at en
 by_cases c2:r.wd=.left\/r.wd=.right\/r.wd=.slide
 ·rw[dqT c2] at is;have a2:=ar2 (r:=r) (by rw[ar];rcases c2 with c | c | c<;>rw[c]<;>rfl)
  have ef:eE r=decide (r.args.getD 1 0<=63):=by unfold eE;rcases c2 with c | c | c<;>rw[c]
  have eg:decide ((63:Int)<((r.args.getD 1 0:Nat):Int)) = !decide (r.args.getD 1 0<=63):=by rw[<- decide_not,decide_eq_decide];omega
  rw[ef,<- eg];generalize r.d=R at *;simp only[evs,h,r0,en,a2,iI,is]
 rw[dqF c2] at is;rw[aCm c1 c2];generalize r.d=R at *;simp only[evs,h,r0,en,is]
theorem aFR(d:Nat)(rs:List Rw)(k:Nat)(hk:k<rs.length)(ar:Ar (aH rs k))(S:aB):cl fns (d+2) 18 [.d (.list (rs.map Rw.d)),.d (.int k)] S=qq (.d (jS k (eJ rs k (aH rs k))),S):=by
 have rk:=xA hk;generalize aH rs k=r at *;have r0:=lQ r;have r1:=dU r;have mn:=aGw d r.wd S;have ol:=xK ar;have o3:=yO ar;have e2:(2:Int)+((cW r.wd:Nat):Int)=((2+cW r.wd:Nat):Int):=by omega
 have sl:ev (aG fns (d+1)) (.sl (.var 2) (.cons (.int 2) .nil) (.cons (.bin .Add (.int 2) (.call 16 (.cons (.ix (.var 2) (.int 0)) .nil))) .nil)) [qq (.d (.list (rs.map Rw.d))),qq (.d (.int k)),qq (.d r.d),qz,qz] S=qq (.d (.tuple ((bE r).map nD)),S):=by
  simp only[zD];refine aBS r (cW r.wd) (by simp only[evs]) (by simp only[evs,fM]) ?_
  simp only[evs,fM,lQ,mn,cV,e2]
 refine kJ rfl (d+1) rfl rfl yAk (cG (w:=.d r.d) (S1:=S) (by simp only[evs,rk]) rfl (cG sl rfl ?_))
 show xs (aG fns (d+1)) _ [qq (.d (.list (rs.map Rw.d))),qq (.d (.int k)),qq (.d r.d),qq (.d (.tuple ((bE r).map nD))),qz] S=_;have t1:=yU (C:=aG fns (d+1)) (i:=2) (env:=[qq (.d (.list (rs.map Rw.d))),qq (.d (.int k)),qq (.d r.d),qq (.d (.tuple ((bE r).map nD))),qz]) (S:=S) rfl r1;unfold eJ
 by_cases c1:r.w<1\/64<r.w
 ·rw[if_pos c1];rw[dqT c1] at t1;exact cL t1 (bZ rfl)
 rw[if_neg c1];rw[dqF c1] at t1;refine bV t1 ?_;have hc:lv (aG fns (d+1)) vC [qq (.d (.list (rs.map Rw.d))),qq (.d (.int k)),qq (.d r.d),qq (.d (.tuple ((bE r).map nD))),qz] S=qq (((bE r).filter λ a=>decide (((k:Nat):Int)<=((a:Nat):Int))).map nD,S):=by
  refine rW (fi:=lv (aG fns (d+1)) (.it (.var 3))) (fc:=tv (aG fns (d+1)) (.cmp .GtE (.var 4) (.var 1))) (fe:=ev (aG fns (d+1)) (.var 4)) nD nD (λ a=>decide (((k:Nat):Int)<=((a:Nat):Int))) (bE r) ?_ (by rw[zw];omega) λ v _=>?_
  ·simp only[evs,fA]
  ·refine⟨_,rfl,λ aW=>?_,λ _ aW=>?_⟩
   ·simp only[evs,clr,yAi,yAq,nD,lI]
   ·simp only[evs,clr,yAi,yAq]
 have t2:tv (aG fns (d+1)) (.cmp .NotEq (.fz vC) (.fz (.lst .nil))) [qq (.d (.list (rs.map Rw.d))),qq (.d (.int k)),qq (.d r.d),qq (.d (.tuple ((bE r).map nD))),qz] S=qq ((bE r).any λ a=>decide (((k:Nat):Int)<=((a:Nat):Int)),S):=by
  rw[<- aBX];simp only[evs,hc,xV]
 by_cases c2:((bE r).any λ a=>decide (((k:Nat):Int)<=((a:Nat):Int)))=true
 ·rw[if_pos c2];rw[c2] at t2;exact cL t2 (bZ rfl)
 rw[if_neg c2];have lt:∀ a∈bE r,a<rs.length:=λ a m=>by
  have z:=c2;rw[yDr] at z;rcases yDm a k with q | q
  ·omega
  ·exact absurd ⟨a,m,dqT (by omega)⟩ z
 rw[Bool.eq_false_iff.mpr c2] at t2;refine bV t2 ?_;have hb:lv (aG fns (d+1)) vF [qq (.d (.list (rs.map Rw.d))),qq (.d (.int k)),qq (.d r.d),qq (.d (.tuple ((bE r).map nD))),qz] S=qq (((bE r).map λ a=>(aH rs a).w).map nD,S):=by
  rw[List.map_map];refine kH (fi:=lv (aG fns (d+1)) (.it (.var 3))) (fe:=ev (aG fns (d+1)) (.ix (.ix (.var 0) (.var 4)) (.int 1))) nD (nD ∘ λ a=>(aH rs a).w) (bE r) ?_ (by rw[zw];omega) λ a ha=>?_
  ·simp only[evs,fA]
  ·refine⟨_,rfl,λ S'=>?_⟩
   have g:=xA (lt a ha);simp only[evs,clr,yAi,yAq,nD,g,dU];rfl
 have ft:=aE8 d r ((bE r).map λ a=>(aH rs a).w) (by rw[yAg];exact ol) S
 have t4:tv (aG fns (d+1)) (.not (.call 17 (.cons (.var 2) (.cons (.fz vF) .nil)))) [qq (.d (.list (rs.map Rw.d))),qq (.d (.int k)),qq (.d r.d),qq (.d (.tuple ((bE r).map nD))),qz] S=qq (!dD r.wd r.w ((bE r).map λ a=>(aH rs a).w),S):=by
  simp only[evs,hb,ft]
 have t5:=aHY (C:=aG fns (d+1)) (i:=2) (env:=[qq (.d (.list (rs.map Rw.d))),qq (.d (.int k)),qq (.d r.d),qq (.d (.tuple ((bE r).map nD))),qz]) (S:=S) rfl ar (by omega)
 generalize dD r.wd r.w ((bE r).map λ a=>(aH rs a).w)=bf at *
 generalize eE r=bn at *;cases bf with
 | false=>exact cL t4 (bZ rfl)
 | true =>
   refine bV t4 ?_;cases bn with
   | false=>exact cL t5 (bZ rfl)
   | true=>exact bV t5 (bZ rfl)
theorem aHB(f:Ft4):aZ .NotEq (.str f.s) (.str "good")=qq (.bool true):=by cases f<;>kernel_rfl
theorem aGu:aZ .NotEq (.str "good") (.str "good")=qq (.bool false):=by kernel_rfl
noncomputable def flD(e:aQ):Option (Ft4×Nat)->Fl
 | none=>.nx e
 | some z=>.rt (.d (cF (qq z)))
theorem aBq(d:Nat)(rs:List Rw)(ar:∀ r∈rs,Ar r)(S:aB)(o:D):∀ (n j:Nat) (a2 a3:Option W),j+n=rs.length ->
 ∃ a2' a3':Option W,kP (.one 2) (xs (aG fns (d+2)) iA) ((List.range' j n).map nD) [qq (.d (.list (rs.map Rw.d))),qq (.d o),a2,a3,qz] S=qq (flD [qq (.d (.list (rs.map Rw.d))),qq (.d o),a2',a3',qz] (jQ rs n j),S)
 | 0,j,a2,a3,_=>⟨a2,a3,rfl⟩
 | n+1,j,a2,a3,h=>by
   have la:=aFR d rs j (by omega) (ar _ (sW (by omega))) S
   obtain⟨a2',a3',ih⟩:=aBq d rs ar S o n (j+1) (qq (.d (nD j))) (qq (.d (jS j (eJ rs j (aH rs j))))) (by omega)
   rw[vV];have s1:xs (aG fns (d+2)) (.set 3 (.call 18 (.cons (.var 0) (.cons (.var 2) .nil)))) [qq (.d (.list (rs.map Rw.d))),qq (.d o),qq (.d (nD j)),a3,qz] S=qq (.nx [qq (.d (.list (rs.map Rw.d))),qq (.d o),qq (.d (nD j)),qq (.d (jS j (eJ rs j (aH rs j)))),qz],S):=by
    simp only[evs,nD,la]
   show ∃ a2' a3',((xs (aG fns (d+2)) iA [qq (.d (.list (rs.map Rw.d))),qq (.d o),qq (.d (nD j)),a3,qz] S).bind λ q=>_)=_
   generalize aG fns (d+2)=C at *;generalize yAw (rs.map Rw.d)=R at *;cases hf:eJ rs j (aH rs j) with
   | none =>
     rw[hf] at s1 ih;refine⟨a2',a3',?_⟩;have e:xs C iA [qq (.d R),qq (.d o),qq (.d (nD j)),a3,qz] S=qq (.nx [qq (.d R),qq (.d o),qq (.d (nD j)),qq (.d (jS j qz)),qz],S):=by
      refine eR s1 (bV (S1:=S) ?_ rfl);have i0:bC (jS j qz) (.int 0)=qq (.str "good"):=rfl;generalize jS j qz=T at *;simp only[evs,i0,aGu]
     rw[e,oB];exact ih
   | some f =>
     rw[hf] at s1;refine⟨qq (.d (nD j)),qz,?_⟩;have e:xs C iA [qq (.d R),qq (.d o),qq (.d (nD j)),a3,qz] S=qq (.rt (.d (jS j (qq f))),S):=by
      refine eR s1 (cL (S1:=S) ?_ (bZ rfl));have i0:bC (jS j (qq f)) (.int 0)=qq (.str f.s):=rfl;generalize jS j (qq f)=T at *;simp only[evs,i0,aHB f]
     rw[e,oB];rfl
theorem aIF(d:Nat)(rs:List Rw)(aF:List Nat)(ar:∀ r∈rs,Ar r)(hl:rs.length<=1000)(ho:aF.length<=1000)(S:aB):cl fns (d+3) 19 [.d (.list (rs.map Rw.d)),.d (.tuple (aF.map nD))] S=qq (.d (cF (fN rs aF)),S):=by
 obtain⟨a2,a3,lo⟩:=aBq d rs ar S (.tuple (aF.map nD)) rs.length 0 qz qz (by omega)
 rw[<- List.range_eq_range'] at lo;unfold fN;generalize jQ rs rs.length 0=z at *;have ll:gI [.list (rs.map Rw.d)]=qq (.int rs.length):=by rw[cH,yAg]
 refine kJ rfl (d+2) rfl rfl yAk ?_;show xs (aG fns (d+2)) aBa [qq (.d (.list (rs.map Rw.d))),qq (.d (.tuple (aF.map nD))),qz,qz,qz] S=_;generalize aG fns (d+2)=C at *;generalize yAw (rs.map Rw.d)=R at *;have i0:lv C kY [qq (.d R),qq (.d (.tuple (aF.map nD))),qz,qz,qz] S=qq ((yAy rs.length).map nD,S):=by
  refine mH ?_ (by omega)
  simp only[evs,ll]
 have s1:xs C (.loop (.one 2) kY iA) [qq (.d R),qq (.d (.tuple (aF.map nD))),qz,qz,qz] S=qq (flD [qq (.d R),qq (.d (.tuple (aF.map nD))),a2,a3,qz] z,S):=by
  show lS (.one 2) (lv C kY) (xs C iA) _ _=_;unfold lS;rw[i0,oB];exact lo
 have hc:lv C vK [qq (.d R),qq (.d (.tuple (aF.map nD))),a2,a3,qz] S=qq ((aF.filter λ o=>decide (((rs.length:Nat):Int)<=((o:Nat):Int))).map nD,S):=by
  refine rW (fi:=lv C (.it (.var 1))) (fc:=tv C (.cmp .GtE (.var 4) (.blt .len (.cons (.var 0) .nil)))) (fe:=ev C (.var 4)) nD nD (λ o=>decide (((rs.length:Nat):Int)<=((o:Nat):Int))) aF ?_ (by rw[zw];omega) λ v _=>?_
  ·simp only[evs,fA]
  ·refine⟨_,rfl,λ aW=>?_,λ _ aW=>?_⟩
   ·simp only[evs,clr,yAi,yAq,nD,ll,lI]
   ·simp only[evs,clr,yAi,yAq]
 have t2:tv C (.cmp .NotEq (.fz vK) (.fz (.lst .nil))) [qq (.d R),qq (.d (.tuple (aF.map nD))),a2,a3,qz] S=qq (aF.any λ o=>decide (((rs.length:Nat):Int)<=((o:Nat):Int)),S):=by
  rw[<- aBX];simp only[evs,hc,xV]
 cases z with
 | some z =>
   have s1:xs C (.loop (.one 2) kY iA) [qq (.d R),qq (.d (.tuple (aF.map nD))),qz,qz,qz] S=qq (.rt (.d (cF (qq z))),S):=s1;show(xs C (.loop (.one 2) kY iA) [qq (.d R),qq (.d (.tuple (aF.map nD))),qz,qz,qz] S).bind _=_;rw[s1];rfl
 | none =>
   have s1:xs C (.loop (.one 2) kY iA) [qq (.d R),qq (.d (.tuple (aF.map nD))),qz,qz,qz] S=qq (.nx [qq (.d R),qq (.d (.tuple (aF.map nD))),a2,a3,qz],S):=s1;refine eR s1 ?_;dsimp only
   by_cases c:(aF.any λ o=>decide (((rs.length:Nat):Int)<=((o:Nat):Int)))=true
   ·rw[c] at t2;rw[if_pos c];refine cL t2 (bZ ?_);simp only[evs,ll];rfl
   ·rw[Bool.eq_false_iff.mpr c] at t2;rw[if_neg c];exact bV t2 (bZ rfl)
noncomputable def Ft4.i:Ft4->Nat
 | .width=>0 | .row=>1 | .fit=>2 | .number=>3
theorem pS(f g:Ft4):aD f.c g.c=qq (f.i==g.i):=by cases f<;>cases g<;>kernel_rfl
theorem xZ{C:Calls}{CX:eC}{x:Xx}{n:Nat}{ws:List W}{env:aQ}{S:aB}{y:D}(he:ws.map qq++yAd (n-ws.length) qz=env)(k:xx C CX aD x env S=qq (.fl (.rt (.d y)),S)):kK (dJ (xx C CX aD x) n) ws S=qq (.d y,S):=by
 unfold kK;rw[aCp he k,oB]
noncomputable def flT(P:D)(a:Option W):Option (Ft4×Nat)->FlX
 | none=>.fl (.nx [qq (.d P),qq (.d (.tuple [.str "good",.bool true])),qz])
 | some z=>.ex [qq (.d P),a,qz] z.1.c (.int (z.2:Nat))
noncomputable def tHs:List (Str×Option Nat×List Hs):=[("NoWidth",qq 2,[.tup 1 [.str "width",.row 2]]),("NoRow",qq 2,[.tup 1 [.str "row",.row 2]]),("NoFit",qq 2,[.tup 1 [.str "fit",.row 2]]),("NoNumber",qq 2,[.tup 1 [.str "number",.row 2]])]
theorem aGY(f:Ft4)(k:Int)(P:D)(a:Option W)(S:aB):dB aD f.c (.int k) (tHs.map λ h=>⟨h.1,h.2.1,iO aD h.2.2⟩) [qq (.d P),a,qz] S=qq (.nx [qq (.d P),qq (.d (.tuple [.str f.s,.int k])),qz],S):=by
 have t1:aD f.c "NoWidth" = qq (f.i==0):=pS f .width;have t2:aD f.c "NoRow" = qq (f.i==1):=pS f .row;have t3:aD f.c "NoFit" = qq (f.i==2):=pS f .fit;have t4:aD f.c "NoNumber" = qq (f.i==3):=pS f .number;have t5:∃ b,aD f.c f.c=qq b:=⟨_,pS f f⟩;obtain⟨b,t5⟩:=t5;have ff:∀ n,f.i=n->∀ S,iN aD (cP 2) [qq (.d P),a,qq (.exc f.c (.int k))] S=qq (.d (.int k),S):=λ n _ S=>by
  simp only[iN,cP,kQ,oB,yBi,yBs,t5]
 cases f<;>simp only[evs,tHs,yAm,yCf,dB,t1,t2,t3,t4,Ft4.i,beq_self_eq_true,Nat.reduceBEq,iO,eY,hv,jZ,ff _ rfl,qM,Ft4.s]
theorem aGx(d:Nat)(rs:List Rw)(aF:List Nat)(ar:∀ r∈rs,Ar r)(hl:rs.length<=1000)(ho:aF.length<=1000)(S:aB):cC fns gns aD (d+5) 24 [.d (bM rs aF)] S=qq (.d (cF (fN rs aF)),S):=by
 have lo:=aBZ d rs aF ar hl ho S;rw[show cC fns gns aD (d+5) 24=cC fns gns aD (d+5) (fns.length+2) from rfl,mY rfl (d+4) _ S rfl]
 generalize fN rs aF=z at *;generalize bM rs aF=P at *;have cx:∀ a,xx (aE fns gns aD (d+4)).1 (aE fns gns aD (d+4)).2 aD (.seq (.pair 1 "good" 23 (.cons (.var 0) .nil)) .skip) [qq (.d P),a,qz] S=qq (flT P a z,S):=λ a=>by
  have e:xx (aE fns gns aD (d+4)).1 (aE fns gns aD (d+4)).2 aD (.pair 1 "good" 23 (.cons (.var 0) .nil)) [qq (.d P),a,qz] S=qq (flT P a z,S):=by
   show nU 1 (sS "good" (iK (aE fns gns aD (d+4)).2 23 (av (aE fns gns aD (d+4)).1 (.cons (.var 0) .nil)))) _ S=_;have:av (aE fns gns aD (d+4)).1 (.cons (.var 0) .nil) [qq (.d P),a,qz] S=qq ([.d P],S):=by simp only[evs]
   unfold nU sS;rw[wC,this,oB,lo];cases z<;>rfl
  cases z with
  | none=>exact xk e rfl
  | some z=>exact eU e
 unfold eV;show kK (dJ (xx (aE fns gns aD (d+4)).1 (aE fns gns aD (d+4)).2 aD aA2) 3) [.d P] S=_;generalize (aE fns gns aD (d+4)).1=C at *;generalize (aE fns gns aD (d+4)).2=CX at *;refine xZ rfl (xk (iW (fl:=.nx [qq (.d P),qq (.d (.tuple [.str "none",.int 0])),qz]) (S1:=S) (by simp only[evs])) ?_)
 refine xk (e1:=[qq (.d P),qq (.d (cF z)),qz]) (S1:=S) ?_ (sV (iW (by simp only[evs])))
 show nJ aD (xx C CX aD (.seq (.pair 1 "good" 23 (.cons (.var 0) .nil)) .skip)) (tHs.map λ h=>⟨h.1,h.2.1,iO aD h.2.2⟩) _ S=_
 unfold nJ;rw[cx,oB];cases z with
 | none=>rfl
 | some z =>
   show(dB aD z.1.c (.int (z.2:Nat)) _ _ S).bind _=_;rw[aGY];rfl
noncomputable def qB(f:Ft4):List D:=[.bool true,.bool (f.i==0),.bool (f.i==1),.bool (f.i==2),.bool (f.i==3),.bool false]
noncomputable def cHs:List (Str×Option Nat×List Hs):=[("BitsError",qq 2,[.lst false 1 [.isi 2 "ValueError",.isi 2 "NoWidth",.isi 2 "NoRow",.isi 2 "NoFit"],.cat 1 [.isi 2 "NoNumber",.isl 2 ["NoLine", "TooMany"]]])]
theorem aKz(f:Ft4):aD f.c "BitsError" = qq true:=by cases f<;>kernel_rfl
theorem aKr(f:Ft4):fB aD f.c ["ValueError"]=qq true:=by cases f<;>kernel_rfl
theorem tF(f g:Ft4):fB aD f.c [g.c]=qq (f.i==g.i):=by cases f<;>cases g<;>kernel_rfl
theorem aJZ(f:Ft4):fB aD f.c ["NoLine", "TooMany"]=qq false:=by cases f<;>kernel_rfl
theorem aIz(f:Ft4)(k:Int)(P:D)(a:Option W)(S:aB):dB aD f.c (.int k) (cHs.map λ h=>⟨h.1,h.2.1,iO aD h.2.2⟩) [qq (.d P),a,qz] S=qq (.nx [qq (.d P),qq (.d (.list (qB f))),qz],S):=by
 have t0:=aKz f;have q0:=aKr f;have q1:fB aD f.c ["NoWidth"]=qq (f.i==0):=tF f .width;have q2:fB aD f.c ["NoRow"]=qq (f.i==1):=tF f .row;have q3:fB aD f.c ["NoFit"]=qq (f.i==2):=tF f .fit;have q4:fB aD f.c ["NoNumber"]=qq (f.i==3):=tF f .number;have q5:=aJZ f;have ct:bW .Add (.list [.bool true,.bool (f.i==0),.bool (f.i==1),.bool (f.i==2)]) (.list [.bool (f.i==3),.bool false])=qq (.list (qB f)):=lC (by simp)
 simp only[evs,cHs,yAm,yCf,dB,t0,iO,eY,hv,jZ,iS,kQ,q0,q1,q2,q3,q4,q5,ct,qM]
theorem aFn(d:Nat)(rs:List Rw)(aF:List Nat)(ar:∀ r∈rs,Ar r)(hl:rs.length<=1000)(ho:aF.length<=1000)(z:Ft4×Nat)(hz:fN rs aF=qq z)(S:aB):cC fns gns aD (d+5) 25 [.d (bM rs aF)] S=qq (.d (.list (qB z.1)),S):=by
 have lo:=aBZ d rs aF ar hl ho S;rw[show cC fns gns aD (d+5) 25=cC fns gns aD (d+5) (fns.length+3) from rfl,mY rfl (d+4) _ S rfl]
 rw[hz] at lo;generalize bM rs aF=P at *;have cx:∀ a,xx (aE fns gns aD (d+4)).1 (aE fns gns aD (d+4)).2 aD (.seq (.cal 23 (.cons (.var 0) .nil)) .skip) [qq (.d P),a,qz] S=qq (.ex [qq (.d P),a,qz] z.1.c (.int (z.2:Nat)),S):=λ a=>by
  refine eU ?_;show lK (iK (aE fns gns aD (d+4)).2 23 (av (aE fns gns aD (d+4)).1 (.cons (.var 0) .nil))) _ S=_;have:av (aE fns gns aD (d+4)).1 (.cons (.var 0) .nil) [qq (.d P),a,qz] S=qq ([.d P],S):=by simp only[evs]
  unfold lK;rw[wC,this,oB,lo];rfl
 unfold eV;show kK (dJ (xx (aE fns gns aD (d+4)).1 (aE fns gns aD (d+4)).2 aD aAK) 3) [.d P] S=_;generalize (aE fns gns aD (d+4)).1=C at *;generalize (aE fns gns aD (d+4)).2=CX at *;refine xZ rfl (xk (iW (fl:=.nx [qq (.d P),qq (.d (.list [])),qz]) (S1:=S) (by simp only[evs])) ?_)
 refine xk (e1:=[qq (.d P),qq (.d (.list (qB z.1))),qz]) (S1:=S) ?_ (sV (iW (by simp only[evs])))
 show nJ aD (xx C CX aD (.seq (.cal 23 (.cons (.var 0) .nil)) .skip)) (cHs.map λ h=>⟨h.1,h.2.1,iO aD h.2.2⟩) _ S=_
 unfold nJ;rw[cx,oB];show(dB aD z.1.c (.int (z.2:Nat)) _ _ S).bind _=_;rw[aIz];rfl
theorem aH4(f:Ft4):PyData.strOk f.s=true:=by cases f<;>kernel_rfl
theorem aHE(f:Ft4)(k:Int):aZ .NotEq (.tuple [.str f.s,.int k]) (.tuple [.str f.s,.int k])=qq (.bool false):=by
 unfold aZ jT;simp[PyData.canLay0,yCb,PyData.depth,yCd,yCx,PyData.eqvAll,aH4 f]
noncomputable def wl:List Str:=["any", "width", "row", "fit", "number", "no"]
noncomputable def tJ(f:Ft4)(s:Str):Bool:=match aZ .In (.str s) (.tuple [.str "any",.str f.s]) with
 | some (.bool b)=>b
 | _=>false
theorem aIP(f:Ft4)(s:Str)(h:s∈wl):aZ .In (.str s) (.tuple [.str "any",.str f.s])=qq (.bool (tJ f s)):=by
 simp only[wl,yAr,yAn,or_false] at h;rcases h with rfl | rfl | rfl | rfl | rfl | rfl<;>cases f<;>kernel_rfl
theorem aIa(f:Ft4):aZ .Eq (.list (qB f)) (.list (wl.map λ s=>yBh (tJ f s)))=qq (.bool true):=by cases f<;>kernel_rfl
theorem aGZ(f:Ft4):aZ .Eq (.str f.s) (.str "good")=qq (.bool false):=by cases f<;>kernel_rfl
theorem aBz:aZ .Eq (.str "good") (.str "good")=qq (.bool true):=by kernel_rfl
theorem aHc:aZ .NotEq (.tuple [.str "good",.bool true]) (.tuple [.str "good",.bool true])=qq (.bool false):=by kernel_rfl
theorem aDn(a:Bool):aZ .NotEq (.bool a) (.bool a)=qq (.bool false):=by cases a<;>kernel_rfl
theorem aBK(d:Nat)(rs:List Rw)(aF:List Nat)(ar:∀ r∈rs,Ar r)(hl:rs.length<=1000)(ho:aF.length<=1000)(S:aB):cC fns gns aD (d+6) 26 [.d (bM rs aF),.d (cF (fN rs aF))] S=qq (.d (.bool true),S):=by
 have to:=aGx d rs aF ar hl ho S;have cs:=aFn d rs aF ar hl ho;rw[show cC fns gns aD (d+6) 26=cC fns gns aD (d+6) (fns.length+4) from rfl,mY rfl (d+5) _ S rfl]
 generalize fN rs aF=z at *;generalize bM rs aF=P at *;show cB (xs (aE fns gns aD (d+5)).1 oJ) 4 [.d P,.d (cF z)] S=_;have bB:∀ x,xs (aE fns gns aD (d+5)).1 oJ [qq (.d P),qq (.d (cF z)),qz,qz] S=qq (.rt (.d x),S)->cB (xs (aE fns gns aD (d+5)).1 oJ) 4 [.d P,.d (cF z)] S=qq (.d x,S):=λ x e=>by
  unfold cB;show(xs (aE fns gns aD (d+5)).1 oJ [qq (.d P),qq (.d (cF z)),qz,qz] S).bind _=_;rw[e,oB];show qq (W.d x,S.take S.length)=_;rw[yAk]
 refine bB _ (cG (w:=.d (cF z)) (S1:=S) (by simp only[evs,cT,to]) rfl ?_)
 show xs (aE fns gns aD (d+5)).1 _ [qq (.d P),qq (.d (cF z)),qq (.d (cF z)),qz] S=_;cases z with
 | none =>
   have n1:aZ .NotEq (cF qz) (cF qz)=qq (.bool false):=aHc;have i1:bC (cF qz) (.int 1)=qq (.bool true):=rfl;have i0:bC (cF qz) (.int 0)=qq (.str "good"):=rfl;generalize cF qz=T at *;refine bV (S1:=S) (by simp only[evs,n1,i1,i0,aBz,aDn]) (cL (S1:=S) (by simp only[evs,i0,aBz]) (bZ (by simp only[evs])))
 | some z =>
   obtain⟨f,k⟩:=z;have cs:=cs (f,k) rfl S;have n1:aZ .NotEq (cF (qq (f,k))) (cF (qq (f,k)))=qq (.bool false):=aHE f k;have i1:bC (cF (qq (f,k))) (.int 1)=qq (.int k):=rfl;have i0:bC (cF (qq (f,k))) (.int 0)=qq (.str f.s):=rfl;have eg:=aGZ f;generalize cF (qq (f,k))=T at *;refine bV (S1:=S) (by simp only[evs,n1,i1,i0,eg,aDn]) (bV (S1:=S) (by simp only[evs,i0,eg]) (bZ ?_))
   have hc:lv (aE fns gns aD (d+5)).1 aAI [qq (.d P),qq (.d T),qq (.d T),qz] S=qq (wl.map (λ s=>yBh (tJ f s)),S):=by
    refine kH (fi:=lv (aE fns gns aD (d+5)).1 (.it (.fz (.lst (.cons (.str "any") (.cons (.str "width") (.cons (.str "row") (.cons (.str "fit") (.cons (.str "number") (.cons (.str "no") .nil)))))))))) (fe:=ev (aE fns gns aD (d+5)).1 (.cmp .In (.var 3) (.tup (.cons (.str "any") (.cons (.ix (.var 1) (.int 0)) .nil))))) yCe (λ s=>yBh (tJ f s)) wl ?_ (by rw[zw];decide) λ s hs=>?_
    ·simp only[evs,fA,wl]
    ·refine⟨_,rfl,λ S'=>?_⟩
     have ia:=aIP f s hs;simp only[evs,clr,yAi,yAq,i0,ia]
   have eq:=aIa f;simp only[evs,cT,cs,hc,eq]
noncomputable def kU(n:Nat)(c:Str):D:=.dict [(.str c,.int n)]
noncomputable def gM:List Str:=["NoLine", "NoWidth", "NoRow", "NoFit", "NoNumber"]
theorem aHw(c:Str)(h:c∈gM):aD c c=qq true:=by
 simp only[gM,yAr,yAn,or_false] at h;rcases h with rfl | rfl | rfl | rfl | rfl<;>kernel_rfl
theorem aIL:fB aD "TooMany" ["BitsError"]=qq true:=by kernel_rfl
theorem aHp(n:Int):aZ .Eq (.list [.int n,.int n,.int n,.int n,.int n]) (.list [.int n,.int n,.int n,.int n,.int n])=qq (.bool true):=by
 unfold aZ jT;simp[PyData.canLay0,yCb,PyData.depth,yCd,yCx,PyData.eqvAll]
theorem aG5(d n:Nat)(S:aB):cC fns gns aD (d+1) 27 [.d (.int n)] S=qq (.d (.bool true),S):=by
 rw[show cC fns gns aD (d+1) 27=cC fns gns aD (d+1) (fns.length+5) from rfl,mY rfl d _ S rfl]
 unfold eV;show kK (dJ (xx (aE fns gns aD d).1 (aE fns gns aD d).2 aD aAE) 3) [.d (.int n)] S=_;generalize (aE fns gns aD d).1=C at *;generalize (aE fns gns aD d).2=CX at *;refine xZ rfl (xk (e1:=[qq (.d (.int n)),qq (.d (.list (gM.map (kU n)))),qz]) (S1:=S) ?_ (sV ?_))
 ·show xP (dY 1 (dF (iY (qH (ev C (.var 0)) gM)))) _ S=_;simp only[evs,xP,qH,gM,zZ,kU]
 ·show xP (iR (lM (fO .Eq (dF (dW (.one 2) (lv C (.it (.var 1))) jC (iN aD (cP 2)))) (ev C (.fz (.lrep (.fz (.lst (.cons (.var 0) .nil))) (.int 5))))) (iS aD (nR "TooMany") ["BitsError"]))) _ S=_;have hc:dW (.one 2) (lv C (.it (.var 1))) jC (iN aD (cP 2)) [qq (.d (.int n)),qq (.d (.list (gM.map (kU n)))),qz] S=qq (gM.map (λ _=>yAh (n:Nat)),S):=by
   refine kH (kU n) (λ _=>yAh (n:Nat)) gM ?_ (by rw[zw];decide) λ c hc=>?_
   ·simp only[evs,fA]
   ·refine⟨_,rfl,λ S'=>?_⟩
    have t:=aHw c hc;simp only[iN,cP,clr,yAi,yAq,Tg.slots,yBo,yBp,yBi,yBs,oB,kU,kQ,t]
  have hr:ev C (.fz (.lrep (.fz (.lst (.cons (.var 0) .nil))) (.int 5))) [qq (.d (.int n)),qq (.d (.list (gM.map (kU n)))),qz] S=qq (.d (.list [.int n,.int n,.int n,.int n,.int n]),S):=by
   generalize yAw (gM.map (kU n))=T;simp only[evs,uB];rfl
  have e5:aZ .Eq (.list (gM.map λ _=>yAh (n:Nat))) (.list [.int n,.int n,.int n,.int n,.int n])=qq (.bool true):=aHp n
  have a1:fO .Eq (dF (dW (.one 2) (lv C (.it (.var 1))) jC (iN aD (cP 2)))) (ev C (.fz (.lrep (.fz (.lst (.cons (.var 0) .nil))) (.int 5)))) [qq (.d (.int n)),qq (.d (.list (gM.map (kU n)))),qz] S=qq (.d (.bool true),S):=by
   simp only[fO,f2,dF,hc,oB,hr,gN,dr,e5]
  have a2:∀ env,iS aD (nR "TooMany") ["BitsError"] env S=qq (.d (.bool true),S):=λ env=>by
   simp only[iS,nR,oB,kQ,aIL]
  simp only[xP,iR,lM,a1,a2,oB]
theorem aBF{ws:List Nat}{r:Rw}(h:gG ws r):Ar r:=by
 obtain⟨wd,w,args⟩:=r;rcases args with _ | ⟨a,_ | ⟨b,_ | ⟨c,_ | ⟨e,t⟩⟩⟩⟩<;>cases wd<;>first | rfl | exact h.2.2.elim
theorem vZ:∀ {rs:List Rw}{ws:List Nat},cM ws rs->∀ r∈rs,Ar r
 | [],_,_,r,h=>by cases h
 | q::rs,ws,⟨h1,h2⟩,r,h=>by
   rcases List.mem_cons.mp h with rfl | h
   ·exact aBF h1
   ·exact vZ h2 r h
theorem aBj:∀ (rs:List Rw) (ws:List Nat),cM ws rs->∀ (j:Nat) (r:Rw),rs[j]? = qq r->gG (ws++(rs.take j).map (·.w)) r
 | [],_,_,j,r,h=>by simp at h
 | q::rs,ws,⟨h1,h2⟩,0,r,h=>by
   cases h;simpa using h1
 | q::rs,ws,⟨h1,h2⟩,j+1,r,h=>by
   have:=aBj rs (ws++[q.w]) h2 j r (by simpa using h)
   simpa using this
theorem iB{rs:List Rw}{k:Nat}{r:Rw}(h1:1<=r.w)(h2:r.w<=64)(h3:∀ a∈bE r,a<k)(h4:dD r.wd r.w ((bE r).map λ a=>(aH rs a).w)=true)(h5:eE r=true):eJ rs k r=qz:=by
 unfold eJ;have c2:¬ ((bE r).any λ a=>decide (((k:Nat):Int)<=((a:Nat):Int)))=true:=λ z=>by
  rw[yDr] at z;obtain⟨a,m,q⟩:=z;have:=h3 a m;have:=oqT q;omega
 rw[if_neg (by omega),if_neg c2,h4,if_neg (by decide),h5,if_neg (by decide)]
theorem mV{a b:Nat}(h:a=b):bJ a b=true:=by
 subst h;unfold bJ;exact beq_self_eq_true _
theorem aGv{rs:List Rw}{k:Nat}{ws:List Nat}{r:Rw}(hw:∀ a v,ws[a]? = qq v->a<k/\(aH rs a).w=v)(h:gG ws r):eJ rs k r=qz:=by
 have ha:=aBF h;obtain⟨wd,w,args⟩:=r;have e1:∀ {a v:Nat},ws[a]? = qq v->(∀ x∈[a],x<k):=λ q x m=>by
  rw[yDc] at m;subst m;exact(hw _ _ q).1
 have e2:∀ {a b v u:Nat},ws[a]? = qq v->ws[b]? = qq u->(∀ x∈[a,b],x<k):=λ q q' x m=>by
  rcases List.mem_cons.mp m with rfl | m
  ·exact(hw _ _ q).1
  ·exact e1 q' x m
 have a1:∀ {a v:Nat},ws[a]? = qq v->([a].map λ a=>(aH rs a).w)=[v]:=λ q=>by
  rw[yAm,(hw _ _ q).2,yCf]
 have a2:∀ {a b v u:Nat},ws[a]? = qq v->ws[b]? = qq u->([a,b].map λ a=>(aH rs a).w)=[v,u]:=λ q q'=>by
  rw[yAm,(hw _ _ q).2,a1 q']
 have i1:∀ v:Nat,([v].all λ x=>bJ x v)=true:=λ v=>by rw[yDb,mV rfl];rfl
 have i2:∀ v:Nat,([v,v].all λ x=>bJ x v)=true:=λ v=>by rw[yDb,mV rfl];exact i1 v
 have cm:∀ {a b v:Nat},ws[a]? = qq v->ws[b]? = qq v->(bJ 1 1&&bJ (([a,b].map λ a=>(aH rs a).w).getD 0 0) (([a,b].map λ a=>(aH rs a).w).getD 1 0))=true:=λ {a b v} q q'=>by
  rw[a2 q q'];show(bJ 1 1&&bJ v v)=true;rw[mV rfl,mV rfl];rfl
 rcases args with _ | ⟨a,_ | ⟨b,_ | ⟨c,_ | ⟨e,t⟩⟩⟩⟩
 ·cases wd<;>first | exact h.2.2.elim | exact iB h.1 h.2.1 (λ x m=>by cases m) rfl rfl
 ·cases wd
  case num=>exact iB h.1 h.2.1 (λ x m=>by cases m) rfl (dqT h.2.2)
  case not=>exact iB h.1 h.2.1 (e1 h.2.2) (by show((([a].map λ a=>(aH rs a).w)).all λ v=>bJ v w)=true;rw[a1 h.2.2];exact i1 w) rfl
  case cut =>
   obtain⟨v,q1,q2⟩:=h.2.2;have q2:w<=v:=q2;exact iB h.1 h.2.1 (e1 q1) (by show decide (((w:Nat):Int)<=(((([a].map λ a=>(aH rs a).w)).getD 0 0:Nat):Int))=true;rw[a1 q1];exact dqT (by show((w:Nat):Int)<=((v:Nat):Int);omega)) rfl
  case wide =>
   obtain⟨v,q1,q2⟩:=h.2.2;have q2:v<=w:=q2;exact iB h.1 h.2.1 (e1 q1) (by show decide ((((([a].map λ a=>(aH rs a).w)).getD 0 0:Nat):Int)<=((w:Nat):Int))=true;rw[a1 q1];exact dqT (by show((v:Nat):Int)<=((w:Nat):Int);omega)) rfl
  case sign =>
   obtain⟨v,q1,q2⟩:=h.2.2;have q2:v<=w:=q2;exact iB h.1 h.2.1 (e1 q1) (by show decide ((((([a].map λ a=>(aH rs a).w)).getD 0 0:Nat):Int)<=((w:Nat):Int))=true;rw[a1 q1];exact dqT (by show((v:Nat):Int)<=((w:Nat):Int);omega)) rfl
  all_goals exact h.2.2.elim
 ·cases wd
  case left | right | slide =>
   have q2:b<64:=h.2.2.2;exact iB h.1 h.2.1 (e1 h.2.2.1) (by show((([a].map λ a=>(aH rs a).w)).all λ v=>bJ v w)=true;rw[a1 h.2.2.1];exact i1 w) (dqT (by show b<=63;omega))
  case and | or | xor | add | sub | mul=>exact iB h.1 h.2.1 (e2 h.2.2.1 h.2.2.2) (by show((([a,b].map λ a=>(aH rs a).w)).all λ v=>bJ v w)=true;rw[a2 h.2.2.1 h.2.2.2];exact i2 w) rfl
  case same | less | under =>
   obtain⟨q0,v,q1,q2⟩:=h.2.2;have q0:w=1:=q0;subst q0;exact iB h.1 h.2.1 (e2 q1 q2) (cm q1 q2) rfl
  all_goals exact h.2.2.elim
 ·cases wd
  case pick =>
   obtain⟨q1,q2,q3⟩:=h.2.2;refine iB h.1 h.2.1 (λ x m=>?_) ?_ rfl
   ·rcases List.mem_cons.mp m with rfl | m
    ·exact(hw _ _ q1).1
    ·exact e2 q2 q3 x m
   ·have e:([a,b,c].map λ a=>(aH rs a).w)=[1,w,w]:=by rw[yAm,(hw _ _ q1).2,a2 q2 q3]
    show dD .pick w ([a,b,c].map λ a=>(aH rs a).w)=true
    rw[e];show(bJ 1 1&&(bJ w w&&bJ w w))=true;rw[mV rfl,mV rfl];rfl
  all_goals exact h.2.2.elim
 ·cases wd<;>exact h.2.2.elim
theorem aAZ{rs:List Rw}:∀ (n k:Nat),(∀ j,k<=j->j<k+n->eJ rs j (aH rs j)=qz)->jQ rs n k=qz
 | 0,_,_=>rfl
 | n+1,k,h=>by
   rw[vV,h k (yAc _) (by omega)]
   exact aAZ n (k+1) λ j h1 h2=>h j (by omega) (by omega)
theorem aFZ{rs:List Rw}{aF:List Nat}(ok:cM [] rs)(ho:∀ o∈aF,o<rs.length):fN rs aF=qz:=by
 unfold fN;rw[aAZ rs.length 0 λ j _ hj=>?_]
 ·dsimp only;refine if_neg λ z=>?_
  rw[yDr] at z;obtain⟨a,m,q⟩:=z;have:=ho a m;have:=oqT q;omega
 ·have hj:j<rs.length:=by omega
  have h:=aBj rs [] ok j (aH rs j) (aAa hj);refine aGv (λ a v q=>?_) h
  rw[yDe,xAb] at q;obtain⟨r,q1,q2⟩:=Option.map_eq_some_iff.mp q;rw[List.getElem?_take] at q1
  by_cases c:a<j
  ·rw[if_pos c] at q1;refine⟨c,?_⟩;rw[aAa (show a<rs.length by omega)] at q1
   cases q1;exact q2
  ·rw[if_neg c] at q1;cases q1
theorem wY(xs:List D)(k:Nat):dL xs (qq (k:Nat)) qz=xs.drop k:=by
 unfold dL;rw[HT.sIx_nat,HT.sIx_none];rcases Nat.le_total k xs.length with h | h
 ·rw[yDv h];exact yBd (by rw[yDn];exact yAc _)
 ·rw[yEi h,List.drop_of_length_le h,yDq,List.take_nil]
theorem tZ{xs ys:List D}(h:xs≠[])(h2:xs.length+ys.length<=1000):bW .Add (.tuple xs) (.tuple ys)=qq (.tuple (xs++ys)):=by
 cases xs with
 | nil=>exact absurd rfl h
 | cons a xs =>
   show(if _ then _ else _)=_
   rw[if_pos ⟨rfl,by rw[zw];omega⟩]
noncomputable def Rw.l(r:Rw):List D:=.str r.wd.s::nD r.w::r.args.map nD
theorem aBJ(r:Rw)(p v:Nat)(h1:1<=p)(h2:p<2+r.args.length):∃ (r':Rw) (o:Nat),r'.wd=r.wd/\r'.args.length=r.args.length/\(r.l.take p++[nD v])++r.l.drop (p+1)=r'.l/\r.l[p]? = qq (nD o):=by
 obtain⟨wd,w,args⟩:=r;dsimp only at h2
 match p,h1 with
 | 1,_=>exact⟨⟨wd,v,args⟩,w,rfl,rfl,rfl,rfl⟩
 | i+2,_ =>
   have hi:i<args.length:=by omega
   refine⟨⟨wd,w,args.take i++[v]++args.drop (i+1)⟩,args[i],rfl,?_,?_,?_⟩
   ·simp;omega
   ·unfold Rw.l;simp[yEg,List.map_drop]
   ·show(args.map nD)[i]? = _;rw[xAb,yAa hi];rfl
noncomputable def pP:Nat:=99999999999999999999
theorem aGb:bW .Sub (.int ((10:Int)^20)) (.int 1)=qq (.int pP):=by kernel_rfl
theorem aDJ(a b:Nat):∃ m:Nat,m<=a/\m<=b/\qG [.int a,.int b]=qq (.int m):=by
 show ∃ m:Nat,_/\_/\qq (yAh (if ((b:Nat):Int)<((a:Nat):Int) then ((b:Nat):Int) else ((a:Nat):Int)))=_
 by_cases c:((b:Nat):Int)<((a:Nat):Int)
 ·rw[if_pos c];exact⟨b,by omega,by omega,rfl⟩
 ·rw[if_neg c];exact⟨a,by omega,by omega,rfl⟩
theorem aLt(a:Nat):∃ m:Nat,tL [.int 0,.int (((a:Nat):Int)-1)]=qq (.int m):=by
 show ∃ m:Nat,qq (yAh (if ((a:Nat):Int)-1>0 then ((a:Nat):Int)-1 else 0))=_
 by_cases c:((a:Nat):Int)-1>0
 ·rw[if_pos c];exact⟨a-1,by congr 2;omega⟩
 ·rw[if_neg c];exact⟨0,rfl⟩
theorem aF8(d:Nat)(ns:List Int)(k:Nat)(x:Int)(old r most:Nat)(hm:most<=64)(hk:k<=90000):∃ (v:Nat) (x':Int),cl fns (d+2) 20 [.loc 0,.d (.int old),.d (.int r),.d (.int most)] (s0 ns k x)=qq (.d (.int v),s0 ns (k+2) x'):=by
 have pw:bW .Pow (.int 10) (.int 20)=qq (.int ((10:Int)^20)):=aGO (k:=20) (by decide) (by decide)
 have nn:=aGb;have eo:((old:Nat):Int)+1=((old+1:Nat):Int):=by omega
 have er:((r:Nat):Int)+1=((r+1:Nat):Int):=by omega
 obtain⟨m1,_,_,e1⟩:=aDJ pP (old+1);obtain⟨m2,e2⟩:=aLt old;have sh:=fY (w:=most) (by omega)
 obtain⟨q1,x1,hq1,d1⟩:=nF (ns:=ns) (k:=k) (x:=x) d 70 (i:=70) rfl (by decide) (by decide) (by omega)
 obtain⟨q2,x2,hq2,d2⟩:=nF (ns:=ns) (k:=k+1) (x:=x1) d 11 (i:=11) rfl (by decide) (by decide) (by omega)
 obtain⟨b,hb,eb⟩:=uN (decide ((39:Int)<((most:Nat):Int)));have s7:∃ y:Nat,bC (.list [.int 7,.int pP]) (.int b)=qq (.int y):=⟨_,iG (vs:=[7,pP]) (k:=b) (by simpa using hb)⟩
 obtain⟨y,ey⟩:=s7;have hl:bW .Add (.list [.int 0,.int 65,.int 64,.int 63,.int r,.int ((r+1:Nat):Int),.int m1,.int m2,.int ((2^most:Nat):Int),.int q1]) (.list [.int y])=qq (.list ([0,65,64,63,r,r+1,m1,m2,2^most,q1,y].map nD)):=lC (by simp)
 have gx:=iG (vs:=[0,65,64,63,r,r+1,m1,m2,2^most,q1,y]) (k:=q2) (by simpa using hq2)
 generalize List.map nD [0,65,64,63,r,r+1,m1,m2,2^most,q1,y]=LL at *;generalize [0,65,64,63,r,r+1,m1,m2,2^most,q1,y].getD q2 0=v at *;generalize pP=N9 at *;generalize ((2^most:Nat):Int)=P2 at *;refine⟨v,x2,?_⟩;rw[cR rfl (d+1) _ _ rfl];simp only[evs,cB,aAT,pw,nn,er,eo,cV,fG,e1,e2,sh,d1,d2,iI,mT,mW,eb,ey,hl,gx]
theorem xU{C:Calls}{env:aQ}{S S1:aB}{X:E}{rs:List Rw}{r:Nat}{r':Rw}(h1:env[1]? = qq (qq (.d (.list (rs.map Rw.d)))))(h2:env[2]? = qq (qq (.d (.int r))))(hx:ev C X env S=qq (.d r'.d,S1))(hl:rs.length<=1000) :
 ev C (.bin .Add (.bin .Add (.sl (.var 1) .no (.cons (.var 2) .nil)) (.fz (.lst (.cons X .nil)))) (.sl (.var 1) (.cons (.bin .Add (.var 2) (.int 1)) .nil) .no)) env S=qq (.d (.list (((rs.take r++[r'])++rs.drop (r+1)).map Rw.d)),S1):=by
 have e1:((r:Nat):Int)+1=((r+1:Nat):Int):=by omega
 have c1:bW .Add (.list ((rs.map Rw.d).take r)) (.list [r'.d])=qq (.list ((rs.map Rw.d).take r++[r'.d])):=lC (by simp;omega)
 have c2:bW .Add (.list ((rs.map Rw.d).take r++[r'.d])) (.list ((rs.map Rw.d).drop (r+1)))=qq (.list (((rs.map Rw.d).take r++[r'.d])++(rs.map Rw.d).drop (r+1))):=lC (by simp;omega)
 have ef:((rs.take r++[r'])++rs.drop (r+1)).map Rw.d=((rs.map Rw.d).take r++[r'.d])++(rs.map Rw.d).drop (r+1):=by
  rw[yBm,yBm,yEg,List.map_drop];rfl
 rw[ef];generalize rs.map Rw.d=L at *;simp only[evs,gY,fM,kA,h1,h2,hx,cV,e1,yN,wY,c1,c2]
theorem xI{rs:List Rw}{r:Nat}{r':Rw}(ar:∀ q∈rs,Ar q)(h:Ar r'):∀ q∈(rs.take r++[r'])++rs.drop (r+1),Ar q:=λ q m=>by
 rcases List.mem_append.mp m with m | m
 ·rcases List.mem_append.mp m with m | m
  ·exact ar q (List.mem_of_mem_take m)
  ·rw[List.mem_singleton.mp m];exact h
 ·exact ar q (List.mem_of_mem_drop m)
theorem xN{rs:List Rw}{r:Nat}{r':Rw}(h:r<rs.length):((rs.take r++[r'])++rs.drop (r+1)).length=rs.length:=by
 simp;omega
theorem pK(r:Rw):r.d=.tuple r.l:=rfl
theorem zI(r:Rw):r.l.length=2+r.args.length:=by
 unfold Rw.l;simp;omega
theorem aC1(wd:Wd):mC wd<=3:=by cases wd<;>decide
noncomputable def spT:Sx:=eN (eN vJ)
theorem aCt(d:Nat)(ns:List Int)(k:Nat)(x:Int)(rs:List Rw)(r:Nat)(hr:r<rs.length)(hl:rs.length<=1000)(ar:∀ q∈rs,Ar q)(hk:k<=80000)(a7:Option W):∃ (aI:List Rw) (x':Int),aI.length=rs.length/\(∀ q∈aI,Ar q) /\
 xs (aG fns (d+2)) spT [qq (.loc 0),qq (.d (.list (rs.map Rw.d))),qq (.d (.int r)),qq (.d (aH rs r).d),qz,qz,qz,a7] (s0 ns k x)=qq (.rt (.d (.list (aI.map Rw.d))),s0 ns (k+3) x'):=by
 have arr:=ar _ (sW hr);have ln:=zI (aH rs r);have a3:=aC1 (aH rs r).wd;rw[<- arr] at a3;have r1:=dU (aH rs r);obtain⟨q1,x1,hq1,d1⟩:=aDm (ns:=ns) (k:=k) (x:=x) (d+1) (1+(aH rs r).args.length) (by omega) (by omega) (by omega)
 have el:((2+(aH rs r).args.length:Nat):Int)-1=((1+(aH rs r).args.length:Nat):Int):=by omega
 have ea:(1:Int)+((q1:Nat):Int)=((1+q1:Nat):Int):=by omega
 have ea2:((1+q1:Nat):Int)+1=((1+q1+1:Nat):Int):=by omega
 obtain⟨b,hb,eb⟩:=uN (((2+(aH rs r).args.length:Nat):Int)==3);obtain⟨m0,hm0,em0⟩:∃ m0:Nat,m0<=64/\bC (.list [.int 39,.int 64]) (.int b)=qq (.int m0):=by
  refine⟨[39,64].getD b 0,?_,iG (vs:=[39,64]) (k:=b) (by simpa using hb)⟩
  match b,hb with
  | 0,_=>decide
  | 1,_=>decide
 obtain⟨most,_,hm,em⟩:=aDJ (aH rs r).w m0;obtain⟨r0,old,-,-,-,go⟩:=aBJ (aH rs r) (1+q1) 0 (by omega) (by omega)
 obtain⟨v,x2,eo⟩:=aF8 d ns (k+1) x1 old r most (by omega) (by omega)
 obtain⟨r',o',w1,w2,w3,-⟩:=aBJ (aH rs r) (1+q1) v (by omega) (by omega)
 have lr:gI [(aH rs r).d]=qq (.int ((2+(aH rs r).args.length:Nat):Int)):=by rw[pK,cJ,ln]
 have gx:bC (aH rs r).d (.int ((1+q1:Nat):Int))=qq (.int old):=pC go;refine⟨(rs.take r++[r'])++rs.drop (r+1),x2,xN hr,xI ar (by unfold Ar;rw[w1,w2];exact arr),?_⟩
 have hX:ev (aG fns (d+2)) (.bin .Add (.bin .Add (.sl (.var 3) .no (.cons (.var 4) .nil)) (.tup (.cons (.var 6) .nil))) (.sl (.var 3) (.cons (.bin .Add (.var 4) (.int 1)) .nil) .no)) [qq (.loc 0),qq (.d (.list (rs.map Rw.d))),qq (.d (.int r)),qq (.d (aH rs r).d),qq (.d (.int ((1+q1:Nat):Int))),qq (.d (.int most)),qq (.d (.int v)),a7] (s0 ns (k+3) x2)=qq (.d r'.d,s0 ns (k+3) x2):=by
  rw[pK,pK,<- w3];have c1:bW .Add (.tuple ((aH rs r).l.take (1+q1))) (.tuple [.int v])=qq (.tuple ((aH rs r).l.take (1+q1)++[nD v])):=tZ (λ z=>by have:=congrArg List.length z;rw[yBe,yCc] at this;omega) (by simp;omega)
  have c2:bW .Add (.tuple ((aH rs r).l.take (1+q1)++[nD v])) (.tuple ((aH rs r).l.drop (1+q1+1)))=qq (.tuple (((aH rs r).l.take (1+q1)++[nD v])++(aH rs r).l.drop (1+q1+1))):=tZ (by simp) (by simp;omega)
  generalize (aH rs r).l=L at *;simp only[evs,gY,fM,kA,cV,ea2,yN,wY,c1,c2]
 have pr:=xU (C:=aG fns (d+2)) (env:=[qq (.loc 0),qq (.d (.list (rs.map Rw.d))),qq (.d (.int r)),qq (.d (aH rs r).d),qq (.d (.int ((1+q1:Nat):Int))),qq (.d (.int most)),qq (.d (.int v)),a7]) rfl rfl hX hl;generalize (aH rs r).d=R at *;generalize rs.map Rw.d=LL at *;refine cG (w:=.d (.int ((1+q1:Nat):Int))) (S1:=s0 ns (k+1) x1) (by simp only[evs,lr,fG,el,d1,cV,ea]) rfl ?_
 refine cG (w:=.d (.int most)) (S1:=s0 ns (k+1) x1) (by simp only[evs,r1,lr,bT,mT,mW,eb,em0,em]) rfl ?_
 refine cG (w:=.d (.int v)) (S1:=s0 ns (k+3) x2) (by simp only[evs,gx,eo]) rfl ?_
 exact bZ pr
noncomputable def w8:List Wd:=[.and,.or,.mul,.same,.less,.under,.left,.slide]
noncomputable def w5:List Wd:=[.num,.not,.cut,.wide,.sign]
theorem aDt{l:List Wd}{q:Nat}(h:q<l.length):∃ wd,wd∈l/\bC (.list (l.map λ w=>yCe w.s)) (.int q)=qq (.str wd.s):=⟨l[q],List.getElem_mem h,mX (by rw[xAb,yAa h];rfl)⟩
theorem aBC{C:Calls}{env:aQ}{S S1:aB}{r:Rw}{wd:Wd}{L:D}{c:E}{q:Nat}(h3:env[3]? = qq (qq (.d r.d)))(h7:env[7]? = qq (qq (.d L)))(hc:ev C c env S=qq (.d (.int q),S1))(hL:bC L (.int q)=qq (.str wd.s))(hl:r.args.length<=10) :
 ev C (.bin .Add (.tup (.cons (.ix (.var 7) c) .nil)) (.sl (.var 3) (.cons (.int 1) .nil) .no)) env S=qq (.d (Rw.mk wd r.w r.args).d,S1):=by
 have c1:bW .Add (.tuple [.str wd.s]) (.tuple (r.l.drop 1))=qq (.tuple (Rw.mk wd r.w r.args).l):=by
  have:=tZ (xs:=[yCe wd.s]) (ys:=r.l.drop 1) (by simp) (by rw[yDn,zI];simp;omega)
  rw[this];rfl
 have cf:dL r.l (qq 1) qz=r.l.drop 1:=wY r.l 1;rw[pK] at h3 ⊢;generalize r.l=RL at *;simp only[evs,gY,fM,kA,h3,h7,hc,hL,cf,c1]
theorem aFi(d:Nat)(ns:List Int)(k:Nat)(x:Int)(rs:List Rw)(r:Nat)(hr:r<rs.length)(hl:rs.length<=1000)(ar:∀ q∈rs,Ar q)(hk:k<=70000):∃ (aI:List Rw) (k':Nat) (x':Int),aI.length=rs.length/\(∀ q∈aI,Ar q)/\k'<=k+4 /\
 cl fns (d+3) 21 [.loc 0,.d (.list (rs.map Rw.d)),.d (.int r)] (s0 ns k x)=qq (.d (.list (aI.map Rw.d)),s0 ns k' x'):=by
 have arr:=ar _ (sW hr);have ln:=zI (aH rs r);have a3:=aC1 (aH rs r).wd;rw[<- arr] at a3;have rk:=xA hr;have lr:gI [(aH rs r).d]=qq (.int ((2+(aH rs r).args.length:Nat):Int)):=by rw[pK,cJ,ln]
 obtain⟨q0,x0,hq0,d0⟩:=nF (ns:=ns) (k:=k) (x:=x) (d+1) 5 (i:=5) rfl (by decide) (by decide) (by omega)
 have bB:∀ (aI:List Rw) (k':Nat) (x':Int),xs (aG fns (d+2)) (eN vJ) [qq (.loc 0),qq (.d (.list (rs.map Rw.d))),qq (.d (.int r)),qq (.d (aH rs r).d),qz,qz,qz,qz] (s0 ns k x)=qq (.rt (.d (.list (aI.map Rw.d))),s0 ns k' x') ->
  cl fns (d+3) 21 [.loc 0,.d (.list (rs.map Rw.d)),.d (.int r)] (s0 ns k x)=qq (.d (.list (aI.map Rw.d)),s0 ns k' x'):=λ aI k' x' e=>by
  refine kJ rfl (d+2) rfl rfl (by rfl) (cG (w:=.d (aH rs r).d) (S1:=s0 ns k x) ?_ rfl e)
  generalize rs.map Rw.d=LL at *;simp only[yAm,yCf,yCi,yCc,yAp,List.replicate_zero,List.cons_append,yDe,Nat.reduceAdd,Nat.reduceSub];simp only[evs,rk]
 by_cases c0:q0=1
 ·have t0:∀ e,tv (aG fns (d+2)) (.cmp .Eq (.call 5 (.cons (.var 0) (.cons (.int 5) .nil))) (.int 1)) (qq (.loc 0)::e) (s0 ns k x)=qq (true,s0 ns (k+1) x0):=λ e=>by
   simp only[evs,d0,bT,c0];rfl
  have q7:∀ e S,ev (aG fns (d+2)) (.fz (.lst (.cons (.str "and") (.cons (.str "or") (.cons (.str "mul") (.cons (.str "same") (.cons (.str "less") (.cons (.str "under") (.cons (.str "left") (.cons (.str "slide") .nil)))))))))) e S=qq (.d (.list (w8.map λ w=>yCe w.s)),S):=λ e S=>by simp only[evs,w8,Wd.s]
  have q5:∀ e S,ev (aG fns (d+2)) (.fz (.lst (.cons (.str "num") (.cons (.str "not") (.cons (.str "cut") (.cons (.str "wide") (.cons (.str "sign") .nil))))))) e S=qq (.d (.list (w5.map λ w=>yCe w.s)),S):=λ e S=>by simp only[evs,w5,Wd.s]
  by_cases c2:(aH rs r).args.length=2
  ·obtain⟨q1,x1,hq1,d1⟩:=nF (ns:=ns) (k:=k+1) (x:=x0) (d+1) 8 (i:=8) rfl (by decide) (by decide) (by omega)
   obtain⟨wd,mw,ew⟩:=aDt (l:=w8) (q:=q1) hq1;have aw:mC wd=2:=by
    simp only[w8,yAr,yAn,or_false] at mw;rcases mw with rfl | rfl | rfl | rfl | rfl | rfl | rfl | rfl<;>rfl
   refine⟨(rs.take r++[⟨wd,(aH rs r).w,(aH rs r).args⟩])++rs.drop (r+1),k+2,x1,xN hr,xI ar (by show(aH rs r).args.length=mC wd;rw[c2,aw]),by omega,bB _ _ _ (cL (t0 _) ?_)⟩
   have pr:=xU (C:=aG fns (d+2)) (S:=s0 ns (k+1) x0) (env:=[qq (.loc 0),qq (.d (.list (rs.map Rw.d))),qq (.d (.int r)),qq (.d (aH rs r).d),qz,qz,qz,qq (.d (.list (w8.map λ w=>yCe w.s)))]) rfl rfl (aBC (c:=.call 5 (.cons (.var 0) (.cons (.int 8) .nil))) (S1:=s0 ns (k+2) x1) rfl rfl (by simp only[evs,d1]) ew (by omega)) hl
   have u1:decide (((2+(aH rs r).args.length:Nat):Int)<4)=false:=dqF (by omega)
   have u2:(((2+(aH rs r).args.length:Nat):Int)==4)=true:=by rw[c2];rfl
   generalize (aH rs r).d=R at *;generalize rs.map Rw.d=LL at *;refine cG (q7 _ _) rfl (bV (S1:=s0 ns (k+1) x0) ?_ (cL (S1:=s0 ns (k+1) x0) ?_ (bZ pr)))
   ·simp only[evs,lr,dC,u1]
   ·simp only[evs,lr,bT,u2]
  by_cases c1:(aH rs r).args.length=1
  ·obtain⟨q1,x1,hq1,d1⟩:=nF (ns:=ns) (k:=k+1) (x:=x0) (d+1) 5 (i:=5) rfl (by decide) (by decide) (by omega)
   obtain⟨wd,mw,ew⟩:=aDt (l:=w5) (q:=q1) hq1;have aw:mC wd=1:=by
    simp only[w5,yAr,yAn,or_false] at mw;rcases mw with rfl | rfl | rfl | rfl | rfl<;>rfl
   refine⟨(rs.take r++[⟨wd,(aH rs r).w,(aH rs r).args⟩])++rs.drop (r+1),k+2,x1,xN hr,xI ar (by show(aH rs r).args.length=mC wd;rw[c1,aw]),by omega,bB _ _ _ (cL (t0 _) ?_)⟩
   have pr:=xU (C:=aG fns (d+2)) (S:=s0 ns (k+1) x0) (env:=[qq (.loc 0),qq (.d (.list (rs.map Rw.d))),qq (.d (.int r)),qq (.d (aH rs r).d),qz,qz,qz,qq (.d (.list (w5.map λ w=>yCe w.s)))]) rfl rfl (aBC (c:=.call 5 (.cons (.var 0) (.cons (.int 5) .nil))) (S1:=s0 ns (k+2) x1) rfl rfl (by simp only[evs,d1]) ew (by omega)) hl
   have u1:decide (((2+(aH rs r).args.length:Nat):Int)<4)=true:=dqT (by omega)
   have u2:(((2+(aH rs r).args.length:Nat):Int)==4)=false:=by rw[c1];rfl
   have u3:(((2+(aH rs r).args.length:Nat):Int)==3)=true:=by rw[c1];rfl
   generalize (aH rs r).d=R at *;generalize rs.map Rw.d=LL at *;refine cG (q7 _ _) rfl (eR (eS (S1:=s0 ns (k+1) x0) ?_ (fL (q5 _ _))) (bV (S1:=s0 ns (k+1) x0) ?_ (cL (S1:=s0 ns (k+1) x0) ?_ (bZ pr))))
   ·simp only[evs,lr,dC,u1]
   ·simp only[evs,lr,bT,u2]
   ·simp only[evs,lr,bT,u3]
  ·have u2:(((2+(aH rs r).args.length:Nat):Int)==4)=false:=by rw[beq_eq_false_iff_ne];omega
   have u3:(((2+(aH rs r).args.length:Nat):Int)==3)=false:=by rw[beq_eq_false_iff_ne];omega
   have tk:∀ a7,∃ (aI:List Rw) (x':Int),aI.length=rs.length/\(∀ q∈aI,Ar q)/\_:=λ a7=>aCt d ns (k+1) x0 rs r hr hl ar (by omega) a7
   by_cases c3:(aH rs r).args.length=0
   ·obtain⟨aI,x',l',m',e'⟩:=tk (qq (.d (.list (w5.map λ w=>yCe w.s))))
    refine⟨aI,k+4,x',l',m',by omega,bB _ _ _ (eR (eS (t0 _) ?_) e')⟩
    have u1:decide (((2+(aH rs r).args.length:Nat):Int)<4)=true:=dqT (by omega)
    generalize (aH rs r).d=R at *;generalize rs.map Rw.d=LL at *;refine cG (q7 _ _) rfl (eR (eS (S1:=s0 ns (k+1) x0) ?_ (fL (q5 _ _))) (bV (S1:=s0 ns (k+1) x0) ?_ (bV (S1:=s0 ns (k+1) x0) ?_ rfl)))
    ·simp only[evs,lr,dC,u1]
    ·simp only[evs,lr,bT,u2]
    ·simp only[evs,lr,bT,u3]
   ·obtain⟨aI,x',l',m',e'⟩:=tk (qq (.d (.list (w8.map λ w=>yCe w.s))))
    refine⟨aI,k+4,x',l',m',by omega,bB _ _ _ (eR (eS (t0 _) ?_) e')⟩
    have u1:decide (((2+(aH rs r).args.length:Nat):Int)<4)=false:=dqF (by omega)
    generalize (aH rs r).d=R at *;generalize rs.map Rw.d=LL at *;refine cG (q7 _ _) rfl (bV (S1:=s0 ns (k+1) x0) ?_ (bV (S1:=s0 ns (k+1) x0) ?_ (bV (S1:=s0 ns (k+1) x0) ?_ rfl)))
    ·simp only[evs,lr,dC,u1]
    ·simp only[evs,lr,bT,u2]
    ·simp only[evs,lr,bT,u3]
 ·have c0':(((q0:Nat):Int)==1)=false:=by rw[beq_eq_false_iff_ne];omega
  obtain⟨aI,x',l',m',e'⟩:=aCt d ns (k+1) x0 rs r hr hl ar (by omega) qz
  refine⟨aI,k+4,x',l',m',by omega,bB _ _ _ (bV (S1:=s0 ns (k+1) x0) ?_ e')⟩
  generalize (aH rs r).d=R at *;generalize rs.map Rw.d=LL at *;simp only[evs,d0,bT,c0']
noncomputable def rA:Sx:=eN (eN (eN (eN (eN (eN (eN qT))))))
noncomputable def lwF:Sx:=eN (eN (eN (eN rA)))
theorem aGJ(d:Nat)(S:aB)(rs0 rs:List Rw)(outs0 aF:List Nat)(r:Nat)(s:D)(a2 a7 a8:Option W)(ok:cM [] rs0)(h0:∀ o∈outs0,o<rs0.length)(l0:rs0.length<=1000)(o0:outs0.length<=1000)(ar:∀ q∈rs,Ar q)(hl:rs.length<=1000)(ho:aF.length<=1000) :
 xs (aE fns gns aD (d+6)).1 lwF [qq (.d s),qq (.loc 0),a2,qq (.d (bM rs0 outs0)),qq (.d (.list (rs.map Rw.d))),qq (.d (.tuple (aF.map nD))),qq (.d (.int r)),a7,a8,qz,qz] S=qq (.rt (.d (.bool true)),S):=by
 have m1:=aBK d rs aF ar hl ho S;have m2:=aBK d rs0 outs0 (vZ ok) l0 o0 S;rw[aFZ ok h0] at m2;have hd:=aG5 (d+5) r S;have du:cC fns gns aD (d+6) 19 [.d (.list (rs.map Rw.d)),.d (.tuple (aF.map nD))] S=qq (.d (cF (fN rs aF)),S):=(kL (d+5) 19 _ _ (by decide)).trans (aIF (d+3) rs aF ar hl ho S)
 have tu:mR [.list (rs.map Rw.d)]=qq (.tuple (rs.map Rw.d)):=rfl;have ep:bM rs aF=.tuple [.tuple (rs.map Rw.d),.tuple (aF.map nD)]:=rfl;have eg:cF qz=.tuple [.str "good",.bool true]:=rfl;rw[ep] at m1;rw[eg] at m2;generalize cF (fN rs aF)=D1 at *;generalize bM rs0 outs0=G at *;generalize yAw (rs.map Rw.d)=L at *;generalize yCy (rs.map Rw.d)=T at *;generalize yCy (aF.map nD)=O at *;refine cG (w:=.d (.tuple [T,O])) (S1:=S) (by simp only[evs,tu]) rfl (cG (w:=.d D1) (S1:=S) (by simp only[evs,cT,du]) rfl (bV (S1:=S) (by simp only[evs,cT,hd]) (bZ (by simp only[evs,cT,m1,m2]))))
theorem aCK{a b:List Rw}(ha:∀ q∈a,Ar q)(hb:∀ q∈b,Ar q):∀ q∈a++b,Ar q:=λ q m=>by
 rcases List.mem_append.mp m with m | m
 ·exact ha q m
 ·exact hb q m
theorem lZ(d:Nat)(ns:List Int)(k:Nat)(x:Int)(m:Nat){i:Int}(hi:i=(m:Nat))(hm:0<m)(hm2:m<2^64)(hk:k<=100000):∃ (r:Nat) (x':Int),r<m/\cC fns gns aD (d+1) 5 [.loc 0,.d (.int i)] (s0 ns k x)=qq (.d (.int r),s0 ns (k+1) x'):=by
 obtain⟨r,x',h1,h2⟩:=nF (ns:=ns) (k:=k) (x:=x) d m hi hm hm2 hk;exact⟨r,x',h1,(kL d 5 _ _ (by decide)).trans h2⟩
theorem aGh(d:Nat)(ns:List Int)(k:Nat)(x:Int)(rs0 rs:List Rw)(outs0 aF:List Nat)(r:Nat)(s:D)(a2 a7:Option W)(ok:cM [] rs0)(h0:∀ o∈outs0,o<rs0.length)(l0:rs0.length<=1000)(o0:outs0.length<=1000)(ar:∀ q∈rs,Ar q)(hl:rs.length<=100)(hl2:0<rs.length)(ho:aF.length<=8)(ho2:0<aF.length)(hk:k<=50000) :
 ∃ (k':Nat) (x':Int),xs (aE fns gns aD (d+6)).1 rA [qq (.d s),qq (.loc 0),a2,qq (.d (bM rs0 outs0)),qq (.d (.list (rs.map Rw.d))),qq (.d (.tuple (aF.map nD))),qq (.d (.int r)),a7,qz,qz,qz] (s0 ns k x)=qq (.rt (.d (.bool true)),s0 ns k' x'):=by
 obtain⟨q1,x1,hq1,d1⟩:=lZ (d+5) ns k x 4 (i:=4) rfl (by decide) (by decide) (by omega)
 obtain⟨outs',k2,x2,ho',hk2,e8⟩:∃ (outs':List Nat) (k2:Nat) (x2:Int),outs'.length<=8/\k2<=k+2/\xs (aE fns gns aD (d+6)).1 (hdS rA) [qq (.d s),qq (.loc 0),a2,qq (.d (bM rs0 outs0)),qq (.d (.list (rs.map Rw.d))),qq (.d (.tuple (aF.map nD))),qq (.d (.int r)),a7,qz,qz,qz] (s0 ns k x)=qq (.nx [qq (.d s),qq (.loc 0),a2,qq (.d (bM rs0 outs0)),qq (.d (.list (rs.map Rw.d))),qq (.d (.tuple (outs'.map nD))),qq (.d (.int r)),a7,qz,qz,qz],s0 ns k2 x2):=by
  by_cases c:q1=1
  ·obtain⟨q2,x2,hq2,d2⟩:=lZ (d+5) ns (k+1) x1 3 (i:=3) rfl (by decide) (by decide) (by omega)
   have c':(((q1:Nat):Int)==1)=true:=by rw[c];rfl
   have ll:gI [.list (rs.map Rw.d)]=qq (.int rs.length):=by rw[cH,yAg]
   have e1:((rs.length:Nat):Int)+((q2:Nat):Int)-1=((rs.length+q2-1:Nat):Int):=by omega
   have cc:bW .Add (.tuple ((aF.map nD).take 7)) (.tuple [.int ((rs.length+q2-1:Nat):Int)])=qq (.tuple ((aF.take 7++[rs.length+q2-1]).map nD)):=by
    rw[tZ (λ z=>by have:=congrArg List.length z;rw[yBe,yAg,yCc] at this;omega) (by simp;omega),yBm,yEg]
    rfl
   have ct:dL (aF.map nD) qz (qq 7)=(aF.map nD).take 7:=yN _ 7;refine⟨aF.take 7++[rs.length+q2-1],k+2,x2,by simp;omega,by omega,?_⟩
   generalize (aF.take 7++[rs.length+q2-1]).map nD=O' at *;generalize bM rs0 outs0=G at *;generalize yAw (rs.map Rw.d)=L at *;generalize aF.map nD=OL at *;refine eS (S1:=s0 ns (k+1) x1) (by simp only[evs,cT,d1,bT,c']) (fL (w:=.d (.tuple O')) ?_)
   simp only[evs,cT,gY,fM,kA,ct,ll,d2,cV,fG,e1,cc]
  ·have c':(((q1:Nat):Int)==1)=false:=by rw[beq_eq_false_iff_ne];omega
   refine⟨aF,k+1,x1,ho,by omega,sX (S1:=s0 ns (k+1) x1) ?_ rfl⟩
   generalize bM rs0 outs0=G at *;generalize yAw (rs.map Rw.d)=L at *;generalize aF.map nD=OL at *;simp only[evs,cT,d1,bT,c']
 obtain⟨q3,x3,hq3,d3⟩:=lZ (d+5) ns k2 x2 16 (i:=16) rfl (by decide) (by decide) (by omega)
 refine⟨k2+1,x3,?_⟩;refine(show xs _ (.seq (hdS rA) (eN rA)) _ _=_ from eR e8 ?_)
 have bB:=λ(aI:List Rw) h1 h2=>aGJ d (s0 ns (k2+1) x3) rs0 aI outs0 outs' r s a2 a7 (qq (.d (.int q3))) ok h0 l0 o0 h1 h2 (by omega)
 have c1:bW .Add (.list (rs.map Rw.d)) (.list (rs.map Rw.d))=qq (.list (rs.map Rw.d++rs.map Rw.d)):=lC (by simp;omega)
 have c2:bW .Add (.list (rs.map Rw.d++rs.map Rw.d)) (.list (rs.map Rw.d))=qq (.list ((rs++rs++rs).map Rw.d)):=by
  rw[lC (by simp;omega),yBm,yBm]
 refine cG (w:=.d (.int q3)) (S1:=s0 ns (k2+1) x3) ?_ rfl ?_
 ·generalize bM rs0 outs0=G at *;generalize yAw (rs.map Rw.d)=L at *;generalize outs'.map nD=OL at *;simp only[evs,cT,d3]
 show xs _ _ [qq (.d s),qq (.loc 0),a2,qq (.d (bM rs0 outs0)),qq (.d (.list (rs.map Rw.d))),qq (.d (.tuple (outs'.map nD))),qq (.d (.int r)),a7,qq (.d (.int q3)),qz,qz] _=_;have tq:∀ (i:Int) (b:Bool) (L O G:D),(((q3:Nat):Int)==i)=b->tv (aE fns gns aD (d+6)).1 (.cmp .Eq (.var 8) (.int i)) [qq (.d s),qq (.loc 0),a2,qq (.d G),qq (.d L),qq (.d O),qq (.d (.int r)),a7,qq (.d (.int q3)),qz,qz] (s0 ns (k2+1) x3)=qq (b,s0 ns (k2+1) x3):=λ i b L O G h=>by
  simp only[evs,bT,h]
 by_cases z1:q3=1
 ·have b1:(((q3:Nat):Int)==1)=true:=by rw[z1];rfl
  have b2:(((q3:Nat):Int)==2)=false:=by rw[z1];rfl
  refine eR (eS (tq 1 true _ _ _ b1) (fL (S1:=s0 ns (k2+1) x3) (w:=.d (.list (([]:List Rw).map Rw.d))) (by simp only[evs]))) ?_
  exact bV (tq 2 false _ _ _ b2) (bB [] (λ q m=>by cases m) (by simp))
 have b1:(((q3:Nat):Int)==1)=false:=by rw[beq_eq_false_iff_ne];omega
 refine bV (tq 1 false _ _ _ b1) ?_
 by_cases z2:q3=2
 ·have b2:(((q3:Nat):Int)==2)=true:=by rw[z2];rfl
  have f3:=bB (rs++rs++rs) (aCK (aCK ar ar) ar) (by simp;omega)
  refine eR (eS (tq 2 true _ _ _ b2) (fL (w:=.d (.list ((rs++rs++rs).map Rw.d))) ?_)) f3;generalize (rs++rs++rs).map Rw.d=L3 at *;generalize rs.map Rw.d=L at *;generalize bM rs0 outs0=G at *;generalize outs'.map nD=OL at *;simp only[evs,c1,c2]
 ·have b2:(((q3:Nat):Int)==2)=false:=by rw[beq_eq_false_iff_ne];omega
  exact bV (tq 2 false _ _ _ b2) (bB rs ar (by omega))
theorem aJC(d:Nat)(ns:List Int)(h1:ns.length<=63):cC fns gns aD (d+7) 28 [.d (.list (ns.map yAh))] []=qq (.d (.bool true),[]):=by
 obtain⟨most,hm,em⟩:∃ most:Nat,most<=30/\(1:Int)+(if (24:Int)<((ns.length:Nat):Int) then (24:Int) else ((ns.length:Nat):Int))=((most:Nat):Int):=by
  by_cases c:(24:Int)<((ns.length:Nat):Int)
  ·exact⟨25,by omega,by rw[if_pos c];rfl⟩
  ·exact⟨1+ns.length,by omega,by rw[if_neg c];omega⟩
 obtain⟨m,x1,hm4,d1⟩:=lZ (d+5) ns 0 0 4 (i:=4) rfl (by decide) (by decide) (by omega)
 obtain⟨rs0,outs0,k,x,ok,l0,l40,ho,o0,o8,hk,ep⟩:=aFg d most ns hm 1 x1 (by omega)
 have ep:cC fns gns aD (d+6) 15 [.loc 0,.d (.int most)] (s0 ns 1 x1)=qq (.d (bM rs0 outs0),s0 ns k x):=(kL (d+5) 15 _ _ (by decide)).trans ep
 obtain⟨r0,x2,hr0,d2⟩:=lZ (d+5) ns k x rs0.length (i:=(rs0.length:Nat)) rfl l0 (by omega) (by omega)
 have arr:=vZ ok;rw[show cC fns gns aD (d+7) 28=cC fns gns aD (d+7) (fns.length+6) from rfl,mY rfl (d+6) _ _ rfl]
 show cB (xs (aE fns gns aD (d+6)).1 qT) 11 [.d (.list (ns.map yAh))] []=_
 suffices H:∃ S',xs (aE fns gns aD (d+6)).1 qT [qq (.d (.list (ns.map yAh))),qz,qz,qz,qz,qz,qz,qz,qz,qz,qz] []=qq (.rt (.d (.bool true)),S') by
  obtain⟨S',e⟩:=H;unfold cB;show(xs (aE fns gns aD (d+6)).1 qT [qq (.d (.list (ns.map yAh))),qz,qz,qz,qz,qz,qz,qz,qz,qz,qz] []).bind _=_;rw[e];rfl
 have mn:qG [.int ns.length,.int 24]=qq (.int (if (24:Int)<((ns.length:Nat):Int) then (24:Int) else ((ns.length:Nat):Int))):=rfl
 have ln:gI [.list (ns.map yAh)]=qq (.int ns.length):=by rw[cH,yAg]
 have g0:bC (bM rs0 outs0) (.int 0)=qq (.tuple (rs0.map Rw.d)):=rfl;have g1:bC (bM rs0 outs0) (.int 1)=qq (.tuple (outs0.map nD)):=rfl;have ll:∀ l:List Rw,gI [.list (l.map Rw.d)]=qq (.int l.length):=λ l=>by rw[cH,yAg]
 obtain⟨aV,S',p1,rs,r,a7,k7,x7,lr,ar,hr,hk7,rfl,rfl⟩:=yJ (t:=.one 7) (fi:=lv (aE fns gns aD (d+6)).1 sB) (fb:=xs (aE fns gns aD (d+6)).1 xQ) (env:=[qq (.d (.list (ns.map yAh))),qq (.loc 0),qq (.d (.int m)),qq (.d (bM rs0 outs0)),qq (.d (.list (rs0.map Rw.d))),qq (.d (.tuple (outs0.map nD))),qq (.d (.int r0)),qz,qz,qz,qz]) (S:=s0 ns (k+1) x2) (S1:=s0 ns (k+1) x2) (ds:=(yAy m).map (λ k=>yAh (k:Nat)))
  (λ j env S=>∃ (rs:List Rw) (r:Nat) (a7:Option W) (k':Nat) (x':Int),rs.length=rs0.length/\(∀ q∈rs,Ar q)/\r<rs0.length/\k'<=k+1+6*j/\env=[qq (.d (.list (ns.map yAh))),qq (.loc 0),qq (.d (.int m)),qq (.d (bM rs0 outs0)),qq (.d (.list (rs.map Rw.d))),qq (.d (.tuple (outs0.map nD))),qq (.d (.int r)),a7,qz,qz,qz]/\S=s0 ns k' x')
  (by
    simp only[sB,pO,oW];exact mH (by simp only[evs]) (by omega))
  ⟨rs0,r0,qz,k+1,x2,rfl,arr,hr0,by omega,rfl,rfl⟩ (by
   rintro j dd env S hj ⟨rs,r,a7,k',x',lr,ar,hr,hk',rfl,rfl⟩;have hj':j<m:=by simpa using hj
   obtain⟨aI,k2,x3,lr',ar',hk2,es⟩:=aFi (d+3) ns k' x' rs r (by omega) (by omega) ar (by omega)
   have es:cC fns gns aD (d+6) 21 [.loc 0,.d (.list (rs.map Rw.d)),.d (.int r)] (s0 ns k' x')=qq (.d (.list (aI.map Rw.d)),s0 ns k2 x3):=(kL (d+5) 21 _ _ (by decide)).trans es
   obtain⟨q4,x4,hq4,d4⟩:=lZ (d+5) ns k2 x3 3 (i:=3) rfl (by decide) (by decide) (by omega)
   refine⟨[qq (.d (.list (ns.map yAh))),qq (.loc 0),qq (.d (.int m)),qq (.d (bM rs0 outs0)),qq (.d (.list (rs.map Rw.d))),qq (.d (.tuple (outs0.map nD))),qq (.d (.int r)),qq (.d dd),qz,qz,qz],?_⟩
   by_cases c:q4=1
   ·obtain⟨r5,x5,hr5,d5⟩:=lZ (d+5) ns (k2+1) x4 aI.length (i:=(aI.length:Nat)) rfl (by omega) (by omega) (by omega)
    refine⟨[qq (.d (.list (ns.map yAh))),qq (.loc 0),qq (.d (.int m)),qq (.d (bM rs0 outs0)),qq (.d (.list (aI.map Rw.d))),qq (.d (.tuple (outs0.map nD))),qq (.d (.int r5)),qq (.d dd),qz,qz,qz],s0 ns (k2+2) x5,rfl,?_,aI,r5,qq (.d dd),k2+2,x5,by omega,ar',by omega,by omega,rfl,rfl⟩
    have c':(((q4:Nat):Int)==1)=true:=by rw[c];rfl
    have l5:=ll aI;generalize bM rs0 outs0=G at *;generalize yAw (rs.map Rw.d)=L at *;generalize yAw (aI.map Rw.d)=L' at *;generalize outs0.map nD=OL at *;refine eR (e1:=[qq (.d (.list (ns.map yAh))),qq (.loc 0),qq (.d (.int m)),qq (.d G),qq (.d L'),qq (.d (.tuple OL)),qq (.d (.int r)),qq (.d dd),qz,qz,qz]) (S1:=s0 ns k2 x3) (by simp only[evs,cT,es]) (yQ (eS (S1:=s0 ns (k2+1) x4) (by simp only[evs,cT,d4,bT,c']) (fL (w:=.d (.int r5)) ?_)))
    simp only[evs,cT,l5,d5]
   ·refine⟨[qq (.d (.list (ns.map yAh))),qq (.loc 0),qq (.d (.int m)),qq (.d (bM rs0 outs0)),qq (.d (.list (aI.map Rw.d))),qq (.d (.tuple (outs0.map nD))),qq (.d (.int r)),qq (.d dd),qz,qz,qz],s0 ns (k2+1) x4,rfl,?_,aI,r,qq (.d dd),k2+1,x4,by omega,ar',hr,by omega,rfl,rfl⟩
    have c':(((q4:Nat):Int)==1)=false:=by rw[beq_eq_false_iff_ne];omega
    generalize bM rs0 outs0=G at *;generalize yAw (rs.map Rw.d)=L at *;generalize yAw (aI.map Rw.d)=L' at *;generalize outs0.map nD=OL at *;exact eR (e1:=[qq (.d (.list (ns.map yAh))),qq (.loc 0),qq (.d (.int m)),qq (.d G),qq (.d L'),qq (.d (.tuple OL)),qq (.d (.int r)),qq (.d dd),qz,qz,qz]) (S1:=s0 ns k2 x3) (by simp only[evs,cT,es]) (yQ (sX (S1:=s0 ns (k2+1) x4) (by simp only[evs,cT,d4,bT,c']) rfl)))
 have hk8:k7<=k+1+6*m:=by simpa using hk7
 obtain⟨k',x',tl⟩:=aGh d ns k7 x7 rs0 rs outs0 outs0 r (.list (ns.map yAh)) (qq (.d (.int m))) a7 ok ho (by omega) (by omega) ar (by omega) (by omega) o8 o0 (by omega)
 refine⟨s0 ns k' x',?_⟩;have p1':xs (aE fns gns aD (d+6)).1 (.loop (.one 7) sB xQ) [qq (.d (.list (ns.map yAh))),qq (.loc 0),qq (.d (.int m)),qq (.d (bM rs0 outs0)),qq (.d (.list (rs0.map Rw.d))),qq (.d (.tuple (outs0.map nD))),qq (.d (.int r0)),qz,qz,qz,qz] (s0 ns (k+1) x2)=qq (.nx [qq (.d (.list (ns.map yAh))),qq (.loc 0),qq (.d (.int m)),qq (.d (bM rs0 outs0)),qq (.d (.list (rs.map Rw.d))),qq (.d (.tuple (outs0.map nD))),qq (.d (.int r)),a7,qz,qz,qz],s0 ns k7 x7):=p1;refine cG (w:=.loc 0) (S1:=s0 ns 0 0) rfl rfl ?_;refine cG (w:=.d (.int m)) (S1:=s0 ns 1 x1) (by simp only[yBo,yBp];simp only[evs,cT,d1]) rfl ?_
 refine cG (w:=.d (bM rs0 outs0)) (S1:=s0 ns k x) (by simp only[yBo,yBp];generalize bM rs0 outs0=G at *;simp only[evs,cT,ln,mn,cV,em,ep]) rfl ?_
 refine cG (w:=.d (.list (rs0.map Rw.d))) (S1:=s0 ns k x) (by simp only[yBo,yBp];generalize bM rs0 outs0=G at *;simp only[evs,tP,pV,g0]) rfl ?_
 refine cG (w:=.d (.tuple (outs0.map nD))) (S1:=s0 ns k x) (by simp only[yBo,yBp];generalize bM rs0 outs0=G at *;simp only[evs,g1]) rfl ?_
 have l5:=ll rs0;refine cG (w:=.d (.int r0)) (S1:=s0 ns (k+1) x2) (by simp only[yBo,yBp];generalize bM rs0 outs0=G at *;generalize yAw (rs0.map Rw.d)=L at *;generalize outs0.map nD=OL at *;simp only[evs,cT,l5,d2]) rfl ?_
 exact eR p1' tl
theorem main:∀ ns:List Int,ns.length<=63->(∀ i∈ns,yAf i<=1048576)->∃ call S',(aE fns gns (lV xl) 12).1 (fns.length+6)=qq (1,call)/\call [.d (.list (ns.map yAh))] []=qq (.d (.bool true),S'):=λ ns h _ =>
 aF3 (d:=11) rfl rfl (aJC 5 ns h)
theorem oks:∀ F∈fns,qX fns tbs F=true:=by decide +kernel
theorem oksX:∀ G∈gns,tG fns gns tbs xz G=true:=by decide +kernel
theorem bok:∀ F∈fns,sU F=true:=by decide +kernel
theorem aLv:∀ G∈gns,sU G.fn=true:=by decide +kernel
theorem binds:∀ F∈fns,mP F:=λ F hF=>aBN (bok F hF)
theorem bindsX:∀ G∈gns,mP G.fn:=λ G hG=>aBN (aLv G hG)
end K22
structure PySem.W.Fast:Prop where (tw15394103912343155431 tw17889049307432571807 tw6354038323196167610 tw9941999407430561894 tw4889255951076077162 tw10059416480613987064 tw5627566090867959869 tw2098954766145178125 tw18278631999038505713 tw12105303146047036572 tw8889219936094835192 tw3231234407939372849 tw12331292133027030534 tw12002168078111684795 tw14038128642335366154 tw601857784176241266 tw12669134691581824105 tw2867770726224649715 tw14574808138204489254 tw6462080418332430352 tw13297580387689807950 tw11410848560399795652 tw35886553944886711 tw9319073630956698838 tw13979258832822611870 tw6383779086965816009 tw7915925269235381896 tw6921263201834238928 tw16561579545135691999 tw1353716596834733168 tw15958706293788889686 tw9734335087770781811 tw410450908893991637 tw8018454163393955019 tw2619732952425728577 tw4861465702706811149 tw8538998678656749210 tw7248669538684513485 tw16101744006953051675 tw15555956250694596675 tw17567690064000086981 tw14609603703653233579 tw9808701017439440020 tw3535662878006672957 tw15509726243837138017 tw6819525858980631659 tw5053179954496342528 tw17888799947704714917 tw8207059339786760735 tw11645389463247817219 tw12138390302827291626 tw13805493418725773944 tw3500468571981387469 tw7025656247256612534 tw364179777832451451 tw785273180228430212 tw2855705741443520260 tw17801163801517957258 tw3473742007821807454 tw8489773203968778052 tw17694008232942491963 tw13591271206566578974 tw16346026687550583089 tw3013713246428456100 tw11003991381156501922 tw6558789932279959340 tw15261351303988507728 tw14769333814906308108 tw6455404408776145477 tw5184659216691883401 tw8298270236967483599 tw5597801111677658154 tw2166966911901409585 tw11074085847822835731 tw12413749510047525130 tw5809273736805387514 tw1290171357709708483 tw9472983582347031463 tw7604514606482128467 tw10766688021408282549 tw4814354435889224911 tw16752739647220401816 tw5490413255399253185 tw10938115158744502764 tw13373348961505085930 tw4949379915130287966 tw14096693142362358723 tw11800933413868335576 tw18324636632941233939 tw7194760575500988093 tw2060779050962801188 tw10345136297813586146 tw3496182449804717742 tw17837026432185414726 tw8261514927674826715 tw81056615594844487 tw5575250130130969768 tw5055521207097387250 tw6853345183809769603 tw1797270486510083594 tw5710149170863408333 tw6306362331353921110 tw9594405297120662362 tw8826533104382177461 tw7588851361050520820 tw15298046799020131023 tw15826131025545931945 tw8213649034789766404 tw16272201031647346801 tw3112087655831995742 tw13690475198795084873 tw11729572677445830756 tw5767532655716414487 tw9008314834240498089 tw14507605617451710728 tw13194353413667548681 tw17823015380514089230 tw18420749388425387467 tw15624862515592634156 tw17777537354410029787 tw1056230467817339822 tw5140832988303909155 tw14116276010432148797 tw4384817633003629890 tw1092662332136506377 tw755727620310412920 tw11331734189396361658 tw13390123358682839313 tw8747534017955122092 tw5405965785177384580 tw17546643656814325004 tw12766362105334455005 tw13080439582025119772 tw12232664445604556444 tw6024437718990183195 tw11544262083011364755 tw6789746211002590562 tw3508378368200047666 tw2089921710390238636 tw11713227549461197695 tw345435460159424388 tw2379002530322857743 tw4479498641322769520 tw16808830555911206890 tw17525694633762779443 tw15673365009554897066 tw15422438013314397143 tw10395430491611987589 tw13917102442433886856 tw3086891889348671141 tw10239936277185706415 tw17178795205172684297 tw2620111170054809499 tw9475277683726219516 tw2223382998329161692 tw2205827130771397457 tw16873661423707340156 tw6168095444185112884 tw13756080645085308000 tw15799598080228114835 tw15358574239310808969 tw4115430782586878081 tw6877370421760392100 tw11456948028628840507 tw4887161287842610954 tw825408698612045666 tw16057375035033102930 tw15123849122970800273 tw16784171685890748047 tw285782008687156003 tw11504285581265063704 tw4155361543561364728 tw1802772909845808594 tw4710590665565509471 tw12943644054127039672 tw5971906356806947514 tw12110150317261975047 tw6678099907786520837 tw5300031559211307192 tw16094595719189637674 tw17197753675041842588 tw3058409974913659953 tw18208268671784136516 tw13630878629323276564 tw10233030107429810772 tw16241740694130067663 tw14788116202931963834 tw12218910433349769107 tw17435894156177917438 tw9819543686677011458 tw9035091331062244711 tw7901227426597070423 tw10622623743083318561 tw11603769927204839035 tw17989902541534637792 tw13356947747011091714 tw15547344292033792423 tw5131465702518041819 tw2794308650835336900 tw15568576960369533526 tw416712240909093361 tw10691667221421448446 tw13304120323301163956 tw2710116505075106745 tw2058651121619474903 tw7892495507860760690 tw9599098823612919300 tw451187014108530079 tw4672389121017100053 tw8581076732369604286 tw5720649646883817171 tw13735565281523806579 tw4384706637858166218 tw3502560325249738223 tw11073819113111358830 tw10809279531878498219 tw11052221855819532318 tw9336815531679755485 tw12142005123740505065 tw15532576818378804825 tw5425629259597150450 tw9271996247631950018 tw3724869184712048708 tw7352826978801505584 tw15102669709481544523 tw16553310059717495570 tw3470970609183613393 tw12693298474367191850 tw7237482240949408528 tw847254742171992739 tw8411230848341281689 tw8991370000877189901 tw15372931182838707563 tw2868780194688334441 tw10710150534540496159 tw4902127175204071646 tw16787635234134131590 tw14750508413774776212 tw12805835561711397895 tw1208952114825291602 tw15297767296030075682 tw8624157190547051855 tw2032141280399034879 tw10561801634366445185 tw12920971898592021491 tw1166466450178506758 tw164469531876324542 tw16920017506433346011 tw10401296451369502687 tw4543288273467822276 tw2674408433758768561 tw3938512361530600072 tw13121460320094801962 tw16719376748444874509 tw5185366497941687232 tw9245555238224873487 tw3586960576547465226 tw15123925922496065579 tw5813657702825432687 tw13919162875218217253 tw14618640953913679700 tw10163974927979520046 tw11685133741155790448 tw1666116915718358217 tw5283916424932587459 tw9677156552806360517 tw14677284802558280665 tw6521532425571137671 tw10703078308251091210 tw13329978485730890813 tw12246213862849401176 tw14189681141008771162 tw13851329796304148665 tw14648351845807990057 tw12117784832057341440 tw14229124423935005206 tw14241046892201338526 tw8870151925465095733 tw15957346834452458192 tw9974367066158569961 tw17200759228412929159 tw1540980071233771657 tw3059535517196850087 tw7147055957700622961 tw18381737587815753622 tw13137565218379459626 tw10423637816564067183 tw14065517465491015980 tw6248289355390438056 tw13628045168829916619 tw16557518946786651498 tw16171326811635833299 tw18418505502489339729 tw10456609611017238683 tw1856474460955792047 tw8709379380311296869 tw3251216285198618380 tw15683917359061945706 tw3604897039354056884 tw15928158410152262775 tw9906448797300442059 tw5829567107818388595 tw17982296013459983498 tw11368859890487089015 tw3531234148992152825 tw580407829680113182 tw10422010361375408609 tw12492893216467236955 tw16610759556887001747 tw6207849882355410179 tw5732412400950074252 tw13030979923985455088 tw11366409689653688630 tw16164870318584026142 tw10850866696145813451 tw3232241306523149799:True)
set_option maxRecDepth 100000 in
set_option maxHeartbeats 0 in
theorem PySem.Challenge.cw_fewbits_k22_looked_at_holds : PySem.Challenge.rw_fewbits_k22_looked_at.Holds := by
 w_on;o_law;k_head;(case hw=>w_witness2)
 k_fill
 refine EV.law_ofX (l:=PySem.Challenge.rw_fewbits_k22_looked_at) K22.fns K22.gns K22.tbs K22.xz K22.xl 6 12 _ "_law_script" rfl rfl ⟨rfl,by decide,by decide⟩ (λ w h Y=>PySem.W.kIn_of Y) K22.oks K22.oksX K22.binds K22.bindsX rfl rfl rfl ?top ?topX ?tbl ?cnl ?tbn ?rit ?rik ?ent ?rct ?xot ?xbt K22.main
 case top =>
  intro w h KX F hF;simp only[K22.fns,yAr,yAn,or_false] at hF;rcases hF with rfl | rfl | rfl | rfl | rfl | rfl | rfl | rfl | rfl | rfl | rfl | rfl | rfl | rfl | rfl | rfl | rfl | rfl | rfl | rfl | rfl | rfl
  all_goals
   refine' EV.top_mk ?a1 ?l1 ?c1 ?k1
   (case a1=>k_is)
   (case l1=>k_is)
   (case c1=>k_is)
   (case k1=>k_is)
 case topX =>
  intro w h KX F hF;simp only[K22.gns,yAr,yAn,or_false] at hF;rcases hF with rfl | rfl | rfl | rfl | rfl | rfl | rfl
  all_goals
   refine' EV.topX_mk ?a1 ?l1 ?c1 ?k1
   (case a1=>k_is)
   (case l1=>k_is)
   (case c1=>k_is)
   (case k1=>k_is)
 case rit =>
  intro w h KX c hc;simp only[K22.xz,yAr,yAn,or_false] at hc;rcases hc with rfl | rfl | rfl | rfl | rfl
  all_goals
   refine' EV.ri_mk ?a1 ?a3 ?a2 ?a4 ?a5 ?a6 ?a7 ?a8 ?a9 ?b1
   (case a1=>k_is)
   (case a3=>k_is)
   (case a2=>kernel_rfl)
   (case a4=>k_is)
   (case a5=>k_is)
   (case a6=>k_is)
   (case a7=>k_is)
   (case a8=>k_is)
   (case a9=>k_is)
   (case b1=>k_is)
 case rik=>decide +kernel
 case ent =>
  intro w h KX e he;simp only[K22.xl,yAr,yAn,or_false] at he;rcases he with rfl | rfl | rfl | rfl | rfl | rfl | rfl | rfl | rfl | rfl | rfl | rfl | rfl | rfl | rfl | rfl | rfl | rfl | rfl | rfl | rfl | rfl | rfl | rfl | rfl | rfl | rfl | rfl | rfl | rfl | rfl | rfl | rfl | rfl
  all_goals first
   | (refine' EV.ent_own ?a1 ?a2 ?a3 ?a4 ?a5 ?a6 ?a7 ?a8 ?a9 ?a0 ?b1 ?b2 ?b3
      (case a1=>k_is)
      (case a0=>k_is)
      (case a2=>k_is)
      (case a3=>k_is)
      (case a4=>k_is)
      (case a5=>k_is)
      (case a6=>k_is)
      (case a7=>k_is)
      (case a8=>k_is)
      (case a9=>k_is)
      (case b1=>k_is)
      (case b2=>kts_exm)
      (case b3=>kit_is))
   | (refine' EV.ent_blt ?a1 ?a2 ?a3 ?a4 ?a5 ?a6 ?a7 ?a8 ?a9 ?a0 ?b1 (PyProof.Rows.Boot.«ValueError») (by decide) ?b3
      (case a1=>k_is)
      (case a0=>k_is)
      (case a2=>k_is)
      (case a3=>k_is)
      (case a4=>k_is)
      (case a5=>k_is)
      (case a6=>k_is)
      (case a7=>k_is)
      (case a8=>k_is)
      (case a9=>k_is)
      (case b1=>k_is)
      (case b3=>kit_is))
 case rct =>
  intro w h KX c hc;simp only[K22.xz,yAr,yAn,or_false] at hc;rcases hc with rfl
  all_goals
   refine' EV.rc_mk ?a1 ?a2 ?a3
   (case a1=>k_is)
   (case a2=>k_exc)
   (case a3=>k_is)
 case xot =>
  intro w h KX c hc;simp only[K22.xz,yAr,yAn,or_false] at hc;rcases hc with rfl | rfl | rfl | rfl | rfl | rfl | rfl
  all_goals
   refine' EV.xo_mk ?a1
   (case a1=>k_is)
 case xbt =>
  intro w h KX c hc;simp only[K22.xz,yAr,yAn,or_false] at hc;rcases hc with rfl
  all_goals
   refine' EV.xb_mk ?a1 (PyProof.Rows.Boot.«ValueError») (by decide)
   (case a1=>k_is)
 case tbl =>
  intro w h KX t ht;simp only[K22.tbs,yAr,yAn,or_false] at ht;rcases ht with rfl
  all_goals
   refine' EV.tab_mk ?a1 ?l1 ?c1
   (case a1=>k_is)
   (case l1=>k_is)
   (case c1=>(repeat' (first | exact True.intro | apply And.intro))<;>first | rfl | exact⟨_,rfl⟩)
 case cnl =>
  intro w h KX t ht;simp only[K22.tbs,yAr,yAn,or_false] at ht;rcases ht with rfl | rfl | rfl
  all_goals
   refine' EV.con_mk ?a1 ?l1 ?z1 ?c1
   (case a1=>k_is)
   (case l1=>k_is)
   (case z1=>decide)
   (case c1=>(repeat' (first | exact True.intro | apply And.intro))<;>first | rfl | exact⟨_,rfl⟩)
 case tbn =>
  intro w h KX x hx;simp only[EV.bltNames,yAr,yAn,or_false] at hx;rcases hx with rfl | rfl | rfl | rfl | rfl | rfl | rfl | rfl | rfl | rfl | rfl | rfl | rfl | rfl | rfl | rfl | rfl | rfl
  all_goals k_is
