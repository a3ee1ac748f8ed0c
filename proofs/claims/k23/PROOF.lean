import PyProof.Rows.All
import Wide.All
import OpenK.AllK
import Wide.FinOn
import Lean
import PyProof.EqAt
import PyProof.EqKinds
import PyProof.TupleCall
import PyProof.ListMulRoad
import PyProof.FactsAll.tuple
import PyProof.MaxThree
import PyProof.SeqI3
import PyProof.Draws
import PyProof.ZipIter
import PyProof.NeKinds
import PyProof.Rows.SortShell
import PyProof.ListRange
import PyProof.DictTable
import PyProof.Rows.Range3
import PyProof.FactsAll.range_2
import PyProof.Rows.SeqMore2
import PyProof.StrWalks
import PyProof.EnumMake
import PyProof.Rows.StrJoin2
import PyProof.Rows.StrNews
import PyProof.CallStr
import PyProof.DictRoads
import KE.KIntText
import PySem.Challenge.RW_fewbits_k23_both_ways
set_option compiler.extract_closed false
set_option genInjectivity false
set_option genSizeOf false
open List renaming size_toArray->yAb,getElem?_eq_getElem->yAd,getElem?_append_right->yAe,replicate->yAf,length_map->yAg,take_length->yAh,map_cons->yAj,foldl_cons->yAk,getElem?_set_ne->yAm,getElem?_set_self->yAn,foldl_nil->yAo,length_set->yAq,not_mem_nil->yAr,append_nil->yAs,replicate_succ->yAt,map_append->yAw,mem_cons->yAx,getD_cons_succ->yAy,getD_cons_zero->yAz,lookup_cons->yBa,range->yBe,map_map->yBg,getElem?_cons_zero->yBj,mem_singleton->yBk,take_of_length_le->yBm,length_take->yBs,filterMap_cons->yCc,getD_eq_getElem?_getD->yCf,length_cons->yCh,map_nil->yCi,drop_eq_getElem_cons->yCl,flatten_cons->yCn,nil_append->yCp,getElem?_cons_succ->yCr,filter_cons->yCt,drop_zero->yCu,set_cons_zero->yCw,set_cons_succ->yCx,getElem?_eq_none->yCz,length_nil->yDd,append_assoc->yDe,all_cons->yDr,reverse_cons->yDx,length_replicate->yEb,getElem?_toArray->yEd,length_drop->yEf,drop_length->yEi,any_eq_true->yEj,mem_append_left->yEk,mem_of_mem_take->yEm,mem_of_mem_drop->yEn,map_congr_left->yEp,forIn_nil->yEy,nodup_append->yFa,any_cons->yFc,getElem_inj->yFf,zipIdx_cons->yFg,set_set->yFn
open Nat renaming le_refl->yAc,lt_irrefl->yBc,sub_self->yCj,add_sub_cancel_left->yCs,ne_of_gt->yCy,pow_le_pow_right->yDh,lt_succ_self->yDl,lt_of_le_of_lt->yDt,le_of_lt->yDz,le_of_eq->yEa,lt_or_ge->yEc,toDigits->yEe,le_of_not_lt->yEh,pow_lt_pow_right->yEl,zero_le->yEo,min_eq_left->yEq,lt_succ_of_lt->yFb,succ_ne_zero->yFh,min_eq_right->yFi,zero_add->yFk,sub_zero->yFm
open Int renaming toNat_natCast->yBi,le_trans->yFl
open Bool renaming false_ne_true->yAp,false_eq_true->yBd,eq_false_or_eq_true->yBp,and_eq_true->yBz,false_and->yEx
open Option renaming bind_some->yBb,bind->yDb,getD_none->yEg
open PySem.Builtin.SmallTypes renaming nextOf->yAu,ownedTupleIsFree->yBo,ownedTupleHandOut->yDk
open PySem.Builtin.Int renaming intBits->yAi
open PyProof.Rows renaming slot_tuple_getitem->yBu,callWith_type1->yCd
open PySem.Heap renaming get?_update_other->yBl,size_push->yBr,get?_update_self->yBw,SameBut->yCq,get?_none_of_le->yDg
open PySem.PyData renaming str->yAa,int->yAl,tuple->yAv,bool->yBf,list->yBh,depthAll->yCe,eqv->yCg,canLayAll0->yCo,depth->yEv,strOk->yEw,eqvAll->yFe
open PySem.W renaming keepIn->yBq,emptyDict->yBt,fnOf->yBv,nsIn->yBx,InstAt->yCb,instObj->yCm,kia_one->yDc,codeIn->yDi,callWith_K->yDp,findIn->yDy,methodObj->yEz,mg_of->yFd,OpenLaw->yFj,lookIn->yFo
open PySem.F renaming slot_str_split->yCv,slot_int_rmul->yDa,excBase_ValueError->yDf,args_tuple_add_2->yDm,args_tuple_mul_2->yDn,args_str_split_2->yDo,entry_tuple_add->yDq,entry_tuple_mul->yDs,entry_str_split->yDu,slot_tuple_add->yDv,slot_tuple_mul->yDw
open PySem.Builtin renaming divisionGoesByPylong->yCa
open PySem.Builtin.Slice renaming slicePlaces->yCk,sliceAdjust->yDj,sliceApplied->yEr
open PySem.Builtin.Tuple renaming tupleExact->yBy,tupleItemsOf->yEs,tupleTooMany->yEt
open Array renaming length_toList->yBn,find?_toList->yEu
open PySem renaming Value->qx,Shared->qj,Addr->qv,Expr->qw,mainGlobals->qy,sizeLine->qk,wpAny->qu,Program->qo,World->zq,sizeLine_eq->zx,Around->zj,starEach->zv,wpAny_field->zw,Scope->zy,Stmt->zk,bootBuiltins->zu,binaryOp->zo,wpAny_holding->xq,assignEach->xj,wpAny_newObj_type->xw,wpAny_Call_Name_kw->xy,FuncData->xu,rawInt->jq,compareOp->jz,IsPair->jx,foldedSetIterable->jj,behindInMarks->jv,wpAny_call_entry->jw,wpAny_seqItems->jy,wpAny_setField_rec->jk,wpAny_truthy_bool->ju,wpAny_pyIter_list->jo,call_meets->vq,wpAny_pyIter_tuple->vz,NameKind->vx,Operator->vj,wpAny_standAt->vv,letOwnedTupleGo->vw,wpAny_passesOwn->vy,CmpOp->vk,sliceBounds->vo,codeAny->wq,wpAny_pyNext_list_item->wz,wpAny_pyIter_enum->wj,wpAny_pyNext_list_end->ww,wpAny_attempt->wu,wpAny_updateSeq_pair->yq,shortFactorBits->yz,IsZip->yx,wpAny_letOwnedTupleGo_enum->yj,wpAny_rule->yv,wpAny_binaryOp_repeat_ref->yw,swappedStores->yy,wpAny_onRaise->yk,typeIs_int->yu,pyNext->yo,UnaryOp->kq
open Option renaming some->qq,none->qz
abbrev wB:=@PySem.wpAny_bind
abbrev wP:=@PySem.wpAny_pure
abbrev hpS:=@PySem.Heap.get?_push_of_some
theorem gIm {α:Type _}{l:List α}{i:Nat}{a:α}:l[i]? = qq a->∃ h,l[i]=a:=List.getElem?_eq_some_iff.mp
abbrev dqF:=@decide_eq_false
abbrev dqT:=@decide_eq_true
abbrev oqT:=@of_decide_eq_true
abbrev FrG:=PySem.W.Frag
abbrev xAa:=@PySem.Heap.lt_size
abbrev xAb:=@List.getElem?_map
abbrev xAc:=@Nat.lt_of_lt_of_le
abbrev xAd:=@List.mem_cons_self
abbrev xAe:=@PySem.Heap.get?_push_size
abbrev xAf:=@List.mem_cons_of_mem
abbrev xAg:=@Nat.le_trans
abbrev xAh:=@Nat.ne_of_lt
abbrev xAi:=@List.mem_of_getElem?
abbrev xAj:=@List.getElem?_append_left
abbrev xAk:=@List.length_append
abbrev xAl:=@List.mem_append_right
set_option Elab.async false
set_option linter.all false
set_option maxRecDepth 100000
namespace L2
open PySem PySem.Spec PyProof.Rows
abbrev eP:=Sum Int Str
noncomputable def lU:eP->qx->Bool
 | .inl k,v=>Value.isInt k v
 | .inr x,v=>Value.isStrOf x v
noncomputable def aPR(w:zq):eP->Int
 | .inl k=>hashInt k
 | .inr x=>hashStr w x
theorem kM:∀ {k:eP}{v:qx},lU k v=true->(∃ i t,k=Sum.inl i/\v=Value.int i t)\/(∃ x t,k=Sum.inr x/\v=Value.str x t)
 | .inl i,v,h=>by
   obtain⟨t,e⟩:=Value.isInt_shape (k:=i) (v:=v) h;exact .inl ⟨i,t,rfl,e⟩
 | .inr x,v,h=>by
   obtain⟨t,e⟩:=Value.isStrOf_shape (x:=x) (v:=v) h;exact .inr ⟨x,t,rfl,e⟩
theorem zX(x:Str)(t:Tok):lU (.inr x) (.str x t)=true:=by simp[lU,Value.isStrOf]
theorem aMy(a b:Int):decide ((Sum.inl a:eP)=Sum.inl b)=(a==b):=by
 by_cases e:a=b
 ·subst e;simp
 ·have h:¬ (Sum.inl a:eP)=Sum.inl b:=λ q=>e (Sum.inl.inj q)
  rw[dqF h];exact(beq_eq_false_iff_ne.mpr e).symm
theorem aLL(a b:Str):decide ((Sum.inr a:eP)=Sum.inr b)=decide (a=b):=by
 by_cases e:a=b
 ·subst e;simp
 ·have h:¬ (Sum.inr a:eP)=Sum.inr b:=λ q=>e (Sum.inr.inj q)
  rw[dqF h,dqF e]
theorem aNB(a:Int)(b:Str):decide ((Sum.inl a:eP)=Sum.inr b)=false:=dqF (λ q=>nomatch q)
theorem aLr(a:Str)(b:Int):decide ((Sum.inr a:eP)=Sum.inl b)=false:=dqF (λ q=>nomatch q)
noncomputable def gF(prog:qo)(w:zq):PySem.KeyKind prog w eP where
 is:=lU
 hash:=aPR w
 inj:=λ v a b ha hb=>by
  rcases kM ha with ⟨i,t,rfl,rfl⟩ | ⟨x,t,rfl,rfl⟩
  ·rcases kM hb with ⟨j,u,rfl,e⟩ | ⟨y,u,rfl,e⟩
   ·injection e with e1 _;rw[e1]
   ·exact nomatch e
  ·rcases kM hb with ⟨j,u,rfl,e⟩ | ⟨y,u,rfl,e⟩
   ·exact nomatch e
   ·injection e with e1 _;rw[e1]
 byValue:=λ k v h=>by
  rcases kM h with ⟨i,t,rfl,rfl⟩ | ⟨x,t,rfl,rfl⟩<;>rfl
 pyHash:=λ hv h=>by
  rcases kM hv with ⟨i,t,rfl,rfl⟩ | ⟨x,t,rfl,rfl⟩
  ·exact wpAny_pyHash_int h
  ·exact wpAny_pyHash_str h
 eqBool:=λ hu hv h=>by
  rcases kM hu with ⟨i,t,rfl,rfl⟩ | ⟨x,t,rfl,rfl⟩
  ·rcases kM hv with ⟨j,u,rfl,rfl⟩ | ⟨y,u,rfl,rfl⟩
   ·rw[aMy] at h;exact wpAny_eqBool_int h
   ·rw[aNB] at h;exact SeqAt.EqAt.int_str i t y u _ _ _ _ h
  ·rcases kM hv with ⟨j,u,rfl,rfl⟩ | ⟨y,u,rfl,rfl⟩
   ·rw[aLr] at h;exact SeqAt.EqAt.str_int x t j u _ _ _ _ h
   ·rw[aLL] at h;exact wpAny_eqBool_str h
 «strs»:=λ k x t v h=>by
  rcases kM h with ⟨i,u,rfl,e⟩ | ⟨y,u,rfl,e⟩
  ·exact nomatch e
  ·injection e with e1 _
   subst e1;cases v<;>rfl
end L2
namespace L2
open PySem PySem.Spec PyProof.Rows
inductive V where
 | non | bl (b:Bool) | int (i:Int) | str (x:Str) | byt (b:Array UInt8) | flt (b:UInt64) | ref (a:qv) | ty (n:String)
 deriving DecidableEq
noncomputable def aV:V->qx->Prop
 | .non,u=>u=Value.none
 | .bl b,u=>u=Value.bool b
 | .int i,u=>∃ t,u=Value.int i t
 | .str x,u=>∃ t,u=Value.str x t
 | .byt b,u=>∃ t,u=Value.bytes b t
 | .flt b,u=>∃ t,u=Value.float b t
 | .ref a,u=>u=Value.ref a
 | .ty n,u=>u=Value.type n
noncomputable abbrev aS:List V->List qx->Prop:=Paired aV
theorem aS.length{xs:List V}{us:List qx}(r:aS xs us):xs.length=us.length:=Paired.length r
theorem aS.get:∀ {xs:List V}{us:List qx}{i:Nat}{x:V},aS xs us->xs[i]? = qq x->∃ u,us[i]? = qq u/\aV x u
 | _,_,_,_,.nil,e=>by simp at e
 | _,_,0,_,.cons r _,e=>by simp at e;subst e;exact⟨_,rfl,r⟩
 | _,_,i+1,x,.cons _ t,e=>by
   obtain⟨u,h1,h2⟩:=aS.get (i:=i) (x:=x) t (by simpa using e)
   exact⟨u,by simpa using h1,h2⟩
theorem aS.set{x:V}{u:qx}(r:aV x u):∀ {xs:List V}{us:List qx} (i:Nat),aS xs us->aS (xs.set i x) (us.set i u)
 | _,_,_,.nil=>.nil
 | _,_,0,.cons _ t=>.cons r t
 | _,_,i+1,.cons q t=>.cons q (aS.set r i t)
theorem aS.append:∀ {xs ys:List V}{us ws:List qx},aS xs us->aS ys ws->aS (xs++ys) (us++ws)
 | _,_,_,_,.nil,s=>s
 | _,_,_,_,.cons r t,s=>.cons r (aS.append t s)
theorem aS.take:∀ {xs:List V}{us:List qx} (n:Nat),aS xs us->aS (xs.take n) (us.take n)
 | _,_,0,_=>.nil
 | _,_,_+1,.nil=>.nil
 | _,_,n+1,.cons r t=>.cons r (aS.take n t)
theorem aS.drop:∀ {xs:List V}{us:List qx} (n:Nat),aS xs us->aS (xs.drop n) (us.drop n)
 | _,_,0,r=>r
 | _,_,_+1,.nil=>.nil
 | _,_,n+1,.cons _ t=>aS.drop n t
noncomputable def sS:Option V->Option qx->Prop
 | some v,qq u=>aV v u
 | none,qz=>True
 | _,_=>False
noncomputable def KV{κ:Type}:List (κ×V)->List (κ×qx)->Prop:=Paired λ(p:κ×V) (q:κ×qx)=>p.1=q.1/\aV p.2 q.2
noncomputable def kV:eP->V
 | .inl i=>.int i
 | .inr x=>.str x
inductive HO where
 | lst (xs:List V)
 | tup (xs:List V)
 | dK (aH:List (eP×V)) | dT (aH:List (List eP×V))
 | set (S:Int->Bool) (n:Nat)
 | ins (C dx:qv) (fs:List (Str×V))
 | own (x:qv)
 | xd (fs:List (Str×V))
 | met (f x:qv)
 | rng (lo hi:Int)
 | frz (o:Obj) (u:HO)
 | tbl (ps:Array qx)
 | ext (φ:Heap->Prop)
abbrev Hp:=qv->Option HO
noncomputable def aT(H:Hp)(a:qv)(o:HO):Hp:=λ b=>if b=a then qq o else H b
theorem bQ{H:Hp}{a:qv}{o:HO}:aT H a o a=qq o:=by unfold aT;rw[if_pos rfl]
theorem aW{H:Hp}{a b:qv}{o:HO}(h:b≠a):aT H a o b=H b:=by unfold aT;rw[if_neg h]
theorem dF{H:Hp}{a b:qv}{o:HO}(h:H a=qq o)(h':H b=qz):a≠b:=by
 intro e;subst e;rw[h] at h';cases h'
section
variable (P : qo)(w : zq)
noncomputable def fA(H:Hp)(h:Heap)(a:qv):HO->Prop
 | .lst xs=>xs.length<=qk/\∃ (its:List qx) (n:Nat),aS xs its/\h.get? a=qq {cls:=.type "list",data:=.seq its.toArray n }
 | .tup xs=>xs.length<=qk/\∃ its:List qx,aS xs its/\IsTup h a its.toArray
 | .dK aH=>aH.length<=qk/\(a==sysModules)=false/\∃ vs,KV aH vs/\h.DictOf (gF P w) a vs
 | .dT aH=>aH.length<=qk/\(a==sysModules)=false/\∃ xs:List (List eP×qv×qx),
    Paired (λ(p:List eP×V) (q:List eP×qv×qx)=>p.1=q.1/\H q.2.1=qq (.tup (p.1.map kV))/\aV p.2 q.2.2) aH xs /\
    ∃ o es ep,h.get? a=qq o/\o.ExactDict/\o.data=.dict es ep/\es.toList=xs.map (entryOfKey (tupleKind (gF P w)))/\(xs.map (·.1)).Nodup
 | .set S n=>h.SetOf (intKind P w) a S n
 | .ins C dx fs=>H dx=qq (.own a)/\fs.length<=1000/\dx≠a/\h.get? a=qq (yCm C dx) /\
    ∃ mA,h.Ns1 dx mA/\(∀ f,sS (fs.lookup f) (mA f))/\PySem.Within mA (fs.map (·.1))
 | .own _=>∃ o,h.get? a=qq o
 | .xd fs=>∃ mA,h.Ns1 a mA/\∀ f,sS (fs.lookup f) (mA f)
 | .rng lo hi=>∃ t u v,h.get? a=qq {cls:=.type "range",data:=.fields #[.int lo t,.int hi u,.int 1 v] }
 | .frz o u=>h.get? a=qq o/\fA H h a u
 | .tbl ps=>h.get? a=qq {cls:=.none,data:=.fields ps }
 | .met f x=>h.get? a=qq (yEz (.ref f) (.ref x))
 | .ext φ=>φ h/\(∃ o,h.get? a=qq o)/\∀ h1 h2:Heap,φ h1->(∀ o,h1.get? a=qq o->h2.get? a=qq o)->φ h2
def cL(H:Hp)(h:Heap):Prop:=∀ a o,H a=qq o->fA P w H h a o
end
section
variable {P : qo}{w : zq}{H H' : Hp}{h h' : Heap}{a : qv}{o : HO}
theorem fA.lt(x:fA P w H h a o):a<h.objs.size:=by
 cases o with
 | lst xs=>obtain⟨_,_,_,_,e⟩:=x;exact xAa e
 | tup xs=>obtain⟨_,_,_,p⟩:=x;exact p.lt
 | dK aH=>obtain⟨_,_,_,_,o,_,_,e,_⟩:=x;exact xAa e
 | dT aH=>obtain⟨_,_,_,_,o,_,_,e,_⟩:=x;exact xAa e
 | set S n=>obtain⟨o,_,_,_,e,_⟩:=x;exact xAa e
 | ins C dx fs=>obtain⟨_,_,_,e,_⟩:=x;exact xAa e
 | own y=>obtain⟨_,e⟩:=x;exact xAa e
 | xd fs=>obtain⟨_,⟨_,_,_,e,_⟩,_⟩:=x;exact xAa e
 | rng lo hi=>obtain⟨_,_,_,e⟩:=x;exact xAa e
 | frz ob u=>obtain⟨e,_⟩:=x;exact xAa e
 | tbl ps=>exact xAa (show h.get? a=qq _ from x)
 | met f y=>exact xAa (show h.get? a=qq _ from x)
 | ext φ=>obtain⟨_,⟨_,e⟩,_⟩:=x;exact xAa e
theorem Paired.mapP{α β:Type}{F G:α->β->Prop}:∀ {l₁:List α}{l₂:List β},Paired F l₁ l₂->(∀ a b,F a b->G a b)->Paired G l₁ l₂
 | _,_,.nil,_=>.nil
 | _,_,.cons r t,f=>.cons (f _ _ r) (Paired.mapP t f)
theorem fA.stay(x:fA P w H h a o)(k:∀ b u,(b=a\/H b=qq (.own a))->h.get? b=qq u->h'.get? b=qq u)
 (ho:∀ b,H b=qq (.own a)->H' b=qq (.own a)) (ht:∀ b xs,H b=qq (.tup xs)->H' b=qq (.tup xs)):fA P w H' h' a o:=by
 induction o with
 | lst xs=>obtain⟨z,its,n,r,e⟩:=x;exact⟨z,its,n,r,k _ _ (.inl rfl) e⟩
 | tup xs=>obtain⟨z,its,r,ob,e,c⟩:=x;exact⟨z,its,r,ob,k _ _ (.inl rfl) e,c⟩
 | dK aH=>obtain⟨z,y,vs,r,ob,es,ep,e,c⟩:=x;exact⟨z,y,vs,r,ob,es,ep,k _ _ (.inl rfl) e,c⟩
 | dT aH =>
   obtain⟨z,y,xs,r,ob,es,ep,e,c⟩:=x;exact⟨z,y,xs,Paired.mapP r λ p q z=>⟨z.1,ht _ _ z.2.1,z.2.2⟩,ob,es,ep,k _ _ (.inl rfl) e,c⟩
 | set S n=>obtain⟨ob,es,ep,t,e,c⟩:=x;exact⟨ob,es,ep,t,k _ _ (.inl rfl) e,c⟩
 | ins C dx fs =>
   obtain⟨d,z,ne,e,mA,⟨od,es,ep,e2,c⟩,r⟩:=x;exact⟨ho _ d,z,ne,k _ _ (.inl rfl) e,mA,⟨od,es,ep,k _ _ (.inr d) e2,c⟩,r⟩
 | own y=>obtain⟨ob,e⟩:=x;exact⟨ob,k _ _ (.inl rfl) e⟩
 | xd fs=>obtain⟨mA,⟨od,es,ep,e,c⟩,r⟩:=x;exact⟨mA,⟨od,es,ep,k _ _ (.inl rfl) e,c⟩,r⟩
 | rng lo hi=>obtain⟨t,u,v,e⟩:=x;exact⟨t,u,v,k _ _ (.inl rfl) e⟩
 | frz ob u ih=>obtain⟨e,q⟩:=x;exact⟨k _ _ (.inl rfl) e,ih q⟩
 | tbl ps =>
   have e:h.get? a=qq {cls:=.none,data:=.fields ps }:=x;show h'.get? a=qq {cls:=.none,data:=.fields ps };exact k a _ (.inl rfl) e
 | met f y =>
   have e:h.get? a=qq (yEz (.ref f) (.ref y)):=x;show h'.get? a=qq (yEz (.ref f) (.ref y));exact k a _ (.inl rfl) e
 | ext φ=>obtain⟨p,⟨o,e⟩,st⟩:=x;exact⟨st _ _ p λ o q=>k _ _ (.inl rfl) q,⟨o,k _ _ (.inl rfl) e⟩,st⟩
theorem cL.lt(x:cL P w H h)(e:H a=qq o):a<h.objs.size:=(x a o e).lt
theorem cL.fresh(x:cL P w H h)(e:h.objs.size<=a):H a=qz:=by
 cases q:H a with
 | none=>rfl
 | some u=>exact absurd (xAc (x.lt q) e) (yBc _)
theorem cL.kept(x:cL P w H h)(k:∀ b u,h.get? b=qq u->h'.get? b=qq u):cL P w H h':=λ a o e =>
 (x a o e).stay (λ b u _ q=>k b u q) (λ _ q=>q) λ _ _ q=>q
theorem cL.laid(x:cL P w H h)(k:∀ b u,h.get? b=qq u->h'.get? b=qq u)(hp:h.objs.size<=a)(new:fA P w (aT H a o) h' a o):cL P w (aT H a o) h':=λ b u e=>by
 have hn:=x.fresh hp
 by_cases hb:b=a
 ·subst hb;rw[bQ] at e;cases e;exact new
 ·rw[aW hb] at e;exact(x b u e).stay (λ c v _ q=>k c v q) (λ c q=>by rw[aW (dF q hn)];exact q) λ c xs q=>by rw[aW (dF q hn)];exact q
end
def Rd(H:Hp)(a:qv)(u:HO):Prop:=H a=qq u\/∃ o,H a=qq (.frz o u)
theorem Rd.of{H:Hp}{a:qv}{u:HO}(h:H a=qq u):Rd H a u:=.inl h
theorem Rd.ok{P:qo}{w:zq}{H:Hp}{h:Heap}{a:qv}{u:HO}(r:Rd H a u)(x:cL P w H h):fA P w H h a u:=by
 rcases r with r | ⟨o,r⟩
 ·exact x a u r
 ·obtain⟨_,q⟩:=x a _ r;exact q
noncomputable def yL:Option HO->Prop
 | some (.lst _)=>True
 | some (.dK _)=>True
 | some (.dT _)=>True
 | some (.set _ _)=>True
 | some (.ins _ _ _)=>True
 | some (.ext _)=>True
 | _=>False
section
variable {P : qo}{w : zq}{H : Hp}{h h' : Heap}{x e : qv}{o' : HO}
theorem cL.write(ok:cL P w H h)(mu:yL (H x))(he:e=x\/H e=qq (.own x))(k:∀ b u,b≠e->h.get? b=qq u->h'.get? b=qq u)(heo:∃ u,h'.get? e=qq u)
 (new:fA P w (aT H x o') h' x o'):cL P w (aT H x o') h':=λ b u q=>by
 have nown:∀ c y,H c=qq (.own y)->c≠x:=λ c y r z=>by subst z;rw[r] at mu;exact mu
 have ntup:∀ c xs,H c=qq (.tup xs)->c≠x:=λ c xs r z=>by subst z;rw[r] at mu;exact mu
 by_cases hb:b=x
 ·subst hb;rw[bQ] at q;cases q;exact new
 ·rw[aW hb] at q
  by_cases hbe:b=e
  ·have q':H b=qq (.own x):=by
    rcases he with z | z
    ·exact absurd (hbe.trans z) hb
    ·rw[hbe];exact z
   rw[q] at q';cases q';obtain⟨v,hv⟩:=heo;exact⟨v,by rw[hbe];exact hv⟩
  ·refine(ok b u q).stay (λ c v hc r=>k c v ?_ r) (λ c r=>by rw[aW (nown c b r)];exact r) λ c xs r=>by rw[aW (ntup c xs r)];exact r
   rcases hc with rfl | hc
   ·exact hbe
   ·rintro rfl;rcases he with z | z
    ·exact nown c b hc z
    ·rw[hc] at z;cases z;exact hb rfl
end
structure Un(fs ex:List qv)(H H':Hp)(h h':Heap):Prop where
 keep:∀ b o,h.get? b=qq o->H b=qz->b ∉ fs->b ∉ ex->h'.get? b=qq o
 slot:∀ b o,h.get? b=qq o->H b=qz->b∈fs->b ∉ ex->∃ sl,h'.get? b=qq {o with slots:=sl }
 free:∀ b o,h.get? b=qq o->H b=qz->b ∉ ex->H' b=qz
 there:∀ b o,h.get? b=qq o->b ∉ ex->∃ o',h'.get? b=qq o'
 tups:∀ b xs,H b=qq (.tup xs)->H' b=qq (.tup xs)
 frzs:∀ b o u,H b=qq (.frz o u)->H' b=qq (.frz o u)
 tbls:∀ b ps,H b=qq (.tbl ps)->∃ more,H' b=qq (.tbl (ps++more))
section
variable {fs fs' ex ex' : List qv}{H H1 H2 : Hp}{h h1 h2 h' : Heap}{a x e : qv}{o : HO}
theorem Un.any(u:Un fs ex H H1 h h1){b:qv}{ob:Obj}(q:h.get? b=qq ob)(n:H b=qz)(hx:b ∉ ex):∃ sl,h1.get? b=qq {ob with slots:=sl }:=by
 by_cases hb:b∈fs
 ·exact u.slot b ob q n hb hx
 ·exact⟨ob.slots,u.keep b ob q n hb hx⟩
theorem Un.trans(a:Un fs ex H H1 h h1)(b:Un fs ex H1 H2 h1 h2):Un fs ex H H2 h h2 where
 keep:=λ c ob q n hc hx=>b.keep c ob (a.keep c ob q n hc hx) (a.free c ob q n hx) hc hx
 slot:=λ c ob q n hc hx=>by
  obtain⟨sl,e1⟩:=a.slot c ob q n hc hx;obtain⟨sl',e2⟩:=b.slot c _ e1 (a.free c ob q n hx) hc hx;exact⟨sl',e2⟩
 free:=λ c ob q n hx=>by
  obtain⟨o',e1⟩:=a.there c ob q hx;exact b.free c o' e1 (a.free c ob q n hx) hx
 there:=λ c ob q hx=>by
  obtain⟨o',e1⟩:=a.there c ob q hx;exact b.there c o' e1 hx
 tups:=λ c xs q=>b.tups c xs (a.tups c xs q)
 frzs:=λ c ob xs q=>b.frzs c ob xs (a.frzs c ob xs q)
 tbls:=λ c ps q=>by
  obtain⟨m1,e1⟩:=a.tbls c ps q;obtain⟨m2,e2⟩:=b.tbls c _ e1;exact⟨m1++m2,by rw[e2,Array.append_assoc]⟩
theorem Un.kept(k:∀ b u,h.get? b=qq u->h'.get? b=qq u):Un fs ex H H h h':=
 ⟨λ b ob q _ _ _=>k b ob q,λ b ob q _ _ _=>⟨ob.slots,k b ob q⟩,λ _ _ _ n _=>n,λ b ob q _=>⟨ob,k b ob q⟩,λ _ _ q=>q,λ _ _ _ q=>q,λ _ ps q=>⟨#[],by rw[q];simp⟩⟩
theorem Un.refl:Un fs ex H H h h:=Un.kept λ _ _ q=>q
theorem Un.laid(k:∀ b u,h.get? b=qq u->h'.get? b=qq u)(hp:h.objs.size<=a)(hn:H a=qz):Un fs ex H (aT H a o) h h' where
 keep:=λ b u q _ _ _=>k b u q
 slot:=λ b u q _ _ _=>⟨u.slots,k b u q⟩
 free:=λ b u q n _=>by rw[aW (xAh (xAc (xAa q) hp))];exact n
 there:=λ b u q _=>⟨u,k b u q⟩
 tups:=λ b xs q=>by rw[aW (dF q hn)];exact q
 frzs:=λ b u xs q=>by rw[aW (dF q hn)];exact q
 tbls:=λ b ps q=>⟨#[],by rw[aW (dF q hn),q];simp⟩
theorem Un.write(mu:yL (H x))(he:e=x\/H e=qq (.own x))(k:∀ b u,b≠e->h.get? b=qq u->h'.get? b=qq u)(heo:∃ u,h'.get? e=qq u):Un fs ex H (aT H x o) h h':=by
 have hx:∀ b,H b=qz->b≠x:=λ b n z=>by subst z;rw[n] at mu;exact mu
 have hb:∀ b,H b=qz->b≠e:=λ b n z=>by
  subst z;rcases he with r | r
  ·exact hx b n r
  ·rw[n] at r;cases r
 have hm:∀ b u,H b=qq u->¬ yL (qq u)->b≠x:=λ b u q nm z=>by subst z;rw[q] at mu;exact nm mu
 refine⟨λ b u q n _ _=>k b u (hb b n) q,λ b u q n _ _=>⟨u.slots,k b u (hb b n) q⟩,λ b u q n _=>by rw[aW (hx b n)];exact n,λ b u q _=>?_,
  λ b xs q=>by rw[aW (hm b _ q λ z=>z)];exact q,λ b u xs q=>by rw[aW (hm b _ q λ z=>z)];exact q,λ b ps q=>⟨#[],by rw[aW (hm b _ q λ z=>z),q];simp⟩⟩
 by_cases hbe:b=e
 ·subst hbe;exact heo
 ·exact⟨u,k b u hbe q⟩
theorem Un.mono(u:Un fs ex H H1 h h1)(hs:∀ b∈fs,b∈fs')(hx:∀ b∈ex,b∈ex'):Un fs' ex' H H1 h h1:=
 ⟨λ b ob q n hb he=>u.keep b ob q n (λ z=>hb (hs b z)) λ z=>he (hx b z),λ _ _ q n _ he=>u.any q n λ z=>he (hx _ z),λ b ob q n he=>u.free b ob q n λ z=>he (hx b z),λ b ob q he=>u.there b ob q λ z=>he (hx b z),u.tups,u.frzs,u.tbls⟩
end
noncomputable def yH(h:Heap)(H:Hp):List qv:=(yBe h.objs.size).filter λ a=>(H a).isSome
noncomputable def lB(h:Heap)(H:Hp):Heap:=PySem.W.hideAll h (yH h H)
theorem aIk(h:Heap)(H:Hp):(lB h H).objs.size=h.objs.size:=PySem.W.hideAll_size _ _
theorem aJj{h:Heap}{H:Hp}{b:qv}{o:Obj}(e:h.get? b=qq o)(n:H b=qz):(lB h H).get? b=qq o:=
 PySem.W.hideAll_get _ e λ hm=>by
  have q:(H b).isSome=true:=(List.mem_filter.mp hm).2;rw[n] at q;simp at q
theorem aKo{h:Heap}{H:Hp}{b:qv}{o:Obj}(e:(lB h H).get? b=qq o):h.get? b=qq o/\H b=qz:=by
 have e':h.get? b=qq o:=PySem.W.of_hideAll (yH h H) e;refine⟨e',?_⟩;cases q:H b with
 | none=>rfl
 | some x =>
   have hm:b∈yH h H:=List.mem_filter.mpr ⟨List.mem_range.mpr (xAa e'),by simp[q]⟩
   have z:(lB h H).get? b=qz:=PySem.W.hideAll_none (yH h H) hm;rw[z] at e;cases e
noncomputable def aJI(g h:Heap)(L:qv):List (qv×Obj):=(yBe h.objs.size).filterMap λ a=>if a=L\/(g.get? a).isSome=true then qz else (h.get? a).map λ o=>(a,o)
noncomputable def bK(g h:Heap)(L d:qv):List (qv×Obj):=(aJI g h L).filter λ p=>decide (p.1≠d)
end L2
namespace L2
open PySem PySem.Spec PyProof.Rows
structure Mod(K:FrG)(mg:Str->Option qx)(base:Heap):Prop where
 kin:K.In base
 glob:base.Ns qy mg
 blt:∃ mb,base.Ns builtinsNs mb/\∀ x:Str,x ≠ "__name__" -> mb x=zu x
 nolimit:base.NoLimit
structure Cx where
 prog:qo
 w:zq
 K:FrG
 mg:Str->Option qx
 base:Heap
 A:zj
 N:List Str
 s₀:qj
 H₀:Hp
 env:Env
 outer:List Env
 stack:List Env
 ex:List qv
 fn:Str->Bool
 calm:Bool
 pn:List (qv×Obj)
 xe:qx->qj->Prop
noncomputable def dB(l:List Env):List qv:=l.filterMap (·.frame)
noncomputable abbrev Cx.fs(X:Cx):List qv:=dB X.outer
def lJ(sc:zy)(x:Str):Prop:=sc.names.lookup x=qq .local\/sc.names.lookup x=qq .cell\/sc.names.lookup x=qq .free
def Loc(sc:zy)(x:Str):Prop:=sc.names.lookup x=qq .local\/sc.names.lookup x=qq .cell
def aPc(env:Env)(h:Heap)(m:Str->Option qx)(x:Str)(u:qx):Prop:=
 (env.kindOf x=qq .local/\m x=qq u)\/((env.kindOf x=qq .cell\/env.kindOf x=qq .free)/\∃ c,env.cells.lookup x=qq c/\h.IsCell c (qq u))
structure Cx.Ok(X:Cx):Prop where
 mod:Mod X.K X.mg X.base
 kind:X.env.scope.kind=.function
 glob:X.env.globals=qy
 blt:X.env.builtins=builtinsNs
 above:X.s₀.heap.objs.size<=X.env.locals
 inj:∀ x y c,X.env.cells.lookup x=qq c->X.env.cells.lookup y=qq c->x=y
 has:∀ x,(X.env.kindOf x=qq .cell\/X.env.kindOf x=qq .free)->∃ c,X.env.cells.lookup x=qq c
 cab:∀ x c,X.fn x=true->X.env.cells.lookup x=qq c->X.s₀.heap.objs.size<=c
 hd:X.calm=true->X.A.handled=qz
 frames:X.A.frames=qq X.stack
 stk:X.stack=X.outer\/(X.stack=X.env::X.outer/\X.env.frame=qq X.env.locals)
 exf:∀ b∈X.ex,b≠X.env.locals/\∀ x c,X.env.cells.lookup x=qq c->c≠b
 bs:∀ b o,X.base.get? b=qq o->X.s₀.heap.get? b=qq o/\X.H₀ b=qz
 bsz:X.base.objs.size<=X.s₀.heap.objs.size
 noex:∀ b o,X.base.get? b=qq o->b ∉ X.ex
 exfs:∀ b∈X.ex,b ∉ X.fs
 funs:X.s₀.heap.FunFrames X.base X.outer
 frf:∀ b∈X.fs,X.H₀ b=qz
structure Inv(X:Cx)(aA:List (qv×Obj))(σ:List (Option V))(H:Hp)(s:qj):Prop where
 ok:X.Ok
 os:s.os=X.s₀.os
 bare:AllBare s.gens
 base:Un X.fs X.ex X.H₀ H X.s₀.heap s.heap
 loc:∃ m,s.heap.Ns X.env.locals m/\∀ (i:Nat) (x:Str) (v:V),X.N[i]? = qq x->σ[i]? = qq (qq v)->lJ X.env.scope x->∃ u,aV v u/\aPc X.env s.heap m x u
 cell:∀ x c,X.env.cells.lookup x=qq c->∃ v,s.heap.IsCell c v
 free:H X.env.locals=qz
 freeC:∀ x c,X.env.cells.lookup x=qq c->H c=qz
 pin:∀ p∈X.pn++aA,s.heap.get? p.1=qq p.2/\H p.1=qz/\p.1≠X.env.locals/\p.1 ∉ X.fs/\∀ v,p.2.data≠.cell v
 hok:cL X.prog X.w H s.heap
 len:σ.length=X.N.length
section
variable {X : Cx}{aA : List (qv×Obj)}{σ : List (Option V)}{H H' : Hp}{s : qj}{h' : Heap}
theorem Cx.Ok.nofr(ok:X.Ok){b:qv}{o:Obj}(e:X.base.get? b=qq o):b ∉ X.fs:=λ hb=>by
 have:=(ok.funs.mem hb).1;rw[e] at this;cases this
theorem Inv.bs(I:Inv X aA σ H s):∀ b o,X.base.get? b=qq o->s.heap.get? b=qq o/\H b=qz:=λ b o e =>
 ⟨I.base.keep b o (I.ok.bs b o e).1 (I.ok.bs b o e).2 (I.ok.nofr e) (I.ok.noex b o e),I.base.free b o (I.ok.bs b o e).1 (I.ok.bs b o e).2 (I.ok.noex b o e)⟩
theorem Inv.bk(I:Inv X aA σ H s):∀ b o,X.base.get? b=qq o->s.heap.get? b=qq o:=λ b o e=>(I.bs b o e).1
theorem Inv.mod(I:Inv X aA σ H s):Mod X.K X.mg X.base:=I.ok.mod
theorem Inv.kIn(I:Inv X aA σ H s):X.K.In s.heap:=I.ok.mod.kin.keeps I.bk
theorem Inv.nolimit(I:Inv X aA σ H s):s.heap.NoLimit:=I.ok.mod.nolimit.keeps I.bk
theorem Inv.fr(I:Inv X aA σ H s):∃ m,Fr X.base X.env.locals s.heap m:=
 let ⟨m,hn,_⟩:=I.loc
 ⟨m,hn,I.bk,xAg I.ok.bsz I.ok.above⟩
theorem Inv.lt(I:Inv X aA σ H s):X.env.locals<s.heap.objs.size:=let ⟨_,hn,_⟩:=I.loc;hn.lt
theorem Inv.sz(I:Inv X aA σ H s):X.s₀.heap.objs.size<=s.heap.objs.size:=xAg I.ok.above (yDz I.lt)
theorem Inv.nofs(I:Inv X aA σ H s){a:qv}(h:s.heap.objs.size<=a):a ∉ X.fs:=λ hb=>by
 obtain⟨_,o,ho,_⟩:=I.ok.funs.mem hb;exact absurd (xAc (xAa ho) (xAg I.sz h)) (yBc _)
theorem Inv.cne(I:Inv X aA σ H s):∀ x c,X.env.cells.lookup x=qq c->c≠X.env.locals:=λ x c e z=>by
 obtain⟨v,o,ho,hd⟩:=I.cell x c e;obtain⟨m,⟨o',es,ep,ho',hd',_⟩,_⟩:=I.loc;rw[z,ho'] at ho;cases ho;rw[hd'] at hd;cases hd
theorem Inv.funs(I:Inv X aA σ H s):s.heap.FunFrames X.base X.outer:=by
 have all:∀ (l:List Env),(∀ b∈dB l,b∈X.fs)->X.s₀.heap.FunFrames X.base l->s.heap.FunFrames X.base l:=by
  intro l
  induction l with
  | nil=>intro _ _;trivial
  | cons env r ih =>
    intro hs hl;obtain⟨hk,⟨L,o,hf,hn,ho,hd⟩,hr⟩:=hl;have hL:L∈X.fs:=hs L (by unfold dB;rw[yCc,hf];exact xAd)
    obtain⟨sl,e⟩:=I.base.slot L o ho (I.ok.frf L hL) hL λ z=>I.ok.exfs L z hL
    exact⟨hk,⟨L,_,hf,hn,e,hd⟩,ih (λ b hb=>hs b (by unfold dB;rw[yCc,hf];exact xAf _ hb)) hr⟩
 exact all X.outer (λ _ hb=>hb) I.ok.funs
theorem Inv.stack(I:Inv X aA σ H s):s.heap.FunFrames X.base X.stack:=by
 rcases I.ok.stk with e | ⟨e,hf⟩
 ·rw[e];exact I.funs
 ·rw[e];obtain⟨m,hn,_⟩:=I.loc;refine .cons (by rw[I.ok.kind];decide) hf hn ?_ I.funs
  exact yDg (xAg I.ok.bsz I.ok.above)
theorem Inv.stkSub(I:Inv X aA σ H s):∀ b∈dB X.stack,b∈X.env.locals::X.fs:=λ b hb=>by
 rcases I.ok.stk with e | ⟨e,hf⟩
 ·rw[e] at hb;exact xAf _ hb
 ·rw[e] at hb;unfold dB at hb;rw[yCc,hf] at hb;exact hb
theorem Inv.stkFree(I:Inv X aA σ H s):∀ b∈dB X.stack,H b=qz:=λ b hb=>by
 rcases List.mem_cons.mp (I.stkSub b hb) with e | hb
 ·rw[e];exact I.free
 ·obtain⟨_,o,ho,_⟩:=I.ok.funs.mem hb;exact I.base.free b o ho (I.ok.frf b hb) λ z=>I.ok.exfs b z hb
theorem Inv.step{g':Array GenState}{t':Nat}{d':Drawn}{ch:List qv}(I:Inv X aA σ H s)
 (hch:∀ b∈ch,(b∈X.ex\/X.s₀.heap.objs.size<=b)/\b≠X.env.locals/\(∀ x c,X.env.cells.lookup x=qq c->c≠b)/\∀ p∈X.pn++aA,p.1≠b)
 (keep:∀ b o,b≠X.env.locals->b ∉ X.fs->b ∉ ch->s.heap.get? b=qq o->H b=qz->h'.get? b=qq o)
 (slot:∀ b o,b≠X.env.locals->b∈X.fs->b ∉ ch->s.heap.get? b=qq o->H b=qz->∃ sl,h'.get? b=qq {o with slots:=sl }) (free:∀ b o,b ∉ ch->s.heap.get? b=qq o->H b=qz->H' b=qz)
 (there:∀ b o,b ∉ ch->s.heap.get? b=qq o->∃ o',h'.get? b=qq o')
 (tups:∀ b xs,H b=qq (.tup xs)->H' b=qq (.tup xs)) (frzs:∀ b o u,H b=qq (.frz o u)->H' b=qq (.frz o u)) (tbls:∀ b ps,H b=qq (.tbl ps)->∃ more,H' b=qq (.tbl (ps++more)))
 (ns:∀ m,s.heap.Ns X.env.locals m->h'.Ns X.env.locals m) (hok:cL X.prog X.w H' h') (hg:AllBare g') :
 Inv X aA σ H' {s with heap:=h',gens:=g',drawn:=d',toks:=t' }:=by
 have neL:∀ b o,X.s₀.heap.get? b=qq o->b≠X.env.locals:=λ b o e=>xAh (xAc (xAa e) I.ok.above)
 have neC:∀ b o,X.s₀.heap.get? b=qq o->b ∉ X.ex->b ∉ ch:=λ b o e hx hb=>by
  rcases (hch b hb).1 with z | z
  ·exact hx z
  ·exact absurd (xAc (xAa e) z) (yBc _)
 have cellK:∀ x c,X.env.cells.lookup x=qq c->∀ v,s.heap.IsCell c v->h'.IsCell c v:=λ x c e v aK=>by
  obtain⟨o,ho,hd⟩:=aK;have nch:c ∉ ch:=λ z=>(hch c z).2.2.1 x c e rfl
  by_cases hc:c∈X.fs
  ·obtain⟨sl,q⟩:=slot c o (I.cne x c e) hc nch ho (I.freeC x c e);exact⟨_,q,hd⟩
  ·exact⟨o,keep c o (I.cne x c e) hc nch ho (I.freeC x c e),hd⟩
 refine⟨I.ok,I.os,hg,⟨λ b o e n hb hx=>?_,λ b o e n hb hx=>?_,λ b o e n hx=>?_,λ b o e hx=>?_,λ b xs e=>tups b xs (I.base.tups b xs e),λ b o xs e=>frzs b o xs (I.base.frzs b o xs e),λ b ps e=>?_⟩,?_,λ x c e=>?_,?_,λ x c e=>?_,λ p hp=>?_,hok,I.len⟩
 ·exact keep b o (neL b o e) hb (neC b o e hx) (I.base.keep b o e n hb hx) (I.base.free b o e n hx)
 ·obtain⟨sl,e1⟩:=I.base.slot b o e n hb hx;obtain⟨sl',e2⟩:=slot b _ (neL b o e) hb (neC b o e hx) e1 (I.base.free b o e n hx);exact⟨sl',e2⟩
 ·obtain⟨o',e1⟩:=I.base.there b o e hx;exact free b o' (neC b o e hx) e1 (I.base.free b o e n hx)
 ·obtain⟨o',e1⟩:=I.base.there b o e hx;exact there b o' (neC b o e hx) e1
 ·obtain⟨m1,e1⟩:=I.base.tbls b ps e;obtain⟨m2,e2⟩:=tbls b _ e1;exact⟨m1++m2,by rw[e2,Array.append_assoc]⟩
 ·obtain⟨m,hn,hl⟩:=I.loc;refine⟨m,ns m hn,λ i x v e1 e2 e3=>?_⟩
  obtain⟨u,r,l⟩:=hl i x v e1 e2 e3;refine⟨u,r,?_⟩;rcases l with l | ⟨k,c,e,z⟩
  ·exact .inl l
  ·exact .inr ⟨k,c,e,cellK x c e _ z⟩
 ·obtain⟨v,z⟩:=I.cell x c e;exact⟨v,cellK x c e v z⟩
 ·obtain⟨m,⟨o,_,_,ho,_⟩,_⟩:=I.loc;exact free _ o (λ z=>(hch _ z).2.1 rfl) ho I.free
 ·obtain⟨v,o,ho,hd⟩:=I.cell x c e;exact free c o (λ z=>(hch c z).2.2.1 x c e rfl) ho (I.freeC x c e)
 ·obtain⟨e,n,ne,nf,d⟩:=I.pin p hp;have nch:p.1 ∉ ch:=λ z=>(hch p.1 z).2.2.2 p hp rfl
  exact⟨keep p.1 p.2 ne nf nch e n,free p.1 p.2 nch e n,ne,nf,d⟩
theorem Inv.un{t':Nat}(I:Inv X aA σ H s)(u:Un X.fs [] H H' s.heap h')(hok:cL X.prog X.w H' h'):Inv X aA σ H' {s with heap:=h',toks:=t' }:=by
 obtain⟨m,⟨o,es,ep,ho,r⟩,_⟩:=id I.loc;obtain⟨sl,hL⟩:=u.any ho I.free (by simp)
 exact I.step (g':=s.gens) (d':=s.drawn) (ch:=[]) (λ _ z=>nomatch z) (λ b o _ hb _ e n=>u.keep b o e n hb (by simp)) (λ b o _ hb _ e n=>u.slot b o e n hb (by simp)) (λ b o _ e n=>u.free b o e n (by simp)) (λ b o _ e=>u.there b o e (by simp)) u.tups u.frzs u.tbls (λ m' hm=>by
  obtain⟨o',es',ep',ho',r'⟩:=hm;rw[ho] at ho';cases ho';exact⟨_,es',ep',hL,r'⟩) hok I.bare
theorem Inv.call{g':Array GenState}{t':Nat}{d':Drawn}{ch:List qv}(I:Inv X aA σ H s)(u:Un (dB X.stack) ch H H' s.heap h')(hok:cL X.prog X.w H' h')(hg:AllBare g')
 (hch:∀ b∈ch,(b∈X.ex\/X.s₀.heap.objs.size<=b)/\b≠X.env.locals/\(∀ x c,X.env.cells.lookup x=qq c->c≠b)/\∀ p∈X.pn++aA,p.1≠b) :
 Inv X aA σ H' {s with heap:=h',gens:=g',drawn:=d',toks:=t' }:=by
 obtain⟨m,⟨o,es,ep,ho,r⟩,_⟩:=id I.loc;obtain⟨sl,hL⟩:=u.any ho I.free λ z=>(hch _ z).2.1 rfl
 exact I.step (ch:=ch) hch (λ b o hL hb hc e n=>u.keep b o e n (λ z=>(List.mem_cons.mp (I.stkSub b z)).elim hL hb) hc) (λ b o _ _ hc e n=>u.any e n hc) (λ b o hc e n=>u.free b o e n hc) (λ b o hc e=>u.there b o e hc) u.tups u.frzs u.tbls (λ m' hm=>by
  obtain⟨o',es',ep',ho',r'⟩:=hm;rw[ho] at ho';cases ho';exact⟨_,es',ep',hL,r'⟩) hok hg
theorem Inv.turned{t':Nat}{it:qv}(I:Inv X aA σ H s)(k:∀ b o,b≠it->s.heap.get? b=qq o->h'.get? b=qq o)(hn:H it=qz)(hL:it≠X.env.locals)
 (h1:it∈X.ex\/X.s₀.heap.objs.size<=it) (h2:∀ x c,X.env.cells.lookup x=qq c->c≠it) (h3:∀ p∈X.pn++aA,p.1≠it):Inv X aA σ H {s with heap:=h',toks:=t' }:=by
 have nit:∀ b u,H b=qq u->b≠it:=λ b u e z=>by rw[z,hn] at e;cases e
 refine I.step (g':=s.gens) (d':=s.drawn) (ch:=[it]) (λ b hb=>?_) (λ b o _ _ hc e _=>k b o (λ z=>hc (by simp[z])) e) (λ b o _ _ hc e _=>⟨o.slots,k b o (λ z=>hc (by simp[z])) e⟩) (λ _ _ _ _ n=>n)
  (λ b o hc e=>⟨o,k b o (λ z=>hc (by simp[z])) e⟩) (λ _ _ e=>e) (λ _ _ _ e=>e) (λ b ps e=>⟨#[],by rw[e];simp⟩) (λ m hm=>?_) (λ b u e=>?_) I.bare
 ·have e:b=it:=by simpa using hb
  subst e;exact⟨h1,hL,h2,h3⟩
 ·obtain⟨o,es,ep,ho,r⟩:=hm;exact⟨o,es,ep,k _ o (Ne.symm hL) ho,r⟩
 ·refine(I.hok b u e).stay (λ c v hc q=>k c v ?_ q) (λ _ q=>q) λ _ _ q=>q
  rcases hc with z | z
  ·rw[z];exact nit b u e
  ·exact nit c _ z
theorem Inv.tok(I:Inv X aA σ H s)(t:Nat):Inv X aA σ H {s with toks:=t }:=I.un (h':=s.heap) (t':=t) Un.refl I.hok
theorem Inv.kept{t':Nat}(I:Inv X aA σ H s)(k:∀ b u,s.heap.get? b=qq u->h'.get? b=qq u):Inv X aA σ H {s with heap:=h',toks:=t' }:=I.un (Un.kept k) (I.hok.kept k)
theorem Inv.laid{a:qv}{o:HO}{t':Nat}(I:Inv X aA σ H s)(k:∀ b u,s.heap.get? b=qq u->h'.get? b=qq u)(hp:s.heap.objs.size<=a)(new:fA X.prog X.w (aT H a o) h' a o) :
 Inv X aA σ (aT H a o) {s with heap:=h',toks:=t' }:=I.un (Un.laid k hp (I.hok.fresh hp)) (I.hok.laid k hp new)
theorem Inv.write{x e:qv}{o:HO}{t':Nat}(I:Inv X aA σ H s)(mu:yL (H x))(he:e=x\/H e=qq (.own x))(k:∀ b u,b≠e->s.heap.get? b=qq u->h'.get? b=qq u)(heo:∃ u,h'.get? e=qq u)
 (new:fA X.prog X.w (aT H x o) h' x o):Inv X aA σ (aT H x o) {s with heap:=h',toks:=t' }:=I.un (Un.write mu he k heo) (I.hok.write mu he k heo new)
theorem Inv.weak{σ':List (Option V)}(I:Inv X aA σ H s)(hl:σ'.length=σ.length)(w:∀ (i:Nat) v,σ'[i]? = qq (qq v)->σ[i]? = qq (qq v)):Inv X aA σ' H s:=
 ⟨I.ok,I.os,I.bare,I.base,let ⟨m,hn,hl'⟩:=I.loc;⟨m,hn,λ i x v e1 e2 e3=>hl' i x v e1 (w i v e2) e3⟩,I.cell,I.free,I.freeC,I.pin,I.hok,hl.trans I.len⟩
theorem Inv.pins_of{pins':List (qv×Obj)}(I:Inv X aA σ H s)(h:∀ p∈pins',s.heap.get? p.1=qq p.2/\H p.1=qz/\p.1≠X.env.locals/\p.1 ∉ X.fs/\∀ v,p.2.data≠.cell v):Inv X pins' σ H s:=
 ⟨I.ok,I.os,I.bare,I.base,I.loc,I.cell,I.free,I.freeC,λ p hp=>(List.mem_append.mp hp).elim (λ z=>I.pin p (yEk _ z)) (h p),I.hok,I.len⟩
theorem aAr{N:List Str}(hN:N.Nodup){i j:Nat}{x:Str}(a:N[i]? = qq x)(b:N[j]? = qq x):i=j:=by
 obtain⟨h1,e1⟩:=gIm a;obtain⟨h2,e2⟩:=gIm b;exact(yFf hN).mp (e1.trans e2.symm)
theorem aH9{M:Model}{A:zj}{E:qx->qj->Prop}{i:Nat}{x:Str}{v:V}{u:qx}{Q:Unit->qj->Prop}(I:Inv X aA σ H s)(hN:X.N.Nodup)(hi:X.N[i]? = qq x)(hx:Loc X.env.scope x)(r:aV v u)
 (h:∀ s',Inv X aA (σ.set i (qq v)) H s'->(∃ a,yCq a s.heap s'.heap/\(a=X.env.locals\/X.env.cells.lookup x=qq a))->Q () s') (hf:X.fn x=true\/X.env.scope.names.lookup x=qq .local:=by first | exact .inl rfl | exact .inr rfl | assumption):qu M A (storeName X.env x u) Q E s:=by
 obtain⟨m,hn,hl⟩:=id I.loc;have hcls:(X.env.scope.kind==.class||(X.env.scope.kind==.module&&X.env.locals != X.env.globals))=false:=by rw[I.ok.kind];rfl
 have hiσ:i<σ.length:=by rw[I.len];exact(gIm hi).1
 have cne:=I.cne;have tracked:∀ {a:qv}{h':Heap},(∃ o,s.heap.get? a=qq o/\H a=qz)->yCq a s.heap h'->cL X.prog X.w H h':=λ {a h'} ha hs b ob e=>by
  obtain⟨_,_,hfree⟩:=ha;refine(I.hok b ob e).stay (λ c w' hc q=>(hs.2 c ?_).trans q) (λ _ q=>q) λ _ _ q=>q
  rintro rfl;rcases hc with rfl | hc
  ·rw[hfree] at e;cases e
  ·rw[hfree] at hc;cases hc
 rcases hx with hk | hk
 ·refine wpAny_storeName_local hk hn (λ h' hn' hs=>?_) hcls
  obtain⟨oL,_,_,hoL,_⟩:=id hn;refine h _ ⟨I.ok,I.os,I.bare,⟨λ b o e n hb hx=>?_,λ b o e n hb hx=>?_,I.base.free,λ b o e hx=>?_,I.base.tups,I.base.frzs,I.base.tbls⟩,⟨_,hn',λ j y v' e1 e2 e3=>?_⟩,λ y c e=>?_,I.free,I.freeC,λ p hp=>?_,tracked ⟨oL,hoL,I.free⟩ hs,by simpa using I.len⟩ ⟨_,hs,.inl rfl⟩
  ·exact(hs.2 b (xAh (xAc (xAa e) I.ok.above))).trans (I.base.keep b o e n hb hx)
  ·obtain⟨sl,e1⟩:=I.base.slot b o e n hb hx;exact⟨sl,(hs.2 b (xAh (xAc (xAa e) I.ok.above))).trans e1⟩
  ·obtain⟨o',e1⟩:=I.base.there b o e hx;exact⟨o',(hs.2 b (xAh (xAc (xAa e) I.ok.above))).trans e1⟩
  ·by_cases hj:j=i
   ·subst hj;rw[hi] at e1;cases e1;rw[yAn hiσ] at e2;cases e2;exact⟨u,r,.inl ⟨hk,by simp⟩⟩
   ·rw[yAm (Ne.symm hj)] at e2;obtain⟨u',r',q⟩:=hl j y v' e1 e2 e3;refine⟨u',r',?_⟩;rcases q with ⟨k,e⟩ | ⟨k,c,e,z⟩
    ·refine .inl ⟨k,?_⟩;have:y≠x:=λ e=>hj (aAr hN e1 (e▸hi))
     simp[this,e]
    ·exact .inr ⟨k,c,e,z.sameBut hs (cne y c e)⟩
  ·obtain⟨w',z⟩:=I.cell y c e;exact⟨w',z.sameBut hs (cne y c e)⟩
  ·obtain⟨e,n,ne,nf,d⟩:=I.pin p hp;exact⟨(hs.2 p.1 ne).trans e,n,ne,nf,d⟩
 ·have hfn:X.fn x=true:=by
   rcases hf with z | z
   ·exact z
   ·rw[z] at hk;cases hk
  obtain⟨c,hc⟩:=I.ok.has x (.inl hk);obtain⟨w',z⟩:=I.cell x c hc;refine wpAny_storeName_cell I.ok.kind hk hc z (λ h' hc' hs=>?_)
  obtain⟨oc,hoc,hocd⟩:=id z;refine h {s with heap:=h' } ⟨I.ok,I.os,I.bare,⟨λ b o e n hb hx=>?_,λ b o e n hb hx=>?_,I.base.free,λ b o e hx=>?_,I.base.tups,I.base.frzs,I.base.tbls⟩,⟨m,hn.sameBut hs (Ne.symm (cne x c hc)),λ j y v' e1 e2 e3=>?_⟩,λ y c' e=>?_,I.free,I.freeC,λ p hp=>?_,tracked ⟨oc,hoc,I.freeC x c hc⟩ hs,by simpa using I.len⟩ ⟨c,hs,.inr hc⟩
  ·exact(hs.2 b (xAh (xAc (xAa e) (I.ok.cab x c hfn hc)))).trans (I.base.keep b o e n hb hx)
  ·obtain⟨sl,e1⟩:=I.base.slot b o e n hb hx;exact⟨sl,(hs.2 b (xAh (xAc (xAa e) (I.ok.cab x c hfn hc)))).trans e1⟩
  ·obtain⟨o',e1⟩:=I.base.there b o e hx;exact⟨o',(hs.2 b (xAh (xAc (xAa e) (I.ok.cab x c hfn hc)))).trans e1⟩
  ·by_cases hj:j=i
   ·subst hj;rw[hi] at e1;cases e1;rw[yAn hiσ] at e2;cases e2;exact⟨u,r,.inr ⟨.inl hk,c,hc,hc'⟩⟩
   ·rw[yAm (Ne.symm hj)] at e2;obtain⟨u',r',q⟩:=hl j y v' e1 e2 e3;refine⟨u',r',?_⟩;rcases q with q | ⟨k,c',e,z'⟩
    ·exact .inl q
    ·refine .inr ⟨k,c',e,z'.sameBut hs ?_⟩;rintro rfl;exact hj (aAr hN e1 (I.ok.inj _ _ _ e hc▸hi))
  ·by_cases hcc:c'=c
   ·subst hcc;exact⟨_,hc'⟩
   ·obtain⟨w2,z2⟩:=I.cell y c' e;exact⟨w2,z2.sameBut hs hcc⟩
  ·obtain⟨e,n,ne,nf,d⟩:=I.pin p hp;refine⟨(hs.2 p.1 ?_).trans e,n,ne,nf,d⟩;intro q;rw[q,hoc] at e;have q':oc=p.2:=Option.some.inj e;exact d w' (by rw[<- q'];exact hocd)
theorem aAD{M:Model}{A:zj}{E:qx->qj->Prop}{i:Nat}{x:Str}{v:V}{u:qx}{Q:Unit->qj->Prop}(I:Inv X aA σ H s)(hN:X.N.Nodup)(hi:X.N[i]? = qq x)(hx:Loc X.env.scope x)(r:aV v u)
 (h:∀ s',Inv X aA (σ.set i (qq v)) H s'->Q () s') (hf:X.fn x=true\/X.env.scope.names.lookup x=qq .local:=by first | exact .inl rfl | exact .inr rfl | assumption):qu M A (storeName X.env x u) Q E s:=
 aH9 I hN hi hx r (λ s' I' _=>h s' I') hf
theorem Inv.call'{s':qj}{ch:List qv}(I:Inv X aA σ H s)(ho:s'.os=s.os)(u:Un (dB X.stack) ch H H' s.heap s'.heap)(hok:cL X.prog X.w H' s'.heap)(hg:AllBare s'.gens)
 (hch:∀ b∈ch,(b∈X.ex\/X.s₀.heap.objs.size<=b)/\b≠X.env.locals/\(∀ x c,X.env.cells.lookup x=qq c->c≠b)/\∀ p∈X.pn++aA,p.1≠b):Inv X aA σ H' s':=by
 obtain⟨h',g',d',t',o'⟩:=s';have e:o'=s.os:=ho;subst e;exact I.call (g':=g') (t':=t') (d':=d') u hok hg hch
end
abbrev XK:=qx->Option qv->Hp->Prop
abbrev St:=List (Option V)
abbrev VK:=V->Hp->Prop
abbrev TE:=St->Hp->VK->Prop
abbrev TT:=St->Hp->(Bool->Hp->Prop)->Prop
abbrev TA:=St->Hp->(List V->Hp->Prop)->Prop
structure Ends where
 nx:St->Hp->Prop
 rt:VK
 bk:St->Hp->Prop:=λ _ _=>False
 ct:St->Hp->Prop:=λ _ _=>False
abbrev TS:=Ends->St->Hp->Prop
def EP(X:Cx)(aA:List (qv×Obj))(σ:St)(Q:VK)(u:qx)(s':qj):Prop:=∃ v H',Inv X aA σ H' s'/\aV v u/\Q v H'
def TP(X:Cx)(aA:List (qv×Obj))(σ:St)(Q:Bool->Hp->Prop)(b:Bool)(s':qj):Prop:=∃ H',Inv X aA σ H' s'/\Q b H'
def AP(X:Cx)(aA:List (qv×Obj))(σ:St)(Q:List V->Hp->Prop)(us:List qx)(s':qj):Prop:=∃ vs H',Inv X aA σ H' s'/\aS vs us/\Q vs H'
def SP(X:Cx)(aA:List (qv×Obj))(D:Ends)(f:Flow)(s':qj):Prop:=
 match f with
 | .next=>∃ σ' H',Inv X aA σ' H' s'/\D.nx σ' H'
 | .brk=>∃ σ' H',Inv X aA σ' H' s'/\D.bk σ' H'
 | .cont=>∃ σ' H',Inv X aA σ' H' s'/\D.ct σ' H'
 | .ret u=>∃ v σ' H',Inv X aA σ' H' s'/\aV v u/\D.rt v H'
def PE(X:Cx)(e:qw)(t:TE):Prop:=
 ∀ (aA:List (qv×Obj)) (s:qj) (σ:St) (H:Hp) (Q:VK),Inv X aA σ H s->t σ H Q->qu (model X.prog X.w) X.A (eval e X.env) (EP X aA σ Q) X.xe s
def PT(X:Cx)(e:qw)(t:TT):Prop:=
 ∀ (aA:List (qv×Obj)) (s:qj) (σ:St) (H:Hp) (Q:Bool->Hp->Prop),Inv X aA σ H s->t σ H Q->qu (model X.prog X.w) X.A (isTrue e X.env (eval e X.env)) (TP X aA σ Q) X.xe s
def PW(X:Cx)(e:qw)(t:TT):Prop:=
 ∀ (dZ:Sem qx) (aA:List (qv×Obj)) (s:qj) (σ:St) (H:Hp) (Q:Bool->Hp->Prop),Inv X aA σ H s->t σ H Q->qu (model X.prog X.w) X.A (isTrue e X.env dZ) (TP X aA σ Q) X.xe s
theorem PW.pt{X:Cx}{e:qw}{t:TT}(h:PW X e t):PT X e t:=h _
def PA(X:Cx)(es:List qw)(t:TA):Prop:=
 ∀ (pos:Pos) (aA:List (qv×Obj)) (s:qj) (σ:St) (H:Hp) (Q:List V->Hp->Prop),Inv X aA σ H s->t σ H Q->qu (model X.prog X.w) X.A (spliced (backTo pos (zv es X.env))) (AP X aA σ Q) X.xe s
def PS(X:Cx)(st:zk)(t:TS):Prop:=
 ∀ (aA:List (qv×Obj)) (s:qj) (σ:St) (H:Hp) (D:Ends),Inv X aA σ H s->t D σ H->qu (model X.prog X.w) X.A (exec st X.env) (SP X aA D) X.xe s
def bO(X:Cx)(st:List zk)(t:TS):Prop:=
 ∀ (aA:List (qv×Obj)) (s:qj) (σ:St) (H:Hp) (D:Ends),Inv X aA σ H s->t D σ H->qu (model X.prog X.w) X.A (execs st X.env) (SP X aA D) X.xe s
theorem aX{α:Type}{t:Sem α}{Q Q':α->qj->Prop}{M:Model}{A:zj}{E:qx->qj->Prop}{s:qj}(h:qu M A t Q E s)(hQ:∀ a s,Q a s->Q' a s):qu M A t Q' E s:=wpAny_mono h hQ λ _ _ x=>x
end L2
namespace L2
open PySem PySem.Spec PyProof.Rows
section
variable {X : Cx}
theorem bin{a b:qw}{ta tb:TE}(ha:PE X a ta)(hb:PE X b tb){aA:List (qv×Obj)}{s:qj}{σ:St}{H:Hp}{R:V->V->Hp->Prop}(I:Inv X aA σ H s)(h:ta σ H λ x H1=>tb σ H1 λ y H2=>R x y H2)
 {α:Type}{Q:α->qj->Prop}{f:qx->qx->Sem α}
 (hf:∀ v u s2 x y H2,Inv X aA σ H2 s2->aV x v->aV y u->R x y H2->qu (model X.prog X.w) X.A (f v u) Q X.xe s2) :
 qu (model X.prog X.w) X.A (eval a X.env) (λ v s₁=>qu (model X.prog X.w) X.A (eval b X.env) (λ u s₂=>qu (model X.prog X.w) X.A (f v u) Q X.xe s₂) X.xe s₁) X.xe s:=by
 refine aX (ha aA s σ H _ I h) λ v s1 hPq0=>?_
 obtain⟨x,H1,I1,r1,q1⟩:=hPq0;refine aX (hb aA s1 σ H1 _ I1 q1) λ u s2 hPq1=>?_
 obtain⟨y,H2,I2,r2,q2⟩:=hPq1;exact hf v u s2 x y H2 I2 r1 r2 q2
def aPK(i:Nat):TE:=λ σ H Q=>∃ v,σ[i]? = qq (qq v)/\Q v H
def tC(v:V):TE:=λ _ H Q=>Q v H
theorem aA0{i:Nat}{x:Str}{pos:Pos}(hN:X.N[i]? = qq x)(hv:lJ X.env.scope x)(hd:(x==("__debug__" : Str))=false:=by decide)(hcd:(x==("__classdict__" : Str))=false:=by decide):PE X (.Name x pos) (aPK i):=by
 intro aA s σ H Q I h;obtain⟨v,e,h⟩:=h;obtain⟨m,hn,hl⟩:=I.loc;obtain⟨u,r,l⟩:=hl i x v hN e hv;have bB:EP X aA σ Q u s:=⟨v,H,I,r,h⟩;rcases l with ⟨hk,hm⟩ | ⟨hk,c,hc,hcell⟩
 ·exact wpAny_Name (wpAny_loadName_local I.ok.kind hk hn hm bB) hd
 ·rcases hk with hk | hk
  ·exact wpAny_Name (wpAny_loadName_cell I.ok.kind hk hc hcell bB) hd
  ·exact wpAny_Name (wpAny_loadName_free I.ok.kind hk hc hcell bB hcd) hd
theorem aL1{i j pos}:PE X (.Constant (.int i) j pos) (tC (.int i)):=λ _ _ _ H _ I h=>wpAny_Constant_int ⟨.int i,H,I.tok _,⟨_,rfl⟩,h⟩
theorem aNN{b j pos}:PE X (.Constant (.bool b) j pos) (tC (.bl b)):=λ _ _ _ H _ I h=>Constant_bool ⟨.bl b,H,I,rfl,h⟩
theorem aM8{j pos}:PE X (.Constant .none j pos) (tC .non):=λ _ _ _ H _ I h=>Constant_none ⟨.non,H,I,rfl,h⟩
theorem aFc{x j pos}:PE X (.Constant (.str x) j pos) (tC (.str x)):=λ _ _ _ H _ I h=>Calls.Constant_str ⟨.str x,H,I.tok _,⟨_,rfl⟩,h⟩
def Gl(X:Cx)(x:Str):Prop:=X.env.kindOf x=qq .globalImplicit
theorem kO{E:qx->qj->Prop}{aA:List (qv×Obj)}{s:qj}{σ:St}{H:Hp}{x:Str}{u:qx}{pos:Pos}{Q:qx->qj->Prop}(I:Inv X aA σ H s)(hg:Gl X x)(hm:X.mg x=qq u)(h:Q u s)
 (hd:(x==("__debug__" : Str))=false:=by decide):qu (model X.prog X.w) X.A (eval (.Name x pos) X.env) Q E s:=
 Calls.Name_function_global I.ok.kind hg (Calls.loadGlobal_global (by rw[I.ok.glob];exact I.mod.glob.keeps I.bk) hm h) hd
theorem oY{E:qx->qj->Prop}{aA:List (qv×Obj)}{s:qj}{σ:St}{H:Hp}{x:Str}{u:qx}{pos:Pos}{Q:qx->qj->Prop}(I:Inv X aA σ H s)(hg:Gl X x)(hm:X.mg x=qz)(hv:zu x=qq u)(h:Q u s)
 (hn:x ≠ "__name__":=by decide) (hd:(x==("__debug__" : Str))=false:=by decide):qu (model X.prog X.w) X.A (eval (.Name x pos) X.env) Q E s:=by
 obtain⟨mb,h1,h2⟩:=I.mod.blt;exact Calls.Name_function_global I.ok.kind hg (Calls.loadGlobal_builtin (by rw[I.ok.glob];exact I.mod.glob.keeps I.bk) hm (by rw[I.ok.blt];exact h1.keeps I.bk) ((h2 x hn).trans hv) h) hd
theorem rC{x:Str}{v:V}{u:qx}{pos:Pos}(hg:Gl X x)(hm:X.mg x=qq u)(r:aV v u)(hd:(x==("__debug__" : Str))=false:=by decide):PE X (.Name x pos) (tC v):=
 λ _ _ _ H _ I h=>kO I hg hm ⟨v,H,I,r,h⟩ hd
theorem aEB{x:Str}{v:V}{u:qx}{pos:Pos}(hg:Gl X x)(hm:X.mg x=qz)(hv:zu x=qq u)(r:aV v u)(hn:x ≠ "__name__":=by decide)(hd:(x==("__debug__" : Str))=false:=by decide):PE X (.Name x pos) (tC v):=
 λ _ _ _ H _ I h=>oY I hg hm hv ⟨v,H,I,r,h⟩ hn hd
variable {a b : qw}{ta tb : TE}{pos : Pos}
variable {tA tB' : TT}{bK : List qw}
def aGj(t u:TT):TT:=λ σ H Q=>t σ H λ c H1=>if c=true then u σ H1 Q else Q false H1
def tOr(t u:TT):TT:=λ σ H Q=>t σ H λ c H1=>if c=true then Q true H1 else u σ H1 Q
def aPB(t:TT):TT:=λ σ H Q=>t σ H λ c H1=>Q (!c) H1
theorem aK0(ha:PT X a tA):PW X (.BoolOp .And [a] pos) tA:=by
 intro wh aA s σ H Q I h;refine isTrue_and (aX (ha aA s σ H Q I h) λ c s1 e=>?_)
 cases c with
 | true=>exact isTrue_and_nil e
 | false=>exact e
theorem aNf(ha:PT X a tA):PW X (.BoolOp .Or [a] pos) tA:=by
 intro wh aA s σ H Q I h;refine isTrue_or (aX (ha aA s σ H Q I h) λ c s1 e=>?_)
 cases c with
 | false=>exact isTrue_or_nil e
 | true=>exact e
theorem aEI(ha:PT X a tA)(hb:PW X (.BoolOp .And (b::bK) pos) tB'):PW X (.BoolOp .And (a::b::bK) pos) (aGj tA tB'):=by
 intro wh aA s σ H Q I h;refine isTrue_and (aX (ha aA s σ H _ I h) λ c s1 hPq2=>?_)
 obtain⟨H1,I1,q1⟩:=hPq2;cases c with
 | true=>exact hb wh aA s1 σ H1 Q I1 q1
 | false=>exact⟨H1,I1,q1⟩
theorem aFV(ha:PT X a tA)(hb:PW X (.BoolOp .Or (b::bK) pos) tB'):PW X (.BoolOp .Or (a::b::bK) pos) (tOr tA tB'):=by
 intro wh aA s σ H Q I h;refine isTrue_or (aX (ha aA s σ H _ I h) λ c s1 hPq3=>?_)
 obtain⟨H1,I1,q1⟩:=hPq3;cases c with
 | true=>exact⟨H1,I1,q1⟩
 | false=>exact hb wh aA s1 σ H1 Q I1 q1
theorem aLY(ha:PT X a tA):PT X (.UnaryOp .Not a pos) (aPB tA):=by
 intro aA s σ H Q I h;exact isTrue_not (ha aA s σ H (λ c H1=>Q (!c) H1) I h)
def aFJ(ta tb:TE):TE:=λ σ H Q=>ta σ H λ x H1=>∃ c,x=.bl c/\if c=true then tb σ H1 Q else Q (.bl false) H1
def aF2(ta tb:TE):TE:=λ σ H Q=>ta σ H λ x H1=>∃ c,x=.bl c/\if c=true then Q (.bl true) H1 else tb σ H1 Q
def aOf(ta:TE):TE:=λ σ H Q=>ta σ H λ x H1=>∃ c,x=.bl c/\Q (.bl (!c)) H1
theorem aA1{op}{t:TE}(h:PE X a t):PE X (.BoolOp op [a] pos) t:=λ aA s σ H Q I hw=>BoolOp_one (h aA s σ H Q I hw)
theorem vU(ha:PE X a ta)(hb:PE X (.BoolOp .And (b::bK) pos) tb):PE X (.BoolOp .And (a::b::bK) pos) (aFJ ta tb):=by
 intro aA s σ H Q I h;refine BoolOp_and (aX (ha aA s σ H _ I h) λ v s1 hPq4=>?_)
 obtain⟨x,H1,I1,r1,q1⟩:=hPq4;obtain⟨c,rfl,q1⟩:=q1;cases r1;refine ju ?_;cases c with
 | true=>exact hb aA s1 σ H1 Q I1 q1
 | false=>exact⟨.bl false,H1,I1,rfl,q1⟩
theorem aFv(ha:PE X a ta)(hb:PE X (.BoolOp .Or (b::bK) pos) tb):PE X (.BoolOp .Or (a::b::bK) pos) (aF2 ta tb):=by
 intro aA s σ H Q I h;refine BoolOp_or (aX (ha aA s σ H _ I h) λ v s1 hPq5=>?_)
 obtain⟨x,H1,I1,r1,q1⟩:=hPq5;obtain⟨c,rfl,q1⟩:=q1;cases r1;refine ju ?_;cases c with
 | false=>exact hb aA s1 σ H1 Q I1 q1
 | true=>exact⟨.bl true,H1,I1,rfl,q1⟩
theorem aMa(ha:PE X a ta):PE X (.UnaryOp .Not a pos) (aOf ta):=by
 intro aA s σ H Q I h;refine UnaryOp_ (aX (ha aA s σ H _ I h) λ v s1 hPq6=>?_)
 obtain⟨x,H1,I1,r1,q1⟩:=hPq6;obtain⟨c,rfl,q1⟩:=q1;cases r1;exact not_of (ju ⟨.bl (!c),H1,I1,rfl,q1⟩)
def tIf(t:TT)(ta tb:TE):TE:=λ σ H Q=>t σ H λ c H1=>if c=true then ta σ H1 Q else tb σ H1 Q
theorem aJq{c:qw}(hc:PT X c tA)(ha:PE X a ta)(hb:PE X b tb):PE X (.IfExp c a b pos) (tIf tA ta tb):=by
 intro aA s σ H Q I h;refine wpAny_IfExp (aX (hc aA s σ H _ I h) λ d s1 hPq7=>?_)
 obtain⟨H1,I1,q1⟩:=hPq7;cases d with
 | true=>exact ha aA s1 σ H1 Q I1 q1
 | false=>exact hb aA s1 σ H1 Q I1 q1
end
end L2
namespace L2
open PySem PySem.Spec PyProof.Rows
def bF(K:FrG)(H:Hp)(a:qv)(xs:List V):Prop:=
 Rd H a (.lst xs) \/
  ∃ (o:Obj) (its:Array qx) (n:Nat),K.lookup a=qq o/\o.cls=.type "list" /\ o.dict=qz/\o.data=.seq its n/\its.size<=qk/\aS xs its.toList
def bL(K:FrG)(H:Hp)(a:qv)(xs:List V):Prop:=
 Rd H a (.tup xs) \/
  ∃ (o:Obj) (its:Array qx) (n:Nat),K.lookup a=qq o/\o.cls=.type "tuple" /\ o.data=.seq its n/\its.size<=qk/\aS xs its.toList
noncomputable def aPv:qx->Option V
 | .none=>qq .non
 | .bool b=>qq (.bl b)
 | .int i _=>qq (.int i)
 | .str x _=>qq (.str x)
 | .bytes b _=>qq (.byt b)
 | .float b _=>qq (.flt b)
 | .ref a=>qq (.ref a)
 | .type n=>qq (.ty n)
 | _=>qz
theorem aV.abs{x:V}{u:qx}(r:aV x u):aPv u=qq x:=by
 cases x with
 | non=>cases r;rfl
 | bl _=>cases r;rfl
 | int _=>obtain⟨t,rfl⟩:=r;rfl
 | str _=>obtain⟨t,rfl⟩:=r;rfl
 | byt _=>obtain⟨t,rfl⟩:=r;rfl
 | flt _=>obtain⟨t,rfl⟩:=r;rfl
 | ref _=>cases r;rfl
 | ty _=>cases r;rfl
theorem aV.inj{x y:V}{u:qx}(r:aV x u)(q:aV y u):x=y:=Option.some.inj (r.abs.symm.trans q.abs)
theorem aS.inj:∀ {xs ys:List V}{us:List qx},aS xs us->aS ys us->xs=ys
 | _,_,_,.nil,.nil=>rfl
 | _,_,_,.cons r t,.cons r' t'=>by rw[r.inj r',aS.inj t t']
section
variable {X : Cx}{aA : List (qv×Obj)}{σ : St}{H : Hp}{s : qj}{a : qv}{xs ys : List V}
theorem bF.of{K:FrG}(h:H a=qq (.lst xs)):bF K H a xs:=.inl (.inl h)
theorem bL.of{K:FrG}(h:H a=qq (.tup xs)):bL K H a xs:=.inl (.inl h)
theorem Inv.list(I:Inv X aA σ H s)(h:bF X.K H a xs):∃ its:List qx,aS xs its/\PlainL s.heap a its.toArray/\xs.length<=qk:=by
 rcases h with h | ⟨o,its,n,hk,hc,hd,hs,hz,r⟩
 ·obtain⟨z,its,n,r,e⟩:=h.ok I.hok;exact⟨its,r,⟨_,n,e,rfl,rfl,rfl⟩,z⟩
 ·refine⟨its.toList,r,⟨o,n,I.kIn a o hk,hc,hd,by simpa using hs⟩,?_⟩
  have e:=r.length;simp only[yBn] at e;omega
theorem Inv.tuple(I:Inv X aA σ H s)(h:bL X.K H a xs):∃ its:List qx,aS xs its/\IsTup s.heap a its.toArray/\xs.length<=qk:=by
 rcases h with h | ⟨o,its,n,hk,hc,hs,hz,r⟩
 ·obtain⟨z,its,r,p⟩:=h.ok I.hok;exact⟨its,r,p,z⟩
 ·refine⟨its.toList,r,⟨o,I.kIn a o hk,hc,n,by simpa using hs⟩,?_⟩
  have e:=r.length;simp only[yBn] at e;omega
theorem Inv.list_inj(I:Inv X aA σ H s)(h:bF X.K H a xs)(h':bF X.K H a ys):xs=ys:=by
 obtain⟨its,r,⟨o,n,e,_,_,d⟩,_⟩:=I.list h;obtain⟨its',r',⟨o',n',e',_,_,d'⟩,_⟩:=I.list h';rw[e] at e';cases e';rw[d] at d';injection d' with d1 _
 have:its=its':=by simpa using congrArg Array.toList d1
 subst this;exact r.inj r'
theorem Inv.tuple_inj(I:Inv X aA σ H s)(h:bL X.K H a xs)(h':bL X.K H a ys):xs=ys:=by
 obtain⟨its,r,⟨o,e,_,n,d⟩,_⟩:=I.tuple h;obtain⟨its',r',⟨o',e',_,n',d'⟩,_⟩:=I.tuple h';rw[e] at e';cases e';rw[d] at d';injection d' with d1 _
 have:its=its':=by simpa using congrArg Array.toList d1
 subst this;exact r.inj r'
end
noncomputable abbrev Cx.wish(X:Cx)(E:qx->qj->Prop):Cx:={X with xe:=E }
noncomputable abbrev Cx.nox(X:Cx):Cx:=X.wish λ _ _=>False
theorem Cx.Ok.wish{X:Cx}(ok:X.Ok)(E:qx->qj->Prop):(X.wish E).Ok:=
 ⟨ok.mod,ok.kind,ok.glob,ok.blt,ok.above,ok.inj,ok.has,ok.cab,ok.hd,ok.frames,ok.stk,ok.exf,ok.bs,ok.bsz,ok.noex,ok.exfs,ok.funs,ok.frf⟩
theorem Cx.Ok.unwish{X:Cx}{E:qx->qj->Prop}(ok:(X.wish E).Ok):X.Ok:=
 ⟨ok.mod,ok.kind,ok.glob,ok.blt,ok.above,ok.inj,ok.has,ok.cab,ok.hd,ok.frames,ok.stk,ok.exf,ok.bs,ok.bsz,ok.noex,ok.exfs,ok.funs,ok.frf⟩
section
variable {X : Cx}{aA : List (qv×Obj)}{σ : St}{H : Hp}{s : qj}{E : qx -> qj -> Prop}
theorem Inv.wish(I:Inv X aA σ H s)(E:qx->qj->Prop):Inv (X.wish E) aA σ H s:=⟨I.ok.wish E,I.os,I.bare,I.base,I.loc,I.cell,I.free,I.freeC,I.pin,I.hok,I.len⟩
theorem Inv.unwish(I:Inv (X.wish E) aA σ H s):Inv X aA σ H s:=⟨I.ok.unwish,I.os,I.bare,I.base,I.loc,I.cell,I.free,I.freeC,I.pin,I.hok,I.len⟩
theorem SP.unwish{D:Ends}{f:Flow}{s':qj}(h:SP (X.wish E) aA D f s'):SP X aA D f s':=by
 cases f with
 | next=>obtain⟨σ',H',I,q⟩:=h;exact⟨σ',H',I.unwish,q⟩
 | brk=>obtain⟨σ',H',I,q⟩:=h;exact⟨σ',H',I.unwish,q⟩
 | cont=>obtain⟨σ',H',I,q⟩:=h;exact⟨σ',H',I.unwish,q⟩
 | ret u=>obtain⟨v,σ',H',I,r,q⟩:=h;exact⟨v,σ',H',I.unwish,r,q⟩
theorem PE.nox{e:qw}{t:TE}(h:PE X.nox e t):PE X e t:=λ aA s σ H Q I hw =>
 wpAny_mono (h aA s σ H Q (I.wish _) hw) (λ _ _ hPr0=>by obtain⟨v,H',I',r,q⟩:=hPr0;exact⟨v,H',I'.unwish,r,q⟩) λ _ _ z=>False.elim z
theorem PT.nox{e:qw}{t:TT}(h:PT X.nox e t):PT X e t:=λ aA s σ H Q I hw =>
 wpAny_mono (h aA s σ H Q (I.wish _) hw) (λ _ _ hPr1=>by obtain⟨H',I',q⟩:=hPr1;exact⟨H',I'.unwish,q⟩) λ _ _ z=>False.elim z
theorem bO.nox{st:List zk}{t:TS}(h:bO X.nox st t):bO X st t:=λ aA s σ H D I hw =>
 wpAny_mono (h aA s σ H D (I.wish _) hw) (λ _ _ q=>q.unwish) λ _ _ z=>False.elim z
end
section
variable {X : Cx}{st : zk}{bK : List zk}{t u : TS}{e : qw}{te : TE}{pos : Pos}
def aOg:TS:=λ D σ H=>D.nx σ H
def aO7(t u:TS):TS:=λ D σ H=>t {D with nx:=u D } σ H
theorem aAU:bO X [] aOg:=λ _ _ σ H _ I h=>wpAny_execs_nil ⟨σ,H,I,h⟩
theorem aAC(h1:PS X st t)(h2:bO X bK u):bO X (st::bK) (aO7 t u):=by
 intro aA s σ H D I h;refine wpAny_execs_cons (aX (h1 aA s σ H {D with nx:=u D } I h) λ f s1 q=>?_)
 cases f with
 | next =>
   obtain⟨σ',H',I',q⟩:=q;exact h2 aA s1 σ' H' D I' q
 | ret v=>exact q
 | brk=>exact q
 | cont=>exact q
theorem Inv.quiet{aA:List (qv×Obj)}{σ:St}{H:Hp}{s:qj}(I:Inv X aA σ H s):interactive X.env=false:=by simp[interactive,I.ok.kind]
def aOH(te:TE):TS:=λ D σ H=>te σ H λ _ H1=>D.nx σ H1
theorem aEv(he:PE X e te)(hs:swapsWith e qz pos.line X.env=pure false:=by rfl):PS X (.Expr e pos) (aOH te):=by
 intro aA s σ H D I h;exact wpAny_Expr_any (aX (he aA s σ H _ I h) λ v s1 ⟨x,H1,I1,r1,q1⟩=>⟨σ,H1,I1,q1⟩) I.quiet hs
def aPt(te:TE):TS:=λ D σ H=>te σ H D.rt
theorem aNz(he:PE X e te):PS X (.Return (qq e) pos) (aPt te):=by
 intro aA s σ H D I h;exact wpAny_Return_some (aX (he aA s σ H _ I h) λ v s1 ⟨x,H1,I1,r1,q1⟩=>⟨x,σ,H1,I1,r1,q1⟩)
def aPP(c:TT)(t u:TS):TS:=λ D σ H=>c σ H λ b H1=>if b=true then t D σ H1 else u D σ H1
theorem aFT{c:qw}{a b:List zk}{tc:TT}(hc:PT X c tc)(ha:bO X a t)(hb:bO X b u):PS X (.If c a b pos) (aPP tc t u):=by
 intro aA s σ H D I h;refine wpAny_If (aX (hc aA s σ H _ I h) λ d s1 hPq8=>?_)
 obtain⟨H1,I1,q1⟩:=hPq8;cases d with
 | true=>exact ha aA s1 σ H1 D I1 q1
 | false=>exact hb aA s1 σ H1 D I1 q1
end
abbrev TG:=V->St->Hp->(St->Hp->Prop)->Prop
abbrev iC:=List V->St->Hp->(St->Hp->Prop)->Prop
def PG(X:Cx)(target:qw)(t:TG):Prop:=
 ∀ (aA:List (qv×Obj)) (s:qj) (σ:St) (H:Hp) (v:V) (u:qx) (Q:St->Hp->Prop),Inv X aA σ H s->aV v u->t v σ H Q ->
  qu (model X.prog X.w) X.A (assign target X.env u) (λ _ s'=>∃ σ' H',Inv X aA σ' H' s'/\Q σ' H') X.xe s
def nU(X:Cx)(ts:List qw)(t:iC):Prop:=
 ∀ (aA:List (qv×Obj)) (s:qj) (σ:St) (H:Hp) (vs:List V) (us:List qx) (Q:St->Hp->Prop),Inv X aA σ H s->aS vs us->t vs σ H Q ->
  qu (model X.prog X.w) X.A (assignInOrder ((xj ts X.env).map (·.2)) us) (λ _ s'=>∃ σ' H',Inv X aA σ' H' s'/\Q σ' H') X.xe s
abbrev aBT:=V->V->V->Hp->(Hp->Prop)->Prop
def aGb(X:Cx)(t:aBT):Prop:=
 ∀ (aA:List (qv×Obj)) (s:qj) (σ:St) (H:Hp) (o i v:V) (ov iv u:qx) (Q:Hp->Prop),Inv X aA σ H s->aV o ov->aV i iv->aV v u->t o i v H Q ->
  qu (model X.prog X.w) X.A (setItem ov iv u) (λ _ s'=>∃ H',Inv X aA σ H' s'/\Q H') X.xe s
section
variable {X : Cx}{pos : Pos}
def lX(i:Nat):TG:=λ v σ H Q=>Q (σ.set i (qq v)) H
theorem aAQ{i:Nat}{x:Str}(hN:X.N.Nodup)(hi:X.N[i]? = qq x)(hx:Loc X.env.scope x)(hf:X.fn x=true\/X.env.scope.names.lookup x=qq .local:=by first | exact .inl rfl | exact .inr rfl | assumption):PG X (.Name x pos) (lX i):=by
 intro aA s σ H v u Q I r h;exact wpAny_assign_Name (aAD I hN hi hx r (λ s' I'=>⟨_,H,I',h⟩) hf)
noncomputable def aBC:iC:=λ vs σ H Q=>vs=[]/\Q σ H
noncomputable def aBt(t:TG)(u:iC):iC:=λ vs σ H Q=>∃ v r,vs=v::r/\t v σ H λ σ' H'=>u r σ' H' Q
theorem aJX:nU X [] aBC:=by
 intro aA s σ H vs us Q I r h;obtain⟨e,h⟩:=h;subst e;cases r;exact assignInOrder_nil ⟨σ,H,I,h⟩
theorem aJx{e:qw}{es:List qw}{t:TG}{u:iC}(h1:PG X e t)(h2:nU X es u)
 (hs:(xj (e::es) X.env).map (·.2)=assign e X.env::(xj es X.env).map (·.2):=by rfl):nU X (e::es) (aBt t u):=by
 intro aA s σ H vs us Q I r h;obtain⟨v,vr,e1,h⟩:=h;subst e1;cases r with
 | cons r rr =>
   rw[hs];refine assignInOrder_cons (aX (h1 aA s σ H _ _ _ I r h) λ _ s1 hPq9=>?_)
   obtain⟨σ1,H1,I1,q1⟩:=hPq9;exact h2 aA s1 σ1 H1 _ _ Q I1 rr q1
def aPj(K:FrG)(n:Nat)(t:iC):TG:=λ v σ H Q=>∃ a xs,v=.ref a/\bL K H a xs/\xs.length=n/\t xs σ H Q
theorem aLu{es:List qw}{k:Nat}{t:iC}{n:Nat}(hc:X.calm=true)(h:nU X es t)
 (hn:(xj es X.env).length=n:=by rfl) (cZ:(xj es X.env).findIdx? (·.1)=qz:=by rfl):PG X (.Tuple es k pos) (aPj X.K n t):=by
 intro aA s σ H v u Q I r hw;obtain⟨a,xs,e1,hq,hl,hw⟩:=hw;subst e1;cases r;obtain⟨its,rv,ht,hz⟩:=I.tuple hq;refine assign_Tuple_tuple (I.ok.hd hc) ht (by simp[hn,<- hl,rv.length]) cZ λ h' hx=>?_
 have I1:Inv X aA σ H {s with heap:=h' }:=I.kept (t':=s.toks) λ b o e=>hx b o (xAh (xAa e)) e
 exact h aA _ σ H xs _ Q I1 (by simpa using rv) hw
def aGr(to ti:TE)(t:aBT):TG:=λ v σ H Q=>to σ H λ o H1=>ti σ H1 λ i H2=>t o i v H2 λ H3=>Q σ H3
theorem aMS{o i:qw}{to ti:TE}{t:aBT}(ho:PE X o to)(hi:PE X i ti)(hs:aGb X t)
 (ha:∀ v,assign (.Subscript o i pos) X.env v=(do
   let ov <- holding [v] (eval o X.env)
   let iv <- holding [v,ov] (eval i X.env)
   standAt pos
   holding [v,ov,iv] (setItem ov iv v)
   release [v,ov,iv] []):=by intro _;rfl):PG X (.Subscript o i pos) (aGr to ti t):=by
 intro aA s σ H v u Q I r h;rw[ha];refine wB (xq (aX (ho aA s σ H _ I h) λ ov s1 hPq10=>?_))
 obtain⟨x,H1,I1,r1,q1⟩:=hPq10;refine wB (xq (aX (hi aA s1 σ H1 _ I1 q1) λ iv s2 hPq11=>?_))
 obtain⟨y,H2,I2,r2,q2⟩:=hPq11;refine wB (vv (wB (xq (aX (hs aA s2 σ H2 x y v ov iv u _ I2 r1 r2 r q2) λ _ s3 hPq12=>?_))))
 obtain⟨H3,I3,q3⟩:=hPq12;exact wpAny_release ⟨σ,H3,I3,q3⟩
def sZ(te:TE)(g:TG):TS:=λ D σ H=>te σ H λ x H1=>g x σ H1 D.nx
theorem aFk{tg e:qw}{te:TE}{g:TG}(he:PE X e te)(hg:PG X tg g)(hs:swapsWithSole [tg] e pos.line X.env=pure false:=by rfl)(hw:yy [tg] e X.env=pure qz:=by rfl)
 (h1:(xj [tg] X.env).map (·.2)=[assign tg X.env]:=by rfl):PS X (.Assign [tg] e pos) (sZ te g):=by
 intro aA s σ H D I h;refine wpAny_Assign_stores (aX (he aA s σ H _ I h) λ v s1 hPq13=>?_) hs hw
 obtain⟨x,H1,I1,r1,q1⟩:=hPq13;rw[h1];exact aX (hg aA s1 σ H1 x v _ I1 r1 q1) λ _ s2 q=>q
theorem aFa{i:Nat}{x:Str}{e:qw}{te:TE}{pos':Pos}(hN:X.N.Nodup)(hi:X.N[i]? = qq x)(hx:Loc X.env.scope x)(he:PE X e te)(hs:swapsWith e (qq (.Name x pos')) pos.line X.env=pure false:=by rfl)(hf:X.fn x=true\/X.env.scope.names.lookup x=qq .local:=by first | exact .inl rfl | exact .inr rfl | assumption) :
 PS X (.Assign [.Name x pos'] e pos) (sZ te (lX i)):=by
 intro aA s σ H D I h;refine wpAny_Assign_Name (aX (he aA s σ H _ I h) λ v s1 hPq14=>?_) hs
 obtain⟨y,H1,I1,r1,q1⟩:=hPq14;exact aAD I1 hN hi hx r1 (λ s2 I2=>⟨_,H1,I2,q1⟩) hf
end
section
variable {X : Cx}{pos : Pos}
end
structure It where
 go:Nat->Hp->Prop
 yld:Nat->Hp->V->Hp->Prop
 stop:Nat->Hp->Prop
def fW(X:Cx)(aA:List (qv×Obj))(H:Hp)(b:qv):Prop:=
 H b=qz/\b≠X.env.locals/\b ∉ X.fs/\(b∈X.ex\/X.s₀.heap.objs.size<=b)/\(∀ x c,X.env.cells.lookup x=qq c->c≠b)/\∀ p∈X.pn++aA,p.1≠b
theorem Inv.fpOk{X:Cx}{aA:List (qv×Obj)}{σ:St}{H H':Hp}{s:qj}{b:qv}(I:Inv X aA σ H s)(hb:s.heap.objs.size<=b)(hn:H' b=qz):fW X aA H' b:=by
 refine⟨hn,yCy (xAc I.lt hb),I.nofs hb,.inr (xAg I.sz hb),λ x c e z=>?_,λ p hp z=>?_⟩
 ·obtain⟨v,q⟩:=I.cell x c e;exact absurd (xAc q.lt (by rw[z];exact hb)) (yBc _)
 ·exact absurd (xAc (xAa (I.pin p hp).1) (by rw[z];exact hb)) (yBc _)
structure Turn(P:qo)(w:zq)(K:FrG)(tg:qw)(J:It)(fp:List qv)(it:qv)(tn:Nat->Heap->Prop):Prop where
 mem:it∈fp
 obj:∀ i h,tn i h->∀ b∈fp,∃ o,h.get? b=qq o/\∀ v,o.data≠.cell v
 keep:∀ i h h',tn i h->(∀ b∈fp,∀ o,h.get? b=qq o->h'.get? b=qq o)->tn i h'
 item:∀ (X:Cx),X.prog=P->X.w=w->X.K=K->X.calm=true->∀ (i:Nat) (aA:List (qv×Obj)) (s:qj) (σ:St) (H:Hp) (E:qx->qj->Prop),Inv X aA σ H s->(∀ b∈fp,fW X aA H b)->tn i s.heap->J.go i H ->
  qu (model P w) X.A (yo (.ref it)) (λ r s1=>∃ u,r=qq u /\
   qu (model P w) X.A (vw tg (.ref it) u) (λ _ s2=>∃ x H',Inv X aA σ H' s2/\aV x u/\J.yld i H x H'/\tn (i+1) s2.heap/\∀ b∈fp,H' b=qz) E s1) E s
 done:∀ (X:Cx),X.prog=P->X.w=w->X.K=K->X.calm=true->∀ (i:Nat) (aA:List (qv×Obj)) (s:qj) (σ:St) (H:Hp) (E:qx->qj->Prop),Inv X aA σ H s->(∀ b∈fp,fW X aA H b)->tn i s.heap->J.stop i H ->
  qu (model P w) X.A (yo (.ref it)) (λ r s1=>r=qz/\Inv X aA σ H s1) E s
 self:∀ (A:zj) (i:Nat) (s:qj) (Q:qx->qj->Prop) (E:qx->qj->Prop),tn i s.heap->Q (.ref it) s->qu (model P w) A (pyIter (.ref it)) Q E s
abbrev TI:=St->Hp->(It->Hp->Prop)->Prop
def PIE(X:Cx)(aA:List (qv×Obj))(σ:St)(tg:qw)(R:It->Hp->Prop)(itv:qx)(s2:qj):Prop:=
 ∃ (it:qv) (fp:List qv) (tn:Nat->Heap->Prop) (J:It) (H':Hp),itv=.ref it/\Inv X aA σ H' s2/\Turn X.prog X.w X.K tg J fp it tn/\tn 0 s2.heap/\(∀ b∈fp,fW X aA H' b)/\R J H'
def PI(X:Cx)(tg iter:qw)(wi:TI):Prop:=
 ∀ (aA:List (qv×Obj)) (s:qj) (σ:St) (H:Hp) (R:It->Hp->Prop),Inv X aA σ H s->wi σ H R ->
  qu (model X.prog X.w) X.A (eval iter X.env) (λ v s1=>qu (model X.prog X.w) X.A (pyIter v) (PIE X aA σ tg R) X.xe s1) X.xe s
theorem wL{M:Model}{A:zj}{E:qx->qj->Prop}{s:qj}{tg:qw}{it:qv}{u:qx}{o:Obj}{n:String}{vs:Array qx}{Q:Unit->qj->Prop}(ho:s.heap.get? it=qq o)(hc:o.cls=.type n)(hd:o.data=.fields vs)
 (hn:["enumerate", "zip", "dict_itemiterator", "dict_reverseitemiterator", "odict_iterator", "itertools.zip_longest", "itertools.pairwise"].contains n=false) (hQ:Q () s):qu M A (vw tg (.ref it) u) Q E s:=by
 unfold vw;cases tg<;>first
  | exact wP hQ
  | (cases u<;>first
      | exact wP hQ
      | (refine wB (wpAny_load ho ?_)
         rw[hc,hd];show qu M A (if (["enumerate", "zip", "dict_itemiterator", "dict_reverseitemiterator", "odict_iterator", "itertools.zip_longest", "itertools.pairwise"].contains n&&vs[0]?==qq (jq _))=true then _ else _) Q E s
         rw[if_neg (by intro h;rw[hn,yEx] at h;cases h)]
         exact wP hQ))
noncomputable def Itl(K:FrG)(a:qv):It:=
 ⟨λ i H=>∃ xs x,bF K H a xs/\xs[i]? = qq x,λ i H x H'=>H'=H/\∀ xs,bF K H a xs->xs[i]? = qq x,λ i H=>∃ xs,bF K H a xs/\xs.length<=i⟩
noncomputable def Itt(K:FrG)(a:qv):It:=
 ⟨λ i H=>∃ xs x,bL K H a xs/\xs[i]? = qq x,λ i H x H'=>H'=H/\∀ xs,bL K H a xs->xs[i]? = qq x,λ i H=>∃ xs,bL K H a xs/\xs.length<=i⟩
noncomputable def xS(lo:Int)(n:Nat):It:=⟨λ i _=>i<n,λ i H x H'=>H'=H/\x=.int (lo+i),λ i _=>n<=i⟩
theorem aIj{P:qo}{w:zq}{K:FrG}{tg:qw}(a it:qv):Turn P w K tg (Itl K a) [it] it (λ i h=>h.IsListIter it a i) where
 mem:=by simp
 obj:=λ i h st b hb=>by
  have e:b=it:=by simpa using hb
  subst e;obtain⟨o,e,c,d⟩:=st;exact⟨o,e,λ v z=>by rw[d] at z;cases z⟩
 keep:=λ i h h' st k=>st.at λ o e=>k it (by simp) o e
 item:=by
  intro X hP hw hK hc i aA s σ H E I hf st hg;subst hP hw hK;obtain⟨xs,x,hq,hx⟩:=hg;obtain⟨its,rv,p,hz⟩:=I.list hq;obtain⟨u,hu,ru⟩:=rv.get hx;obtain⟨f0,f1,f2,f3,f4,f5⟩:=hf it (by simp)
  refine wz st p.isList (x:=u) (by simpa using hu) λ h' st' sb=>?_
  have I1:Inv X aA σ H {s with heap:=h' }:=I.turned (t':=s.toks) (λ b o hb e=>(sb.2 b hb).trans e) f0 f1 f3 f4 f5
  obtain⟨o,e,c,d⟩:=id st';exact⟨u,rfl,wL (s:={s with heap:=h' }) e c d (by decide) ⟨x,H,I1,ru,⟨rfl,λ ys hy=>by rw[I.list_inj hy hq];exact hx⟩,st',λ b hb=>(hf b hb).1⟩⟩
 done:=by
  intro X hP hw hK hc i aA s σ H E I hf st hg;subst hP hw hK;obtain⟨xs,hq,hx⟩:=hg;obtain⟨its,rv,p,hz⟩:=I.list hq;obtain⟨f0,f1,f2,f3,f4,f5⟩:=hf it (by simp)
  have hl:=rv.length;exact ww (I.ok.hd hc) st p.isList (by simp;omega) λ h' eb=>⟨rfl,I.turned (t':=s.toks) (λ b o hb e=>eb b o hb e) f0 f1 f3 f4 f5⟩
 self:=λ _ _ _ _ _ st h=>wpAny_pyIter_listiter st h
theorem aHI{P:qo}{w:zq}{K:FrG}{tg:qw}(a it:qv):Turn P w K tg (Itt K a) [it] it (λ i h=>h.IsTupleIter it a i) where
 mem:=by simp
 obj:=λ i h st b hb=>by
  have e:b=it:=by simpa using hb
  subst e;obtain⟨o,e,c,d⟩:=st;exact⟨o,e,λ v z=>by rw[d] at z;cases z⟩
 keep:=λ i h h' st k=>st.at λ o e=>k it (by simp) o e
 item:=by
  intro X hP hw hK hc i aA s σ H E I hf st hg;subst hP hw hK;obtain⟨xs,x,hq,hx⟩:=hg;obtain⟨its,rv,p,hz⟩:=I.tuple hq;obtain⟨u,hu,ru⟩:=rv.get hx;obtain⟨f0,f1,f2,f3,f4,f5⟩:=hf it (by simp)
  refine wpAny_pyNext_tuple_item st (show s.heap.IsTuple a its.toArray from p) (x:=u) (by simpa using hu) λ h' st' sb=>?_
  have I1:Inv X aA σ H {s with heap:=h' }:=I.turned (t':=s.toks) (λ b o hb e=>(sb.2 b hb).trans e) f0 f1 f3 f4 f5
  obtain⟨o,e,c,d⟩:=id st';exact⟨u,rfl,wL (s:={s with heap:=h' }) e c d (by decide) ⟨x,H,I1,ru,⟨rfl,λ ys hy=>by rw[I.tuple_inj hy hq];exact hx⟩,st',λ b hb=>(hf b hb).1⟩⟩
 done:=by
  intro X hP hw hK hc i aA s σ H E I hf st hg;subst hP hw hK;obtain⟨xs,hq,hx⟩:=hg;obtain⟨its,rv,p,hz⟩:=I.tuple hq;obtain⟨f0,f1,f2,f3,f4,f5⟩:=hf it (by simp)
  have hl:=rv.length;exact wpAny_pyNext_tuple_end (I.ok.hd hc) st (show s.heap.IsTuple a its.toArray from p) (by simp;omega) λ h' eb=>⟨rfl,I.turned (t':=s.toks) (λ b o hb e=>eb b o hb e) f0 f1 f3 f4 f5⟩
 self:=λ _ _ _ _ _ st h=>wpAny_pyIter_tupleiter st h
theorem aHK{P:qo}{w:zq}{K:FrG}{tg:qw}(it:qv)(lo:Int)(n:Nat):Turn P w K tg (xS lo n) [it] it (λ i h=>IsRangeIter h it (lo+(i:Nat)*1) ((n:Int)-(i:Nat)) 1) where
 mem:=by simp
 obj:=λ i h st b hb=>by
  have e:b=it:=by simpa using hb
  subst e;exact⟨_,st,λ v z=>by
   have z':Data.fields _=Data.cell v:=z;cases z'⟩
 keep:=λ i h h' st k=>k it (by simp) _ st
 item:=by
  intro X hP hw hK hc i aA s σ H E I hf st hg;subst hP hw hK;obtain⟨f0,f1,f2,f3,f4,f5⟩:=hf it (by simp)
  have W:=Walks.range (prog:=X.prog) (w:=X.w) (I.ok.hd hc) it lo 1 n;refine W.item i s _ _ hg st λ v h' tk hv st' kk=>?_
  obtain⟨t,rfl⟩:=hv;have I1:Inv X aA σ H {s with heap:=h',toks:=tk }:=I.turned (λ b o hb e=>kk b o (by simpa using hb) e) f0 f1 f3 f4 f5
  refine⟨_,rfl,wL (s:={s with heap:=h',toks:=tk }) (n:="range_iterator") st' rfl rfl (by decide) ⟨.int (lo+i),H,I1,⟨t,?_⟩,⟨rfl,rfl⟩,st',λ b hb=>(hf b hb).1⟩⟩
  rw[Int.mul_one]
 done:=by
  intro X hP hw hK hc i aA s σ H E I hf st hg;subst hP hw hK;obtain⟨f0,f1,f2,f3,f4,f5⟩:=hf it (by simp)
  exact wpAny_pyNext_range_end (I.ok.hd hc) st (by have:n<=i:=hg;omega) λ h' eb=>⟨rfl,I.turned (t':=s.toks) (λ b o hb e=>eb b o hb e) f0 f1 f3 f4 f5⟩
 self:=λ _ _ _ _ _ st h=>wpAny_pyIter_rangeiter st h
end L2
namespace L2
open PySem PySem.Spec PyProof.Rows
section
variable {X : Cx}{tg : qw}
def aNL(K:FrG)(tl:TE):TI:=λ σ H R=>tl σ H λ x H1=>∃ a,x=.ref a/\(∃ xs,bF K H1 a xs)/\R (Itl K a) H1
def aPO(K:FrG)(tl:TE):TI:=λ σ H R=>tl σ H λ x H1=>∃ a,x=.ref a/\(∃ xs,bL K H1 a xs)/\R (Itt K a) H1
theorem aKU{l:qw}{tl:TE}(hl:PE X l tl):PI X tg l (aNL X.K tl):=by
 intro aA s σ H R I h;refine aX (hl aA s σ H _ I h) λ v s1 hPq15=>?_
 obtain⟨x,H1,I1,r1,q1⟩:=hPq15;obtain⟨a,e,⟨xs,hq⟩,q⟩:=q1;subst e;cases r1;obtain⟨its,rv,p,hz⟩:=I1.list hq;refine jo p.isList ?_;refine⟨s1.heap.objs.size,[s1.heap.objs.size],_,_,H1,rfl,I1.kept (t':=s1.toks) λ b o e=>hpS _ e,aIj a _,⟨_,xAe _ rfl,rfl,rfl⟩,λ b hb=>?_,q⟩
 have e:b=s1.heap.objs.size:=by simpa using hb
 subst e;exact I1.fpOk (yAc _) (I1.hok.fresh (yAc _))
theorem aM9{l:qw}{tl:TE}(hl:PE X l tl):PI X tg l (aPO X.K tl):=by
 intro aA s σ H R I h;refine aX (hl aA s σ H _ I h) λ v s1 hPq16=>?_
 obtain⟨x,H1,I1,r1,q1⟩:=hPq16;obtain⟨a,e,⟨xs,hq⟩,q⟩:=q1;subst e;cases r1;obtain⟨its,rv,p,hz⟩:=I1.tuple hq;refine vz (show s1.heap.IsTuple a its.toArray from p) ?_
 refine⟨s1.heap.objs.size,[s1.heap.objs.size],_,_,H1,rfl,I1.kept (t':=s1.toks) λ b o e=>hpS _ e,aHI a _,⟨_,xAe _ rfl,rfl,rfl⟩,λ b hb=>?_,q⟩
 have e:b=s1.heap.objs.size:=by simpa using hb
 subst e;exact I1.fpOk (yAc _) (I1.hok.fresh (yAc _))
theorem aIW{aA:List (qv×Obj)}{σ:St}{H:Hp}{s:qj}{R:It->Hp->Prop}{E:qx->qj->Prop}{lo hi:Int}{t u v:Tok}{tk:Nat}(I:Inv X aA σ H s)(h1 : -(2^62)<=lo)(h2:lo<2^62)(h3 : -(2^62)<=hi)(h4:hi<2^62)
 (q:R (xS lo (hi-lo).toNat) H):qu (model X.prog X.w) X.A (pyIter (.ref s.heap.objs.size)) (PIE X aA σ tg R) E {s with heap:=s.heap.push {cls:=.type "range",data:=.fields #[.int lo t,.int hi u,.int 1 v] },toks:=tk }:=by
 refine wpAny_pyIter_range (IsRange.new ..) (small_one h1 h2 h3 h4) ?_;have I1:Inv X aA σ H {s with heap:=s.heap.push {cls:=.type "range",data:=.fields #[.int lo t,.int hi u,.int 1 v] },toks:=tk }:=I.kept λ b o e=>hpS _ e
 refine⟨(s.heap.push {cls:=.type "range",data:=.fields #[.int lo t,.int hi u,.int 1 v] }).objs.size,[(s.heap.push {cls:=.type "range",data:=.fields #[.int lo t,.int hi u,.int 1 v] }).objs.size],_,_,H,rfl,
  I1.kept (t':=tk) λ b o e=>hpS _ e,aHK _ lo (hi-lo).toNat,?_,λ b hb=>?_,q⟩
 ·have e1:lo+((0:Nat):Int)*1=lo:=by simp
  have e2:(((hi-lo).toNat:Nat):Int)-((0:Nat):Int)=Builtin.Range.rangeSize lo hi 1:=by rw[rangeSize_one];split<;>omega
  show IsRangeIter _ _ (lo+((0:Nat):Int)*1) ((((hi-lo).toNat:Nat):Int)-((0:Nat):Int)) 1;rw[e1,e2];exact xAe _ rfl
 ·have e:b=(s.heap.push {cls:=.type "range",data:=.fields #[.int lo t,.int hi u,.int 1 v] }).objs.size:=by simpa using hb
  subst e;exact I1.fpOk (yAc _) (I1.hok.fresh (yAc _))
def aFU(ta:TA):TI:=λ σ H R=>ta σ H λ vs H1=>∃ j:Int,vs=[.int j] /\ -(2^62)<=j/\j<2^62/\R (xS 0 j.toNat) H1
theorem aIv{a:qw}{ta:TA}{p pos:Pos}(hg:Gl X "range")(hm:X.mg "range" = qz)(ha:PA X [a] ta)(hs:zv [a] X.env=[(false,eval a X.env)]:=by rfl):PI X tg (.Call (.Name "range" p) [a] [] pos) (aFU ta):=by
 intro aA s σ H R I h;refine Call_ (oY I hg hm boot_range (yCd (aX (ha pos aA s σ H _ I h) λ us s1 hPq17=>?_) hs rfl))
 obtain⟨vs,H1,I1,r1,q1⟩:=hPq17;obtain⟨j,e,q1,q2,q⟩:=q1;subst e;cases r1 with
 | cons r rr =>
   cases rr;obtain⟨t,rfl⟩:=r;exact call_range_1 (aIW I1 (by omega) (by omega) q1 q2 (by simpa using q))
def aPn(wi:TI)(g:TG)(tb:TS):TS:=λ D σ H=>wi σ H λ J H1=>∃ W:Nat->Nat->St->Hp->Prop,(∃ m,W 0 m σ H1)/\∀ i m σ H,W i m σ H ->
 (J.stop i H/\D.nx σ H)\/(J.go i H/\∃ N:St->Hp->Prop,(∀ σ' H',N σ' H'->∃ m',m'<m/\W (i+1) m' σ' H')/\∀ x H',J.yld i H x H'->g x σ H' λ σ2 H2=>tb {D with nx:=N,ct:=N,bk:=D.nx } σ2 H2)
noncomputable def rT(fp:List qv)(h:Heap):List (qv×Obj):=fp.filterMap λ b=>(h.get? b).map λ o=>(b,o)
theorem qM{fp:List qv}{h:Heap}{b:qv}{o:Obj}(hb:b∈fp)(e:h.get? b=qq o):(b,o)∈rT fp h:=List.mem_filterMap.mpr ⟨b,hb,by rw[e];rfl⟩
theorem aH7{fp:List qv}{h:Heap}{p:qv×Obj}(hp:p∈rT fp h):p.1∈fp/\h.get? p.1=qq p.2:=by
 obtain⟨b,hb,e⟩:=List.mem_filterMap.mp hp;cases q:h.get? b with
 | none=>rw[q] at e;cases e
 | some o =>
   rw[q] at e;have e':(b,o)=p:=Option.some.inj e;subst e';exact⟨hb,q⟩
theorem Inv.pinned{aA:List (qv×Obj)}{σ:St}{H:Hp}{s:qj}{fp:List qv}(I:Inv X aA σ H s)(hf:∀ b∈fp,fW X aA H b)(ho:∀ b∈fp,∃ o,s.heap.get? b=qq o/\∀ v,o.data≠.cell v):Inv X (aA++rT fp s.heap) σ H s:=
 I.pins_of λ p hp=>(List.mem_append.mp hp).elim (λ z=>I.pin p (xAl _ z)) λ z=>by
  obtain⟨hb,e⟩:=aH7 z;obtain⟨f0,f1,f2,_⟩:=hf p.1 hb;obtain⟨o,e',d⟩:=ho p.1 hb;rw[e] at e';cases e';exact⟨e,f0,f1,f2,d⟩
theorem Inv.unpinned{aA pl:List (qv×Obj)}{σ:St}{H:Hp}{s:qj}(I:Inv X (aA++pl) σ H s):Inv X aA σ H s:=I.pins_of λ p hp=>I.pin p (xAl _ (yEk _ hp))
theorem aEJ{iter:qw}{body:List zk}{wi:TI}{g:TG}{tb:TS}{pos:Pos}(hp:PassesOwn (model X.prog X.w) X.A X.env X.xe)(hc:X.calm=true)(hi:PI X tg iter wi)(hg:PG X tg g)(hb:bO X body tb)
 (hs:∀ x,jj iter X.env x=pure x:=by intro _;rfl):PS X (.For tg iter body [] pos) (aPn wi g tb):=by
 intro aA s σ H D I h;refine wpAny_For (aX (hi aA s σ H _ I h) λ v s1 h1=>aX h1 λ itv s2 h2=>?_) hs
 obtain⟨it,fp,tn,J,H2,e,I2,T,st2,f2,W,⟨m0,w0⟩,turn⟩:=h2;subst e;have stat:∀ {H':Hp},(∀ b∈fp,H' b=qz)->∀ b∈fp,fW X aA H' b:=λ hn b hb=>⟨hn b hb,(f2 b hb).2⟩
 refine codeAny_forLoop_any (λ n s'=>∃ i σ' H',Inv X aA σ' H' s'/\tn i s'.heap/\(∀ b∈fp,H' b=qz)/\W i n σ' H') ?_ m0 ⟨0,σ,H2,I2,st2,λ b hb=>(f2 b hb).1,w0⟩
 rintro n s3 ⟨i,σ3,H3,I3,st3,fr3,w3⟩;rcases turn i n σ3 H3 w3 with ⟨stop,qn⟩ | ⟨go,N,hN,step⟩
 ·refine vy hp (aX (T.done X rfl rfl rfl hc i aA s3 σ3 H3 X.xe I3 (stat fr3) st3 stop) λ r s4 hPq18=>?_)
  obtain⟨hr,I4⟩:=hPq18;subst hr;exact wpAny_execs_nil ⟨σ3,H3,I4,qn⟩
 ·refine vy hp (aX (T.item X rfl rfl rfl hc i aA s3 σ3 H3 X.xe I3 (stat fr3) st3 go) λ r s4 hPq19=>?_)
  obtain⟨u,hr,h4⟩:=hPq19;subst hr;refine vy hp (aX h4 λ _ s5 hPq20=>?_)
  obtain⟨x,H5,I5,r5,y5,st5,fr5⟩:=hPq20;have I5':=I5.pinned (stat fr5) (T.obj _ _ st5);refine vy hp (aX (hg _ s5 σ3 H5 x u _ I5' r5 (step x H5 y5)) λ _ s6 hPq21=>?_)
  obtain⟨σ6,H6,I6,q6⟩:=hPq21;refine vy hp (aX (hb _ s6 σ6 H6 _ I6 q6) λ f s7 q7=>?_)
  have again:∀ {σ7:St}{H7:Hp},Inv X (aA++rT fp s5.heap) σ7 H7 s7->N σ7 H7->∃ m,m<n/\∃ i σ' H',Inv X aA σ' H' s7/\tn i s7.heap/\(∀ b∈fp,H' b=qz)/\W i m σ' H':=λ {σ7 H7} I7 n7=>by
   obtain⟨m',hm,w7⟩:=hN σ7 H7 n7;refine⟨m',hm,i+1,σ7,H7,I7.unpinned,T.keep _ _ _ st5 λ b hb o e=>(I7.pin (b,o) (xAl _ (xAl _ (qM hb e)))).1,λ b hb=>?_,w7⟩
   obtain⟨o,e,d⟩:=T.obj _ _ st5 b hb;exact(I7.pin (b,o) (xAl _ (xAl _ (qM hb e)))).2.1
  cases f with
  | next=>obtain⟨σ7,H7,I7,n7⟩:=q7;exact again I7 n7
  | cont=>obtain⟨σ7,H7,I7,n7⟩:=q7;exact again I7 n7
  | brk=>obtain⟨σ7,H7,I7,q7⟩:=q7;exact⟨σ7,H7,I7.unpinned,q7⟩
  | ret v=>obtain⟨x7,σ7,H7,I7,r7,q7⟩:=q7;exact⟨x7,σ7,H7,I7.unpinned,r7,q7⟩
end
end L2
namespace L2
open PySem PySem.Spec PyProof.Rows
abbrev R2:=V->V->Hp->VK->Prop
def bX(X:Cx)(f:qx->qx->Sem qx)(r:R2):Prop:=
 ∀ (aA:List (qv×Obj)) (s:qj) (σ:St) (H:Hp) (x y:V) (v u:qx) (Q:VK),Inv X aA σ H s->aV x v->aV y u->r x y H Q ->
  qu (model X.prog X.w) X.A (f v u) (EP X aA σ Q) X.xe s
def cF(X:Cx)(f:qx)(r:List V->Hp->VK->Prop):Prop:=
 ∀ (aA:List (qv×Obj)) (s:qj) (σ:St) (H:Hp) (xs:List V) (us:List qx) (Q:VK),Inv X aA σ H s->aS xs us->r xs H Q ->
  qu (model X.prog X.w) X.A (call f us) (EP X aA σ Q) X.xe s
def aPi(X:Cx)(r:V->Hp->(Bool->Hp->Prop)->Prop):Prop:=
 ∀ (aA:List (qv×Obj)) (s:qj) (σ:St) (H:Hp) (x:V) (v:qx) (Q:Bool->Hp->Prop),Inv X aA σ H s->aV x v->r x H Q ->
  qu (model X.prog X.w) X.A (truthy v) (TP X aA σ Q) X.xe s
def tZ(r:R2)(ta tb:TE):TE:=λ σ H Q=>ta σ H λ x H1=>tb σ H1 λ y H2=>r x y H2 Q
noncomputable def rI(C:Int->Int->Prop)(g:Int->Int->V):R2:=λ x y H Q=>∃ i j,x=.int i/\y=.int j/\C i j/\Q (g i j) H
noncomputable def iX(g:Int->Int->V):R2:=λ x y H Q=>∃ i j,x=.int i/\y=.int j/\Q (g i j) H
section
variable {X : Cx}{a b c : qw}{ta tb tc : TE}{pos : Pos}
theorem aBK(ha:PE X a ta)(hb:PE X b tb){aA:List (qv×Obj)}{s:qj}{σ:St}{H:Hp}{R:V->V->Hp->Prop}(I:Inv X aA σ H s)
 (h:ta σ H λ x H1=>tb σ H1 λ y H2=>R x y H2) {Q:qx->qj->Prop}{f:qx->qx->Sem qx}
 (hf:∀ v u s2 x y H2,Inv X aA σ H2 s2->aV x v->aV y u->R x y H2->qu (model X.prog X.w) X.A (f v u) Q X.xe s2) :
 qu (model X.prog X.w) X.A (eval a X.env) (λ v s₁=>qu (model X.prog X.w) X.A (eval b X.env) (λ u s₂=>qu (model X.prog X.w) X.A (f v u) Q X.xe s₂) X.xe s₁) X.xe s:=by
 refine aX (ha aA s σ H _ I h) λ v s1 hPq22=>?_
 obtain⟨x,H1,I1,r1,q1⟩:=hPq22;refine aX (hb aA s1 σ H1 _ I1 q1) λ u s2 hPq23=>?_
 obtain⟨y,H2,I2,r2,q2⟩:=hPq23;exact hf v u s2 x y H2 I2 r1 r2 q2
theorem aN5{op:vj}{r:R2}(ho:bX X (zo op) r)(ha:PE X a ta)(hb:PE X b tb):PE X (.BinOp a op b pos) (tZ r ta tb):=by
 intro aA s σ H Q I h;exact wpAny_BinOp (aBK ha hb I h λ v u s2 x y H2 I2 rx ry q=>ho aA s2 σ H2 x y v u Q I2 rx ry q)
theorem uC{f:qx->qx->Sem qx}{C:Int->Int->Prop}{g:Int->Int->Int}
 (rule:∀ (i j:Int) (t u:Tok) (s:qj) (Q:qx->qj->Prop) (E:qx->qj->Prop),C i j->Q (.int (g i j) s.toks) {s with toks:=s.toks+1 }->qu (model X.prog X.w) X.A (f (.int i t) (.int j u)) Q E s) :
 bX X f (rI C λ i j=>.int (g i j)):=by
 intro aA s σ H x y v u Q I rx ry h;obtain⟨i,j,rfl,rfl,hc,q⟩:=h;obtain⟨t,rfl⟩:=rx;obtain⟨t',rfl⟩:=ry;exact rule i j t t' s _ _ hc ⟨.int (g i j),H,I.tok _,⟨_,rfl⟩,q⟩
theorem sR{f:qx->qx->Sem qx}{g:Int->Int->Int}
 (rule:∀ (i j:Int) (t u:Tok) (s:qj) (Q:qx->qj->Prop) (E:qx->qj->Prop),Q (.int (g i j) s.toks) {s with toks:=s.toks+1 }->qu (model X.prog X.w) X.A (f (.int i t) (.int j u)) Q E s) :
 bX X f (iX λ i j=>.int (g i j)):=by
 intro aA s σ H x y v u Q I rx ry h;obtain⟨i,j,rfl,rfl,q⟩:=h;obtain⟨t,rfl⟩:=rx;obtain⟨t',rfl⟩:=ry;exact rule i j t t' s _ _ ⟨.int (g i j),H,I.tok _,⟨_,rfl⟩,q⟩
theorem xN{f:qx->qx->Sem qx}{g:Int->Int->Bool}
 (rule:∀ (i j:Int) (t u:Tok) (s:qj) (Q:qx->qj->Prop) (E:qx->qj->Prop),Q (.bool (g i j)) s->qu (model X.prog X.w) X.A (f (.int i t) (.int j u)) Q E s) :
 bX X f (iX λ i j=>.bl (g i j)):=by
 intro aA s σ H x y v u Q I rx ry h;obtain⟨i,j,rfl,rfl,q⟩:=h;obtain⟨t,rfl⟩:=rx;obtain⟨t',rfl⟩:=ry;exact rule i j t t' s _ _ ⟨.bl (g i j),H,I,rfl,q⟩
def aPE(i j:Int):Prop:=0<=j/\j<=1000000/\i.natAbs<2^64
def aGo(i j:Int):Prop:=(-(2^64)<i/\i<2^64)\/(-(2^64)<j/\j<2^64)
theorem aGo.ok{i j:Int}(h:aGo i j):IntMulOk i j:=by
 rcases h with ⟨h1,h2⟩ | ⟨h1,h2⟩
 ·exact .of_left (intBits_le_64 h1 h2)
 ·exact .of_right (intBits_le_64 h1 h2)
theorem aHE(k:Nat):(0:Int)<=2^k:=by
 rw[two_pow_cast];exact Int.natCast_nonneg _
theorem aMc:bX X (zo .Add) (iX λ i j=>.int (i+j)):=sR λ _ _ _ _ _ _ _ q=>add_int q
theorem aMt:bX X (zo .Sub) (iX λ i j=>.int (i-j)):=sR λ _ _ _ _ _ _ _ q=>sub_int q
theorem aK5:bX X (zo .Mod) (rI (λ _ j=>j≠0) λ i j=>.int (i.fmod j)):=uC λ _ _ _ _ _ _ _ hc q=>mod_int' hc q
theorem aMJ:bX X (zo .Pow) (rI aPE λ i j=>.int (i^j.toNat)):=uC λ _ _ _ _ _ _ _ hc q=>pow_int_small hc.1 hc.2.1 hc.2.2 q
theorem aMr:bX X (zo .RShift) (rI (λ _ j=>0<=j) λ i j=>.int (i/2^j.toNat)):=uC λ i j _ _ _ _ _ hc q =>
 rshift_int hc (by rw[Int.fdiv_eq_ediv_of_nonneg i (aHE _)];exact q)
theorem aLQ:bX X (zo .BitAnd) (iX λ i j=>.int (Builtin.bitAnd i j)):=sR λ _ _ _ _ _ _ _ q=>and_int q
theorem aOb:bX X (zo .BitOr) (iX λ i j=>.int (Builtin.bitOr i j)):=sR λ _ _ _ _ _ _ _ q=>or_int q
theorem aL7:bX X (zo .BitXor) (iX λ i j=>.int (Builtin.bitXor i j)):=sR λ _ _ _ _ _ _ _ q=>xor_int q
end
section
variable {X : Cx}{a b c : qw}{ta tb tc : TE}{pos : Pos}
theorem vY{aA:List (qv×Obj)}{σ:St}{H:Hp}{s:qj}{Q:VK}{k k':Bool}(I:Inv X aA σ H s)(q:Q (.bl k) H)(e:k=k'):EP X aA σ Q (.bool k') s:=by
 subst e;exact⟨.bl k,H,I,rfl,q⟩
theorem aOQ:bX X (jz .Lt) (iX λ i j=>.bl (decide (i<j))):=xN λ _ _ _ _ _ _ _ q=>lt_int q
theorem aOT:bX X (jz .LtE) (iX λ i j=>.bl (decide (i<=j))):=xN λ _ _ _ _ _ _ _ q=>le_int q
theorem aO3:bX X (jz .Gt) (iX λ i j=>.bl (decide (j<i))):=xN λ _ _ _ _ _ _ _ q=>gt_int q
theorem aOs:bX X (jz .GtE) (iX λ i j=>.bl (decide (j<=i))):=xN λ _ _ _ _ _ _ _ q=>ge_int q
theorem aLF:bX X (jz .Is) (λ x y H Q=>y=.non/\Q (.bl (decide (x=.non))) H):=by
 intro aA s σ H x y v u Q I rx ry h;obtain⟨rfl,q⟩:=h;cases ry;refine is_none_gen (vY I q ?_);cases x<;>first
  | (cases rx;rfl)
  | (obtain⟨t,rfl⟩:=rx;rfl)
theorem aKm:bX X (jz .IsNot) (λ x y H Q=>y=.non/\Q (.bl (!decide (x=.non))) H):=by
 intro aA s σ H x y v u Q I rx ry h;obtain⟨rfl,q⟩:=h;cases ry;refine isnot_none_gen (vY I q ?_);cases x<;>first
  | (cases rx;rfl)
  | (obtain⟨t,rfl⟩:=rx;rfl)
theorem bX.or{f:qx->qx->Sem qx}{r r':R2}(h:bX X f r)(h':bX X f r'):bX X f (λ x y H Q=>r x y H Q\/r' x y H Q):=by
 intro aA s σ H x y v u Q I rx ry q;rcases q with q | q
 ·exact h aA s σ H x y v u Q I rx ry q
 ·exact h' aA s σ H x y v u Q I rx ry q
theorem aQd(b:qw){op:vk}(h:op≠.In:=by decide)(h2:op≠.NotIn:=by decide):jv op b=false:=by
 have e1:(op==CmpOp.In)=false:=by cases op<;>first | rfl | exact absurd rfl h
 have e2:(op==CmpOp.NotIn)=false:=by cases op<;>first | rfl | exact absurd rfl h2
 cases b<;>simp[jv,e1,e2]
theorem aAO{op:vk}{r:R2}(ho:bX X (jz op) r)(ha:PE X a ta)(hb:PE X b tb)(hm:jv op b=false):PE X (.Compare a [op] [b] pos) (tZ r ta tb):=by
 intro aA s σ H Q I h;exact wpAny_Compare1 (aBK ha hb I h λ v u s2 x y H2 I2 rx ry q=>ho aA s2 σ H2 x y v u Q I2 rx ry q) hm
def aOG(t:TE):TT:=λ σ H Q=>t σ H λ x H'=>∃ k,x=.bl k/\Q k H'
theorem aD8{op:vk}{r:R2}(ho:bX X (jz op) r)(ha:PE X a ta)(hb:PE X b tb)(hm:jv op b=false):PT X (.Compare a [op] [b] pos) (aOG (tZ r ta tb)):=by
 intro aA s σ H Q I h;refine wpAny_isTrue_Compare1 (aX (ha aA s σ H _ I h) λ v s1 ⟨x,H1,I1,r1,q1⟩=>aX (hb aA s1 σ H1 _ I1 q1) λ u s2 ⟨y,H2,I2,r2,q2⟩ =>
  aX (ho aA s2 σ H2 x y v u _ I2 r1 r2 q2) λ c s3 ⟨z,H3,I3,r3,k,e,q3⟩=>?_) hm
 subst e;cases r3;exact ju ⟨H3,I3,q3⟩
def aBN(K:FrG)(x:V)(H:Hp)(k:Bool):Prop:=
 match x with
 | .non=>k=false
 | .bl b=>k=b
 | .int i=>k=(i != 0)
 | .str y=>y.length<=qk/\k=((y.length:Int) != 0)
 | .byt y=>y.size<=qk/\k=((y.size:Int) != 0)
 | .ref p=>(∃ xs,bF K H p xs/\k = !xs.isEmpty)\/(∃ xs,bL K H p xs/\k = !xs.isEmpty)\/∃ aH,H p=qq (.dK aH)/\k = !aH.isEmpty
 | _=>False
theorem aHS{κ:Type}{aH:List (κ×V)}{vs:List (κ×qx)}(r:KV aH vs):(!vs.isEmpty) = !aH.isEmpty:=by
 cases r<;>rfl
theorem aCP{xs:List V}{its:List qx}(r:aS xs its):(!its.toArray.isEmpty) = !xs.isEmpty:=by
 cases r<;>simp
theorem mQ:(qk:Nat)<2^63:=by rw[zx];decide
theorem aNx:aPi X (λ x H Q=>∃ k,aBN X.K x H k/\Q k H):=by
 intro aA s σ H x v Q I rx h;obtain⟨k,e,q⟩:=h;have hl:=mQ;have hs:qk=16777216:=zx;cases x with
 | non =>
   cases rx;have e':k=false:=e;subst e';exact truthy_none ⟨H,I,q⟩
 | bl b =>
   cases rx;have e':k=b:=e;subst e';exact ju ⟨H,I,q⟩
 | int i =>
   obtain⟨t,rfl⟩:=rx;have e':k=(i != 0):=e;subst e';exact PySem.P.truthy_int ⟨H,I,q⟩
 | str y =>
   obtain⟨t,rfl⟩:=rx;obtain⟨hy,e'⟩:y.length<=qk/\k=((y.length:Int) != 0):=e;subst e';exact PySem.P.truthy_str (by omega) ⟨H,I.tok _,q⟩
 | byt y =>
   obtain⟨t,rfl⟩:=rx;obtain⟨hy,e'⟩:y.size<=qk/\k=((y.size:Int) != 0):=e;subst e';exact PySem.W.truthy_bytes (by omega) ⟨H,I.tok _,q⟩
 | ref p =>
   cases rx;have e':(∃ xs,bF X.K H p xs/\k = !xs.isEmpty)\/(∃ xs,bL X.K H p xs/\k = !xs.isEmpty)\/∃ aH,H p=qq (.dK aH)/\k = !aH.isEmpty:=e;rcases e' with ⟨xs,hx,e'⟩ | ⟨xs,hx,e'⟩ | ⟨aH,hx,e'⟩
   ·subst e';obtain⟨its,r,pl,hz⟩:=I.list hx;have bZ:=r.length;exact wpAny_truthy_list pl.isList (by simp only[yAb];omega) ⟨H,I.tok _,by rw[aCP r];exact q⟩
   ·subst e';obtain⟨its,r,pl,hz⟩:=I.tuple hx;have bZ:=r.length;exact truthy_tuple pl (by simp only[yAb];omega) ⟨H,I.tok _,by rw[aCP r];exact q⟩
   ·subst e';obtain⟨hz,hS,vs,r,m⟩:aH.length<=qk/\(p==sysModules)=false/\∃ vs,KV aH vs/\s.heap.DictOf (gF X.prog X.w) p vs:=I.hok p _ hx;have bZ:aH.length=vs.length:=Paired.length r;exact wpAny_truthy_dict hS m (by omega) ⟨H,I.tok _,by rw[aHS r];exact q⟩
 | _=>exact(show False from e).elim
theorem aIP(ha:PE X a ta)(he:∀ dZ,isTrue a X.env dZ=(do let v <- dZ;standAt a.pos;holding [v] (truthy v))) :
 PT X a (λ σ H Q=>ta σ H λ x H'=>∃ k,aBN X.K x H' k/\Q k H'):=by
 intro aA s σ H Q I h;exact isTrue_plain (aX (ha aA s σ H _ I h) λ v s1 ⟨x,H1,I1,r1,q1⟩=>aNx aA s1 σ H1 x v Q I1 r1 q1) (he _)
theorem aHH:bX X (zo .Add) (λ x y H Q=>∃ i j,x=.str i/\y=.str j/\i.length+j.length<=qk/\Q (.str (i++j)) H):=by
 intro aA s σ H x y v u Q I rx ry h;obtain⟨i,j,rfl,rfl,hz,q⟩:=h;obtain⟨t,rfl⟩:=rx;obtain⟨t',rfl⟩:=ry;exact add_str (λ t' tk=>⟨.str (i++j),H,I.tok _,⟨_,rfl⟩,q⟩) hz
theorem eZ{x:V}{us:List qx}(r:aS [x] us):∃ u,us=[u]/\aV x u:=by
 cases r with
 | cons r1 r2=>cases r2;exact⟨_,rfl,r1⟩
theorem pG{x y:V}{us:List qx}(r:aS [x,y] us):∃ u w',us=[u,w']/\aV x u/\aV y w':=by
 cases r with
 | cons r1 r2 =>
   cases r2 with
   | cons r3 r4=>cases r4;exact⟨_,_,rfl,r1,r3⟩
theorem aI8:cF X (.builtin "abs") (λ xs H Q=>∃ i,xs=[.int i]/\Q (.int (if i<0 then -i else i)) H):=by
 intro aA s σ H xs us Q I r h;obtain⟨i,rfl,q⟩:=h;obtain⟨u,rfl,t,rfl⟩:=eZ r;exact call_abs_int λ u tk=>⟨.int (if i<0 then -i else i),H,I.tok _,⟨_,rfl⟩,q⟩
theorem aIy(hc:X.calm=true):cF X (.builtin "max") (λ xs H Q=>∃ i j,xs=[.int i,.int j]/\Q (.int (if j>i then j else i)) H):=by
 intro aA s σ H xs us Q I r h;obtain⟨i,j,rfl,q⟩:=h;obtain⟨u,w',rfl,⟨t,rfl⟩,⟨t',rfl⟩⟩:=pG r;refine max_two_ints (I.ok.hd hc) λ h' tk k=>⟨_,H,I.kept k,?_,q⟩
 by_cases hj:j>i
 ·rw[if_pos hj,if_pos hj];exact⟨_,rfl⟩
 ·rw[if_neg hj,if_neg hj];exact⟨_,rfl⟩
theorem aIg(hc:X.calm=true):cF X (.builtin "min") (λ xs H Q=>∃ i j,xs=[.int i,.int j]/\Q (.int (if j<i then j else i)) H):=by
 intro aA s σ H xs us Q I r h;obtain⟨i,j,rfl,q⟩:=h;obtain⟨u,w',rfl,⟨t,rfl⟩,⟨t',rfl⟩⟩:=pG r;refine min_two_ints (I.ok.hd hc) λ h' tk k=>⟨_,H,I.kept k,?_,q⟩
 by_cases hj:j<i
 ·rw[if_pos hj,if_pos hj];exact⟨_,rfl⟩
 ·rw[if_neg hj,if_neg hj];exact⟨_,rfl⟩
theorem aDc:cF X (.type "int") (λ xs H Q=>(∃ i,xs=[.int i]/\Q (.int i) H)\/∃ k,xs=[.bl k]/\Q (.int (if k then 1 else 0)) H):=by
 intro aA s σ H xs us Q I r h;rcases h with ⟨i,rfl,q⟩ | ⟨k,rfl,q⟩
 ·obtain⟨u,rfl,t,rfl⟩:=eZ r;exact call_int_int ⟨.int i,H,I,⟨_,rfl⟩,q⟩
 ·obtain⟨u,rfl,r1⟩:=eZ r;cases r1;exact call_int_bool ⟨.int (if k then 1 else 0),H,I.tok _,⟨_,rfl⟩,q⟩
end
end L2
namespace L2
open PySem PySem.Spec PyProof.Rows
structure ObjM(h:Heap)(x dx C:qv)(mA:Str->Option qx):Prop where
 obj:h.get? x=qq (yCm C dx)
 ns:h.Ns1 dx mA
 ne:dx≠x
theorem aCY{h:Heap}{dx:qv}{mA:Str->Option qx}(n:h.Ns1 dx mA):∃ od,h.get? dx=qq od/\∀ name,yFo name od=qq (mA name):=by
 obtain⟨o,es,ep,ho,hd,hk,_,hm⟩:=n;refine⟨o,ho,λ name=>?_⟩
 have e:=hm name;unfold nsFind findBy at e;rw[<- yEu] at e;unfold yFo;rw[hd];dsimp only
 split
 ·rename_i y q;rw[q] at e;exact congrArg qq e
 ·rename_i q;rw[q] at e;have a:es.toList.any (·.refKey)=false:=by
   rw[List.any_eq_false];intro y hy;obtain⟨z,t,hkey⟩:=hk y (Array.mem_toList_iff.mp hy);simp[DictEntry.refKey,hkey]
  have a':¬ es.toList.any (·.refKey)=true:=by rw[a];exact yAp
  rw[if_neg a'];exact congrArg qq e
theorem ObjM.look{h:Heap}{x dx C:qv}{mA:Str->Option qx}(I:ObjM h x dx C mA):∃ od,yCb h x (yCm C dx) C (qq od)/\∀ name,yFo name od=qq (mA name):=
 let ⟨od,ho,hl⟩:=aCY I.ns
 ⟨od,⟨I.obj,rfl,rfl,ho⟩,hl⟩
section
variable {prog : qo}{w : zq}{A : zj}{E : qx -> qj -> Prop}{s : qj}{K : FrG}{x dx C f : qv}{mA : Str -> Option qx}{name : Str}{v : qx}
end
theorem sS.some_of{v:V}{o:Option qx}(r:sS (qq v) o):∃ u,o=qq u/\aV v u:=by
 cases o with
 | none=>exact(show False from r).elim
 | some u=>exact⟨u,rfl,r⟩
section
variable {P : qo}{w : zq}{H H' : Hp}{h h' : Heap}{a C dx : qv}{fs fs' : List (Str×V)}
end
structure Cls(K:FrG)(C:qv):Prop where
 pg:PySem.W.plainGet K C Str.empty=true
 hd:PySem.W.hasDictIn K C=true
 po:PySem.W.plainOver K C=true
 sa:yDy K (.ref C) "__setattr__" = qq (qq (.builtin "object.__setattr__"))
theorem Cls.get{K:FrG}{C:qv}(c:Cls K C)(f:Str):PySem.W.plainGet K C f=true:=c.pg
structure Con(K:FrG)(C:qv)(f:Str)(v:V)(u:qx):Prop where
 at_:yDy K (.ref C) f=qq (qq u)
 rel:aV v u
 get:PySem.W.specialIn K u "__get__" = qq qz
 cp:PySem.W.copiedNames.contains f=false
structure Meth(K:FrG)(C:qv)(m:Str)(f:qv):Prop where
 at_:yDy K (.ref C) m=qq (qq (.ref f))
 fn:PySem.W.isFn K (.ref f)=true
 kp:yBq K (.ref f)=true
section
variable {X : Cx}{aA : List (qv×Obj)}{σ : St}{H : Hp}{s : qj}{a C dx : qv}{fs : List (Str×V)}{f : Str}{v : V}{A : zj}{E : qx -> qj -> Prop}
theorem Inv.made(I:Inv X aA σ H s):Inv X aA σ (aT (aT H s.heap.objs.size (.own (s.heap.objs.size+1))) (s.heap.objs.size+1) (.ins C s.heap.objs.size []))
 {s with heap:=(s.heap.push yBt).push (yCm C s.heap.objs.size) }:=by
 have e1:(s.heap.push yBt).get? s.heap.objs.size=qq yBt:=xAe s.heap rfl;have e2:((s.heap.push yBt).push (yCm C s.heap.objs.size)).get? (s.heap.objs.size+1)=qq (yCm C s.heap.objs.size):=by
  have:=xAe (s.heap.push yBt) (o:=yCm C s.heap.objs.size) rfl;rwa [yBr] at this
 have e3:(s.heap.push yBt).Ns s.heap.objs.size (λ _=>qz):=⟨yBt,#[],_,e1,rfl,(λ e he=>absurd he (by simp)),λ _=>rfl⟩
 have I1:=I.laid (a:=s.heap.objs.size) (o:=.own (s.heap.objs.size+1)) (h':=s.heap.push yBt) (t':=s.toks) (λ b u q=>hpS _ q) (yAc _) ⟨_,e1⟩
 refine I1.laid (a:=s.heap.objs.size+1) (o:=.ins C s.heap.objs.size []) (t':=s.toks) (λ b u q=>hpS _ q) (yEa (yBr _ _)) ?_
 have ne:s.heap.objs.size≠s.heap.objs.size+1:=xAh (yDl _);refine⟨by rw[aW ne,bQ],yEo _,ne,e2,λ _=>qz,(Heap.Ns1.of_empty e3).at λ o q=>hpS _ q,λ _=>True.intro,λ y hy=>absurd rfl hy⟩
end
section
variable {X : Cx}{o e value : qw}{f : Str}{pos pos' tpos : Pos}{ta tv : TE}
end
section
variable {X : Cx}{aA : List (qv×Obj)}{σ : St}{H : Hp}{s : qj}{A : zj}{E : qx -> qj -> Prop}{Q : qx -> qj -> Prop}{c : qx}{b : Bool}
inductive TyOf (K:FrG) (H:Hp):V->qx->Prop where
 | non:TyOf K H .non (.type "NoneType")
 | bl (x:Bool):TyOf K H (.bl x) (.type "bool")
 | int (i:Int):TyOf K H (.int i) (.type "int")
 | str (x:Str):TyOf K H (.str x) (.type "str")
 | flt (x:UInt64):TyOf K H (.flt x) (.type "float")
 | lst {a:qv}{xs:List V} (e:H a=qq (.lst xs)):TyOf K H (.ref a) (.type "list")
 | frz {a:qv}{o:Obj}{xs:List V} (e:H a=qq (.frz o (.lst xs))):TyOf K H (.ref a) (.type "list")
 | tup {a:qv}{xs:List V} (e:H a=qq (.tup xs)):TyOf K H (.ref a) (.type "tuple")
 | dK {a:qv}{aH:List (eP×V)} (e:H a=qq (.dK aH)):TyOf K H (.ref a) (.type "dict")
 | dT {a:qv}{aH:List (List eP×V)} (e:H a=qq (.dT aH)):TyOf K H (.ref a) (.type "dict")
 | ins {a C dx:qv}{fs:List (Str×V)} (e:H a=qq (.ins C dx fs)) (cl:Cls K C) (ha:yDy K (.ref C) "__class__" = qq (qq (.builtin "object.__class__")))
    (hn:PySem.W.specialIn K (.builtin "object.__class__") "__get__" = qq (qq (.builtin "getset_descriptor.__get__"))) (htk:PySem.W.takesIn K (.builtin "object.__class__")=qq true)
    (hm:PySem.W.mroIn K C (.type "object")=qq true):TyOf K H (.ref a) (.ref C)
end
end L2
namespace L2
open PySem PySem.Spec PyProof.Rows
structure Room(k:Nat)(A:zj):Prop where
 hd:A.handled=qz
 dp:A.depth+3*k+5<recursionLimit
 un:A.units+16*k+200<cLine
theorem Room.mono{j k:Nat}{A:zj}(r:Room k A)(h:j<=k):Room j A:=⟨r.hd,by have:=r.dp;omega,by have:=r.un;omega⟩
theorem Room.deeper{k:Nat}{A:zj}(r:Room (k+1) A)(env:Env):Room k (A.deeper env):=
 ⟨r.hd,by have:=r.dp;show A.depth+1+3*k+5<_;omega,by have:=r.un;show A.units+3+16*k+200<_;omega⟩
theorem Room.in1{k:Nat}{A:zj}(r:Room (k+1) A):Room k A.in1:=
 ⟨r.hd,by have:=r.dp;show A.depth+3*k+5<_;omega,by have:=r.un;show A.units+1+16*k+200<_;omega⟩
theorem aHM{A:zj}{C:qv}{us:List qx}{kw:List (Str×qx)}:(A.under (.builtin "type.__call__" ⟨.ref C::us,kw⟩)).depth=A.depth+1:=by
 first | rfl | simp[Around.under,Code.weight,Code.isCreation,Code.isGuard,Code.isCaller,Code.frames,Code.isFrame,guardIds]
theorem aHP{A:zj}{C:qv}{us:List qx}{kw:List (Str×qx)}:(A.under (.builtin "type.__call__" ⟨.ref C::us,kw⟩)).units=A.units+1:=by
 first | rfl | simp[Around.under,Code.cUnits,Code.frames,Code.isFrame]
theorem Room.make{k:Nat}{A:zj}(r:Room (k+1) A)(C:qv)(us:List qx)(kw:List (Str×qx)):Room k (A.under (.builtin "type.__call__" ⟨.ref C::us,kw⟩)):=
 ⟨r.hd,by have:=r.dp;rw[aHM];omega,by have:=r.un;rw[aHP];omega⟩
theorem Room.depth{k:Nat}{A:zj}(r:Room k A):A.depth<recursionLimit:=by have:=r.dp;omega
theorem Room.units{k:Nat}{A:zj}(r:Room k A):A.units+64<cLine:=by have:=r.un;omega
def aGk:TA:=λ _ H Q=>Q [] H
def aOD(ta:TE)(tr:TA):TA:=λ σ H Q=>ta σ H λ x H1=>tr σ H1 λ xs H2=>Q (x::xs) H2
section
variable {X : Cx}{e : qw}{es : List qw}{te : TE}{t : TA}{pos : Pos}
theorem oV:PA X [] aGk:=λ _ _ _ _ H Q I h=>Calls.spliced_nil ⟨[],H,I,.nil,h⟩
theorem jR(ha:PE X e te)(hr:PA X es t)(hs:zv (e::es) X.env=(false,eval e X.env)::zv es X.env:=by rfl):PA X (e::es) (aOD te t):=by
 intro pos aA s σ H Q I h;rw[hs];show qu _ _ (spliced ((false,eval e X.env)::backTo pos (zv es X.env))) _ _ s;refine Calls.spliced_cons (aX (ha aA s σ H _ I h) λ u s1 hPq24=>?_)
 obtain⟨x,H1,I1,r1,q1⟩:=hPq24;exact aX (hr pos aA s1 σ H1 _ I1 q1) λ us s2 ⟨xs,H2,I2,r2,q2⟩=>⟨x::xs,H2,I2,.cons r1 r2,q2⟩
def aPS(t:TA):TE:=λ σ H Q=>t σ H λ xs H1=>xs.length<=qk/\∀ p,H1 p=qz->Q (.ref p) (aT H1 p (.tup xs))
def aPk(t:TA):TE:=λ σ H Q=>t σ H λ xs H1=>xs.length<=qk/\∀ p,H1 p=qz->Q (.ref p) (aT H1 p (.lst xs))
theorem aA2{x1}(h:PA X es t):PE X (.Tuple es x1 pos) (aPS t):=by
 intro aA s σ H Q I hq;refine wpAny_Tuple_spliced (aX (h pos aA s σ H _ I hq) λ us s1 ⟨xs,H1,I1,r,z,q⟩=>⟨by rw[<- r.length];exact z,?_⟩)
 have hf:H1 s1.heap.objs.size=qz:=I1.hok.fresh (yAc _);refine⟨.ref s1.heap.objs.size,aT H1 s1.heap.objs.size (.tup xs),I1.laid (t':=s1.toks) (λ b u e=>hpS _ e) (yAc _) ?_,rfl,q _ hf⟩
 exact⟨z,us,r,⟨_,xAe _ rfl,rfl,_,rfl⟩⟩
theorem aNq(h:PA X es t):PE X (.List es pos) (aPk t):=by
 intro aA s σ H Q I hq;refine wpAny_List_spliced (aX (h pos aA s σ H _ I hq) λ us s1 ⟨xs,H1,I1,r,z,q⟩=>⟨by rw[<- r.length];exact z,?_⟩)
 have hf:H1 s1.heap.objs.size=qz:=I1.hok.fresh (yAc _);refine⟨.ref s1.heap.objs.size,aT H1 s1.heap.objs.size (.lst xs),I1.laid (t':=s1.toks) (λ b u e=>hpS _ e) (yAc _) ?_,rfl,q _ hf⟩
 exact⟨z,us,0,r,xAe _ rfl⟩
end
abbrev Sp:=List V->Hp->VK->XK->Prop
abbrev hZ:=List Env->Hp->qj->XK->qx->qj->Prop
structure Env0(P:qo)(w:zq)(K:FrG)(mg:Str->Option qx)(base:Heap)(A:zj)(outer:List Env)(s:qj)(H:Hp):Prop where
 frames:A.frames=qq outer
 mod:Mod K mg base
 bs:∀ b o,base.get? b=qq o->s.heap.get? b=qq o/\H b=qz
 bsz:base.objs.size<=s.heap.objs.size
 funs:s.heap.FunFrames base outer
 frf:∀ b∈dB outer,H b=qz
 hok:cL P w H s.heap
 bare:AllBare s.gens
def CE(outer:List Env)(P:qo)(w:zq)(H:Hp)(s:qj)(Q:VK)(u:qx)(s':qj):Prop:=
 ∃ v H',s'.os=s.os/\AllBare s'.gens/\Un (dB outer) [] H H' s.heap s'.heap/\cL P w H' s'.heap/\aV v u/\Q v H'
def CR(CX:hZ)(outer:List Env)(P:qo)(w:zq)(H:Hp)(s:qj)(Q:VK)(E:XK)(r:Result)(s':qj):Prop:=
 match r with
 | .ok (.ret u)=>CE outer P w H s Q u s'
 | .ok _=>False
 | .error e=>CX outer H s E e s'
structure FnOk(P:qo)(w:zq)(K:FrG)(mg:Str->Option qx)(base:Heap)(CX:hZ)(k:Nat)(f:qv)(fd:xu)(ps:List Str)(sp:Sp):Prop where
 len:∀ vs H Q E,sp vs H Q E->vs.length=ps.length
 run:∀ (A:zj) (outer:List Env) (s:qj) (H:Hp) (args:Args) (us:List qx) (vs:List V) (Q:VK) (E:XK),Room k A->Env0 P w K mg base A outer s H->BindsTo s fd args (ps.zip us)->aS vs us->sp vs H Q E ->
  wq (model P w) A (.call (.ref f) args) (CR CX outer P w H s Q E) s
theorem FnOk.mono{P:qo}{w:zq}{K:FrG}{mg:Str->Option qx}{base:Heap}{CX:hZ}{j k:Nat}{f:qv}{fd:xu}{ps:List Str}{sp:Sp}(F:FnOk P w K mg base CX j f fd ps sp)(h:j<=k) :
 FnOk P w K mg base CX k f fd ps sp:=⟨F.len,λ A outer s H args us vs Q E hr=>F.run A outer s H args us vs Q E (hr.mono h)⟩
theorem Env0.make{P:qo}{w:zq}{K:FrG}{mg:Str->Option qx}{base:Heap}{A:zj}{outer:List Env}{s:qj}{H:Hp}(e:Env0 P w K mg base A outer s H)(C:qv)(us:List qx)(kw:List (Str×qx)) :
 Env0 P w K mg base (A.under (.builtin "type.__call__" ⟨.ref C::us,kw⟩)) outer s H:=⟨by first | exact e.frames | (simpa [Around.under,Code.envs,Code.isFrame,pushEnvs] using e.frames),e.mod,e.bs,e.bsz,e.funs,e.frf,e.hok,e.bare⟩
theorem Env0.in1{P:qo}{w:zq}{K:FrG}{mg:Str->Option qx}{base:Heap}{A:zj}{outer:List Env}{s:qj}{H:Hp}(e:Env0 P w K mg base A outer s H) :
 Env0 P w K mg base A.in1 outer s H:=⟨e.frames,e.mod,e.bs,e.bsz,e.funs,e.frf,e.hok,e.bare⟩
section
variable {X : Cx}{aA : List (qv×Obj)}{σ : St}{H : Hp}{s s' : qj}
theorem Inv.env0(I:Inv X aA σ H s):Env0 X.prog X.w X.K X.mg X.base X.A X.stack s H:=
 ⟨I.ok.frames,I.ok.mod,I.bs,xAg I.ok.bsz I.sz,I.stack,I.stkFree,I.hok,I.bare⟩
theorem Inv.after{Q:VK}{u:qx}(I:Inv X aA σ H s)(h:CE X.stack X.prog X.w H s Q u s'):EP X aA σ Q u s':=by
 obtain⟨v,H',os,bare,un,hok,r,q⟩:=h;obtain⟨hh,g,d,t,os'⟩:=s';obtain rfl:os'=s.os:=os;exact⟨v,H',I.call (h':=hh) (g':=g) (d':=d) (t':=t) (ch:=[]) un hok bare (λ b z=>absurd z (by simp)),r,q⟩
end
def wM(sp:Sp)(dvs:List V)(E:XK)(t:TA):TE:=λ σ H Q=>t σ H λ vs H1=>sp (vs++dvs) H1 Q E
def dD(K:FrG)(fd:xu)(ps:List Str)(ds:List qx):Prop:=
 ∀ (s:qj) (us:List qx),K.In s.heap->(us++ds).length=ps.length->BindsTo s fd ⟨us,[]⟩ (ps.zip (us++ds))
theorem dD.all{K:FrG}{fd:xu}{ps:List Str}(h:∀ us:List qx,us.length=ps.length->bindArgs fd ⟨us,[]⟩=pure (ps.zip us)):dD K fd ps []:=λ s us _ hl=>by
 rw[yAs] at hl ⊢;exact .of_eq (h us hl)
def vV(CX:hZ)(X:Cx)(E:XK):Prop:=∀ (aA:List (qv×Obj)) (σ:St) (H:Hp) (s:qj) (e:qx) (s':qj),Inv X aA σ H s->CX X.stack H s E e s'->X.xe e s'
section
variable {X : Cx}{CX : hZ}{k : Nat}{f C : qv}{fd : xu}{ps : List Str}{sp : Sp}{dvs : List V}{ds : List qx}{E : XK}{x m : Str}{p pos apos : Pos}{e o : qw}{es : List qw}{ta : TE}{t : TA}
theorem aE3{aA:List (qv×Obj)}{σ:St}{H:Hp}{s:qj}{Q:VK}{us:List qx}{vs:List V}(F:FnOk X.prog X.w X.K X.mg X.base CX k f fd ps sp)(hr:Room k X.A)(hb:dD X.K fd ps ds)(hd:aS dvs ds)(hx:vV CX X E)
 (I:Inv X aA σ H s) (r:aS vs us) (h:sp (vs++dvs) H Q E):qu (model X.prog X.w) X.A (call (.ref f) us) (EP X aA σ Q) X.xe s:=by
 have r2:aS (vs++dvs) (us++ds):=r.append hd;have hl:(us++ds).length=ps.length:=by rw[<- r2.length];exact F.len _ _ _ _ h
 refine wpAny_call (codeAny_mono (F.run X.A X.stack s H ⟨us,[]⟩ (us++ds) (vs++dvs) Q E hr I.env0 (hb s us I.kIn hl) r2 h) λ r s' hq=>?_)
 cases r with
 | error e=>exact hx aA σ H s e s' I hq
 | ok fl =>
   cases fl with
   | ret u=>exact I.after hq
   | next=>exact False.elim hq
   | brk=>exact False.elim hq
   | cont=>exact False.elim hq
theorem aKn(F:FnOk X.prog X.w X.K X.mg X.base CX k f fd ps sp)(hr:Room k X.A)(hg:Gl X x)(hm:X.mg x=qq (.ref f))(hk:yBq X.K (.ref f)=true)(hb:dD X.K fd ps ds)(hd:aS dvs ds)(hx:vV CX X E)
 (ha:PA X (e::es) t) (hdb:(x==("__debug__" : Str))=false:=by decide) (he:zv (e::es) X.env=(false,eval e X.env)::zv es X.env:=by rfl) (hpl:(backTo pos (zv es X.env)).any (·.1)=false:=by rfl) :
 PE X (.Call (.Name x p) (e::es) [] pos) (wM sp dvs E t):=by
 intro aA s σ H Q I h;refine xy (kO I hg hm ?_ hdb);refine yDp (h₀:=X.base) I.ok.mod.kin hk (aX (ha pos aA s σ H _ I h) λ us s1 ⟨vs,H1,I1,r,q⟩=>⟨I1.kIn,?_⟩) he hpl
 exact aE3 F hr hb hd hx I1 r q
theorem aI5(F:FnOk X.prog X.w X.K X.mg X.base CX k f fd ps sp)(hr:Room k X.A)(hg:Gl X x)(hm:X.mg x=qq (.ref f))(hk:yBq X.K (.ref f)=true)(hb:dD X.K fd ps ds)(hd:aS dvs ds)(hx:vV CX X E)
 (hdb:(x==("__debug__" : Str))=false:=by decide):PE X (.Call (.Name x p) [] [] pos) (wM sp dvs E aGk):=by
 intro aA s σ H Q I h;refine xy (kO I hg hm ?_ hdb);exact PySem.W.callWith_K0 I.kIn hk (aE3 (us:=[]) F hr hb hd hx I .nil h)
structure Mk(K:FrG)(C f:qv):Prop where
 makes:PySem.W.makesIn K C=true
 init:yDy K (.ref C) "__init__" = qq (qq (.ref f))
 fn:PySem.W.isFn K (.ref f)=true
 kp:yBq K (.ref C)=true
end
section
variable {X : Cx}{CX : hZ}{k : Nat}{f C : qv}{fd : xu}{ps ks : List Str}{sp : Sp}{E : XK}{x m : Str}{p pos apos kpos : Pos}{e o : qw}{es : List qw}{kws : List Keyword}{te ta : TE}{t tk : TA}{nm : Option Str}
structure KBinds(K:FrG)(fd:xu)(ps ks:List Str)(g:List qx->List qx->List qx)(gV:List V->List V->List V):Prop where
 to:∀ (s:qj) (us ws:List qx),K.In s.heap->(g us ws).length=ps.length->BindsTo s fd ⟨us,ks.zip ws⟩ (ps.zip (g us ws))
 rel:∀ {vs:List V}{us:List qx}{zs:List V}{ws:List qx},aS vs us->aS zs ws->aS (gV vs zs) (g us ws)
variable {g : List qx -> List qx -> List qx}{gV : List V -> List V -> List V}
end
structure FnScope(N P:List Str)(sc:zy):Prop where
 kind:sc.kind=.function
 co:sc.isCoroutine=false
 gen:sc.isGenerator=false
 nd:N.Nodup
 pre:N.take P.length=P
 par:∀ x∈P,sc.names.lookup x=qq .local\/sc.names.lookup x=qq .cell
 nofree:∀ y∈sc.names,y.2≠.free
theorem aDg{kindOf:Str->Option vx}{x:Str}:∀ {binds:List (Str×qx)}{m:Str->Option qx},(∀ v,(x,v) ∉ binds)->bindL kindOf binds m x=m x
 | [],_,_=>rfl
 | (n,v)::r,m,h=>by
   unfold bindL;rw[aDg λ w hw=>h w (xAf _ hw)]
   split
   ·have:x≠n:=by rintro rfl;exact h v xAd
    simp[this]
   ·rfl
theorem aDi{kindOf:Str->Option vx}{x:Str}:∀ {binds:List (Str×qx)}{m:Str->Option qx},(∀ v,(x,v) ∉ binds)->bindC kindOf binds m x=m x
 | [],_,_=>rfl
 | (n,v)::r,m,h=>by
   unfold bindC;rw[aDi λ w hw=>h w (xAf _ hw)]
   split
   ·rfl
   ·have:x≠n:=by rintro rfl;exact h v xAd
    simp[this]
theorem aC3{kindOf:Str->Option vx}{x:Str}{v:qx}:∀ {P:List Str}{vs:List qx}{i:Nat}{m:Str->Option qx},P.Nodup->P[i]? = qq x->vs[i]? = qq v->kindOf x=qq .local ->
 bindL kindOf (P.zip vs) m x=qq v
 | [],_,_,_,_,h,_,_=>by simp at h
 | _::_,[],_,_,_,_,h,_=>by simp at h
 | p::P,w::vs,0,m,nd,h1,h2,hk=>by
   simp at h1 h2;subst h1;subst h2;show bindL kindOf ((p,w)::P.zip vs) m p=_;unfold bindL;rw[aDg λ v hv=>(List.nodup_cons.mp nd).1 (List.of_mem_zip hv).1,if_pos hk]
   simp
 | p::P,w::vs,i+1,m,nd,h1,h2,hk=>by
   show bindL kindOf ((p,w)::P.zip vs) m x=_;unfold bindL;exact aC3 (i:=i) (List.nodup_cons.mp nd).2 (by simpa using h1) (by simpa using h2) hk
theorem aCV{kindOf:Str->Option vx}{x:Str}{v:qx}:∀ {P:List Str}{vs:List qx}{i:Nat}{m:Str->Option qx},P.Nodup->P[i]? = qq x->vs[i]? = qq v->kindOf x≠qq .local ->
 bindC kindOf (P.zip vs) m x=qq v
 | [],_,_,_,_,h,_,_=>by simp at h
 | _::_,[],_,_,_,_,h,_=>by simp at h
 | p::P,w::vs,0,m,nd,h1,h2,hk=>by
   simp at h1 h2;subst h1;subst h2;show bindC kindOf ((p,w)::P.zip vs) m p=_;unfold bindC;rw[aDi λ v hv=>(List.nodup_cons.mp nd).1 (List.of_mem_zip hv).1,if_neg hk]
   simp
 | p::P,w::vs,i+1,m,nd,h1,h2,hk=>by
   show bindC kindOf ((p,w)::P.zip vs) m x=_;unfold bindC;exact aCV (i:=i) (List.nodup_cons.mp nd).2 (by simpa using h1) (by simpa using h2) hk
noncomputable def start(N:List Str)(vs:List V):St:=vs.map qq++yAf (N.length-vs.length) qz
noncomputable def hB(CX:hZ)(P:qo)(w:zq)(K:FrG)(mg:Str->Option qx)(base:Heap)(N:List Str)(bE:Str)(scope:zy)(f:qv)(cd:qx)(A:zj)(outer:List Env)(s:qj)(H:Hp)(E:XK):Cx where
 prog:=P
 w:=w
 K:=K
 mg:=mg
 base:=base
 A:=A.deeper (envOfC bE scope s.heap.objs.size f cd)
 N:=N
 s₀:=s
 H₀:=H
 env:=envOfC bE scope s.heap.objs.size f cd
 outer:=outer
 stack:=envOfC bE scope s.heap.objs.size f cd::outer
 ex:=[]
 calm:=true
 fn:=λ _=>true
 pn:=[]
 xe:=λ e s'=>qu (model P w) (A.deeper (envOfC bE scope s.heap.objs.size f cd)) (leaving (envOfC bE scope s.heap.objs.size f cd) e) (λ _ s''=>CX outer H s E e s'') (λ e' s''=>CX outer H s E e' s'') s'
theorem aDF{sc:zy}{n:Nat}{x:Str}(h:sc.names.lookup x=qq .cell):∃ c,(cellsFrom n sc.names []).lookup x=qq c:=by
 have q:=PySem.W.cellsFrom_some sc.names n [] (.inl h);exact Option.isSome_iff_exists.mp q
theorem aIA{CX:hZ}{P:qo}{w:zq}{K:FrG}{mg:Str->Option qx}{base:Heap}{N ps:List Str}{bE:Str}{scope:zy}{f:qv}{cd:qx}{A:zj}{outer:List Env}{s s1:qj}{H:Hp}{E:XK}{us:List qx}{vs:List V}
 (S:FnScope N ps scope) (hd:A.handled=qz) (e0:Env0 P w K mg base A outer s H) (hl:vs.length=ps.length) (r:aS vs us)
 (x:InCallC s s.heap.objs.size (bindL (envOfC bE scope s.heap.objs.size f cd).kindOf (ps.zip us) λ _=>qz) (cellsFrom (s.heap.objs.size+1) scope.names []) (bindC (envOfC bE scope s.heap.objs.size f cd).kindOf (ps.zip us) λ _=>qz) s1) :
 Inv (hB CX P w K mg base N bE scope f cd A outer s H E) [] (start N vs) H s1:=by
 have hpl:ps.length<=N.length:=by have:=congrArg List.length S.pre;rw[yBs] at this;omega
 obtain⟨h1,tk,rfl,hk⟩:=x.done;have noA:∀ b:qv,b ∉ (hB CX P w K mg base N bE scope f cd A outer s H E).ex:=λ b z=>absurd (show b∈([]:List qv) from z) (by simp)
 refine⟨⟨e0.mod,S.kind,rfl,rfl,yAc _,λ y z c h1 h2=>?_,λ y hy=>?_,λ y c _ h=>?_,λ _=>hd,Around.frames_deeper e0.frames,.inr ⟨rfl,rfl⟩,λ b z=>absurd z (noA b),e0.bs,e0.bsz,λ b _ _=>noA b,λ b z=>absurd z (noA b),e0.funs,e0.frf⟩,
  rfl,e0.bare,Un.kept hk,⟨_,x.toInCall.ns,λ i y v h1 h2 h3=>?_⟩,λ y c h=>⟨_,x.cell y c h⟩,e0.hok.fresh (yAc _),λ y c h=>?_,λ p hp=>absurd (show p∈([]:List (qv×Obj)) from hp) (by simp),e0.hok.kept hk,?_⟩
 ·exact name_of_addr x.apart (PySem.mem_of_lookup h1) (PySem.mem_of_lookup h2)
 ·have hy:scope.names.lookup y=qq .cell\/scope.names.lookup y=qq .free:=hy;rcases hy with hy | hy
  ·exact aDF hy
  ·exact absurd rfl (S.nofree _ (PySem.mem_of_lookup hy))
 ·exact yDz (x.above y c (PySem.mem_of_lookup h))
 ·have hi:i<vs.length:=by
   unfold start at h2
   by_cases hi:i<vs.length
   ·exact hi
   ·rw[yAe (by simpa using hi)] at h2
    rw[List.getElem?_replicate] at h2
    split at h2<;>cases h2
  have ha:vs[i]? = qq v:=by
   unfold start at h2;rw[xAj (by simpa using hi),xAb] at h2
   cases e:vs[i]? with
   | none=>rw[e] at h2;cases h2
   | some a=>rw[e] at h2;cases h2;rfl
  obtain⟨u,hu,rv⟩:=r.get ha;have hp:ps[i]? = qq y:=by
   rw[<- S.pre,List.getElem?_take_of_lt (by omega)];exact h1
  have ndP:ps.Nodup:=by rw[<- S.pre];exact S.nd.sublist (List.take_sublist _ _)
  refine⟨u,rv,?_⟩;rcases S.par y (xAi hp) with k | k
  ·exact .inl ⟨k,aC3 ndP hp hu k⟩
  ·obtain⟨c,e⟩:=aDF (n:=s.heap.objs.size+1) k;refine .inr ⟨.inl k,c,e,?_⟩;have q:=x.cell y c e;rw[aCV ndP hp hu (by show scope.names.lookup y≠_;rw[k];decide)] at q
   exact q
 ·exact e0.hok.fresh (yDz (x.above y c (PySem.mem_of_lookup h)))
 ·unfold start;show _=N.length;rw[xAk,yAg,yEb];omega
theorem aFP{CX:hZ}{P:qo}{w:zq}{K:FrG}{mg:Str->Option qx}{base:Heap}{k:Nat}{f:qv}{name bE:Str}{params:Arguments}{body:List zk}{scope:zy}{dV kV doc pm cdv ct oc:qx}{an od:Option qv}
 {osl:Array (Option qx)}{N ps:List Str}{sp:Sp} (lk:K.lookup f=qq ⟨oc,od,.func (yBv name bE params body scope dV kV doc pm an cdv ct),osl⟩) (hcd:yDi K cdv bE=true) (S:FnScope N ps scope)
 (len:∀ vs H Q E,sp vs H Q E->vs.length=ps.length)
 (hbody:∀ (A:zj) (outer:List Env) (s:qj) (H:Hp) (vs:List V) (Q:VK) (E:XK),Room k (A.deeper (envOfC bE scope s.heap.objs.size f cdv))->sp vs H Q E ->
   ∃ t,bO (hB CX P w K mg base N bE scope f cdv A outer s H E) body t/\t {nx:=λ _ H'=>Q .non H',rt:=Q } (start N vs) H) :
 FnOk P w K mg base CX (k+1) f (yBv name bE params body scope dV kV doc pm an cdv ct) ps sp:=by
 refine⟨len,λ A outer s H args us vs Q E hr e0 hb r hsp=>?_⟩
 have hl:=len _ _ _ _ hsp;have KX:K.In s.heap:=e0.mod.kin.keeps λ b o e=>(e0.bs b o e).1
 have lim:s.heap.NoLimit:=e0.mod.nolimit.keeps λ b o e=>(e0.bs b o e).1
 have hkind:∀ y∈ps.zip us,scope.names.lookup y.1=qq .local\/(scope.names.lookup y.1=qq .cell/\((cellsFrom (s.heap.objs.size+1) scope.names []).lookup y.1).isSome=true):=λ aK hy=>by
  obtain⟨n,v⟩:=aK;rcases S.par n (List.of_mem_zip hy).1 with q | q
  ·exact .inl q
  ·exact .inr ⟨q,PySem.W.cellsFrom_some _ _ _ (.inl q)⟩
 refine codeAny_call_function hr.depth (KX _ _ lk) rfl S.co S.gen rfl (PySem.W.codeRec_of KX hcd) (hb _ _ _ _ ?_);refine wpAny_newFunctionEnv_cells S.kind hkind λ env he s1 x=>?_
 subst he;refine⟨lim.keeps x.toInCall.keep,codeAny_func ?_⟩;obtain⟨t,ht,hq⟩:=hbody A outer s H vs Q E (hr.deeper _) hsp;have I:Inv (hB CX P w K mg base N bE scope f cdv A outer s H E) [] (start N vs) H s1:=aIA S hr.hd e0 hl r x;refine wpAny_mono (ht [] s1 (start N vs) H _ I hq) (λ fl s' hs=>?_) λ e s' hs=>hs
 have bB:∀ {σ':St}{H':Hp}{v:V}{u:qx},Inv (hB CX P w K mg base N bE scope f cdv A outer s H E) [] σ' H' s'->aV v u->Q v H'->CE outer P w H s Q u s':=
  λ {σ' H' v u} J rv q=>⟨v,H',J.os,J.bare,J.base,J.hok,rv,q⟩
 cases fl with
 | ret u =>
   obtain⟨v,σ',H',J,rv,q⟩:=hs;exact bB J rv q
 | next =>
   obtain⟨σ',H',J,q⟩:=hs;exact bB (v:=V.non) (u:=Value.none) J rfl q
 | brk =>
   obtain⟨_,_,_,q⟩:=hs;exact False.elim q
 | cont =>
   obtain⟨_,_,_,q⟩:=hs;exact False.elim q
end L2
namespace L2
open PySem PySem.Spec PyProof.Rows
section
variable {X : Cx}{x : Str}{p pos : Pos}{e : qw}{es : List qw}{t : TA}{id T : String}{r : List V -> Hp -> VK -> Prop}
def uD(r:List V->Hp->VK->Prop)(t:TA):TE:=λ σ H Q=>t σ H λ vs H1=>r vs H1 Q
theorem jQ(hc:cF X (.builtin id) r)(hg:Gl X x)(hm:X.mg x=qz)(hv:zu x=qq (.builtin id))(ha:PA X (e::es) t)(hn:x ≠ "__name__":=by decide)(hdb:(x==("__debug__" : Str))=false:=by decide)
 (he:zv (e::es) X.env=(false,eval e X.env)::zv es X.env:=by rfl) (hpl:(backTo pos (zv es X.env)).any (·.1)=false:=by rfl):PE X (.Call (.Name x p) (e::es) [] pos) (uD r t):=by
 intro aA s σ H Q I h;refine xy (oY I hg hm hv ?_ hn hdb);exact PyProof.Rows.callWith_builtin1 (aX (ha pos aA s σ H _ I h) λ us s1 ⟨vs,H1,I1,r1,q1⟩=>hc aA s1 σ H1 vs us Q I1 r1 q1) he hpl
theorem qP(hc:cF X (.type T) r)(hg:Gl X x)(hm:X.mg x=qz)(hv:zu x=qq (.type T))(ha:PA X (e::es) t)(hn:x ≠ "__name__":=by decide)(hdb:(x==("__debug__" : Str))=false:=by decide)
 (he:zv (e::es) X.env=(false,eval e X.env)::zv es X.env:=by rfl) (hpl:(backTo pos (zv es X.env)).any (·.1)=false:=by rfl):PE X (.Call (.Name x p) (e::es) [] pos) (uD r t):=by
 intro aA s σ H Q I h;refine xy (oY I hg hm hv ?_ hn hdb);exact yCd (aX (ha pos aA s σ H _ I h) λ us s1 ⟨vs,H1,I1,r1,q1⟩=>hc aA s1 σ H1 vs us Q I1 r1 q1) he hpl
end
end L2
namespace HT
open PySem PyProof.Rows
section
open PySem.SeqAt
open PySem.AutoSeq1 (wpAny_loadPart')
open PySem.MeetsSeq PySem.MeetsSeq2 PySem.MeetsSeq3
end
section
variable {prog : qo}{w : zq}{A : zj}{E : qx -> qj -> Prop}{s : qj}
theorem cat_tup{t b:qv}{vs ws:List qx}{Q:qx->qj->Prop}(ht:IsTup s.heap t vs.toArray)(hb:IsTup s.heap b ws.toArray)(hv:vs≠[])
 (h1:ws=[]->Q (.ref t) s) (h2:ws≠[]->Q (.ref s.heap.objs.size) {s with heap:=s.heap.push {cls:=.type "tuple",data:=.seq (vs++ws).toArray } })
 (hsz:vs.length+ws.length<=qk):qu (model prog w) A (zo .Add (.ref t) (.ref b)) Q E s:=by
 obtain⟨⟨cls,dd,data,sl⟩,ho,hc,n,hd⟩:=id ht;obtain⟨⟨cls2,dd2,data2,sl2⟩,ho2,hc2,n2,hd2⟩:=id hb;simp only at hc hd hc2 hd2;subst hc hd hc2 hd2;have e:vs.toArray++ws.toArray=(vs++ws).toArray:=by simp
 by_cases hw:ws=[]
 ·exact concat_meets ⟨_,ho,rfl⟩ ⟨_,ho2,rfl⟩ noFill_tuple_add seq_tuple_add yDv yDq (yDm _ _)
   (tuple_addW1 t b vs.toArray ws.toArray n n2 dd dd2 sl sl2 (by simpa using hv) (by simp[hw])) ⟨ho,ho2,h1 hw⟩
 ·refine concat_meets ⟨_,ho,rfl⟩ ⟨_,ho2,rfl⟩ noFill_tuple_add seq_tuple_add yDv yDq (yDm _ _)
   (tuple_addW2 t b vs.toArray ws.toArray n n2 dd dd2 sl sl2 (by simpa using hv) (by simpa using hw) (by rw[yAb,yAb];exact hsz)) ⟨ho,ho2,?_⟩
  rw[e];exact h2 hw
noncomputable def sIx(n d:Nat):Option Int->Nat
 | none=>d
 | some v=>if v<0 then (v+(n:Int)).toNat else min v.toNat n
theorem sIx_none(n d:Nat):sIx n d qz=d:=rfl
theorem sIx_nat(n d k:Nat):sIx n d (qq (k:Int))=min k n:=by
 show(if (k:Int)<0 then ((k:Int)+(n:Int)).toNat else min (k:Int).toNat n)=min k n
 rw[if_neg (by omega),yBi]
theorem aLI(n d:Nat)(hd:d<=n)(o:Option Int):sIx n d o<=n:=by
 cases o with
 | none=>exact hd
 | some v =>
   show(if v<0 then (v+(n:Int)).toNat else min v.toNat n)<=n
   by_cases hv:v<0
   ·rw[if_pos hv];omega
   ·rw[if_neg hv];exact Nat.min_le_right _ _
theorem aD4(v:Int)(n d:Nat):(if v<0 then max (v+(n:Int)) 0 else min v (n:Int))=((sIx n d (qq v):Nat):Int):=by
 show(if v<0 then max (v+(n:Int)) 0 else min v (n:Int))=(((if v<0 then (v+(n:Int)).toNat else min v.toNat n):Nat):Int)
 by_cases hv:v<0
 ·simp only[if_pos hv];omega
 ·simp only[if_neg hv];omega
theorem aHD(lo hi:Option Int)(n:Nat):yDj lo hi 1 (n:Int)=(((sIx n 0 lo:Nat):Int),((sIx n n hi:Nat):Int)):=by
 have h1:¬ ((1:Int)<0):=by omega
 unfold yDj;simp only[h1,if_false];refine Prod.ext ?_ ?_
 ·cases lo with
  | none=>rfl
  | some v=>exact aD4 v n 0
 ·cases hi with
  | none=>rfl
  | some v=>exact aD4 v n n
theorem aHQ(i j:Nat):yCk (i:Int) (j:Int) 1=j-i:=by
 unfold yCk;have h1:(1:Int)>0:=by omega
 simp only[h1,if_true,Int.ediv_one]
 split<;>omega
theorem aCJ{v:qx}{o:Option Int}{Q:Option Int->qj->Prop}(p:IsPart v o)(h:Q o s):qu (model prog w) A (Builtin.Slice.slicePartIndex v) Q E s:=by
 cases p with
 | none=>exact slicePart_none h
 | int i t=>exact slicePart_int h
theorem sliceApplied_gen{sl:qv}{vl vu:qx}{lo hi:Option Int}{n:Nat}{Q:Int×Int×Nat->qj->Prop}(hs:s.heap.IsSliceOf sl vl vu .none)(pl:IsPart vl lo)(pu:IsPart vu hi)
 (h:Q (((sIx n 0 lo:Nat):Int),1,sIx n n hi-sIx n 0 lo) s):qu (model prog w) A (yEr (.ref sl) (pure (n:Int))) Q E s:=by
 obtain⟨os,hos,hcs,hds⟩:=id hs;unfold yEr Builtin.Slice.sliceFields;refine wB (wB (zw hos hds (x:=vl) rfl (wB (zw hos hds (x:=vu) rfl (wB (zw hos hds (x:=.none) rfl (wP ?_)))))));refine wB (slicePart_none ?_);show qu _ _ (if ((1:Int)==0)=true then _ else _) _ _ s
 rw[if_neg (by decide)]
 refine wB (aCJ pl (wB (aCJ pu (wB (wP ?_)))));show qu _ _ (match yDj lo hi 1 (n:Int) with | (lo,hi)=>pure (lo,(1:Int),yCk lo hi 1)) _ _ s
 rw[aHD lo hi n];show qu _ _ (pure (((sIx n 0 lo:Nat):Int),(1:Int),yCk ((sIx n 0 lo:Nat):Int) ((sIx n n hi:Nat):Int) 1)) _ _ s;rw[aHQ];exact wP h
theorem aI1(xs:Array qx)(i k:Nat):((yBe k).filterMap λ(m:Nat)=>xs[((i:Int)+(m:Int)*1).toNat]?).toArray=((xs.toList.drop i).take k).toArray:=by
 have e:(λ(m:Nat)=>xs[((i:Int)+(m:Int)*1).toNat]?)=λ m=>xs[i+m]?:=by
  funext m
  have:((i:Int)+(m:Int)*1).toNat=i+m:=by omega
  rw[this]
 rw[e];have:=pick_run xs i k;rw[List.filterMap_map] at this;have e2:((λ x=>xs[x]?) ∘ λ x=>i+x)=λ m=>xs[i+m]?:=rfl
 rw[e2] at this;rw[this]
theorem getItem_tuple_cut{t sl:qv}{aJ:Array qx}{vl vu:qx}{lo hi:Option Int}{Q:qx->qj->Prop}(ht:IsTup s.heap t aJ)(hs:s.heap.IsSliceOf sl vl vu .none)(pl:IsPart vl lo)(pu:IsPart vu hi)
 (hw:¬ (sIx aJ.size 0 lo=0/\sIx aJ.size aJ.size hi=aJ.size))
 (h:Q (.ref s.heap.objs.size) {s with heap:=s.heap.push {cls:=.type "tuple",data:=.seq ((aJ.toList.drop (sIx aJ.size 0 lo)).take (sIx aJ.size aJ.size hi-sIx aJ.size 0 lo)).toArray } })
 (hsz:aJ.size<=qk):qu (model prog w) A (getItem (.ref t) (.ref sl)) Q E s:=by
 have htake:sizeOk (.seq ((aJ.toList.drop (sIx aJ.size 0 lo)).take (sIx aJ.size aJ.size hi-sIx aJ.size 0 lo)).toArray):=by
  show((aJ.toList.drop (sIx aJ.size 0 lo)).take (sIx aJ.size aJ.size hi-sIx aJ.size 0 lo)).toArray.size<=qk;rw[yAb,yBs,yEf,yBn];omega
 have hj:sIx aJ.size aJ.size hi<=aJ.size:=aLI _ _ (yAc _) hi;obtain⟨os,hos,hcs,hds⟩:=id hs;have hTs:s.TypeIs (.ref sl) "slice":=⟨os,hos,hcs⟩;unfold getItem
 try with_reducible refine xq ?_
 first | refine wB (wP ?_) | skip
 refine wB (wpAny_sequenceKey ht.typeIs (by decide) ?_)
 refine wB (wpAny_callSpecial?_slot (name:=Str.ofString "__getitem__") ht.typeIs yBu
  (jw yBu ht.typeIs entry_tuple_getitem ?_ (args_tuple_getitem _ _)))
 show qu _ _ (yEs (.ref t) >>= _) _ _ s;refine wB (tupleItemsOf_ ht ?_);refine wB (wpAny_typeOf hTs ?_);rw[if_pos (by decide)]
 refine wB (sliceApplied_gen hs pl pu ?_);have hno:¬ ((((sIx aJ.size 0 lo:Nat):Int)==0&&(1:Int)==1&&(sIx aJ.size aJ.size hi-sIx aJ.size 0 lo)==aJ.size)=true):=by
  intro q;rw[yBz,yBz] at q;have q1:((sIx aJ.size 0 lo:Nat):Int)=0:=eq_of_beq q.1.1;have q2:sIx aJ.size aJ.size hi-sIx aJ.size 0 lo=aJ.size:=eq_of_beq q.2;exact hw ⟨by omega,by omega⟩
 show qu _ _ (if (((sIx aJ.size 0 lo:Nat):Int)==0&&(1:Int)==1&&(sIx aJ.size aJ.size hi-sIx aJ.size 0 lo)==aJ.size)=true then _ else _) _ _ s
 rw[if_neg hno,aI1]
 first
  | exact wB (m:=yBy _) (xw (wP ⟨_,rfl,wP h⟩) htake)
  | exact wB (m:=yBy _) (xw (wB (wP (wP ⟨_,rfl,wP h⟩))) htake)
  | exact wB (wB (m:=yBy _) (xw (wP (wP ⟨_,rfl,wP h⟩)) htake))
  | exact wB (wB (m:=yBy _) (xw (wP ⟨_,rfl,wP h⟩) htake))
end
end HT
namespace L2
open PySem PySem.Spec PyProof.Rows
abbrev TO:=St->Hp->(Option Int->Hp->Prop)->Prop
def PO(X:Cx)(e:Option qw)(t:TO):Prop:=
 ∀ (aA:List (qv×Obj)) (s:qj) (σ:St) (H:Hp) (Q:Option Int->Hp->Prop),Inv X aA σ H s->t σ H Q ->
  qu (model X.prog X.w) X.A (evalPart e X.env) (λ u s'=>∃ o H',Inv X aA σ H' s'/\IsPart u o/\Q o H') X.xe s
def aK4:TO:=λ _ H Q=>Q qz H
def aNI(t:TE):TO:=λ σ H Q=>t σ H λ x H1=>∃ i,x=.int i/\Q (qq i) H1
section
variable {X : Cx}{e : qw}{te : TE}{lo hi : Option qw}{tl th : TO}{pos p2 : Pos}
theorem aKX:PO X qz aK4:=by
 intro aA s σ H Q I h;rw[evalPart_none];exact wP ⟨qz,H,I,.none,h⟩
theorem aKZ(h:PE X e te):PO X (qq e) (aNI te):=by
 intro aA s σ H Q I hw;rw[evalPart_some];refine aX (h aA s σ H _ I hw) λ u s1 hPq25=>?_
 obtain⟨x,H1,I1,r1,q1⟩:=hPq25;obtain⟨i,rfl,q⟩:=q1;obtain⟨t,rfl⟩:=r1;exact⟨qq i,H1,I1,.int i t,q⟩
def mH(X:Cx)(r:V->Option Int->Option Int->Hp->VK->Prop):Prop:=
 ∀ (aA:List (qv×Obj)) (s:qj) (σ:St) (H:Hp) (x:V) (v vl vu:qx) (lo hi:Option Int) (sl:qv) (Q:VK),Inv X aA σ H s->aV x v->s.heap.IsSliceOf sl vl vu .none->IsPart vl lo->IsPart vu hi->r x lo hi H Q ->
  ∃ T id,typeLookup (.type T) "__getitem__" = pure (qq (.builtin id))/\s.TypeIs v T/\qu (model X.prog X.w) X.A (getItem v (.ref sl)) (EP X aA σ Q) X.xe s
theorem mH.or{r r':V->Option Int->Option Int->Hp->VK->Prop}(h:mH X r)(h':mH X r'):mH X (λ x lo hi H Q=>r x lo hi H Q\/r' x lo hi H Q):=by
 intro aA s σ H x v vl vu lo hi sl Q I rx hs pl pu q;rcases q with q | q
 ·exact h aA s σ H x v vl vu lo hi sl Q I rx hs pl pu q
 ·exact h' aA s σ H x v vl vu lo hi sl Q I rx hs pl pu q
def tSl(r:V->Option Int->Option Int->Hp->VK->Prop)(te:TE)(tl th:TO):TE:=λ σ H Q=>te σ H λ x H1=>tl σ H1 λ l H2=>th σ H2 λ u H3=>r x l u H3 Q
theorem aDT{r:V->Option Int->Option Int->Hp->VK->Prop}(hr:mH X r)(he:PE X e te)(hl:PO X lo tl)(hu:PO X hi th):PE X (.Subscript e (.Slice lo hi qz p2) pos) (tSl r te tl th):=by
 intro aA s σ H Q I h;refine Subscript_ (aX (he aA s σ H _ I h) λ v s1 hPq26=>?_)
 obtain⟨x,H1,I1,r1,q1⟩:=hPq26;refine wpAny_Slice (aX (hl aA s1 σ H1 _ I1 q1) λ vl s2 ⟨l,H2,I2,pl,q2⟩=>aX (hu aA s2 σ H2 _ I2 q2) λ vu s3 hPq27=>?_)
 obtain⟨u,H3,I3,pu,q3⟩:=hPq27;rw[evalPart_none];refine wP ?_;have I4:Inv X aA σ H3 {s3 with heap:=s3.heap.push {cls:=.type "slice",data:=.fields #[vl,vu,.none] } }:=I3.kept (t':=s3.toks) λ b ob q=>hpS _ q
 obtain⟨T,id,hT,ht,hg⟩:=hr aA {s3 with heap:=s3.heap.push {cls:=.type "slice",data:=.fields #[vl,vu,.none] } } σ H3 x v vl vu l u s3.heap.objs.size Q I4 r1 (Heap.IsSliceOf.new ..) pl pu q3
 show qu (model X.prog X.w) X.A (subscriptTail e (.Slice lo hi qz p2) v (.ref s3.heap.objs.size)) (EP X aA σ Q) X.xe {s3 with heap:=s3.heap.push {cls:=.type "slice",data:=.fields #[vl,vu,.none] } }
 exact tail_any (ops:=[.ref s3.heap.objs.size,v]) ht hT hg (by with_unfolding_all rfl)
noncomputable def lD(xs:List V)(lo hi:Option Int):List V:=(xs.drop (HT.sIx xs.length 0 lo)).take (HT.sIx xs.length xs.length hi-HT.sIx xs.length 0 lo)
theorem aCI(xs:List V)(lo hi:Option Int):(lD xs lo hi).length<=xs.length:=by
 unfold lD;rw[yBs,yEf];omega
noncomputable def aPA(K:FrG):V->Option Int->Option Int->Hp->VK->Prop:=λ x lo hi H Q=>∃ a xs,x=.ref a/\bL K H a xs /\
 ¬ (HT.sIx xs.length 0 lo=0/\HT.sIx xs.length xs.length hi=xs.length)/\∀ p,H p=qz->Q (.ref p) (aT H p (.tup (lD xs lo hi)))
theorem aNa:mH X (aPA X.K):=by
 intro aA s σ H x v vl vu lo hi sl Q I rx hs pl pu h;obtain⟨a,xs,rfl,hx,hw,q⟩:=h;cases rx;obtain⟨its,r,ht,hz⟩:=I.tuple hx;have bZ:its.toArray.size=xs.length:=by rw[yAb];exact r.length.symm
 refine⟨"tuple",_,PyProof.Rows.slot_tuple_getitem.lookup,ht.typeIs,?_⟩;refine HT.getItem_tuple_cut ht hs pl pu (by rw[bZ];exact hw) ?_ (by rw[bZ];exact hz)
 rw[bZ];refine⟨.ref s.heap.objs.size,_,I.laid (t':=s.toks) (o:=.tup (lD xs lo hi)) (λ b ob q=>hpS _ q) (yAc _) ?_,rfl,q _ (I.hok.fresh (yAc _))⟩
 exact⟨xAg (aCI xs lo hi) hz,_,(r.drop (HT.sIx xs.length 0 lo)).take (HT.sIx xs.length xs.length hi-HT.sIx xs.length 0 lo),IsTup.new _ _⟩
noncomputable def aOk(K:FrG):R2:=λ x y H Q=>∃ a b xs ys,x=.ref a/\y=.ref b/\bL K H a xs/\bL K H b ys/\xs≠[]/\xs.length+ys.length<=qk /\
 (ys=[]->Q (.ref a) H)/\(ys≠[]->∀ p,H p=qz->Q (.ref p) (aT H p (.tup (xs++ys))))
theorem aS.nil_iff{xs:List V}{us:List qx}(r:aS xs us):us=[] ↔ xs=[]:=by
 cases r with
 | nil=>simp
 | cons _ _=>simp
theorem aJZ:bX X (zo .Add) (aOk X.K):=by
 intro aA s σ H x y v u Q I rx ry h;obtain⟨a,b,xs,ys,rfl,rfl,ha,hb,hx,hz,q1,q2⟩:=h;cases rx;cases ry;obtain⟨its,r1,p1,_⟩:=I.tuple ha;obtain⟨iG,r2,p2,_⟩:=I.tuple hb;refine HT.cat_tup p1 p2 (λ z=>hx (r1.nil_iff.mp z)) (λ z=>⟨.ref a,H,I,rfl,q1 (r2.nil_iff.mp z)⟩) (λ z=>?_) (by rw[<- r1.length,<- r2.length];exact hz)
 refine⟨.ref s.heap.objs.size,_,I.laid (t':=s.toks) (o:=.tup (xs++ys)) (λ b ob q=>hpS _ q) (yAc _) ?_,rfl,q2 (λ w=>z (r2.nil_iff.mpr w)) _ (I.hok.fresh (yAc _))⟩
 exact⟨by rw[xAk];exact hz,_,r1.append r2,IsTup.new _ _⟩
end
end L2
namespace L2
open PySem PySem.Spec PyProof.Rows
noncomputable def iV(n:Nat)(i:Int):Option Nat:=if 0<=i then (if i<n then qq i.toNat else qz) else if -(n:Int)<=i then qq (i+n).toNat else qz
noncomputable def iD{α:Type}(xs:List α)(i:Int):Option α:=(iV xs.length i).bind λ j=>xs[j]?
theorem aEk{n:Nat}{i:Int}{j:Nat}(h:iV n i=qq j):seqIndex? i n=qq j/\j<n /\ -(n:Int)<=i/\i<n:=by
 unfold iV at h
 by_cases h0:0<=i
 ·rw[if_pos h0] at h
  by_cases h1:i<n
  ·rw[if_pos h1] at h;have e:i.toNat=j:=Option.some.inj h;exact⟨by rw[seqIndex_of h0 h1,e],by omega,by omega,h1⟩
  ·rw[if_neg h1] at h;cases h
 ·rw[if_neg h0] at h
  by_cases h1 : -(n:Int)<=i
  ·rw[if_pos h1] at h;have e:(i+n).toNat=j:=Option.some.inj h;exact⟨by rw[seqIndex_neg (by omega) h1,e],by omega,h1,by omega⟩
  ·rw[if_neg h1] at h;cases h
theorem aAT{α:Type}{xs:List α}{i:Int}{v:α}(h:iD xs i=qq v):∃ j,seqIndex? i xs.length=qq j/\xs[j]? = qq v/\j<xs.length /\ -(xs.length:Int)<=i/\i<xs.length:=by
 unfold iD at h;cases e:iV xs.length i with
 | none=>rw[e] at h;cases h
 | some j =>
   rw[e] at h;obtain⟨h1,h2,h3,h4⟩:=aEk e;exact⟨j,h1,h,h2,h3,h4⟩
def vH(b:qw):Prop:=∀ o i,subscripted b false o i=operate [o,i] (getItem o i)
def kH(X:Cx)(r:R2):Prop:=
 ∀ (value iF:qw) (aA:List (qv×Obj)) (s:qj) (σ:St) (H:Hp) (x y:V) (v u:qx) (Q:VK),Inv X aA σ H s->aV x v->aV y u->r x y H Q ->
  subscripted iF false v u=operate [v,u] (getItem v u)->qu (model X.prog X.w) X.A (subscriptTail value iF v u) (EP X aA σ Q) X.xe s
def tY(X:Cx)(id:String)(r:V->List V->Hp->VK->Prop):Prop:=
 ∀ (aA:List (qv×Obj)) (s:qj) (σ:St) (H:Hp) (x:V) (xs:List V) (v:qx) (us:List qx) (Q:VK),Inv X aA σ H s->aV x v->aS xs us->r x xs H Q ->
  qu (model X.prog X.w) X.A (call (.builtin id) (v::us)) (EP X aA σ Q) X.xe s
section
variable {X : Cx}{a b : qw}{ta tb : TE}{pos : Pos}
theorem kH.or{r r':R2}(h:kH X r)(h':kH X r'):kH X (λ x y H Q=>r x y H Q\/r' x y H Q):=by
 intro value iF aA s σ H x y v u Q I rx ry q hs;rcases q with q | q
 ·exact h value iF aA s σ H x y v u Q I rx ry q hs
 ·exact h' value iF aA s σ H x y v u Q I rx ry q hs
theorem tY.or{id:String}{r r':V->List V->Hp->VK->Prop}(h:tY X id r)(h':tY X id r'):tY X id (λ x xs H Q=>r x xs H Q\/r' x xs H Q):=by
 intro aA s σ H x xs v us Q I rx rs q;rcases q with q | q
 ·exact h aA s σ H x xs v us Q I rx rs q
 ·exact h' aA s σ H x xs v us Q I rx rs q
theorem aFE{r:R2}(hr:kH X r)(ha:PE X a ta)(hb:PE X b tb)(hs:vH b):PE X (.Subscript a b pos) (tZ r ta tb):=by
 intro aA s σ H Q I h;exact Subscript_ (aBK ha hb I h λ v u s2 x y H2 I2 rx ry q=>hr a b aA s2 σ H2 x y v u Q I2 rx ry q (hs _ _))
noncomputable def aPT(K:FrG):R2:=λ x y H Q=>∃ p xs i v,x=.ref p/\y=.int i/\bF K H p xs/\iD xs i=qq v/\Q v H
noncomputable def aPm(K:FrG):R2:=λ x y H Q=>∃ p xs i v,x=.ref p/\y=.int i/\bL K H p xs/\iD xs i=qq v/\Q v H
noncomputable def aPf:R2:=λ x y H Q=>∃ z i c,x=.str z/\y=.int i/\z.length<=qk/\iD z.cps.toList i=qq c/\Q (.str ⟨#[c]⟩) H
theorem aK1:kH X (aPT X.K):=by
 intro value iF aA s σ H x y v u Q I rx ry h hs;obtain⟨p,xs,i,z,rfl,rfl,hq,he,q⟩:=h;cases rx;obtain⟨t,rfl⟩:=ry;obtain⟨its,r,pl,hz⟩:=I.list hq;obtain⟨j,h1,h2,h3,h4,h5⟩:=aAT he;obtain⟨w,ew,rw'⟩:=r.get h2;have hl:=r.length;have hn:=mQ;have bB:EP X aA σ Q w s:=⟨z,H,I,rw',q⟩
 by_cases h0:0<=i
 ·have hj:i.toNat=j:=by
   rw[seqIndex_of h0 h5] at h1;exact Option.some.inj h1
  exact item_listR pl.isList h0 (by omega) (by rw[hj];simpa using ew) bB hs
 ·have hj:(i+(its.toArray.size:Int)).toNat=j:=by
   rw[seqIndex_neg (by omega) h4] at h1
   rw[yAb,<- hl];exact Option.some.inj h1
  exact subscriptTail_builtinR (x:=w) pl.isList.typeIs slot_list_getitem.lookup
   (wpAny_getItem_list_neg (Q:=λ r s'=>r=w/\EP X aA σ Q r s') pl.isList (by omega) (by rw[yAb]<;>omega) (by omega) (by rw[hj];simpa using ew) ⟨rfl,bB⟩) hs
theorem aMx:kH X (aPm X.K):=by
 intro value iF aA s σ H x y v u Q I rx ry h hs;obtain⟨p,xs,i,z,rfl,rfl,hq,he,q⟩:=h;cases rx;obtain⟨t,rfl⟩:=ry;obtain⟨its,r,pl,hz⟩:=I.tuple hq;obtain⟨j,h1,h2,h3,h4,h5⟩:=aAT he;obtain⟨w,ew,rw'⟩:=r.get h2;have hl:=r.length;have hn:=mQ;have bB:EP X aA σ Q w s:=⟨z,H,I,rw',q⟩;exact subscriptTail_builtinR (x:=w) pl.typeIs slot_tuple_getitem.lookup
  (getItem_tuple (j:=j) (Q:=λ r s'=>r=w/\EP X aA σ Q r s') pl (by omega) (by omega) (by rw[yAb,<- hl];exact h1) (by simpa using ew) ⟨rfl,bB⟩) hs
theorem aNr:kH X aPf:=by
 intro value iF aA s σ H x y v u Q I rx ry h hs;obtain⟨z,i,c,rfl,rfl,hz,he,q⟩:=h;obtain⟨t,rfl⟩:=rx;obtain⟨t',rfl⟩:=ry;obtain⟨j,h1,h2,h3,h4,h5⟩:=aAT he;have hl:z.cps.toList.length=z.length:=by simp[Str.length]
 rw[hl] at h1 h4 h5;have hn:=mQ;exact tail_any (typeIs_str s z t) slot_str_getitem.lookup (getItem_str (c:=c) (by
  have e1:decide (i < -(2^63:Int))=false:=dqF (by omega)
  have e2:decide (i ≥ 2^63)=false:=dqF (by omega)
  rw[e1,e2,Bool.or_false]) (by rw[h1];simpa using h2) ⟨.str ⟨#[c]⟩,H,I.tok _,⟨_,rfl⟩,q⟩) hs
theorem aHT(its:List qx)(n j:Nat)(u:qx):Obj.mapSeq (·.setIfInBounds j u) {cls:=.type "list",data:=.seq its.toArray n }={cls:=.type "list",data:=.seq (its.set j u).toArray n }:=by
 simp[Obj.mapSeq]
theorem Inv.lst{aA:List (qv×Obj)}{σ:St}{H:Hp}{s:qj}{p:qv}{xs:List V}(I:Inv X aA σ H s)(h:H p=qq (.lst xs)) :
 ∃ (its:List qx) (n:Nat),aS xs its/\s.heap.get? p=qq {cls:=.type "list",data:=.seq its.toArray n }/\xs.length<=qk:=by
 obtain⟨z,its,n,r,e⟩:=I.hok p _ h;exact⟨its,n,r,e,z⟩
theorem Inv.lstUpd{aA:List (qv×Obj)}{σ:St}{H:Hp}{s:qj}{p:qv}{xs ys:List V}{its its':List qx}{n n':Nat}{f:Obj->Obj}(I:Inv X aA σ H s)(h:H p=qq (.lst xs))
 (ho:s.heap.get? p=qq {cls:=.type "list",data:=.seq its.toArray n }) (hf:f {cls:=.type "list",data:=.seq its.toArray n }={cls:=.type "list",data:=.seq its'.toArray n' }) (r:aS ys its') (hz:ys.length<=qk) (t:Nat) :
 Inv X aA σ (aT H p (.lst ys)) {s with heap:=s.heap.update p f,toks:=t }:=by
 have e:(s.heap.update p f).get? p=qq {cls:=.type "list",data:=.seq its'.toArray n' }:=by
  rw[yBw f ho (by rw[hf]<;>rfl),hf]
 refine I.write (x:=p) (e:=p) (by rw[h];trivial) (.inl rfl) (λ b u hb q=>(yBl _ _ (Ne.symm hb)).trans q) ⟨_,e⟩ ?_
 exact⟨hz,its',n',r,e⟩
noncomputable def aFR:V->V->V->Hp->(Hp->Prop)->Prop:=λ o i v H Q=>∃ p xs k j,o=.ref p/\i=.int k/\H p=qq (.lst xs)/\iV xs.length k=qq j/\Q (aT H p (.lst (xs.set j v)))
theorem aJa:aGb X aFR:=by
 intro aA s σ H o i v ov iv u Q I ro ri rv h;obtain⟨p,xs,k,j,rfl,rfl,hp,hj,q⟩:=h;cases ro;obtain⟨t,rfl⟩:=ri;obtain⟨its,n,r,ho,hz⟩:=I.lst hp;obtain⟨h1,h2,h3,h4⟩:=aEk hj;have hl:=r.length;have hn:=mQ;have I':Inv X aA σ (aT H p (.lst (xs.set j v))) {s with heap:=s.heap.update p (Obj.mapSeq (·.setIfInBounds j u)) }:=
  I.lstUpd hp ho (aHT its n j u) (r.set rv j) (by rw[yAq];exact hz) s.toks
 by_cases h0:0<=k
 ·have hk:k.toNat=j:=by
   rw[seqIndex_of h0 h4] at h1;exact Option.some.inj h1
  exact PySem.W.ki_setAt ho h0 (by omega) (by rw[yAb,<- hl];exact h4) (by rw[hk];exact⟨_,I',q⟩)
 ·have hk:(k+(its.toArray.size:Int)).toNat=j:=by
   rw[seqIndex_neg (by omega) h3] at h1
   rw[yAb,<- hl];exact Option.some.inj h1
  exact PySem.W.ki_setBack ho (by omega) (by rw[yAb,<- hl];exact h3) (by omega) (by rw[hk];exact⟨_,I',q⟩)
theorem aHj(lo hi:Option Int)(n:Nat):(vo lo hi qz n).1=((HT.sIx n 0 lo:Nat):Int)/\(vo lo hi qz n).2.1=((HT.sIx n n hi:Nat):Int)/\(vo lo hi qz n).2.2=1:=by
 refine⟨?_,?_,rfl⟩
 ·cases lo with
  | none=>simp[vo,HT.sIx]
  | some i =>
    simp only[vo,HT.sIx,yEg,show(1:Int)>0 by decide,if_true]
    by_cases h:i<0
    ·simp only[h,if_true]<;>omega
    ·simp only[h,if_false]<;>omega
 ·cases hi with
  | none=>simp[vo,HT.sIx]
  | some i =>
    simp only[vo,HT.sIx,yEg,show(1:Int)>0 by decide,if_true]
    by_cases h:i<0
    ·simp only[h,if_true]<;>omega
    ·simp only[h,if_false]<;>omega
theorem aG7(its:List qx)(lo hi:Option Int):slicePick its.toArray lo hi qz=((its.drop (HT.sIx its.length 0 lo)).take (HT.sIx its.length its.length hi-HT.sIx its.length 0 lo)).toArray:=by
 obtain⟨h1,h2,h3⟩:=aHj lo hi its.toArray.size;unfold slicePick;rw[h1,h2,h3];simp only[sliceRange_one,pick_run,yAb]<;>rfl
noncomputable def aPI(K:FrG):V->Option Int->Option Int->Hp->VK->Prop:=λ x lo hi H Q=>∃ a xs,x=.ref a/\bF K H a xs/\∀ p,H p=qz->Q (.ref p) (aT H p (.lst (lD xs lo hi)))
theorem aJV:mH X (aPI X.K):=by
 intro aA s σ H x v vl vu lo hi sl Q I rx hs pl pu h;obtain⟨a,xs,rfl,hx,q⟩:=h;cases rx;obtain⟨its,r,ht,hz⟩:=I.list hx;have bZ:=r.length;refine⟨"list",_,slot_list_getitem.lookup,ht.isList.typeIs,?_⟩;refine wpAny_getItem_list_slice ht.isList hs pl pu .none (by simp) ?_ (by rw[yAb]<;>omega)
 rw[aG7,<- bZ];refine⟨.ref s.heap.objs.size,_,I.laid (t':=s.toks) (o:=.lst (lD xs lo hi)) (λ b ob q=>hpS _ q) (yAc _) ?_,rfl,q _ (I.hok.fresh (yAc _))⟩
 exact⟨xAg (aCI xs lo hi) hz,_,0,(r.drop (HT.sIx xs.length 0 lo)).take (HT.sIx xs.length xs.length hi-HT.sIx xs.length 0 lo),xAe _ rfl⟩
noncomputable def jX:V->Bool
 | .non=>true
 | .bl _=>true
 | .int _=>true
 | .str _=>true
 | _=>false
noncomputable def lK:V->V->Bool
 | .non,.non=>true
 | .bl a,.bl b=>a==b
 | .bl a,.int b=>(if a then 1 else 0)==b
 | .int a,.bl b=>a==(if b then 1 else 0)
 | .int a,.int b=>a==b
 | .str a,.str b=>a==b
 | _,_=>false
theorem aLZ{A:zj}{s:qj}{y x:V}{u v:qx}(ry:aV y u)(rx:aV x v)(fy:jX y=true)(fx:jX x=true):SeqAt.EqAt A s u v (lK y x):=by
 cases y with
 | non =>
   cases ry;cases x with
   | non=>cases rx;exact SeqAt.EqAt.same _
   | bl b=>cases rx;exact SeqAt.EqAt.none_bool b
   | int b=>obtain⟨t,rfl⟩:=rx;exact SeqAt.EqAt.none_int b t
   | str b=>obtain⟨t,rfl⟩:=rx;exact SeqAt.EqAt.none_str b t
   | _=>exact absurd (show false=true from fx) yAp
 | bl a =>
   cases ry;cases x with
   | non=>cases rx;exact SeqAt.EqAt.bool_none a
   | bl b=>cases rx;exact SeqAt.EqAt.bool_bool a b
   | int b=>obtain⟨t,rfl⟩:=rx;exact SeqAt.EqAt.bool_int a b t
   | str b=>obtain⟨t,rfl⟩:=rx;exact SeqAt.EqAt.bool_str a b t
   | _=>exact absurd (show false=true from fx) yAp
 | int a =>
   obtain⟨t',rfl⟩:=ry;cases x with
   | non=>cases rx;exact SeqAt.EqAt.int_none a t'
   | bl b=>cases rx;exact SeqAt.EqAt.int_bool a t' b
   | int b=>obtain⟨t,rfl⟩:=rx;exact SeqAt.EqAt.int_int a t' b t
   | str b=>obtain⟨t,rfl⟩:=rx;exact SeqAt.EqAt.int_str a t' b t
   | _=>exact absurd (show false=true from fx) yAp
 | str a =>
   obtain⟨t',rfl⟩:=ry;cases x with
   | non=>cases rx;exact SeqAt.EqAt.str_none a t'
   | bl b=>cases rx;exact SeqAt.EqAt.str_bool a t' b
   | int b=>obtain⟨t,rfl⟩:=rx;exact SeqAt.EqAt.str_int a t' b t
   | str b=>obtain⟨t,rfl⟩:=rx;exact SeqAt.EqAt.str_str a t' b t
   | _=>exact absurd (show false=true from fx) yAp
 | _=>exact absurd (show false=true from fy) yAp
noncomputable def fZ(x:V)(u:qx):Bool:=match u with
 | .none=>lK .non x
 | .bool b=>lK (.bl b) x
 | .int i _=>lK (.int i) x
 | .str z _=>lK (.str z) x
 | _=>false
theorem aE6{x y:V}{u:qx}(r:aV y u)(f:jX y=true):fZ x u=lK y x:=by
 cases y with
 | non=>cases r;rfl
 | bl b=>cases r;rfl
 | int i=>obtain⟨t,rfl⟩:=r;rfl
 | str z=>obtain⟨t,rfl⟩:=r;rfl
 | _=>exact absurd (show false=true from f) yAp
theorem rF{x:V}:∀ {xs:List V}{us:List qx},aS xs us->xs.all jX=true->us.any (fZ x)=xs.any λ y=>lK y x
 | _,_,.nil,_=>rfl
 | y::xs,u::us,.cons r t,f=>by
   rw[yDr,yBz] at f;rw[yFc,yFc,aE6 r f.1,rF t f.2]
theorem qY{A:zj}{s:qj}{x:V}{v:qx}(rx:aV x v)(fx:jX x=true):∀ {xs:List V}{us:List qx},aS xs us->xs.all jX=true->∀ u∈us,SeqAt.EqAt A s u v (fZ x u)
 | _,_,.nil,_=>λ u hu=>by cases hu
 | y::xs,u::us,.cons r t,f=>λ u' hu=>by
   rw[yDr,yBz] at f;rcases List.mem_cons.mp hu with rfl | hu
   ·rw[aE6 r f.1];exact aLZ r rx f.1 fx
   ·exact qY rx fx t f.2 u' hu
noncomputable def qG(x:V)(xs:List V):Bool:=xs.any λ y=>lK y x
noncomputable def rIn(K:FrG)(neg:Bool):R2:=λ x y H Q=>∃ p xs,y=.ref p/\(bF K H p xs\/bL K H p xs)/\jX x=true/\xs.all jX=true/\Q (.bl (if neg then !qG x xs else qG x xs)) H
theorem aIH:bX X (jz .In) (rIn X.K false):=by
 intro aA s σ H x y v u Q I rx ry h;obtain⟨p,xs,rfl,hq,fx,fs,q⟩:=h;cases ry;rcases hq with hq | hq
 ·obtain⟨its,r,pl,hz⟩:=I.list hq;refine SeqAt.in_listAt (fZ x) pl.isList (λ w hw=>qY rx fx r fs w (by simpa using hw)) ⟨.bl _,H,I,rfl,?_⟩
  rw[show its.toArray.any (fZ x)=its.any (fZ x) by simp,rF r fs]
  exact q
 ·obtain⟨its,r,pl,hz⟩:=I.tuple hq;refine SeqAt.in_tupleAt (fZ x) pl (λ w hw=>qY rx fx r fs w (by simpa using hw)) ⟨.bl _,H,I,rfl,?_⟩
  rw[show its.toArray.any (fZ x)=its.any (fZ x) by simp,rF r fs]
  exact q
theorem aHd:bX X (jz .NotIn) (rIn X.K true):=by
 intro aA s σ H x y v u Q I rx ry h;obtain⟨p,xs,rfl,hq,fx,fs,q⟩:=h;cases ry;rcases hq with hq | hq
 ·obtain⟨its,r,pl,hz⟩:=I.list hq;refine SeqAt.notIn_listAt (fZ x) pl.isList (λ w hw=>qY rx fx r fs w (by simpa using hw)) ⟨.bl _,H,I,rfl,?_⟩
  rw[show its.toArray.any (fZ x)=its.any (fZ x) by simp,rF r fs]
  exact q
 ·obtain⟨its,r,pl,hz⟩:=I.tuple hq;refine SeqAt.notIn_tupleAt (fZ x) pl (λ w hw=>qY rx fx r fs w (by simpa using hw)) ⟨.bl _,H,I,rfl,?_⟩
  rw[show its.toArray.any (fZ x)=its.any (fZ x) by simp,rF r fs]
  exact q
theorem aCw:cF X (.builtin "len") (λ xs H Q=>∃ p ys,xs=[.ref p]/\(bF X.K H p ys\/bL X.K H p ys)/\Q (.int ys.length) H):=by
 intro aA s σ H xs us Q I r h;obtain⟨p,ys,rfl,hq,q⟩:=h;obtain⟨u,rfl,rx⟩:=eZ r;cases rx;have hn:=mQ;rcases hq with hq | hq
 ·obtain⟨its,r',pl,hz⟩:=I.list hq;have bZ:=r'.length;exact Calls.call_len_list pl.isList (by simp only[yAb]<;>omega) ⟨.int ys.length,H,I.tok _,⟨s.toks+1,by rw[yAb,bZ]⟩,q⟩
 ·obtain⟨its,r',pl,hz⟩:=I.tuple hq;have bZ:=r'.length;exact len_tuple pl (by simp only[yAb]<;>omega) ⟨.int ys.length,H,I.tok _,⟨s.toks+1,by rw[yAb,bZ]⟩,q⟩
theorem aHg:cF X (.builtin "len") (λ xs H Q=>∃ z,xs=[.str z]/\z.length<=qk/\Q (.int z.length) H):=by
 intro aA s σ H xs us Q I r h;obtain⟨z,rfl,hz,q⟩:=h;obtain⟨u,rfl,t,rfl⟩:=eZ r;have hn:=mQ;exact len_str (by omega) ⟨.int z.length,H,I.tok _,⟨_,rfl⟩,q⟩
theorem cF.or{f:qx}{r r':List V->Hp->VK->Prop}(h:cF X f r)(h':cF X f r'):cF X f (λ xs H Q=>r xs H Q\/r' xs H Q):=by
 intro aA s σ H xs us Q I rs q;rcases q with q | q
 ·exact h aA s σ H xs us Q I rs q
 ·exact h' aA s σ H xs us Q I rs q
theorem aHm:cF X (.type "list") (λ xs H Q=>∃ p ys,xs=[.ref p]/\(bF X.K H p ys\/bL X.K H p ys)/\∀ l,H l=qz->Q (.ref l) (aT H l (.lst ys))):=by
 intro aA s σ H xs us Q I r h;obtain⟨p,ys,rfl,hq,q⟩:=h;obtain⟨u,rfl,rx⟩:=eZ r;cases rx;have bB:∀ (its:List qx),aS ys its->ys.length<=qk->∀ (h':Heap) (c':Nat),(∀ b o',s.heap.get? b=qq o'->h'.get? b=qq o') ->
  h'.get? s.heap.objs.size=qq {cls:=.type "list",dict:=qz,data:=.seq its.toArray c',slots:=#[] }->EP X aA σ Q (.ref s.heap.objs.size) {s with heap:=h' }:=λ its r' hz h' c' kp e =>
  ⟨.ref s.heap.objs.size,_,I.laid (t':=s.toks) kp (yAc _) (show fA X.prog X.w _ h' _ (.lst ys) from ⟨hz,its,c',r',e⟩),rfl,q _ (I.hok.fresh (yAc _))⟩
 rcases hq with hq | hq
 ·obtain⟨its,r',pl,hz⟩:=I.list hq;have bZ:=r'.length;obtain⟨o,ho,hc,n,hd⟩:=pl.isList;exact call_list_seq p (.inl rfl) ho hc hd (λ h' c' kp e=>bB its r' hz h' c' kp e) (by simp only[yAb]<;>omega)
 ·obtain⟨its,r',pl,hz⟩:=I.tuple hq;have bZ:=r'.length;obtain⟨o,ho,hc,n,hd⟩:=pl;exact call_list_seq p (.inr rfl) ho hc hd (λ h' c' kp e=>bB its r' hz h' c' kp e) (by simp only[yAb]<;>omega)
theorem aCs:cF X (.type "tuple") (λ xs H Q=>∃ p ys,xs=[.ref p]/\((bF X.K H p ys/\∀ l,H l=qz->Q (.ref l) (aT H l (.tup ys)))\/(bL X.K H p ys/\Q (.ref p) H))):=by
 intro aA s σ H xs us Q I r h;obtain⟨p,ys,rfl,h⟩:=h;obtain⟨u,rfl,rx⟩:=eZ r;cases rx;rcases h with ⟨hq,q⟩ | ⟨hq,q⟩
 ·obtain⟨its,r',pl,hz⟩:=I.list hq;have bZ:=r'.length;refine call_tuple_list pl.isList (λ h' kp=>?_) (by simp only[yAb]<;>omega)
  have I1:Inv X aA σ H {s with heap:=h' }:=I.kept (t':=s.toks) kp
  have I2:Inv X aA σ (aT H h'.objs.size (.tup ys)) {s with heap:=h'.push {cls:=.type "tuple",data:=.seq its.toArray } }:=
   I1.laid (t':=s.toks) (λ b o e=>hpS _ e) (yAc _) (show fA X.prog X.w _ _ _ (.tup ys) from ⟨hz,its,r',IsTup.new _ _⟩)
  exact⟨.ref h'.objs.size,_,I2,rfl,q _ (I1.hok.fresh (yAc _))⟩
 ·obtain⟨its,r',pl,hz⟩:=I.tuple hq;exact call_tuple_same pl ⟨.ref p,H,I,rfl,q⟩
def tyV(K:FrG)(T:String)(x:V)(H:Hp):Prop:=match x with
 | .str _=>T = "str"
 | .int _=>T = "int"
 | .ref p=>(T = "list" /\ ∃ xs,bF K H p xs)\/(T = "tuple" /\ ∃ o,K.lookup p=qq o/\o.cls=.type "tuple" /\ o.dict=qz) \/
    (T = "dict" /\ ((∃ aH,H p=qq (.dK aH))\/∃ aH,H p=qq (.dT aH)))\/(T = "set" /\ ∃ S n,H p=qq (.set S n))
 | _=>False
theorem aM7{aA:List (qv×Obj)}{σ:St}{H:Hp}{s:qj}{T:String}{x:V}{v:qx}(I:Inv X aA σ H s)(r:aV x v)(ty:tyV X.K T x H) :
 s.TypeIs v T/\∀ a,v=.ref a->∃ ob,s.heap.get? a=qq ob/\ob.dict=qz:=by
 cases x with
 | str z =>
   obtain⟨t,rfl⟩:=r;cases (show T = "str" from ty)
   exact⟨typeIs_str s z t,λ _ e=>nomatch e⟩
 | int i =>
   obtain⟨t,rfl⟩:=r;cases (show T = "int" from ty)
   exact⟨yu s i t,λ _ e=>nomatch e⟩
 | ref p =>
   cases r;rcases ty with ⟨rfl,xs,hq⟩ | ⟨rfl,o,hk,hc,hd⟩ | ⟨rfl,hk⟩ | ⟨rfl,S,n,hk⟩
   ·obtain⟨its,_,pl,_⟩:=I.list hq;refine⟨pl.isList.typeIs,λ a e=>?_⟩
    cases e;obtain⟨o,n,e,c,hd,_⟩:=pl;exact⟨o,e,hd⟩
   ·refine⟨⟨o,I.kIn p o hk,hc⟩,λ a e=>?_⟩
    cases e;exact⟨o,I.kIn _ o hk,hd⟩
   ·have z:∃ o,s.heap.get? p=qq o/\o.ExactDict:=by
     rcases hk with ⟨aH,hk⟩ | ⟨aH,hk⟩
     ·obtain⟨_,_,_,_,o,_,_,e,ex,_⟩:=I.hok p _ hk;exact⟨o,e,ex⟩
     ·obtain⟨_,_,_,_,o,_,_,e,ex,_⟩:=I.hok p _ hk;exact⟨o,e,ex⟩
    obtain⟨o,e,ex⟩:=z;refine⟨⟨o,e,ex.1⟩,λ a e2=>?_⟩
    cases e2;exact⟨o,e,ex.2.1⟩
   ·obtain⟨o,_,_,_,e,ex,_⟩:=I.hok p _ hk;refine⟨⟨o,e,ex.1⟩,λ a e2=>?_⟩
    cases e2;exact⟨o,e,ex.2.1⟩
 | _=>exact False.elim ty
def yJ(K:FrG)(T:String)(r:V->List V->Hp->VK->Prop)(to:TE)(t:TA):TE:=λ σ H Q=>to σ H λ x H1=>tyV K T x H1/\t σ H1 λ xs H2=>r x xs H2 Q
variable {o e : qw}{es : List qw}{to : TE}{t : TA}{name : Str}{apos cpos : Pos}{T id : String}{r : V -> List V -> Hp -> VK -> Prop}
theorem wF(pa:PlainAttrs T)(slot:Slot T name id)(hty:typeOf (.builtin id)=pure (.type "method_descriptor"))(hm:tY X id r)(ho:PE X o to)(ha:PA X (e::es) t)
 (hbase:attributeBase o name X.env (eval o X.env)=eval o X.env:=by rfl)
 (hfew:((backTo cpos (zv (e::es) X.env)).all (λ x=>!x.1)&&(backToKw cpos (keywordEach [] X.env)).all (λ x=>x.1.isSome)
   && decide ((e::es).length+([]:List Keyword).length+(if ([]:List Keyword).isEmpty then 0 else 1)<30))=true:=by rfl)
 (hline:(apos.endLine==cpos.line)=true:=by rfl) (hs:zv (e::es) X.env=(false,eval e X.env)::zv es X.env:=by rfl) (hplain:(backTo cpos (zv es X.env)).any (·.1)=false:=by rfl) :
 PE X (.Call (.Attribute o name apos) (e::es) [] cpos) (yJ X.K T r to t):=by
 intro aA s σ H Q I h;refine wpAny_Call_method_late hbase hfew hline rfl (aX (ho aA s σ H _ I h) λ v s1 hPq28=>?_)
 obtain⟨x,H1,I1,r1,ty,q1⟩:=hPq28;obtain⟨h1,h2⟩:=aM7 I1 r1 ty;refine⟨T,id,pa,slot,hty,h1,h2,?_⟩;have hA:=ha cpos aA s1 σ H1 _ I1 q1;rw[hs] at hA ⊢;refine Calls.callWith_builtin (by show(false||(backTo cpos (zv es X.env)).any (·.1))=false;rw[hplain]<;>rfl) (Calls.evalArgs_plain ?_)
 exact aX hA λ us s2 ⟨vs,H2,I2,r2,q2⟩=>hm aA s2 σ H2 x vs v us Q I2 r1 r2 q2
end
end L2
namespace L2
open PySem PySem.Spec PyProof.Rows
def MtM(X:Cx)(id:String)(r:V->List V->Hp->VK->Prop):Prop:=
 ∀ (aA:List (qv×Obj)) (s:qj) (σ:St) (H:Hp) (x:V) (xs:List V) (v:qx) (us:List qx) (Q:VK),Inv X aA σ H s->aV x v->aS xs us->r x xs H Q ->
  qu (model X.prog X.w) X.A (call (.builtin id) (v::us)) (EP X aA σ Q) X.xe s
theorem aS.one:∀ {x:V}{us:List qx},aS [x] us->∃ u,us=[u]/\aV x u
 | _,_,.cons r .nil=>⟨_,rfl,r⟩
theorem aS.two:∀ {x y:V}{us:List qx},aS [x,y] us->∃ u v,us=[u,v]/\aV x u/\aV y v
 | _,_,_,.cons r (.cons q .nil)=>⟨_,_,rfl,r,q⟩
theorem aS.zero:∀ {us:List qx},aS [] us->us=[]
 | _,.nil=>rfl
theorem aS.reverse{xs:List V}{us:List qx}(h:aS xs us):aS xs.reverse us.reverse:=by
 induction h with
 | nil=>exact .nil
 | cons r t ih=>rw[yDx,yDx];exact aS.append ih (.cons r .nil)
theorem aS.rep{xs:List V}{us:List qx}(h:aS xs us):∀ k:Nat,aS (yAf k xs).flatten (yAf k us).flatten
 | 0=>.nil
 | k+1=>by
   rw[yAt,yAt,yCn,yCn];exact aS.append h (aS.rep h k)
theorem uQ(its:List qx):∀ (k:Nat) (aG:List qx),
 List.foldl (λ x1 x2=>x1++x2) aG.toArray (yAf k its.toArray)=(aG++(yAf k its).flatten).toArray
 | 0,aG=>by simp
 | k+1,aG=>by
   have e:aG.toArray++its.toArray=(aG++its).toArray:=by simp
   have e2:(aG++its)++(yAf k its).flatten=aG++(yAf (k+1) its).flatten:=by
    rw[yAt,yCn,yDe]
   rw[<- e2,<- uQ its k (aG++its),<- e,yAt,yAk]
section
variable {X : Cx}{aA : List (qv×Obj)}{σ : St}{H : Hp}{s : qj}{l b : qv}{xs ys zs : List V}
theorem Inv.lset{its its':List qx}{n:Nat}{f:Array qx->Array qx}{t':Nat}(I:Inv X aA σ H s)(hH:H l=qq (.lst xs))
 (e:s.heap.get? l=qq {cls:=.type "list",data:=.seq its.toArray n }) (hf:f its.toArray=its'.toArray) (hv:aS ys its') (hz:ys.length<=qk) :
 Inv X aA σ (aT H l (.lst ys)) {s with heap:=s.heap.update l (Obj.mapSeq f),toks:=t' }:=by
 have q:=PySem.IsL.update e f;rw[hf] at q;refine I.write (x:=l) (e:=l) (by rw[hH];exact trivial) (.inl rfl) (λ b' u hb hu=>(yBl s.heap (Obj.mapSeq f) (Ne.symm hb)).trans hu) ⟨_,q⟩ ?_
 exact⟨hz,its',_,hv,q⟩
theorem Inv.lnew{its:List qx}{t':Nat}(I:Inv X aA σ H s)(hv:aS ys its)(hz:ys.length<=qk) :
 Inv X aA σ (aT H s.heap.objs.size (.lst ys)) {s with heap:=s.heap.push {cls:=.type "list",data:=.seq its.toArray },toks:=t' }:=
 I.laid (λ _ _ q=>hpS _ q) (yAc _) ⟨hz,its,0,hv,xAe _ rfl⟩
theorem Inv.fresh(I:Inv X aA σ H s):H s.heap.objs.size=qz:=I.hok.fresh (yAc _)
theorem Inv.lstM(I:Inv X aA σ H s)(hH:H l=qq (.lst xs)):xs.length<=qk/\∃ (its:List qx) (n:Nat),aS xs its/\xs.length=its.length/\s.heap.get? l=qq {cls:=.type "list",data:=.seq its.toArray n }:=by
 obtain⟨z,its,n,r,e⟩:=I.hok l _ hH;exact⟨z,its,n,r,r.length,e⟩
end
section
variable {X : Cx}
noncomputable def aEA:V->List V->Hp->VK->Prop:=λ x vs H Q=>∃ l xs y,x=.ref l/\vs=[y]/\H l=qq (.lst xs)/\xs.length<qk/\Q .non (aT H l (.lst (xs++[y])))
theorem zY:MtM X "list.append" aEA:=by
 intro aA s σ H x vs v us Q I rx rv h;obtain⟨l,xs,y,rfl,rfl,hH,hz,q⟩:=h;cases rx;obtain⟨u,rfl,ru⟩:=rv.one;obtain⟨z,its,n,r,hl,e⟩:=I.lstM hH;refine vq F.slot_list_append ⟨_,e,rfl⟩ F.entry_list_append (F.args_list_append_2 _ _) (PySem.list_append l its.toArray n u (by rw[yAb];omega)) ⟨e,?_⟩
 refine⟨.non,_,I.lset (its':=its++[u]) hH e (by simp) (r.append (.cons ru .nil)) ?_,rfl,q⟩
 rw[xAk,List.length_singleton];omega
theorem aKd{α:Type}(xs:List α)(k:Nat):(yAf k xs).flatten.length=k*xs.length:=by
 induction k with
 | zero=>simp
 | succ k ih=>rw[yAt,yCn,xAk,ih,Nat.succ_mul,Nat.add_comm]
end
section
variable {prog : qo}{w : zq}{A : zj}{E : qx -> qj -> Prop}{s : qj}
end
section
variable {X : Cx}
end
end L2
namespace Att
open PySem PySem.W PySem.Calls PyProof.Rows
theorem aG0{P:Params}{h:Heap}:∀ (ns:List Int) (vs:List qx),WellAll P h vs (ns.map WData.int)->IntsAre vs ns:=by
 intro ns
 induction ns with
 | nil =>
   intro vs w;rw[yCi] at w;cases w;exact .nil
 | cons n ns ih =>
   intro vs w;rw[yAj] at w;cases w with
   | cons a b =>
     cases a;exact .cons _ _ (ih _ b)
theorem script_of{l:OpenLaw}{n:Nat}(hn:l.most=qq n){P:Params}{h:Heap}{args:List WData}{vals:List qx}
 (hpre:l.row.toRowW.claim.pre args=true) (hwl:WellAll P h vals args) :
 ∃ a vs ns,vals=[Value.ref a]/\args=[WData.list (ns.map WData.int)]/\h.get? a=qq {cls:=.type "list",data:=.seq vs.toArray }/\IntsAre vs ns/\ns.length<=n:=by
 have hsh:WShape.hasAll [] args [.list .int]=true:=(pre_splitW hpre).1;have hc:l.pre.holds [] {args:=args }=true:=(pre_splitW hpre).2;obtain⟨d,r,rfl,h1,h2⟩:=hasAllW_cons hsh;obtain rfl:=hasAllW_nil h2;obtain⟨xs,rfl,h3⟩:=hasW_list h1;obtain⟨ns,rfl⟩:=items_int h3;have bZ:ns.length<=n:=by
  unfold OpenLaw.pre at hc;have h4:(WTm.not (.lt (.lit (.int (n:Int))) (.len (.arg 0)))).holds [] {args:=[.list (ns.map .int)] }=true:=by
   have h4:=(holds_andW hc).1;rw[hn] at h4;exact h4
  have h5:=condW_of h4 (w_not (w_lt w_lit (w_len_list (w_arg rfl))));rw[yAg] at h5;refine yEh λ q=>?_
  have q':(n:Int)<((ns.length:Nat):Int):=by omega
  first
   | (rw[dqT q'] at h5;exact absurd h5 (by decide))
   | (simp at h5;omega)
 cases hwl with
 | cons w1 w2 =>
   cases w2;cases w1 with
   | list ho hall=>exact⟨_,_,ns,rfl,rfl,ho,aG0 ns _ hall,bZ⟩
theorem post_true(l:OpenLaw)(args:List WData):l.row.toRowW.claim.post args (.bool true) args=true:=
 postW_of (r:=l.row.toRowW) (X:=(true==true))
  (show WShape.has [] (.bool true) .bool=true by first | rfl | decide | simp[WShape.has,WShape.arms,WShape.armsAll])
  (show(WTm.eq .res (.lit (.bool true))).value [] {args:=args,res:=qq (.bool true),after:=args }=qq (.bool (true==true)) from w_eq_bool (w_res rfl) w_lit) rfl
theorem attach_call{l:OpenLaw}{n:Nat}{q:qo}{loose:List Str}{XP:(Str->Option qx)->Heap->Prop}{YP:zq->Heap->Prop}{d:DefRec}
 (hn:l.most=qq n) (hdf:d.params.defaults=[])
 (call:∀ (w:zq) (s₀ s₁:qj) (mg mb:Str->Option qx) (fa:qv) (o:Obj) (pm cd doc:qx) (a:qv) (vs:List qx) (ns:List Int),
   Ground q loose [] XP w s₀ mg mb s₁.heap->YP w s₁.heap ->
   s₁.heap.get? fa=qq o->o.data=.func (docDef d.name d.params d.body d.scope pm cd doc)->s₁.heap.CodeRec cd d.name->mg d.name=qq (.ref fa) ->
   s₁.heap.get? a=qq {cls:=.type "list",data:=.seq vs.toArray }->IntsAre vs ns->ns.length<=n->s₁.gens = #[] ->
   wq (model l.prog w) callerA (.call (.ref fa) ⟨[.ref a],[]⟩) (λ r s'=>r=.ok (.ret (.bool true))/\OldK s₁.heap s'.heap/\s'.os=s₁.os/\AllBare s'.gens) s₁) :
 WalkO q loose XP YP l.row.toRowW d [] (λ f vs=>PySem.call f vs):=by
 intro w s₀ s₁ mg mb G Y fa o pm cd doc dV kV ho hd hcd hD hmg hg args vals as hpre hlay hrd hwl hlo;obtain rfl:dV=.none:=Dflts.none hD hdf;obtain rfl:kV=.none:=Dflts.noKw hD;obtain⟨a,vs,ns,rfl,rfl,hobj,hints,bZ⟩:=script_of hn hpre hwl;refine enter_call (codeAny_mono (call w s₀ s₁ mg mb fa o pm cd doc a vs ns G Y ho (fd_plain hd) hcd hmg hobj hints bZ hg) λ r s' hq=>?_)
 obtain⟨rfl,h2,h3,h4⟩:=hq;exact⟨.inl ⟨.bool true,.bool true,[],rfl,λ _=>rfl,.bool true,post_true l _,λ _=>⟨List.Pairwise.nil,λ _ hm=>(nomatch hm)⟩⟩,h2,h3,h4⟩
section
variable {prog : qo}{w : zq}{A : zj}{E : qx -> qj -> Prop}{s : qj}{K : Frag}
noncomputable def aQe(h:Heap)(L d:qv):List (qv×Obj):=(yBe h.objs.size).filterMap λ a=>if a=L\/a=d then qz else (h.get? a).map λ o=>(a,o)
end
end Att
namespace L2
open PySem PySem.Spec PyProof.Rows
theorem aC2:∀ {vs:List qx}{ns:List Int},IntsAre vs ns->aS (ns.map V.int) vs
 | _,_,.nil=>.nil
 | _,_,.cons n t h=>.cons ⟨t,rfl⟩ (aC2 h)
def aBI(H:Hp):Prop:=∀ b,H b=qz\/∃ o xs,H b=qq (.frz o (.lst xs))
theorem law_call{P:qo}{w:zq}{K:FrG}{mg mb:Str->Option qx}{CX:hZ}{k:Nat}{fa a:qv}{fd:xu}{x:Str}{sp:Sp}{s₁:qj}{vs:List qx}{ns:List Int}
 (KX:K.In s₁.heap) (hns:s₁.heap.Ns qy mg) (hb:s₁.heap.Ns builtinsNs mb) (hbb:∀ x:Str,x ≠ "__name__" -> mb x=zu x) (hlim:s₁.heap.NoLimit) (hg:s₁.gens = #[])
 (ha:s₁.heap.get? a=qq {cls:=.type "list",data:=.seq vs.toArray }) (hi:IntsAre vs ns) (hl:ns.length<=qk) (hr:Room k callerA)
 (F:∀ base:Heap,K.In base->base.Ns qy mg->FnOk P w K mg base CX k fa fd [x] sp) (hbind:∀ (s:qj) (u:qx),BindsTo s fd ⟨[u],[]⟩ [(x,u)])
 (hsp:∀ H:Hp,aBI H->bF K H a (ns.map V.int)->sp [.ref a] H (λ v _=>v=.bl true) λ _ _ _=>False)
 (hCX:∀ H e s',CX [] H s₁ (λ _ _ _=>False) e s'->False) :
 wq (model P w) callerA (.call (.ref fa) ⟨[.ref a],[]⟩) (λ r s'=>r=.ok (.ret (.bool true))/\OldK s₁.heap s'.heap/\s'.os=s₁.os/\AllBare s'.gens) s₁:=by
 have rv:=aC2 hi;have lenV:=hi.length;have core:∀ H:Hp,aBI H->bF K H a (ns.map V.int)->cL P w H s₁.heap->(∀ b,H b≠qz->b=a)->(H a≠qz->K.lookup a=qz) ->
  wq (model P w) callerA (.call (.ref fa) ⟨[.ref a],[]⟩) (λ r s'=>r=.ok (.ret (.bool true))/\OldK s₁.heap s'.heap/\s'.os=s₁.os/\AllBare s'.gens) s₁:=by
  intro H hO hS hok hA hK;have mM:∀ {b:qv}{o:Obj},s₁.heap.get? b=qq o->H b=qz->(lB s₁.heap H).get? b=qq o:=λ e n=>aJj e n
  have noA:∀ {b:qv}{o:Obj}{es:Array DictEntry}{ep:Nat},s₁.heap.get? b=qq o->o.data=.dict es ep->H b=qz:=λ {b o es ep} e d=>by
   cases q:H b with
   | none=>rfl
   | some u =>
     have e':b=a:=hA b (by rw[q];simp)
     subst e';rw[ha] at e;cases e;have d':Data.seq vs.toArray _=Data.dict es ep:=d;cases d'
  have nsK:∀ {b:qv}{m:Str->Option qx},s₁.heap.Ns b m->(lB s₁.heap H).Ns b m:=λ {b m} ⟨o,es,ep,e,d,r⟩=>⟨o,es,ep,mM e (noA e d),d,r⟩
  have hKb:K.In (lB s₁.heap H):=λ b o e=>mM (KX b o e) (by
   cases q:H b with
   | none=>rfl
   | some u =>
     have e':b=a:=hA b (by rw[q];simp)
     subst e';rw[hK (by rw[q];simp)] at e;cases e)
  have hM:Mod K mg (lB s₁.heap H):=⟨hKb,nsK hns,⟨mb,nsK hb,hbb⟩,let ⟨mc,h1,h2⟩:=hlim;⟨mc,nsK h1,h2⟩⟩;have e0:Env0 P w K mg (lB s₁.heap H) callerA [] s₁ H:=⟨rfl,hM,λ b o e=>aKo e,yEa (aIk _ _),trivial,λ b hb=>absurd (show b∈([]:List qv) from hb) (by simp),hok,.of_eq hg⟩
  refine codeAny_mono ((F _ hKb (nsK hns)).run callerA [] s₁ H ⟨[.ref a],[]⟩ [.ref a] [.ref a] _ _ hr e0 (hbind s₁ (.ref a)) (.cons rfl .nil) (hsp H hO hS)) λ r s' h=>?_
  cases r with
  | error e=>exact(hCX H e s' h).elim
  | ok fl =>
    cases fl with
    | next=>exact False.elim h
    | brk=>exact False.elim h
    | cont=>exact False.elim h
    | ret u =>
      obtain⟨v,H',os,bare,un,hok',r',q⟩:=h;have q':v=.bl true:=q;subst q';obtain rfl:u=Value.bool true:=r';refine⟨rfl,OldK.of_keep λ b o e=>?_,os,bare⟩
      cases q:H b with
      | none=>exact un.keep b o e q (by intro z;exact absurd (show b∈([]:List qv) from z) (by simp)) (by simp)
      | some u =>
        rcases hO b with z | ⟨ob,xs,z⟩
        ·rw[q] at z;cases z
        ·have z2:=un.frzs b ob _ z;obtain⟨e1,_⟩:=hok b _ z;obtain⟨e2,_⟩:=hok' b _ z2;rw[e] at e1;cases e1;exact e2
 cases hk:K.lookup a with
 | some o =>
   have e:=KX a o hk;rw[ha] at e;cases e;refine core (λ _=>qz) (λ _=>.inl rfl) (.inr ⟨_,vs.toArray,_,hk,rfl,rfl,rfl,by rw[yAb,lenV];exact hl,by simpa using rv⟩) (λ b u z=>by have z':(qz:Option HO)=qq u:=z;cases z') (λ b z=>absurd rfl z) λ z=>absurd rfl z
 | none =>
   refine core (λ b=>if b=a then qq (.frz {cls:=.type "list",data:=.seq vs.toArray } (.lst (ns.map V.int))) else qz) (λ b=>?_) (.inl (.inr ⟨{cls:=.type "list",data:=.seq vs.toArray },if_pos rfl⟩)) (λ b u z=>?_) (λ b z=>?_) λ _=>hk
   ·by_cases hb:b=a
    ·exact .inr ⟨_,_,if_pos hb⟩
    ·exact .inl (if_neg hb)
   ·by_cases hb:b=a
    ·have z':=(if_pos hb).symm.trans z;cases z';subst hb;exact⟨ha,by rw[yAg];exact hl,vs,_,rv,ha⟩
    ·have z':=(if_neg hb).symm.trans z;cases z'
   ·by_cases hb:b=a
    ·exact hb
    ·exact absurd (if_neg hb) z
end L2
namespace L2
open PySem PySem.Spec PyProof.Rows
noncomputable abbrev KOf{K:FrG}{h:Heap}(_:K.In h):FrG:=K
theorem aQc{l:yFj}{n k:Nat}{q:qo}{loose:List Str}{XP:(Str->Option qx)->Heap->Prop}{YP:zq->Heap->Prop}{d:DefRec}{K:Params->FrG}{CX:zq->hZ}{sp:zq->Sp}{x:Str}
 (hn:l.most=qq n) (hn2:n<=qk) (hdf:d.params.defaults=[]) (hr:Room k callerA)
 (hY:∀ (w:zq) (h:Heap),YP w h->(K w.params).In h)
 (F:∀ (w:zq) (mg:Str->Option qx) (fa:qv) (h:Heap),(K w.params).In h->h.Ns qy mg->mg d.name=qq (.ref fa) ->
   ∃ fd:xu,(∀ (s:qj) (u:qx),BindsTo s fd ⟨[u],[]⟩ [(x,u)]) /\
    ∀ base:Heap,(K w.params).In base->base.Ns qy mg->FnOk l.prog w (K w.params) mg base (CX w) k fa fd [x] (sp w))
 (hsp:∀ (w:zq) (H:Hp) (a:qv) (ns:List Int),ns.length<=n->aBI H->bF (K w.params) H a (ns.map V.int)->sp w [.ref a] H (λ v _=>v=.bl true) λ _ _ _=>False)
 (hCX:∀ (w:zq) (H:Hp) (s:qj) (e:qx) (s':qj),CX w [] H s (λ _ _ _=>False) e s'->False) :
 PySem.W.WalkO q loose XP YP l.row.toRowW d [] (λ f vs=>PySem.call f vs):=by
 refine Att.attach_call hn hdf λ w s₀ s₁ mg mb fa o pm cd doc a vs ns G Y ho hd hcd hmg hobj hints bZ hg=>?_
 have KX:=hY w _ Y;obtain⟨fd,hb,hF⟩:=F w mg fa _ KX G.T.g hmg;exact law_call KX G.T.g G.T.b G.T.builtins G.T.nolimit hg hobj hints (xAg bZ hn2) hr hF hb (λ H hO hS=>hsp w H a ns bZ hO hS) λ H e s'=>hCX w H s₁ e s'
end L2
namespace L2
open PySem PySem.Spec PyProof.Rows
noncomputable def rE(s:zk)(j:Nat):zk:=match s with
 | .ClassDef _ _ _ body _ _ _ _ _ _ _=>body.getD j (.Pass ⟨0,0,0,0⟩)
 | _=>.Pass ⟨0,0,0,0⟩
noncomputable def gT(s:zk):Arguments:=match s with
 | .FunctionDef _ a _ _ _ _ _ _ _ _=>a
 | _=>{posonlyargs:=[],args:=[],vararg:=qz,kwonlyargs:=[],kw_defaults:=[],kwarg:=qz,defaults:=[] }
noncomputable def dN(s:zk):List zk:=match s with
 | .FunctionDef _ _ b _ _ _ _ _ _ _=>b
 | _=>[]
noncomputable def bH(s:zk):zy:=match s with
 | .FunctionDef _ _ _ _ _ _ sc _ _ _=>sc
 | _=>{kind:=.function,names:=[],isGenerator:=false,isCoroutine:=false }
noncomputable abbrev fH:hZ:=λ _ _ _ _ _ _=>False
noncomputable abbrev E0:XK:=λ _ _ _=>False
theorem aFu{X:Cx}:vV fH X E0:=λ _ _ _ _ _ _ _ h=>h.elim
structure Fun(K:FrG)(x bE:Str)(st:zk)(f:qv)(fd:xu):Prop where
 ex:∃ (oc:qx) (od:Option qv) (kV doc pm:qx) (an:Option qv) (cdv ct:qx) (osl:Array (Option qx)),
  fd=yBv x bE (gT st) (dN st) (bH st) .none kV doc pm an cdv ct/\K.lookup f=qq ⟨oc,od,.func fd,osl⟩/\yDi K cdv bE=true
 kp:yBq K (.ref f)=true
section
variable {P : qo}{w : zq}{K : FrG}{mg : Str -> Option qx}{base : Heap}
theorem Fun.ok{x bE:Str}{st:zk}{f:qv}{fd:xu}{N ps:List Str}{k:Nat}{sp:Sp}(F:Fun K x bE st f fd)(S:FnScope N ps (bH st))(len:∀ vs H Q E,sp vs H Q E->vs.length=ps.length)
 (hbody:∀ (cdv:qx) (A:zj) (outer:List Env) (s:qj) (H:Hp) (vs:List V) (Q:VK) (E:XK),Room k (A.deeper (envOfC bE (bH st) s.heap.objs.size f cdv))->sp vs H Q E ->
   ∃ t,bO (hB fH P w K mg base N bE (bH st) f cdv A outer s H E).nox (dN st) t/\t {nx:=λ _ H'=>Q .non H',rt:=Q } (start N vs) H):FnOk P w K mg base fH (k+1) f fd ps sp:=by
 obtain⟨oc,od,kV,doc,pm,an,cdv,ct,osl,rfl,lk,hcd⟩:=F.ex;refine aFP lk hcd S len λ A outer s H vs Q E hr hsp=>?_
 obtain⟨t,h,q⟩:=hbody cdv A outer s H vs Q E hr hsp;exact⟨t,h.nox,q⟩
theorem Fun.binds{x bE:Str}{st:zk}{f:qv}{fd:xu}{ps:List Str}(F:Fun K x bE st f fd)
 (h:∀ (kV doc pm:qx) (an:Option qv) (cdv ct:qx) (us:List qx),us.length=ps.length->bindArgs (yBv x bE (gT st) (dN st) (bH st) .none kV doc pm an cdv ct) ⟨us,[]⟩=pure (ps.zip us)):dD K fd ps []:=by
 obtain⟨oc,od,kV,doc,pm,an,cdv,ct,osl,rfl,lk,hcd⟩:=F.ex;exact .all (h kV doc pm an cdv ct)
theorem aEQ{x bE:Str}{st:zk}{f:qv}{oc:qx}{od an:Option qv}{osl:Array (Option qx)}{kV doc pm cdv ct:qx}(l:K.lookup f=qq ⟨oc,od,.func (yBv x bE (gT st) (dN st) (bH st) .none kV doc pm an cdv ct),osl⟩)
 (c:yDi K cdv bE=true) (k:yBq K (.ref f)=true):Fun K x bE st f (yBv x bE (gT st) (dN st) (bH st) .none kV doc pm an cdv ct):=⟨⟨oc,od,kV,doc,pm,an,cdv,ct,osl,rfl,l,c⟩,k⟩
end
section
variable {X : Cx}
end
theorem nL{A B:Prop}(h:B):if false=true then A else B:=by
 rw[if_neg yAp];exact h
theorem nO{A B:Prop}(h:A):if true=true then A else B:=by
 rw[if_pos rfl];exact h
def bN(H H':Hp):Prop:=∀ b o,H b=qq o->H' b=qq o
theorem bN.refl(H:Hp):bN H H:=λ _ _ h=>h
theorem bN.trans{H H1 H2:Hp}(a:bN H H1)(b:bN H1 H2):bN H H2:=λ c o h=>b c o (a c o h)
theorem bN.free{H H':Hp}(e:bN H H'){l:qv}(h:H' l=Option.none):H l=Option.none:=by
 cases q:H l with
 | none=>rfl
 | some o =>
   rw[e l o q] at h;cases h
theorem bN.seq{K:FrG}{H H':Hp}{a:qv}{xs:List V}(e:bN H H')(h:bF K H a xs):bF K H' a xs:=by
 rcases h with (h | ⟨o,h⟩) | h
 ·exact .inl (.inl (e _ _ h))
 ·exact .inl (.inr ⟨o,e _ _ h⟩)
 ·exact .inr h
end L2
set_option maxHeartbeats 4000000
namespace EV
open PySem L2 PySem.Spec PyProof.Rows
abbrev D:=PyData
inductive W where
 | d (x:D) | loc (n:Nat) | exc (c:Str) (r:D)
abbrev aC:=List (Option (List D))
abbrev aU:=List (Option W)
abbrev St:=L2.St
noncomputable def sQ(F:Hp)(d:Option qv):D->Prop
 | .none=>d=qz
 | .int i=>∃ dx,d=qq dx/\F dx=qq (.xd [("row",.int i)])
 | _=>False
def iS(K:FrG)(F:Hp)(a:qv)(c:Str)(r:D):Prop:=∃ C oe,F a=qq (.ext λ h=>h.get? a=qq oe)/\oe.cls=.ref C/\PySem.W.notCls oe=true/\yBx K qy c=qq (qq (.ref C))/\sQ F oe.dict r
theorem sQ.mono{F F':Hp}(e:bN F F'){d:Option qv}{r:D}(h:sQ F d r):sQ F' d r:=by
 cases r with
 | none=>exact h
 | int i=>obtain⟨dx,h1,h2⟩:=h;exact⟨dx,h1,e _ _ h2⟩
 | _=>exact h
theorem iS.mono{K:FrG}{F F':Hp}(e:bN F F'){a:qv}{c:Str}{r:D}(h:iS K F a c r):iS K F' a c r:=by
 obtain⟨C,oe,h1,h2,h3,h4,h5⟩:=h;exact⟨C,oe,e _ _ h1,h2,h3,h4,h5.mono e⟩
section
variable (K : FrG)(F : Hp)
mutual
inductive Den:D->V->Prop
 | non:Den .none .non
 | bl (b:Bool):Den (.bool b) (.bl b)
 | int (i:Int):Den (.int i) (.int i)
 | str (x:Str):Den (.str x) (.str x)
 | lst {a:qv}{xs:List V}{ds:List D}:bF K F a xs->DenL ds xs->Den (.list ds) (.ref a)
 | tup {a:qv}{xs:List V}{ds:List D}:bL K F a xs->DenL ds xs->Den (.tuple ds) (.ref a)
 | exc {a:qv}{c:Str}{r:D}:iS K F a c r->Den (.dict [(.str c,r)]) (.ref a)
inductive DenL:List D->List V->Prop
 | nil:DenL [] []
 | cons {d:D}{ds:List D}{x:V}{xs:List V}:Den d x->DenL ds xs->DenL (d::ds) (x::xs)
end
end
theorem gX{K:FrG}{H H':Hp}{a:qv}{xs:List V}(e:bN H H')(h:bL K H a xs):bL K H' a xs:=by
 rcases h with (h | ⟨o,h⟩) | h
 ·exact .inl (.inl (e _ _ h))
 ·exact .inl (.inr ⟨o,e _ _ h⟩)
 ·exact .inr h
section
variable {K : FrG}{F F' : Hp}
mutual
theorem Den.mono(e:bN F F'):∀ {d:D}{v:V},Den K F d v->Den K F' d v
 | _,_,.non=>.non
 | _,_,.bl b=>.bl b
 | _,_,.int i=>.int i
 | _,_,.str x=>.str x
 | _,_,.lst h r=>.lst (e.seq h) (DenL.mono e r)
 | _,_,.tup h r=>.tup (gX e h) (DenL.mono e r)
 | _,_,.exc h=>.exc (h.mono e)
theorem DenL.mono(e:bN F F'):∀ {ds:List D}{xs:List V},DenL K F ds xs->DenL K F' ds xs
 | _,_,.nil=>.nil
 | _,_,.cons h r=>.cons (Den.mono e h) (DenL.mono e r)
end
theorem DenL.length:∀ {ds:List D}{xs:List V},DenL K F ds xs->ds.length=xs.length
 | _,_,.nil=>rfl
 | _,_,.cons _ r=>congrArg (· + 1) (DenL.length r)
theorem DenL.get:∀ {ds:List D}{xs:List V}{i:Nat}{d:D},DenL K F ds xs->ds[i]? = qq d->∃ x,xs[i]? = qq x/\Den K F d x
 | _,_,_,_,.nil,e=>by simp at e
 | _,_,0,_,.cons h _,e=>by simp at e;subst e;exact⟨_,rfl,h⟩
 | _,_,i+1,d,.cons _ r,e=>by
   obtain⟨x,h1,h2⟩:=DenL.get (i:=i) (d:=d) r (by simpa using e)
   exact⟨x,by simpa using h1,h2⟩
theorem DenL.append:∀ {ds es:List D}{xs ys:List V},DenL K F ds xs->DenL K F es ys->DenL K F (ds++es) (xs++ys)
 | _,_,_,_,.nil,s=>s
 | _,_,_,_,.cons h r,s=>.cons h (DenL.append r s)
theorem DenL.take:∀ {ds:List D}{xs:List V} (n:Nat),DenL K F ds xs->DenL K F (ds.take n) (xs.take n)
 | _,_,0,_=>.nil
 | _,_,_+1,.nil=>.nil
 | _,_,n+1,.cons h r=>.cons h (DenL.take n r)
theorem DenL.drop:∀ {ds:List D}{xs:List V} (n:Nat),DenL K F ds xs->DenL K F (ds.drop n) (xs.drop n)
 | _,_,0,r=>r
 | _,_,_+1,.nil=>.nil
 | _,_,n+1,.cons _ r=>DenL.drop n r
theorem DenL.set:∀ {ds:List D}{xs:List V} (i:Nat) {d:D}{x:V},DenL K F ds xs->Den K F d x->DenL K F (ds.set i d) (xs.set i x)
 | _,_,_,_,_,.nil,_=>.nil
 | _,_,0,_,_,.cons _ r,h=>.cons h r
 | _,_,i+1,_,_,.cons q r,h=>.cons q (DenL.set i r h)
theorem DenL.reverse:∀ {ds:List D}{xs:List V},DenL K F ds xs->DenL K F ds.reverse xs.reverse
 | _,_,.nil=>.nil
 | _,_,.cons h r=>by
   rw[yDx,yDx];exact DenL.append (DenL.reverse r) (.cons h .nil)
theorem DenL.rep{ds:List D}{xs:List V}(h:DenL K F ds xs):∀ n:Nat,DenL K F (yAf n ds).flatten (yAf n xs).flatten
 | 0=>.nil
 | n+1=>by
   rw[yAt,yAt,yCn,yCn];exact h.append (DenL.rep h n)
theorem DenL.of_ints:∀ (ns:List Int),DenL K F (ns.map yAl) (ns.map V.int)
 | []=>.nil
 | n::r=>.cons (.int n) (DenL.of_ints r)
end
structure Rel(K:FrG)(F:Hp)(L:List qv)(S:aC)(H:Hp):Prop where
 sub:bN F H
 nd:L.Nodup
 len:L.length=S.length
 loc:∀ (n:Nat) (a:qv) (ds:List D),L[n]? = qq a->S[n]? = qq (qq ds)->F a=qz/\∃ xs,H a=qq (.lst xs)/\DenL K F ds xs
 tr:∀ (n:Nat) (a:qv),L[n]? = qq a->∃ xs,H a=qq (.lst xs)
noncomputable def dU(K:FrG)(F:Hp)(L:List qv):W->V->Prop
 | .d x,v=>Den K F x v
 | .loc n,v=>∃ a,L[n]? = qq a/\v=.ref a
 | .exc c r,v=>∃ a,v=.ref a/\iS K F a c r
structure EnvR(K:FrG)(F:Hp)(L:List qv)(env:aU)(σ:St):Prop where
 len:env.length=σ.length
 get:∀ (i:Nat) (w:W),env[i]? = qq (qq w)->∃ v,σ[i]? = qq (qq v)/\dU K F L w v
structure Gr(F:Hp)(L:List qv)(F':Hp)(L':List qv):Prop where
 f:bN F F'
 l:∃ M,L'=L++M
section
variable {K : FrG}{F F' F'' H H' : Hp}{L L' L'' : List qv}{S S' : aC}
theorem Gr.refl:Gr F L F L:=⟨bN.refl _,[],by simp⟩
theorem Gr.trans(a:Gr F L F' L')(b:Gr F' L' F'' L''):Gr F L F'' L'':=by
 obtain⟨f1,M,rfl⟩:=a;obtain⟨f2,N,rfl⟩:=b;exact⟨f1.trans f2,M++N,by rw[yDe]⟩
theorem Gr.get(g:Gr F L F' L'){n:Nat}{a:qv}(h:L[n]? = qq a):L'[n]? = qq a:=by
 obtain⟨_,M,rfl⟩:=g;rw[xAj (gIm h).1];exact h
theorem dU.mono(g:Gr F L F' L'){w:W}{v:V}(h:dU K F L w v):dU K F' L' w v:=by
 cases w with
 | d x=>exact Den.mono g.f h
 | loc n=>obtain⟨a,e,r⟩:=h;exact⟨a,g.get e,r⟩
 | exc c r=>obtain⟨a,e,h⟩:=h;exact⟨a,e,h.mono g.f⟩
theorem EnvR.mono(g:Gr F L F' L'){env:aU}{σ:St}(h:EnvR K F L env σ):EnvR K F' L' env σ:=
 ⟨h.len,λ i w e=>let ⟨v,e1,r⟩:=h.get i w e;⟨v,e1,r.mono g⟩⟩
theorem EnvR.set{env:aU}{σ:St}(h:EnvR K F L env σ)(i:Nat){w:W}{v:V}(r:dU K F L w v):EnvR K F L (env.set i (qq w)) (σ.set i (qq v)):=by
 refine⟨by rw[yAq,yAq];exact h.len,λ j u e=>?_⟩
 by_cases hj:i=j
 ·subst hj;have hl:i<env.length:=by
   rcases yEc i env.length with q | q
   ·exact q
   ·rw[yCz (by rw[yAq];exact q)] at e;cases e
  rw[yAn hl] at e;cases e;exact⟨v,yAn (by rw[<- h.len];exact hl),r⟩
 ·rw[yAm hj] at e;obtain⟨x,e1,r1⟩:=h.get j u e;exact⟨x,by rw[yAm hj];exact e1,r1⟩
theorem dG{p:qv}{o:HO}(h:H p=qz):bN H (aT H p o):=λ b u q=>by rw[aW (dF q h)];exact q
theorem Rel.new(r:Rel K F L S H){p:qv}{o:HO}(h:H p=qz):Rel K (aT F p o) L S (aT H p o):=by
 have hF:F p=qz:=r.sub.free h;refine⟨λ b u q=>?_,r.nd,r.len,λ n a ds e1 e2=>?_,λ n a e=>?_⟩
 ·by_cases hb:b=p
  ·subst hb;rw[bQ] at q ⊢;exact q
  ·rw[aW hb] at q ⊢;exact r.sub _ _ q
 ·obtain⟨f,xs,e3,dl⟩:=r.loc n a ds e1 e2;have ne:a≠p:=dF e3 h;exact⟨by rw[aW ne];exact f,xs,by rw[aW ne];exact e3,DenL.mono (dG hF) dl⟩
 ·obtain⟨xs,hx⟩:=r.tr n a e;exact⟨xs,by rw[aW (dF hx h)];exact hx⟩
theorem Gr.new{p:qv}{o:HO}(h:F p=qz):Gr F L (aT F p o) L:=⟨dG h,[],by simp⟩
theorem Rel.newLoc(r:Rel K F L S H){p:qv}{xs:List V}{ds:List D}(h:H p=qz)(dl:DenL K F ds xs):Rel K F (L++[p]) (S++[qq ds]) (aT H p (.lst xs)):=by
 have hF:F p=qz:=r.sub.free h;refine⟨λ b u q=>?_,?_,by rw[xAk,xAk,r.len]<;>rfl,λ n a es e1 e2=>?_,λ n a e=>?_⟩
 ·rw[aW (dF q hF)];exact r.sub _ _ q
 ·rw[yFa];refine⟨r.nd,by simp,λ a ha b hb=>?_⟩
  rw[yBk] at hb;subst hb;obtain⟨n,hn⟩:=List.getElem?_of_mem ha;obtain⟨xs,hx⟩:=r.tr n a hn;exact dF hx h
 ·by_cases hn:n<L.length
  ·rw[xAj hn] at e1;rw[xAj (by rw[<- r.len];exact hn)] at e2
   obtain⟨f,ys,e3,dl'⟩:=r.loc n a es e1 e2;exact⟨f,ys,by rw[aW (dF e3 h)];exact e3,dl'⟩
  ·rw[yAe (by omega)] at e1
   rw[yAe (by rw[<- r.len];omega)] at e2
   have z:n-L.length=0:=by
    have:=(gIm e1).1;simp at this;omega
   rw[<- r.len] at e2;rw[z] at e1 e2;simp at e1 e2;subst e1 e2;exact⟨hF,xs,bQ,dl⟩
 ·by_cases hn:n<L.length
  ·rw[xAj hn] at e;obtain⟨ys,hy⟩:=r.tr n a e;exact⟨ys,by rw[aW (dF hy h)];exact hy⟩
  ·rw[yAe (by omega)] at e
   have z:a=p:=by
    have h1:=xAi e;simpa using h1
   exact⟨xs,by rw[z];exact bQ⟩
theorem Rel.lay(r:Rel K F L S H){p:qv}{o:HO}(h:H p=qz):Rel K F L S (aT H p o):=by
 refine⟨λ b u q=>by rw[aW (dF q (r.sub.free h))];exact r.sub _ _ q,r.nd,r.len,λ n a ds e1 e2=>?_,λ n a e=>?_⟩
 ·obtain⟨f,xs,e3,dl⟩:=r.loc n a ds e1 e2;exact⟨f,xs,by rw[aW (dF e3 h)];exact e3,dl⟩
 ·obtain⟨xs,hx⟩:=r.tr n a e;exact⟨xs,by rw[aW (dF hx h)];exact hx⟩
theorem Rel.notin(r:Rel K F L S H){p:qv}(h:H p=qz):p ∉ L:=λ hp=>by
 obtain⟨n,hn⟩:=List.getElem?_of_mem hp;obtain⟨xs,hx⟩:=r.tr n p hn;rw[h] at hx;cases hx
theorem Rel.adopt(r:Rel K F L S H){p:qv}{xs:List V}(hF:F p=qz)(hL:p ∉ L)(hH:H p=qq (.lst xs)):Rel K (aT F p (.lst xs)) L S H:=by
 refine⟨λ b u q=>?_,r.nd,r.len,λ n a ds e1 e2=>?_,r.tr⟩
 ·by_cases hb:b=p
  ·subst hb;rw[bQ] at q;rw[hH];exact q
  ·rw[aW hb] at q;exact r.sub _ _ q
 ·obtain⟨f,ys,e3,dl⟩:=r.loc n a ds e1 e2;have ne:a≠p:=λ z=>hL (by rw[<- z];exact xAi e1)
  exact⟨by rw[aW ne];exact f,ys,e3,dl.mono (dG hF)⟩
theorem Rel.adoptLoc(r:Rel K F L S H){p:qv}{xs:List V}{ds:List D}(hF:F p=qz)(hL:p ∉ L)(hH:H p=qq (.lst xs))(dl:DenL K F ds xs):Rel K F (L++[p]) (S++[qq ds]) H:=by
 refine⟨r.sub,?_,by rw[xAk,xAk,r.len]<;>rfl,λ n a es e1 e2=>?_,λ n a e=>?_⟩
 ·rw[yFa];refine⟨r.nd,by simp,λ a ha b hb=>?_⟩
  rw[yBk] at hb;subst hb;exact λ z=>hL (z▸ha)
 ·by_cases hn:n<L.length
  ·rw[xAj hn] at e1;rw[xAj (by rw[<- r.len];exact hn)] at e2
   exact r.loc n a es e1 e2
  ·rw[yAe (by omega)] at e1
   rw[yAe (by rw[<- r.len];omega)] at e2
   have z:n-L.length=0:=by
    have:=(gIm e1).1;simp at this;omega
   rw[<- r.len] at e2;rw[z] at e1 e2;simp at e1 e2;subst e1 e2;exact⟨hF,xs,hH,dl⟩
 ·by_cases hn:n<L.length
  ·rw[xAj hn] at e;exact r.tr n a e
  ·rw[yAe (by omega)] at e
   have z:a=p:=by
    have h1:=xAi e;simpa using h1
   exact⟨xs,by rw[z];exact hH⟩
theorem Gr.newLoc{p:qv}:Gr F L F (L++[p]):=⟨bN.refl _,[p],rfl⟩
theorem Rel.put(r:Rel K F L S H){n:Nat}{a:qv}{ys:List V}{es:List D}(e:L[n]? = qq a)(hF:F a=qz)(dl:DenL K F es ys):Rel K F L (S.set n (qq es)) (aT H a (.lst ys)):=by
 refine⟨λ b u q=>by rw[aW (dF q hF)];exact r.sub _ _ q,r.nd,by rw[yAq];exact r.len,λ m b fs e1 e2=>?_,λ m b e1=>?_⟩
 ·by_cases hm:n=m
  ·subst hm;rw[e] at e1;cases e1;have hl:n<S.length:=by rw[<- r.len];exact(gIm e).1
   rw[yAn hl] at e2;cases e2;exact⟨hF,ys,bQ,dl⟩
  ·rw[yAm hm] at e2;have ne:b≠a:=λ z=>by
    subst z;have h1:=(gIm e);have h2:=(gIm e1);obtain⟨l1,g1⟩:=h1;obtain⟨l2,g2⟩:=h2;exact hm ((yFf r.nd).mp (g1.trans g2.symm))
   obtain⟨f,xs,e3,d3⟩:=r.loc m b fs e1 e2;exact⟨f,xs,by rw[aW ne];exact e3,d3⟩
 ·by_cases hb:b=a
  ·exact⟨ys,by rw[hb];exact bQ⟩
  ·obtain⟨zs,hz⟩:=r.tr m b e1;exact⟨zs,by rw[aW hb];exact hz⟩
theorem Rel.freeze(r:Rel K F L S H){n:Nat}{a:qv}{ds:List D}(e:L[n]? = qq a)(es:S[n]? = qq (qq ds)) :
 ∃ F',Gr F L F' L/\Rel K F' L (S.set n qz) H/\Den K F' (.list ds) (.ref a):=by
 obtain⟨hF,xs,e3,dl⟩:=r.loc n a ds e es;refine⟨aT F a (.lst xs),Gr.new hF,⟨λ b u q=>?_,r.nd,by rw[yAq];exact r.len,λ m b fs e1 e2=>?_,r.tr⟩,.lst (bF.of bQ) (dl.mono (dG hF))⟩
 ·by_cases hb:b=a
  ·subst hb;rw[bQ] at q;rw[e3];exact q
  ·rw[aW hb] at q;exact r.sub _ _ q
 ·by_cases hm:n=m
  ·subst hm;have hl:n<S.length:=(gIm es).1;rw[yAn hl] at e2;cases e2
  ·rw[yAm hm] at e2;have ne:b≠a:=λ z=>by
    subst z;obtain⟨l1,g1⟩:=gIm e;obtain⟨l2,g2⟩:=gIm e1;exact hm ((yFf r.nd).mp (g1.trans g2.symm))
   obtain⟨f,ys,e4,d4⟩:=r.loc m b fs e1 e2;exact⟨by rw[aW ne];exact f,ys,e4,d4.mono (dG hF)⟩
theorem Rel.cut{M:List qv}(r:Rel K F (L++M) S H):Rel K F L (S.take L.length) H:=by
 have hl:L.length<=S.length:=by have:=r.len;rw[xAk] at this;omega
 refine⟨r.sub,(List.nodup_append.mp r.nd).1,by rw[yBs];omega,λ n a ds e1 e2=>?_,λ n a e1=>?_⟩
 ·have hn:n<L.length:=(gIm e1).1;rw[List.getElem?_take_of_lt hn] at e2;exact r.loc n a ds (by rw[xAj hn];exact e1) e2
 ·have hn:n<L.length:=(gIm e1).1;exact r.tr n a (by rw[xAj hn];exact e1)
end
def bJ(K:FrG)(F H:Hp)(x:D)(v:V):Prop:=Den K F x v\/∃ ds a xs,x=.list ds/\v=.ref a/\H a=qq (.lst xs)/\DenL K F ds xs
noncomputable def dr(S:aC):W->Option D
 | .d x=>qq x
 | .loc n=>match S[n]? with
   | some (qq ds)=>qq (.list ds)
   | _=>qz
 | .exc _ _=>qz
theorem iN{K:FrG}{F H:Hp}{L:List qv}{S:aC}{w:W}{x:D}{v:V}(r:Rel K F L S H)(h:dU K F L w v)(e:dr S w=qq x):bJ K F H x v:=by
 cases w with
 | d y=>cases e;exact .inl h
 | exc c r=>cases e
 | loc n =>
   obtain⟨a,e1,rfl⟩:=h;cases e2:S[n]? with
   | none=>simp[dr,e2] at e
   | some o =>
     cases o with
     | none=>simp[dr,e2] at e
     | some ds =>
       simp[dr,e2] at e;subst e;obtain⟨f,xs,e3,dl⟩:=r.loc n a ds e1 e2;exact .inr ⟨ds,a,xs,rfl,rfl,e3,dl⟩
section
variable {K : FrG}{F H : Hp}{v : V}
theorem bJ.non(h:bJ K F H .none v):v=.non:=by
 rcases h with h | ⟨_,_,_,e,_⟩
 ·cases h;rfl
 ·cases e
theorem bJ.bl{b:Bool}(h:bJ K F H (.bool b) v):v=.bl b:=by
 rcases h with h | ⟨_,_,_,e,_⟩
 ·cases h;rfl
 ·cases e
theorem bJ.int{i:Int}(h:bJ K F H (.int i) v):v=.int i:=by
 rcases h with h | ⟨_,_,_,e,_⟩
 ·cases h;rfl
 ·cases e
theorem bJ.str{x:Str}(h:bJ K F H (.str x) v):v=.str x:=by
 rcases h with h | ⟨_,_,_,e,_⟩
 ·cases h;rfl
 ·cases e
theorem bJ.lst{ds:List D}(s:bN F H)(h:bJ K F H (.list ds) v):∃ a xs,v=.ref a/\bF K H a xs/\DenL K F ds xs:=by
 rcases h with h | ⟨_,a,xs,e,e2,e3,dl⟩
 ·cases h with
  | lst q r=>exact⟨_,_,rfl,s.seq q,r⟩
 ·cases e;exact⟨a,xs,e2,bF.of e3,dl⟩
theorem bJ.tup{ds:List D}(s:bN F H)(h:bJ K F H (.tuple ds) v):∃ a xs,v=.ref a/\bL K H a xs/\DenL K F ds xs:=by
 rcases h with h | ⟨_,_,_,e,_⟩
 ·cases h with
  | tup q r=>exact⟨_,_,rfl,gX s q,r⟩
 ·cases e
end
theorem aGW:fillsNumberSlot (.type "tuple") "mul" = pure false:=
 PySem.fillsNumberSlot_seq (id:="tuple.__mul__") (r:=qq (.builtin "tuple.__rmul__")) PySem.F.slot_tuple_mul.lookup (by decide +kernel) PySem.F.slot_tuple_rmul.lookup (by decide +kernel)
theorem aHh:seqRepeat? (.type "tuple")=pure (qq (.builtin "tuple.__mul__")):=by
 unfold seqRepeat?;rw[PySem.seqSlot_of (T:="tuple") (name:="__mul__") (id:="tuple.__mul__") PySem.F.slot_tuple_mul.lookup (by decide +kernel),PySem.seqSlot_of (T:="tuple") (name:="__rmul__") (id:="tuple.__rmul__") PySem.F.slot_tuple_rmul.lookup (by decide +kernel)]
 rfl
theorem aG2(a:Int)(t:Tok)(l:qv)(aJ:Array qx)(n:Nat)(d:Option qv)(sl:Array (Option qx)) :
 Meets (Builtin.«int.__rmul__» ⟨[.int a t,.ref l],[]⟩) (λ _ R s=>s.heap.get? l=qq {cls:=.type "tuple",dict:=d,data:=.seq aJ n,slots:=sl }/\R (.ok (.ret Value.notImplemented)) s):=
 .of_wp λ prog w A R s h=>by obtain⟨hp,g,d,tk,os⟩:=s;obtain⟨hl,h⟩:=h;wp_walk;exact⟨_,rfl,h⟩
theorem aG8(l:qv)(aJ:Array qx)(n:Nat)(d:Option qv)(sl:Array (Option qx))(t:Tok) :
 Meets (Builtin.«tuple.__mul__» ⟨[.ref l,.int 1 t],[]⟩) (λ _ R s=>s.heap.get? l=qq {cls:=.type "tuple",dict:=d,data:=.seq aJ n,slots:=sl }/\R (.ok (.ret (.ref l))) s):=
 .of_wp λ prog w A R s h=>by
  obtain⟨hp,g,d,tk,os⟩:=s;obtain⟨hl,h⟩:=h
  wp_walk
  exact⟨_,rfl,h⟩
theorem aG5(l:qv)(x:qx)(n:Nat)(d:Option qv)(sl:Array (Option qx))(t:Tok) :
 Meets (Builtin.«tuple.__mul__» ⟨[.ref l,.int 0 t],[]⟩) (λ _ R s=>s.heap.get? l=qq {cls:=.type "tuple",dict:=d,data:=.seq #[x] n,slots:=sl }/\R (.ok (.ret (.ref s.heap.objs.size))) {s with heap:=s.heap.push {cls:=.type "tuple",data:=.seq #[] } }):=
 .of_wp λ prog w A R s h=>by
  obtain⟨hp,g,d,tk,os⟩:=s;obtain⟨hl,h⟩:=h
  wp_walk
  exact⟨_,rfl,h⟩
theorem uQ(x:qx):∀ (k:Nat) (aG:Array qx),(yAf k #[x]).foldl (· ++ ·) aG=aG++(yAf k x).toArray
 | 0,aG=>by simp
 | k+1,aG=>by
   rw[yAt,yAk,uQ x k];apply Array.ext';simp[yAt]
theorem aG6(l:qv)(x:qx)(n:Nat)(d:Option qv)(sl:Array (Option qx))(k:Nat)(hk:2<=k)(hk2:k<=1000)(t:Tok) :
 Meets (Builtin.«tuple.__mul__» ⟨[.ref l,.int k t],[]⟩) (λ _ R s=>s.heap.get? l=qq {cls:=.type "tuple",dict:=d,data:=.seq #[x] n,slots:=sl }/\R (.ok (.ret (.ref s.heap.objs.size))) {s with heap:=s.heap.push {cls:=.type "tuple",data:=.seq (yAf k x).toArray } }):=
 .of_wp λ prog w A R s h=>by
  obtain⟨hp,g,d,tk,os⟩:=s;obtain⟨hl,h⟩:=h;have c1:(decide (((k:Nat):Int) < -(2^63))||decide (((k:Nat):Int) ≥ 2^63))=false:=by simp;omega
  have c2:(((k:Nat):Int)==1)=false:=by rw[beq_eq_false_iff_ne];omega
  have c3:decide (((k:Nat):Int)<=0)=false:=dqF (by omega)
  have c4:((#[x]:Array qx).isEmpty||(((k:Nat):Int)==1))=false:=by rw[c2];rfl
  have c5:(decide (((k:Nat):Int)<=0)||(#[x]:Array qx).isEmpty)=false:=by rw[c3];rfl
  have c6:¬ (((#[x]:Array qx).size:Int)*((k:Nat):Int)>(2^63-1)/8):=by
   show ¬ (((1:Nat):Int)*((k:Nat):Int)>(2^63-1)/8);omega
  have hsz:qk=16777216:=by decide
  have c7:yEt (((#[x]:Array qx).size:Int)*((k:Nat):Int))=false:=by
   unfold yEt;refine dqF ?_;show ¬ (((1:Nat):Int)*((k:Nat):Int)>((qk:Nat):Int));omega
  wp_walk
  rw[if_neg (by rw[c1];exact yAp)]
  refine wB (wpAny_tupleItemsOf hl rfl ?_);simp only[c4,c5,c6,c7,yBd,if_false];rw[yBi,uQ,show(#[]:Array qx)++(yAf k x).toArray=(yAf k x).toArray by simp]
  refine wB (m:=yBy _) (xw (wP ⟨_,rfl,h⟩) ?_);show(yAf k x).toArray.size<=qk;rw[yAb,yEb,hsz];omega
section
variable {X : Cx}{aA : List (qv×Obj)}{σ : L2.St}{H : Hp}{s : qj}{Q : VK}
theorem aDz{x:V}{u:qx}(r:aV x u):∀ k:Nat,aS (yAf k x) (yAf k u)
 | 0=>.nil
 | k+1=>.cons r (aDz r k)
theorem aPz{a:qv}{x:V}{k:Nat}{t:Tok}(I:Inv X aA σ H s)(ha:bL X.K H a [x])(hk:k<=1000)
 (q1:k=1->Q (.ref a) H) (q:∀ p,H p=qz->Q (.ref p) (aT H p (.tup (yAf k x)))):qu (model X.prog X.w) X.A (zo .Mult (.ref a) (.int k t)) (EP X aA σ Q) X.xe s:=by
 obtain⟨its,r1,p1,_⟩:=I.tuple ha;obtain⟨u,rfl,ru⟩:∃ u,its=[u]/\aV x u:=by
  cases r1 with
  | cons r r'=>cases r';exact⟨_,rfl,r⟩
 obtain⟨⟨cls,d,data,sl⟩,ho,hcl,n,hd⟩:=p1;simp only at hcl hd;subst hcl hd;have hsz:qk=16777216:=by decide
 have bB:∀ (its:List qx),its=yAf k u->EP X aA σ Q (.ref s.heap.objs.size) {s with heap:=s.heap.push {cls:=.type "tuple",data:=.seq its.toArray } }:=λ its e=>by
  subst e;exact⟨.ref _,_,I.laid (t':=s.toks) (o:=.tup (yAf k x)) (λ b ob q=>hpS _ q) (yAc _) ⟨by rw[yEb,hsz];omega,_,aDz ru k,⟨_,xAe _ rfl,rfl,0,rfl⟩⟩,rfl,q _ (I.hok.fresh (yAc _))⟩
 refine yw (T:="tuple") (U:="int") (by decide) ⟨_,ho,rfl⟩ (λ s'=>yu s' k t) aGW PySem.F.fills_int_mul yDa aHh PySem.F.slot_int_index.lookup
  (vq yDa (yu s k t) PySem.F.entry_int_rmul (PySem.F.args_int_rmul_2 _ _) (aG2 k t a _ n d sl)
    ⟨ho,rfl,⟨_,ho,rfl⟩,?_⟩)
 by_cases h1:k=1
 ·subst h1;exact vq yDw ⟨_,ho,rfl⟩ yDs (yDn _ _) (aG8 a _ n d sl t) ⟨ho,.ref a,H,I,rfl,q1 rfl⟩
 ·by_cases h0:k=0
  ·subst h0;exact vq yDw ⟨_,ho,rfl⟩ yDs (yDn _ _) (aG5 a u n d sl t) ⟨ho,bB [] rfl⟩
  ·exact vq yDw ⟨_,ho,rfl⟩ yDs (yDn _ _) (aG6 a u n d sl k (by omega) hk t) ⟨ho,bB _ rfl⟩
end
noncomputable def lW(i j:Int):Bool:=!(decide (yAi i>yz)&&decide (yAi j>yz)&&Builtin.Int.intTooBig (yAi i+yAi j))
noncomputable def aPV{α:Type}(n:Nat)(xs:List α):List α:=(yAf n xs).flatten
noncomputable def aBB:D->D->Option D
 | .int i,.int j=>qq (.int (i+j))
 | .str x,.str y=>if x.length+y.length<=qk then qq (.str (x++y)) else qz
 | .tuple [],.tuple ys=>qq (.tuple ys)
 | .tuple xs,.tuple ys=>if xs.isEmpty=false/\xs.length+ys.length<=qk then qq (.tuple (xs++ys)) else qz
 | .list xs,.list ys=>if xs.length+ys.length<=qk then qq (.list (xs++ys)) else qz
 | _,_=>qz
noncomputable def aBF:D->D->Option D
 | .int i,.int j=>if lW i j=true then qq (.int (i*j)) else qz
 | .list xs,.int k=>if k<2^63 /\ -(2^63)<=k/\xs.length*k.toNat<=qk then qq (.list (aPV k.toNat xs)) else qz
 | .tuple [x],.int k=>if 0<=k/\k<=1000 then qq (.tuple (yAf k.toNat x)) else qz
 | _,_=>qz
noncomputable def i2{α:Type}(f:Int->Int->Option α):D->D->Option α
 | .int i,.int j=>f i j
 | _,_=>qz
theorem rQ{α:Type}{f:Int->Int->Option α}{i j:Int}:i2 f (.int i) (.int j)=f i j:=rfl
theorem gW{α:Type}{f:Int->Int->Option α}{x y:D}{z:α}(h:i2 f x y=qq z):∃ i j,x=.int i/\y=.int j/\f i j=qq z:=by
 cases x<;>first | (cases h;done) | skip
 cases y<;>first | (cases h;done) | exact⟨_,_,rfl,rfl,h⟩
noncomputable def iO:D->Bool
 | .none=>true
 | _=>false
theorem aDR{x:D}(h:iO x=true):x=.none:=by cases x<;>first | rfl | cases h
noncomputable def cA(op:vj)(x y:D):Option D:=match op with
 | .Add=>aBB x y
 | .Sub=>i2 (λ i j=>qq (.int (i-j))) x y
 | .Mult=>aBF x y
 | .MatMult=>qz
 | .Div=>qz
 | .Mod=>i2 (λ i j=>if j≠0 then qq (.int (i.fmod j)) else qz) x y
 | .Pow=>i2 (λ i j=>if 0<=j/\j<=1000000/\i.natAbs<2^64 then qq (.int (i^j.toNat)) else qz) x y
 | .LShift=>i2 (λ i j=>if 0<=j/\(yAi i:Int)+j<=2^27 then qq (.int (i*2^j.toNat)) else qz) x y
 | .RShift=>i2 (λ i j=>if 0<=j then qq (.int (i/2^j.toNat)) else qz) x y
 | .BitOr=>i2 (λ i j=>qq (.int (Builtin.bitOr i j))) x y
 | .BitXor=>i2 (λ i j=>qq (.int (Builtin.bitXor i j))) x y
 | .BitAnd=>i2 (λ i j=>qq (.int (Builtin.bitAnd i j))) x y
 | .FloorDiv=>i2 (λ i j=>if j≠0/\yCa i j=false then qq (.int (i.fdiv j)) else qz) x y
noncomputable def unD:kq->D->Option D
 | .USub,.int i=>qq (.int (-i))
 | .Invert,.int i=>qq (.int (Builtin.bitNot i))
 | _,_=>qz
noncomputable def iQ:D->Bool
 | .none | .bool _ | .int _ | .str _=>true
 | _=>false
noncomputable def mO:List D->Bool
 | []=>true
 | d::r=>iQ d&&mO r
noncomputable def yO(x:D):List D->Bool
 | []=>false
 | y::r=>yCg y x||yO x r
noncomputable def sB:D->Option (List D)
 | .list xs=>qq xs
 | .tuple xs=>qq xs
 | _=>qz
noncomputable def qB:D->D->Option Bool
 | .bool a,.bool b=>qq (a==b)
 | _,_=>qz
theorem aCR{x y:D}{b:Bool}(h:qB x y=qq b):∃ p q,x=.bool p/\y=.bool q/\b=(p==q):=by
 unfold qB at h
 split at h
 ·rename_i p q;exact⟨p,q,rfl,rfl,(Option.some.inj h).symm⟩
 ·cases h
noncomputable def lA(op:vk)(x y:D):Option Bool:=match op with
 | .Eq=>if x.canLay0=true/\y.canLay0=true/\x.depth<=60 then qq (yCg x y) else qz
 | .NotEq=>if x.canLay0=true/\y.canLay0=true/\x.depth<=60 then qq (!yCg x y) else qz
 | .Lt=>i2 (λ i j=>qq (decide (i<j))) x y
 | .LtE=>i2 (λ i j=>qq (decide (i<=j))) x y
 | .Gt=>i2 (λ i j=>qq (decide (j<i))) x y
 | .GtE=>i2 (λ i j=>qq (decide (j<=i))) x y
 | .Is=>if iO y=true then qq (iO x) else qB x y
 | .IsNot=>if iO y=true then qq (!iO x) else (qB x y).bind λ b=>qq (!b)
 | .In=>(sB y).bind λ ys=>if iQ x=true/\mO ys=true then qq (yO x ys) else qz
 | .NotIn=>(sB y).bind λ ys=>if iQ x=true/\mO ys=true then qq (!yO x ys) else qz
noncomputable def sP:D->Option Bool
 | .none=>qq false
 | .bool b=>qq b
 | .int i=>qq (i != 0)
 | .str x=>if x.length<=qk then qq ((x.length:Int) != 0) else qz
 | .list xs=>qq (!xs.isEmpty)
 | .tuple xs=>qq (!xs.isEmpty)
 | .dict _=>qz
section
variable {X : Cx}{aA : List (qv×Obj)}{s : qj}{σ : L2.St}{H : Hp}{x y : V}{v u : qx}{Q : VK}{F : Hp}{L : List qv}{S : aC}{dx dy z : D}
abbrev fG(X:Cx)(F:Hp)(L:List qv)(S:aC)(z:D)(Q:VK):Prop:=∀ F' H' r,bN F F'->Rel X.K F' L S H'->Den X.K F' z r->Q r H'
abbrev xA(X:Cx)(F:Hp)(H:Hp)(zs:List D)(Q:VK):Prop:=∀ p xs,H p=qz->DenL X.K F zs xs->Q (.ref p) (aT H p (.lst xs))
theorem fG.here(R:Rel X.K F L S H)(q:fG X F L S z Q){r:V}(h:Den X.K F z r):Q r H:=q F H r (bN.refl _) R h
theorem xA.out{zs:List D}(R:Rel X.K F L S H)(q:fG X F L S (.list zs) Q):xA X F H zs Q:=λ p xs hp dl =>
 q _ _ _ (dG (R.sub.free hp)) (R.new hp) (.lst (bF.of bQ) (dl.mono (dG (R.sub.free hp))))
theorem fG.tup{zs:List D}(R:Rel X.K F L S H)(q:fG X F L S (.tuple zs) Q){p:qv}{xs:List V}(hp:H p=qz)(dl:DenL X.K F zs xs):Q (.ref p) (aT H p (.tup xs)):=
 q _ _ _ (dG (R.sub.free hp)) (R.new hp) (.tup (bL.of bQ) (dl.mono (dG (R.sub.free hp))))
theorem aPF{a b:qv}{xs ys:List V}(I:Inv X aA σ H s)(ha:bF X.K H a xs)(hb:bF X.K H b ys)(hz:xs.length+ys.length<=qk)
 (q:∀ p,H p=qz->Q (.ref p) (aT H p (.lst (xs++ys)))):qu (model X.prog X.w) X.A (zo .Add (.ref a) (.ref b)) (EP X aA σ Q) X.xe s:=by
 obtain⟨its,r1,p1,_⟩:=I.list ha;obtain⟨iG,r2,p2,_⟩:=I.list hb;obtain⟨⟨cls,dd,data,sl⟩,ho,hc,n,hd⟩:=p1.isList;obtain⟨⟨cls2,dd2,data2,sl2⟩,ho2,hc2,n2,hd2⟩:=p2.isList;simp only at hc hd hc2 hd2;subst hc hd hc2 hd2;have e:its.toArray++iG.toArray=(its++iG).toArray:=by simp
 refine concat_meets ⟨_,ho,rfl⟩ ⟨_,ho2,rfl⟩ noFill_list_add seq_list_add PySem.F.slot_list_add PySem.F.entry_list_add (PySem.F.args_list_add_2 _ _) (list_addW a b its.toArray iG.toArray n n2 dd dd2 sl sl2 (by rw[yAb,yAb,<- r1.length,<- r2.length];exact hz)) ⟨ho,ho2,?_⟩
 rw[e];exact⟨.ref _,_,I.lnew (t':=s.toks) (r1.append r2) (by rw[xAk];omega),rfl,q _ I.fresh⟩
theorem aPg{a:qv}{xs:List V}{k:Int}{t:Tok}(I:Inv X aA σ H s)(ha:bF X.K H a xs)(h1 : -(2^63)<=k)(h2:k<2^63)(hz:xs.length*k.toNat<=qk)
 (q:∀ p,H p=qz->Q (.ref p) (aT H p (.lst (yAf k.toNat xs).flatten))):qu (model X.prog X.w) X.A (zo .Mult (.ref a) (.int k t)) (EP X aA σ Q) X.xe s:=by
 obtain⟨its,r1,p1,_⟩:=I.list ha;obtain⟨⟨cls,d,data,sl⟩,ho,hcl,n,hd⟩:=p1.isList;simp only at hcl hd;subst hcl hd;have hsz:its.toArray.size*k.toNat<=2^24:=by
  rw[yAb,<- r1.length];have:qk=2^24:=rfl;rw[<- this];exact hz
 refine yw (T:="list") (U:="int") (by decide) ⟨_,ho,rfl⟩ (λ s'=>yu s' k t) noFill_list_mul PySem.F.fills_int_mul yDa repeat_list PySem.F.slot_int_index.lookup
  (vq yDa (yu s k t) PySem.F.entry_int_rmul (PySem.F.args_int_rmul_2 _ _) (lm_int_rmul_list_any k t a its.toArray n d sl)
    ⟨ho,rfl,⟨_,ho,rfl⟩,vq PySem.F.slot_list_mul ⟨_,ho,rfl⟩ PySem.F.entry_list_mul (PySem.F.args_list_mul_2 _ _)
     (lm_list_mul_any a its.toArray n d sl k t (by simp[Builtin.List.listFitsIndex];omega) (by omega) (by simp[Builtin.List.listTooLong,qk];simpa using hsz))
     ⟨ho,?_⟩⟩)
 rw[listMul_foldl_if];exact⟨.ref _,_,I.lnew (t':=s.toks) (r1.rep k.toNat) (by rw[aKd,Nat.mul_comm];exact hz),rfl,q _ I.fresh⟩
theorem aOo{a b:qv}{ys:List V}(I:Inv X aA σ H s)(ha:bL X.K H a [])(hb:bL X.K H b ys)(q:Q (.ref b) H):qu (model X.prog X.w) X.A (zo .Add (.ref a) (.ref b)) (EP X aA σ Q) X.xe s:=by
 obtain⟨its,r1,p1,_⟩:=I.tuple ha;obtain⟨iG,r2,p2,_⟩:=I.tuple hb;cases r1;obtain⟨⟨cls,dd,data,sl⟩,ho,hc,n,hd⟩:=p1;obtain⟨⟨cls2,dd2,data2,sl2⟩,ho2,hc2,n2,hd2⟩:=p2;simp only at hc hd hc2 hd2;subst hc hd hc2 hd2;exact concat_meets ⟨_,ho,rfl⟩ ⟨_,ho2,rfl⟩ noFill_tuple_add seq_tuple_add yDv yDq (yDm _ _) (tuple_addW0 a b _ iG.toArray n n2 dd dd2 sl sl2 rfl) ⟨ho,ho2,⟨.ref b,H,I,rfl,q⟩⟩
theorem aLD(I:Inv X aA σ H s)(rx:aV x v)(ry:aV y u)(R:Rel X.K F L S H)(nx:bJ X.K F H dx x)(ny:bJ X.K F H dy y)(e:aBB dx dy=qq z)(q:fG X F L S z Q) :
 qu (model X.prog X.w) X.A (zo .Add v u) (EP X aA σ Q) X.xe s:=by
 unfold aBB at e
 split at e
 ·rename_i i j;cases e;exact aMc aA s σ H x y v u Q I rx ry ⟨i,j,nx.int,ny.int,q.here R (.int _)⟩
 ·rename_i a b
  split at e
  ·rename_i c;cases e;exact aHH aA s σ H x y v u Q I rx ry ⟨a,b,nx.str,ny.str,c,q.here R (.str _)⟩
  ·cases e
 ·rename_i ys;cases e;obtain⟨a,vs,rfl,h1,d1⟩:=nx.tup R.sub;obtain⟨b,ws,rfl,h2,d2⟩:=ny.tup R.sub;cases d1;cases rx;cases ry;refine aOo I h1 h2 (q F H _ (bN.refl _) R ?_);rcases ny with ny | ⟨_,_,_,e,_⟩
  ·exact ny
  ·cases e
 ·rename_i xs ys _
  split at e
  ·rename_i c;cases e;obtain⟨a,vs,rfl,h1,d1⟩:=nx.tup R.sub;obtain⟨b,ws,rfl,h2,d2⟩:=ny.tup R.sub;have hne:vs≠[]:=λ z=>by
    have:=d1.length;rw[z] at this;cases xs with
    | nil=>simp at c
    | cons _ _=>simp at this
   refine aJZ aA s σ H _ _ v u Q I rx ry ⟨a,b,vs,ws,rfl,rfl,h1,h2,hne,by rw[<- d1.length,<- d2.length];exact c.2,λ z=>?_,λ z p hp=>?_⟩
   ·have:ys=[]:=by
     have h:=d2.length;rw[z] at h;exact List.eq_nil_of_length_eq_zero h
    subst this;refine q F H _ (bN.refl _) R ?_;rw[yAs];rcases nx with nx | ⟨_,_,_,e,_⟩
    ·exact nx
    ·cases e
   ·exact q.tup R hp (d1.append d2)
  ·cases e
 ·rename_i xs ys
  split at e
  ·rename_i c;cases e;obtain⟨a,vs,rfl,h1,d1⟩:=nx.lst R.sub;obtain⟨b,ws,rfl,h2,d2⟩:=ny.lst R.sub;cases rx;cases ry;exact aPF I h1 h2 (by rw[<- d1.length,<- d2.length];exact c) λ p hp=>xA.out R q p _ hp (d1.append d2)
  ·cases e
 ·cases e
theorem aEw{K:FrG}{F:Hp}{x:D}{v:V}(h:Den K F x v):∀ k:Nat,DenL K F (yAf k x) (yAf k v)
 | 0=>.nil
 | k+1=>.cons h (aEw h k)
theorem aLl(I:Inv X aA σ H s)(rx:aV x v)(ry:aV y u)(R:Rel X.K F L S H)(nx:bJ X.K F H dx x)(ny:bJ X.K F H dy y)(e:aBF dx dy=qq z)(q:fG X F L S z Q) :
 qu (model X.prog X.w) X.A (zo .Mult v u) (EP X aA σ Q) X.xe s:=by
 unfold aBF at e
 split at e
 ·rename_i i j
  split at e
  ·rename_i c;cases e;obtain rfl:=nx.int;obtain rfl:=ny.int;obtain⟨t,rfl⟩:=rx;obtain⟨t',rfl⟩:=ry;refine PyProof.Rows.mul_int ⟨.int (i*j),H,I.tok _,⟨_,rfl⟩,q.here R (.int _)⟩ ?_;unfold IntMulOk;unfold lW at c;intro z;rw[z] at c;cases c
  ·cases e
 ·rename_i xs k
  split at e
  ·rename_i c;cases e;obtain⟨a,vs,rfl,h1,d1⟩:=nx.lst R.sub;obtain rfl:=ny.int;cases rx;obtain⟨t',rfl⟩:=ry;exact aPg I h1 c.2.1 c.1 (by rw[<- d1.length];exact c.2.2) λ p hp=>xA.out R q p _ hp (d1.rep _)
  ·cases e
 ·rename_i xd k
  split at e
  ·rename_i c;cases e;obtain⟨a,vs,rfl,h1,d1⟩:=nx.tup R.sub;obtain rfl:=ny.int;cases rx;obtain⟨t',rfl⟩:=ry;obtain⟨kk,rfl⟩:∃ kk:Nat,k=(kk:Nat):=⟨k.toNat,by omega⟩
   rw[yBi] at q;cases d1 with
   | cons dx dn =>
     cases dn;refine aPz I h1 (by omega) (λ hk=>?_) λ p hp=>fG.tup R q hp (aEw dx kk)
     subst hk;refine q F H _ (bN.refl _) R ?_;rcases nx with nx | ⟨_,_,_,z,_⟩
     ·exact nx
     ·cases z
  ·cases e
 ·cases e
theorem rP{op:vj}{C:Int->Int->Prop}{g:Int->Int->Int}(rule:bX X (zo op) (rI C λ i j=>.int (g i j))){i j:Int}(c:C i j)(I:Inv X aA σ H s)(rx:aV x v)(ry:aV y u)(R:Rel X.K F L S H)
 (nx:bJ X.K F H (.int i) x) (ny:bJ X.K F H (.int j) y) (q:fG X F L S (.int (g i j)) Q) :
 qu (model X.prog X.w) X.A (zo op v u) (EP X aA σ Q) X.xe s:=
 rule aA s σ H x y v u Q I rx ry ⟨i,j,nx.int,ny.int,c,q.here R (.int _)⟩
theorem vJ{op:vj}{g:Int->Int->Int}(rule:bX X (zo op) (iX λ i j=>.int (g i j))){i j:Int}(I:Inv X aA σ H s)(rx:aV x v)(ry:aV y u)(R:Rel X.K F L S H)
 (nx:bJ X.K F H (.int i) x) (ny:bJ X.K F H (.int j) y) (q:fG X F L S (.int (g i j)) Q) :
 qu (model X.prog X.w) X.A (zo op v u) (EP X aA σ Q) X.xe s:=
 rule aA s σ H x y v u Q I rx ry ⟨i,j,nx.int,ny.int,q.here R (.int _)⟩
theorem aJS:bX X (zo .FloorDiv) (rI (λ i j=>j≠0/\yCa i j=false) λ i j=>.int (i.fdiv j)):=uC λ _ _ _ _ _ _ _ hc q=>floordiv_int hc.1 q (.inl hc.2)
theorem aNV:bX X (zo .LShift) (rI (λ i j=>0<=j/\(yAi i:Int)+j<=2^27) λ i j=>.int (i*2^j.toNat)):=uC λ _ _ _ _ _ _ _ hc q=>lshift_int hc.1 hc.2 q
theorem bind_some{α β:Type}{o:Option α}{f:α->Option β}{b:β}(h:o.bind f=qq b):∃ a,o=qq a/\f a=qq b:=by
 cases o with
 | none=>cases h
 | some a=>exact⟨a,rfl,h⟩
theorem kT{α:Type}{p:Prop} [Decidable p]{a z:α}(h:(if p then qq a else qz)=qq z):p/\a=z:=by
 split at h
 ·rename_i c;cases h;exact⟨c,rfl⟩
 ·cases h
theorem aMC{op:vj}(I:Inv X aA σ H s)(rx:aV x v)(ry:aV y u)(R:Rel X.K F L S H)(nx:bJ X.K F H dx x)(ny:bJ X.K F H dy y)(e:cA op dx dy=qq z)(q:fG X F L S z Q) :
 qu (model X.prog X.w) X.A (zo op v u) (EP X aA σ Q) X.xe s:=by
 cases op with
 | Add=>exact aLD I rx ry R nx ny e q
 | Mult=>exact aLl I rx ry R nx ny e q
 | MatMult=>cases e
 | Div=>cases e
 | Sub=>obtain⟨i,j,rfl,rfl,e⟩:=gW e;cases e;exact vJ aMt I rx ry R nx ny q
 | BitAnd=>obtain⟨i,j,rfl,rfl,e⟩:=gW e;cases e;exact vJ aLQ I rx ry R nx ny q
 | BitOr=>obtain⟨i,j,rfl,rfl,e⟩:=gW e;cases e;exact vJ aOb I rx ry R nx ny q
 | BitXor=>obtain⟨i,j,rfl,rfl,e⟩:=gW e;cases e;exact vJ aL7 I rx ry R nx ny q
 | FloorDiv=>obtain⟨i,j,rfl,rfl,e⟩:=gW e;obtain⟨c,rfl⟩:=kT e;exact rP aJS c I rx ry R nx ny q
 | Mod=>obtain⟨i,j,rfl,rfl,e⟩:=gW e;obtain⟨c,rfl⟩:=kT e;exact rP aK5 c I rx ry R nx ny q
 | Pow=>obtain⟨i,j,rfl,rfl,e⟩:=gW e;obtain⟨c,rfl⟩:=kT e;exact rP aMJ c I rx ry R nx ny q
 | LShift=>obtain⟨i,j,rfl,rfl,e⟩:=gW e;obtain⟨c,rfl⟩:=kT e;exact rP aNV c I rx ry R nx ny q
 | RShift=>obtain⟨i,j,rfl,rfl,e⟩:=gW e;obtain⟨c,rfl⟩:=kT e;exact rP aMr c I rx ry R nx ny q
mutual
theorem aDb(I:Inv X aA σ H s)(sb:bN F H):∀ {d:D}{x:V}{v:qx},Den X.K F d x->aV x v->d.canLay0=true->∃ as,Reads s.heap v d as
 | _,_,v,.non,r,_=>by cases (show v=Value.none from r);exact⟨_,.none⟩
 | _,_,v,.bl b,r,_=>by cases (show v=Value.bool b from r);exact⟨_,.bool b⟩
 | _,_,v,.int i,r,_=>by obtain⟨t,rfl⟩:=(show ∃ t,v=Value.int i t from r);exact⟨_,.int i t⟩
 | _,_,v,.str y,r,_=>by obtain⟨t,rfl⟩:=(show ∃ t,v=Value.str y t from r);exact⟨_,.str y t⟩
 | _,_,v,.lst (a:=a) h dl,r,c=>by
   cases (show v=Value.ref a from r)
   obtain⟨its,rv,p1,_⟩:=I.list (sb.seq h);obtain⟨o,ho,hc,n,hd⟩:=p1.isList;obtain⟨as,ra⟩:=uM I sb dl rv c;exact⟨_,.list ho hc hd (by simpa using ra)⟩
 | _,_,v,.exc _,_,c=>by cases c
 | _,_,v,.tup (a:=a) h dl,r,c=>by
   cases (show v=Value.ref a from r)
   obtain⟨its,rv,p1,_⟩:=I.tuple (gX sb h);obtain⟨o,ho,hc,n,hd⟩:=p1;obtain⟨as,ra⟩:=uM I sb dl rv c;exact⟨_,.tuple ho hc hd (by simpa using ra)⟩
theorem uM(I:Inv X aA σ H s)(sb:bN F H):∀ {ds:List D}{xs:List V}{us:List qx},DenL X.K F ds xs->aS xs us->yCo ds=true->∃ as,ReadsAll s.heap us ds as
 | _,_,_,.nil,r,_=>by cases r;exact⟨_,.nil⟩
 | _,_,_,.cons h dl,.cons r rs,c=>by
   obtain⟨c1,c2⟩:=Bool.and_eq_true_iff.mp c;obtain⟨as,ra⟩:=aDb I sb h r c1;obtain⟨bs,rb⟩:=uM I sb dl rs c2;exact⟨_,.cons ra rb⟩
end
theorem uP(I:Inv X aA σ H s)(R:Rel X.K F L S H)(rx:aV x v)(nx:bJ X.K F H dx x)(c:dx.canLay0=true):∃ as,Reads s.heap v dx as:=by
 rcases nx with nx | ⟨ds,a,xs,rfl,rfl,e,dl⟩
 ·exact aDb I R.sub nx rx c
 ·cases rx;obtain⟨its,rv,p1,_⟩:=I.list (bF.of e);obtain⟨o,ho,hc,n,hd⟩:=p1.isList;obtain⟨as,ra⟩:=uM I R.sub dl rv c;exact⟨_,.list ho hc hd (by simpa using ra)⟩
theorem aO1(hu:X.A.units+64<cLine)(I:Inv X aA σ H s)(rx:aV x v)(ry:aV y u)(R:Rel X.K F L S H)(nx:bJ X.K F H dx x)(ny:bJ X.K F H dy y)
 (c1:dx.canLay0=true) (c2:dy.canLay0=true) (c3:dx.depth<=60) (q:Q (.bl (yCg dx dy)) H):qu (model X.prog X.w) X.A (jz .Eq v u) (EP X aA σ Q) X.xe s:=by
 obtain⟨as,ra⟩:=uP I R rx nx c1;obtain⟨bs,rb⟩:=uP I R ry ny c2;refine SeqAt.compareEq_reads ra rb c1 c2 ?_ ⟨.bl _,H,I,rfl,q⟩;have:min dx.depth dy.depth<=dx.depth:=Nat.min_le_left _ _;omega
theorem aNC(hu:X.A.units+64<cLine)(I:Inv X aA σ H s)(rx:aV x v)(ry:aV y u)(R:Rel X.K F L S H)(nx:bJ X.K F H dx x)(ny:bJ X.K F H dy y)
 (c1:dx.canLay0=true) (c2:dy.canLay0=true) (c3:dx.depth<=60) (q:Q (.bl (!yCg dx dy)) H):qu (model X.prog X.w) X.A (jz .NotEq v u) (EP X aA σ Q) X.xe s:=by
 obtain⟨as,ra⟩:=uP I R rx nx c1;obtain⟨bs,rb⟩:=uP I R ry ny c2;refine SeqAt.compareNe_reads ra rb c1 c2 ?_ ⟨.bl _,H,I,rfl,q⟩;have:min dx.depth dy.depth<=dx.depth:=Nat.min_le_left _ _;omega
end
theorem aJh{K:FrG}{F:Hp}{d e:D}{x y:V}(h1:Den K F d x)(h2:Den K F e y)(f1:iQ d=true)(f2:iQ e=true):lK x y=yCg d e:=by
 cases h1<;>first | (simp[iQ] at f1;done) | skip
 all_goals cases h2<;>first | (simp[iQ] at f2;done) | rfl | skip
theorem aAj{K:FrG}{F:Hp}{d:D}{x:V}(h1:Den K F d x)(f1:iQ d=true):jX x=true:=by
 cases h1<;>first | rfl | (simp[iQ] at f1;done)
theorem aAn{K:FrG}{F:Hp}:∀ {ds:List D}{xs:List V},DenL K F ds xs->mO ds=true->xs.all jX=true
 | _,_,.nil,_=>rfl
 | _,_,.cons h r,f=>by
   simp only[mO,yBz] at f;rw[yDr,aAj h f.1,aAn r f.2];rfl
theorem aAR{K:FrG}{F:Hp}{e:D}{y:V}(h2:Den K F e y)(f2:iQ e=true):∀ {ds:List D}{xs:List V},DenL K F ds xs->mO ds=true->qG y xs=yO e ds
 | _,_,.nil,_=>rfl
 | _,_,.cons h r,f=>by
   simp only[mO,yBz] at f;have ih:=aAR h2 f2 r f.2;unfold qG at ih ⊢;rw[yFc,ih,aJh h h2 f.1 f2];rfl
section
variable {X : Cx}{aA : List (qv×Obj)}{s : qj}{σ : L2.St}{H : Hp}{x y : V}{v u : qx}{Q : VK}{F : Hp}{L : List qv}{S : aC}{dx dy : D}{b : Bool}
theorem bJ.flat{d:D}{z:V}(h:bJ X.K F H d z)(f:iQ d=true):Den X.K F d z:=by
 rcases h with h | ⟨ds,_,_,rfl,_⟩
 ·exact h
 ·simp[iQ] at f
theorem aAW{d:D}{ys:List D}{z:V}(sb:bN F H)(h:bJ X.K F H d z)(e:sB d=qq ys):∃ p xs,z=.ref p/\(bF X.K H p xs\/bL X.K H p xs)/\DenL X.K F ys xs:=by
 cases d with
 | list l=>cases e;obtain⟨a,xs,e1,q,dl⟩:=h.lst sb;exact⟨a,xs,e1,.inl q,dl⟩
 | tuple l=>cases e;obtain⟨a,xs,e1,q,dl⟩:=h.tup sb;exact⟨a,xs,e1,.inr q,dl⟩
 | _=>cases e
theorem aEG(R:Rel X.K F L S H)(nx:bJ X.K F H dx x):decide (x=.non)=iO dx:=by
 cases dx with
 | none=>rw[nx.non];rfl
 | bool c=>rw[nx.bl];rfl
 | int c=>rw[nx.int];rfl
 | str c=>rw[nx.str];rfl
 | list c=>obtain⟨a,xs,rfl,_⟩:=nx.lst R.sub;rfl
 | tuple c=>obtain⟨a,xs,rfl,_⟩:=nx.tup R.sub;rfl
 | dict c =>
   rcases nx with h | ⟨_,_,_,e,_⟩
   ·cases h;rfl
   ·cases e
theorem aLd{op:vk}(hu:X.A.units+64<cLine)(I:Inv X aA σ H s)(rx:aV x v)(ry:aV y u)(R:Rel X.K F L S H)(nx:bJ X.K F H dx x)(ny:bJ X.K F H dy y)(e:lA op dx dy=qq b)(q:Q (.bl b) H) :
 qu (model X.prog X.w) X.A (jz op v u) (EP X aA σ Q) X.xe s:=by
 cases op with
 | Lt=>obtain⟨i,j,rfl,rfl,e⟩:=gW e;cases e;exact aOQ aA s σ H x y v u Q I rx ry ⟨_,_,nx.int,ny.int,q⟩
 | LtE=>obtain⟨i,j,rfl,rfl,e⟩:=gW e;cases e;exact aOT aA s σ H x y v u Q I rx ry ⟨_,_,nx.int,ny.int,q⟩
 | Gt=>obtain⟨i,j,rfl,rfl,e⟩:=gW e;cases e;exact aO3 aA s σ H x y v u Q I rx ry ⟨_,_,nx.int,ny.int,q⟩
 | GtE=>obtain⟨i,j,rfl,rfl,e⟩:=gW e;cases e;exact aOs aA s σ H x y v u Q I rx ry ⟨_,_,nx.int,ny.int,q⟩
 | Eq=>obtain⟨c,rfl⟩:=kT e;exact aO1 hu I rx ry R nx ny c.1 c.2.1 c.2.2 q
 | NotEq=>obtain⟨c,rfl⟩:=kT e;exact aNC hu I rx ry R nx ny c.1 c.2.1 c.2.2 q
 | Is =>
   have e':(if iO dy=true then qq (iO dx) else qB dx dy)=qq b:=e
   by_cases c:iO dy=true
   ·rw[if_pos c] at e';cases e';cases aDR c;exact aLF aA s σ H x y v u Q I rx ry ⟨ny.non,by rw[aEG R nx];exact q⟩
   ·rw[if_neg c] at e';obtain⟨p1,p2,rfl,rfl,rfl⟩:=aCR e';obtain rfl:=nx.bl;obtain rfl:=ny.bl;cases rx;cases ry;exact wpAny_is_plain rfl (vY I q (by cases p1<;>cases p2<;>rfl))
 | IsNot =>
   have e':(if iO dy=true then qq (!iO dx) else (qB dx dy).bind λ b=>qq (!b))=qq b:=e
   by_cases c:iO dy=true
   ·rw[if_pos c] at e';cases e';cases aDR c;exact aKm aA s σ H x y v u Q I rx ry ⟨ny.non,by rw[aEG R nx];exact q⟩
   ·rw[if_neg c] at e';obtain⟨b0,e1,e2⟩:=bind_some e';cases e2;obtain⟨p1,p2,rfl,rfl,rfl⟩:=aCR e1;obtain rfl:=nx.bl;obtain rfl:=ny.bl;cases rx;cases ry;exact wpAny_isNot_plain rfl (vY I q (by cases p1<;>cases p2<;>rfl))
 | In =>
   obtain⟨ys,hs,e⟩:=bind_some e;obtain⟨c,rfl⟩:=kT e;obtain⟨p,xs,e1,sq,dl⟩:=aAW R.sub ny hs;refine aIH aA s σ H x y v u Q I rx ry ⟨p,xs,e1,sq,aAj (nx.flat c.1) c.1,aAn dl c.2,?_⟩;show Q (.bl (qG x xs)) H;rw[aAR (nx.flat c.1) c.1 dl c.2];exact q
 | NotIn =>
   obtain⟨ys,hs,e⟩:=bind_some e;obtain⟨c,rfl⟩:=kT e;obtain⟨p,xs,e1,sq,dl⟩:=aAW R.sub ny hs;refine aHd aA s σ H x y v u Q I rx ry ⟨p,xs,e1,sq,aAj (nx.flat c.1) c.1,aAn dl c.2,?_⟩;show Q (.bl (!qG x xs)) H;rw[aAR (nx.flat c.1) c.1 dl c.2];exact q
theorem aCy{K:FrG}{ds:List D}{xs:List V}(h:DenL K F ds xs):xs.isEmpty=ds.isEmpty:=by cases h<;>rfl
theorem aKg{b:Bool}(R:Rel X.K F L S H)(nx:bJ X.K F H dx x)(e:sP dx=qq b):aBN X.K x H b:=by
 cases dx with
 | none=>cases e;rw[nx.non];exact rfl
 | bool c=>cases e;rw[nx.bl];exact rfl
 | int c=>cases e;rw[nx.int];exact rfl
 | str c =>
   rw[nx.str];have e':(if c.length<=qk then qq ((c.length:Int) != 0) else qz)=qq b:=e
   split at e'
   ·rename_i h;cases e';exact⟨h,rfl⟩
   ·cases e'
 | list c=>cases e;obtain⟨a,xs,rfl,sq,dl⟩:=nx.lst R.sub;exact .inl ⟨xs,sq,by rw[aCy dl]⟩
 | tuple c=>cases e;obtain⟨a,xs,rfl,sq,dl⟩:=nx.tup R.sub;exact .inr (.inl ⟨xs,sq,by rw[aCy dl]⟩)
 | dict c=>cases e
end
abbrev FE:=aU->aC->Option (W×aC)
abbrev FT:=aU->aC->Option (Bool×aC)
abbrev FA:=aU->aC->Option (List W×aC)
abbrev FL:=aU->aC->Option (List D×aC)
inductive Fl where
 | nx (env:aU) | rt (w:W) | bk (env:aU) | ct (env:aU)
abbrev FS:=aU->aC->Option (Fl×aC)
inductive WDenL (K:FrG) (F:Hp) (L:List qv):List W->List V->Prop
 | nil:WDenL K F L [] []
 | cons {w:W}{ws:List W}{x:V}{xs:List V}:dU K F L w x->WDenL K F L ws xs->WDenL K F L (w::ws) (x::xs)
theorem WDenL.mono{K:FrG}{F F':Hp}{L L':List qv}(g:Gr F L F' L'):∀ {ws:List W}{xs:List V},WDenL K F L ws xs->WDenL K F' L' ws xs
 | _,_,.nil=>.nil
 | _,_,.cons h r=>.cons (h.mono g) (r.mono g)
theorem WDenL.length{K:FrG}{F:Hp}{L:List qv}:∀ {ws:List W}{xs:List V},WDenL K F L ws xs->ws.length=xs.length
 | _,_,.nil=>rfl
 | _,_,.cons _ r=>congrArg (· + 1) r.length
section
variable (K : FrG)
def aM(f:FE):TE:=λ σ H Q=>∃ F L S env w S',Rel K F L S H/\EnvR K F L env σ/\f env S=qq (w,S')/\∀ F' L' H' v,Gr F L F' L'->Rel K F' L' S' H'->dU K F' L' w v->Q v H'
def dQ(f:FT):TT:=λ σ H Q=>∃ F L S env b S',Rel K F L S H/\EnvR K F L env σ/\f env S=qq (b,S')/\∀ F' L' H',Gr F L F' L'->Rel K F' L' S' H'->Q b H'
def cT(f:FA):TA:=λ σ H Q=>∃ F L S env ws S',Rel K F L S H/\EnvR K F L env σ/\f env S=qq (ws,S')/\∀ F' L' H' vs,Gr F L F' L'->Rel K F' L' S' H'->WDenL K F' L' ws vs->Q vs H'
def gQ(f:FL):TE:=λ σ H Q=>∃ F L S env ds S',Rel K F L S H/\EnvR K F L env σ/\f env S=qq (ds,S')/\∀ F' L' H' p xs,Gr F L F' L'->Rel K F' L' S' H'->F' p=qz->p ∉ L'->H' p=qq (.lst xs)->DenL K F' ds xs->Q (.ref p) H'
def cG(f:FS):TS:=λ D σ H=>∃ F L S env fl S',Rel K F L S H/\EnvR K F L env σ/\f env S=qq (fl,S')/\∀ F' L' H',Gr F L F' L'->Rel K F' L' S' H'->match fl with
 | .nx aO=>∀ σ',EnvR K F' L' aO σ'->D.nx σ' H'
 | .rt w=>∀ v,dU K F' L' w v->D.rt v H'
 | .bk aO=>∀ σ',EnvR K F' L' aO σ'->D.bk σ' H'
 | .ct aO=>∀ σ',EnvR K F' L' aO σ'->D.ct σ' H'
end
section
variable {X : Cx}
theorem PE.weak{e:qw}{t t':TE}(h:PE X e t)(w:∀ σ H Q,t' σ H Q->t σ H Q):PE X e t':=λ aA s σ H Q I q=>h aA s σ H Q I (w σ H Q q)
theorem PT.weak{e:qw}{t t':TT}(h:PT X e t)(w:∀ σ H Q,t' σ H Q->t σ H Q):PT X e t':=λ aA s σ H Q I q=>h aA s σ H Q I (w σ H Q q)
theorem PW.weak{e:qw}{t t':TT}(h:PW X e t)(w:∀ σ H Q,t' σ H Q->t σ H Q):PW X e t':=λ wh aA s σ H Q I q=>h wh aA s σ H Q I (w σ H Q q)
theorem PA.weak{e:List qw}{t t':TA}(h:PA X e t)(w:∀ σ H Q,t' σ H Q->t σ H Q):PA X e t':=λ pos aA s σ H Q I q=>h pos aA s σ H Q I (w σ H Q q)
theorem PS.weak{e:zk}{t t':TS}(h:PS X e t)(w:∀ D σ H,t' D σ H->t D σ H):PS X e t':=λ aA s σ H D I q=>h aA s σ H D I (w D σ H q)
theorem bO.weak{e:List zk}{t t':TS}(h:bO X e t)(w:∀ D σ H,t' D σ H->t D σ H):bO X e t':=λ aA s σ H D I q=>h aA s σ H D I (w D σ H q)
abbrev pZ(K:FrG)(F:Hp)(L:List qv)(S':aC)(w:W)(Q:VK):Prop:=∀ F' L' H' v,Gr F L F' L'->Rel K F' L' S' H'->dU K F' L' w v->Q v H'
noncomputable def f2(fa fb:FE)(g:aC->W->W->Option (W×aC)):FE:=λ env S=>(fa env S).bind λ p=>(fb env p.2).bind λ q=>g q.2 p.1 q.1
noncomputable def f1(fa:FE)(g:aC->W->Option (W×aC)):FE:=λ env S=>(fa env S).bind λ p=>g p.2 p.1
theorem pY{K:FrG}{fa fb:FE}{g:aC->W->W->Option (W×aC)}{r:R2}
 (hr:∀ F L S H x y wx wy w S' Q,Rel K F L S H->dU K F L wx x->dU K F L wy y->g S wx wy=qq (w,S')->pZ K F L S' w Q->r x y H Q)
 (σ:St) (H:Hp) (Q:VK) (h:aM K (f2 fa fb g) σ H Q):tZ r (aM K fa) (aM K fb) σ H Q:=by
 obtain⟨F,L,S,env,w,S',R,E,e,q⟩:=h;unfold f2 at e;cases ea:fa env S with
 | none=>rw[ea] at e;cases e
 | some p =>
   obtain⟨wx,S1⟩:=p;rw[ea] at e;dsimp only[yDb] at e;cases eb:fb env S1 with
   | none=>rw[eb] at e;cases e
   | some p2 =>
     obtain⟨wy,S2⟩:=p2;rw[eb] at e;dsimp only at e;refine⟨F,L,S,env,wx,S1,R,E,ea,λ F1 L1 H1 x g1 R1 d1=>⟨F1,L1,S1,env,wy,S2,R1,E.mono g1,eb,λ F2 L2 H2 y g2 R2 d2=>?_⟩⟩
     exact hr F2 L2 S2 H2 x y wx wy w S' Q R2 (d1.mono g2) d2 e λ F3 L3 H3 v g3 R3 d3=>q F3 L3 H3 v ((g1.trans g2).trans g3) R3 d3
noncomputable def dW(i:Nat):FE:=λ env S=>match env[i]? with
 | some (qq w)=>qq (w,S)
 | _=>qz
theorem aIF{i:Nat}{env:aU}{S S':aC}{w:W}(h:dW i env S=qq (w,S')):env[i]? = qq (qq w)/\S'=S:=by
 unfold dW at h
 split at h
 ·rename_i w' e;cases h;exact⟨e,rfl⟩
 ·cases h
theorem aBq{i:Nat}{x:Str}{pos:Pos}(hN:X.N[i]? = qq x)(hv:lJ X.env.scope x)(hd:(x==("__debug__" : Str))=false)(hcd:(x==("__classdict__" : Str))=false):PE X (.Name x pos) (aM X.K (dW i)):=
 PE.weak (aA0 hN hv hd hcd) λ σ H Q aK=>by
  obtain⟨F,L,S,env,w,S',R,E,e,q⟩:=aK;obtain⟨e1,rfl⟩:=aIF e;obtain⟨v,e2,d⟩:=E.get i w e1;exact⟨v,e2,q F L H v Gr.refl R d⟩
noncomputable def fC(d:D):FE:=λ _ S=>qq (.d d,S)
theorem aOa{i j pos}:PE X (.Constant (.int i) j pos) (aM X.K (fC (.int i))):=
 PE.weak aL1 λ σ H Q aK=>by obtain⟨F,L,S,env,w,S',R,E,e,q⟩:=aK;cases e;exact q F L H _ Gr.refl R (.int i)
theorem aGs{b j pos}:PE X (.Constant (.bool b) j pos) (aM X.K (fC (.bool b))):=
 PE.weak aNN λ σ H Q aK=>by obtain⟨F,L,S,env,w,S',R,E,e,q⟩:=aK;cases e;exact q F L H _ Gr.refl R (.bl b)
theorem aOI{j pos}:PE X (.Constant .none j pos) (aM X.K (fC .none)):=
 PE.weak aM8 λ σ H Q aK=>by obtain⟨F,L,S,env,w,S',R,E,e,q⟩:=aK;cases e;exact q F L H _ Gr.refl R .non
theorem aFQ{x j pos}:PE X (.Constant (.str x) j pos) (aM X.K (fC (.str x))):=
 PE.weak aFc λ σ H Q aK=>by obtain⟨F,L,S,env,w,S',R,E,e,q⟩:=aK;cases e;exact q F L H _ Gr.refl R (.str x)
noncomputable def gN(g:D->D->Option D)(S:aC)(x y:W):Option (W×aC):=(dr S x).bind λ a=>(dr S y).bind λ b=>(g a b).bind λ z=>qq (.d z,S)
noncomputable def dE(g:D->Option D)(S:aC)(x:W):Option (W×aC):=(dr S x).bind λ a=>(g a).bind λ z=>qq (.d z,S)
theorem uV{g:D->D->Option D}{S S':aC}{x y w:W}(h:gN g S x y=qq (w,S')):∃ a b z,dr S x=qq a/\dr S y=qq b/\g a b=qq z/\w=.d z/\S'=S:=by
 unfold gN at h;cases e1:dr S x with
 | none=>rw[e1] at h;cases h
 | some a =>
   cases e2:dr S y with
   | none=>rw[e1,e2] at h;cases h
   | some b =>
     rw[e1,e2] at h;dsimp only[yDb] at h;cases e3:g a b with
     | none=>rw[e3] at h;cases h
     | some z=>rw[e3] at h;cases h;exact⟨a,b,z,rfl,rfl,e3,rfl,rfl⟩
theorem qV{g:D->Option D}{S S':aC}{x w:W}(h:dE g S x=qq (w,S')):∃ a z,dr S x=qq a/\g a=qq z/\w=.d z/\S'=S:=by
 unfold dE at h;cases e1:dr S x with
 | none=>rw[e1] at h;cases h
 | some a =>
   rw[e1] at h;dsimp only[yDb] at h;cases e3:g a with
   | none=>rw[e3] at h;cases h
   | some z=>rw[e3] at h;cases h;exact⟨a,z,rfl,e3,rfl,rfl⟩
theorem vE{K:FrG}{F:Hp}{L:List qv}{S:aC}{z:D}{Q:VK}(X:Cx)(hK:X.K=K)(q:pZ K F L S (.d z) Q):fG X F L S z Q:=λ F' H' r sf R d=>by
 subst hK;exact q F' L H' r ⟨sf,[],by simp⟩ R d
noncomputable def uB(X:Cx)(g:D->D->Option D):R2:=λ x y H Q=>∃ F L S dx dy z,Rel X.K F L S H/\bJ X.K F H dx x/\bJ X.K F H dy y/\g dx dy=qq z/\fG X F L S z Q
theorem pC{g:D->D->Option D}(F:Hp)(L:List qv)(S:aC)(H:Hp)(x y:V)(wx wy w:W)(S':aC)(Q:VK)(R:Rel X.K F L S H)(h1:dU X.K F L wx x)(h2:dU X.K F L wy y)(e:gN g S wx wy=qq (w,S'))(q:pZ X.K F L S' w Q):uB X g x y H Q:=by
 obtain⟨a,b,z,e1,e2,e3,rfl,rfl⟩:=uV e;exact⟨F,L,S',a,b,z,R,iN R h1 e1,iN R h2 e2,e3,vE X rfl q⟩
noncomputable def nM(op:vj)(fa fb:FE):FE:=f2 fa fb (gN (cA op))
theorem aFG{a b:qw}{op:vj}{pos:Pos}{fa fb:FE}(ha:PE X a (aM X.K fa))(hb:PE X b (aM X.K fb)):PE X (.BinOp a op b pos) (aM X.K (nM op fa fb)):=
 PE.weak (aN5 (r:=uB X (cA op)) (λ aA s σ H x y v u Q I rx ry hPr2=>by obtain⟨F,L,S,dx,dy,z,R,nx,ny,e,q⟩:=hPr2;exact aMC I rx ry R nx ny e q) ha hb) (pY pC)
noncomputable def fUn(op:kq)(fa:FE):FE:=f1 fa (dE (unD op))
noncomputable def bA(op:vk)(x y:D):Option D:=(lA op x y).map yBf
theorem aDJ{op:vk}(hu:X.A.units+64<cLine):bX X (jz op) (uB X (bA op)):=λ aA s σ H x y v u Q I rx ry aK=>by
 obtain⟨F,L,S,dx,dy,z,R,nx,ny,e,q⟩:=aK;unfold bA at e;cases ec:lA op dx dy with
 | none=>rw[ec] at e;cases e
 | some b=>rw[ec] at e;cases e;exact aLd hu I rx ry R nx ny ec (q.here R (.bl b))
noncomputable def kA(op:vk)(fa fb:FE):FE:=f2 fa fb (gN (bA op))
theorem aFN{a b:qw}{op:vk}{pos:Pos}{fa fb:FE}(hu:X.A.units+64<cLine)(ha:PE X a (aM X.K fa))(hb:PE X b (aM X.K fb))(hm:jv op b=false):PE X (.Compare a [op] [b] pos) (aM X.K (kA op fa fb)):=
 PE.weak (aAO (aDJ hu) ha hb hm) (pY pC)
noncomputable def cJ(fa:FE):FT:=λ env S=>(fa env S).bind λ p=>(dr p.2 p.1).bind λ d=>(sP d).bind λ b=>qq (b,p.2)
theorem aAc{fa:FE}{env:aU}{S S':aC}{b:Bool}(h:cJ fa env S=qq (b,S')):∃ w d,fa env S=qq (w,S')/\dr S' w=qq d/\sP d=qq b:=by
 unfold cJ at h;cases ea:fa env S with
 | none=>rw[ea] at h;cases h
 | some p =>
   obtain⟨w,S1⟩:=p;rw[ea] at h;dsimp only[yDb] at h;cases e1:dr S1 w with
   | none=>rw[e1] at h;cases h
   | some d =>
     rw[e1] at h;dsimp only at h;cases e2:sP d with
     | none=>rw[e2] at h;cases h
     | some c=>rw[e2] at h;cases h;exact⟨w,d,rfl,e1,e2⟩
theorem aOh{a:qw}{fa:FE}(ha:PE X a (aM X.K fa))(he:∀ dZ,isTrue a X.env dZ=(do let v <- dZ;standAt a.pos;holding [v] (truthy v))):PT X a (dQ X.K (cJ fa)):=
 PT.weak (aIP ha he) λ σ H Q aK=>by
  obtain⟨F,L,S,env,b,S',R,E,e,q⟩:=aK;obtain⟨w,d,e1,e2,e3⟩:=aAc e;exact⟨F,L,S,env,w,S',R,E,e1,λ F1 L1 H1 v g1 R1 d1=>⟨b,aKg R1 (iN R1 d1 e2) e3,q F1 L1 H1 g1 R1⟩⟩
theorem aMK{a b:qw}{op:vk}{pos:Pos}{fa fb:FE}(hu:X.A.units+64<cLine)(ha:PE X a (aM X.K fa))(hb:PE X b (aM X.K fb))(hm:jv op b=false):PT X (.Compare a [op] [b] pos) (dQ X.K (cJ (kA op fa fb))):=
 PT.weak (aD8 (aDJ hu) ha hb hm) λ σ H Q aK=>by
  obtain⟨F,L,S,env,b,S',R,E,e,q⟩:=aK;obtain⟨w,d,e1,e2,e3⟩:=aAc e;refine pY (fa:=fa) (fb:=fb) (g:=gN (bA op)) pC σ H _ ⟨F,L,S,env,w,S',R,E,e1,λ F1 L1 H1 v g1 R1 d1=>?_⟩
  have hc:∃ c,w=.d (.bool c):=by
   unfold kA f2 at e1;cases ea:fa env S with
   | none=>rw[ea] at e1;cases e1
   | some p =>
     rw[ea] at e1;dsimp only[yDb] at e1;cases eb:fb env p.2 with
     | none=>rw[eb] at e1;cases e1
     | some p2 =>
       rw[eb] at e1;dsimp only at e1;obtain⟨_,_,z,_,_,e6,rfl,_⟩:=uV e1;unfold bA at e6;cases e7:lA op _ _ with
       | none=>rw[e7] at e6;cases e6
       | some c=>rw[e7] at e6;cases e6;exact⟨c,rfl⟩
  obtain⟨c,rfl⟩:=hc;cases e2;cases e3;have hv:v=.bl b:=by cases (show Den X.K F1 (.bool b) v from d1);rfl
  exact⟨b,hv,q F1 L1 H1 g1 R1⟩
end
section
variable {X : Cx}{pos : Pos}
noncomputable def wY(fa fb:FT):FT:=λ env S=>(fa env S).bind λ p=>if p.1=true then fb env p.2 else qq (false,p.2)
noncomputable def yQ(fa fb:FT):FT:=λ env S=>(fa env S).bind λ p=>if p.1=true then qq (true,p.2) else fb env p.2
noncomputable def xD(fa:FT):FT:=λ env S=>(fa env S).bind λ p=>qq (!p.1,p.2)
theorem aFC{K:FrG}{fa fb:FT}(σ:St)(H:Hp)(Q:Bool->Hp->Prop)(h:dQ K (wY fa fb) σ H Q):aGj (dQ K fa) (dQ K fb) σ H Q:=by
 obtain⟨F,L,S,env,b,S',R,E,e,q⟩:=h;obtain⟨⟨c,S1⟩,e1,e2⟩:=bind_some e;refine⟨F,L,S,env,c,S1,R,E,e1,λ F1 L1 H1 g1 R1=>?_⟩
 dsimp only at e2;cases c with
 | true=>exact nO ⟨F1,L1,S1,env,b,S',R1,E.mono g1,by simpa using e2,λ F2 L2 H2 g2 R2=>q F2 L2 H2 (g1.trans g2) R2⟩
 | false =>
   have e3:qq (false,S1)=qq (b,S'):=by simpa using e2
   cases e3;exact nL (q F1 L1 H1 g1 R1)
theorem aF0{K:FrG}{fa fb:FT}(σ:St)(H:Hp)(Q:Bool->Hp->Prop)(h:dQ K (yQ fa fb) σ H Q):tOr (dQ K fa) (dQ K fb) σ H Q:=by
 obtain⟨F,L,S,env,b,S',R,E,e,q⟩:=h;obtain⟨⟨c,S1⟩,e1,e2⟩:=bind_some e;refine⟨F,L,S,env,c,S1,R,E,e1,λ F1 L1 H1 g1 R1=>?_⟩
 dsimp only at e2;cases c with
 | false=>exact nL ⟨F1,L1,S1,env,b,S',R1,E.mono g1,by simpa using e2,λ F2 L2 H2 g2 R2=>q F2 L2 H2 (g1.trans g2) R2⟩
 | true =>
   have e3:qq (true,S1)=qq (b,S'):=by simpa using e2
   cases e3;exact nO (q F1 L1 H1 g1 R1)
theorem aN1{a:qw}{fa:FT}(ha:PT X a (dQ X.K fa)):PT X (.UnaryOp .Not a pos) (dQ X.K (xD fa)):=
 PT.weak (aLY ha) λ σ H Q aK=>by
  obtain⟨F,L,S,env,b,S',R,E,e,q⟩:=aK;obtain⟨⟨c,S1⟩,e1,e2⟩:=bind_some e;cases e2;exact⟨F,L,S,env,c,S1,R,E,e1,q⟩
noncomputable def sC(fa fb:FE):FE:=λ env S=>(fa env S).bind λ p=>match p.1 with
 | .d (.bool true)=>fb env p.2
 | .d (.bool false)=>qq (.d (.bool false),p.2)
 | _=>qz
noncomputable def xB(fa fb:FE):FE:=λ env S=>(fa env S).bind λ p=>match p.1 with
 | .d (.bool false)=>fb env p.2
 | .d (.bool true)=>qq (.d (.bool true),p.2)
 | _=>qz
noncomputable def wC(fa:FE):FE:=λ env S=>(fa env S).bind λ p=>match p.1 with
 | .d (.bool b)=>qq (.d (.bool (!b)),p.2)
 | _=>qz
theorem rU{K:FrG}{F:Hp}{L:List qv}{b:Bool}{v:V}(h:dU K F L (.d (.bool b)) v):v=.bl b:=by cases (show Den K F (.bool b) v from h);rfl
theorem vP{K:FrG}{fa fb:FE}(σ:St)(H:Hp)(Q:VK)(h:aM K (sC fa fb) σ H Q):aFJ (aM K fa) (aM K fb) σ H Q:=by
 obtain⟨F,L,S,env,w,S',R,E,e,q⟩:=h;obtain⟨⟨c,S1⟩,e1,e2⟩:=bind_some e;dsimp only at e2
 split at e2
 ·exact⟨F,L,S,env,_,S1,R,E,e1,λ F1 L1 H1 v g1 R1 d1=>⟨true,rU d1,nO ⟨F1,L1,S1,env,w,S',R1,E.mono g1,e2,λ F2 L2 H2 v2 g2 R2 d2=>q F2 L2 H2 v2 (g1.trans g2) R2 d2⟩⟩⟩
 ·cases e2;exact⟨F,L,S,env,_,_,R,E,e1,λ F1 L1 H1 v g1 R1 d1=>⟨false,rU d1,nL (q F1 L1 H1 _ g1 R1 (Den.bl false))⟩⟩
 ·cases e2
theorem aFO{K:FrG}{fa fb:FE}(σ:St)(H:Hp)(Q:VK)(h:aM K (xB fa fb) σ H Q):aF2 (aM K fa) (aM K fb) σ H Q:=by
 obtain⟨F,L,S,env,w,S',R,E,e,q⟩:=h;obtain⟨⟨c,S1⟩,e1,e2⟩:=bind_some e;dsimp only at e2
 split at e2
 ·exact⟨F,L,S,env,_,S1,R,E,e1,λ F1 L1 H1 v g1 R1 d1=>⟨false,rU d1,nL ⟨F1,L1,S1,env,w,S',R1,E.mono g1,e2,λ F2 L2 H2 v2 g2 R2 d2=>q F2 L2 H2 v2 (g1.trans g2) R2 d2⟩⟩⟩
 ·cases e2;exact⟨F,L,S,env,_,_,R,E,e1,λ F1 L1 H1 v g1 R1 d1=>⟨true,rU d1,nO (q F1 L1 H1 _ g1 R1 (Den.bl true))⟩⟩
 ·cases e2
theorem aMm{a:qw}{fa:FE}(ha:PE X a (aM X.K fa)):PE X (.UnaryOp .Not a pos) (aM X.K (wC fa)):=
 PE.weak (aMa ha) λ σ H Q aK=>by
  obtain⟨F,L,S,env,w,S',R,E,e,q⟩:=aK;obtain⟨⟨c,S1⟩,e1,e2⟩:=bind_some e;dsimp only at e2
  split at e2
  ·cases e2;exact⟨F,L,S,env,_,_,R,E,e1,λ F1 L1 H1 v g1 R1 d1=>⟨_,rU d1,q F1 L1 H1 _ g1 R1 (Den.bl _)⟩⟩
  ·cases e2
noncomputable def nT(fc:FT)(fa fb:FE):FE:=λ env S=>(fc env S).bind λ p=>if p.1=true then fa env p.2 else fb env p.2
theorem aN0{c a b:qw}{fc:FT}{fa fb:FE}(hc:PT X c (dQ X.K fc))(ha:PE X a (aM X.K fa))(hb:PE X b (aM X.K fb)):PE X (.IfExp c a b pos) (aM X.K (nT fc fa fb)):=
 PE.weak (aJq hc ha hb) λ σ H Q aK=>by
  obtain⟨F,L,S,env,w,S',R,E,e,q⟩:=aK;obtain⟨⟨c,S1⟩,e1,e2⟩:=bind_some e;refine⟨F,L,S,env,c,S1,R,E,e1,λ F1 L1 H1 g1 R1=>?_⟩
  dsimp only at e2;cases c with
  | true=>exact nO ⟨F1,L1,S1,env,w,S',R1,E.mono g1,by simpa using e2,λ F2 L2 H2 v g2 R2 d2=>q F2 L2 H2 v (g1.trans g2) R2 d2⟩
  | false=>exact nL ⟨F1,L1,S1,env,w,S',R1,E.mono g1,by simpa using e2,λ F2 L2 H2 v g2 R2 d2=>q F2 L2 H2 v (g1.trans g2) R2 d2⟩
noncomputable def eJ:FA:=λ _ S=>qq ([],S)
noncomputable def cH(fa:FE)(fr:FA):FA:=λ env S=>(fa env S).bind λ p=>(fr env p.2).bind λ q=>qq (p.1::q.1,q.2)
theorem mY:PA X [] (cT X.K eJ):=PA.weak oV λ σ H Q aK=>by obtain⟨F,L,S,env,ws,S',R,E,e,q⟩:=aK;cases e;exact q F L H [] Gr.refl R .nil
theorem lQ{e:qw}{es:List qw}{fa:FE}{fr:FA}(ha:PE X e (aM X.K fa))(hr:PA X es (cT X.K fr))(hs:zv (e::es) X.env=(false,eval e X.env)::zv es X.env):PA X (e::es) (cT X.K (cH fa fr)):=
 PA.weak (jR ha hr hs) λ σ H Q aK=>by
  obtain⟨F,L,S,env,ws,S',R,E,e,q⟩:=aK;obtain⟨⟨w,S1⟩,e1,e2⟩:=bind_some e;obtain⟨⟨wr,S2⟩,e3,e4⟩:=bind_some e2;cases e4;exact⟨F,L,S,env,w,S1,R,E,e1,λ F1 L1 H1 v g1 R1 d1=>⟨F1,L1,S1,env,wr,S2,R1,E.mono g1,e3,λ F2 L2 H2 vs g2 R2 d2=>q F2 L2 H2 _ (g1.trans g2) R2 (.cons (d1.mono g2) d2)⟩⟩
noncomputable def sU:List W->Option (List D)
 | []=>qq []
 | .d x::r=>(sU r).bind λ l=>qq (x::l)
 | .loc _::_=>qz
 | .exc _ _::_=>qz
theorem aAw{K:FrG}{F:Hp}{L:List qv}:∀ {ws:List W}{xs:List V}{ds:List D},WDenL K F L ws xs->sU ws=qq ds->DenL K F ds xs
 | _,_,_,.nil,e=>by cases e;exact .nil
 | .d x::r,_,_,.cons h t,e=>by
   obtain⟨l,e1,e2⟩:=bind_some e;cases e2;exact .cons h (aAw t e1)
 | .loc _::_,_,_,.cons _ _,e=>by cases e
 | .exc _ _::_,_,_,.cons _ _,e=>by cases e
noncomputable def sL(fs:FA):FE:=λ env S=>(fs env S).bind λ p=>(sU p.1).bind λ ds=>if ds.length<=qk then qq (.d (.tuple ds),p.2) else qz
theorem aFM{es:List qw}{k:Nat}{fs:FA}(h:PA X es (cT X.K fs)):PE X (.Tuple es k pos) (aM X.K (sL fs)):=
 PE.weak (aA2 h) λ σ H Q aK=>by
  obtain⟨F,L,S,env,w,S',R,E,e,q⟩:=aK;obtain⟨⟨ws,S1⟩,e1,e2⟩:=bind_some e;obtain⟨ds,e3,e4⟩:=bind_some e2
  split at e4
  ·rename_i hz;cases e4;refine⟨F,L,S,env,ws,_,R,E,e1,λ F1 L1 H1 vs g1 R1 d1=>?_⟩
   have dl:=aAw d1 e3;refine⟨by rw[<- dl.length];exact hz,λ p hp=>?_⟩
   exact q _ L1 _ _ (g1.trans (Gr.new (R1.sub.free hp))) (R1.new hp) (Den.tup (bL.of bQ) (dl.mono (dG (R1.sub.free hp))))
  ·cases e4
noncomputable def lC(fs:FA):FL:=λ env S=>(fs env S).bind λ p=>(sU p.1).bind λ ds=>if ds.length<=qk then qq (ds,p.2) else qz
theorem wR{es:List qw}{fs:FA}(h:PA X es (cT X.K fs)):PE X (.List es pos) (gQ X.K (lC fs)):=
 PE.weak (aNq h) λ σ H Q aK=>by
  obtain⟨F,L,S,env,ds,S',R,E,e,q⟩:=aK;obtain⟨⟨ws,S1⟩,e1,e2⟩:=bind_some e;obtain⟨ds',e3,e4⟩:=bind_some e2
  split at e4
  ·rename_i hz;cases e4;refine⟨F,L,S,env,ws,_,R,E,e1,λ F1 L1 H1 vs g1 R1 d1=>?_⟩
   have dl:=aAw d1 e3;exact⟨by rw[<- dl.length];exact hz,λ p hp=>q F1 L1 _ p vs g1 (R1.lay hp) (R1.sub.free hp) (R1.notin hp) bQ dl⟩
  ·cases e4
noncomputable def fY(f:FL):FE:=λ env S=>(f env S).bind λ p=>qq (.d (.list p.1),p.2)
theorem pV{e:qw}{f:FL}(h:PE X e (gQ X.K f)):PE X e (aM X.K (fY f)):=
 PE.weak h λ σ H Q aK=>by
  obtain⟨F,L,S,env,w,S',R,E,e,q⟩:=aK;obtain⟨⟨ds,S1⟩,e1,e2⟩:=bind_some e;cases e2;exact⟨F,L,S,env,ds,_,R,E,e1,λ F1 L1 H1 p xs g1 R1 hF hL hH dl=>q _ L1 _ _ (g1.trans (Gr.new hF)) (R1.adopt hF hL hH) (Den.lst (bF.of bQ) (dl.mono (dG hF)))⟩
noncomputable def gK(f:FL):FE:=λ env S=>(f env S).bind λ p=>qq (.loc p.2.length,p.2++[qq p.1])
theorem aFr{e:qw}{f:FL}(h:PE X e (gQ X.K f)):PE X e (aM X.K (gK f)):=
 PE.weak h λ σ H Q aK=>by
  obtain⟨F,L,S,env,w,S',R,E,e,q⟩:=aK;obtain⟨⟨ds,S1⟩,e1,e2⟩:=bind_some e;cases e2;refine⟨F,L,S,env,ds,_,R,E,e1,λ F1 L1 H1 p xs g1 R1 hF hL hH dl=>q _ _ _ _ (g1.trans Gr.newLoc) (R1.adoptLoc hF hL hH dl) ⟨p,?_,rfl⟩⟩
  dsimp only;rw[<- R1.len,yAe (yAc _)];simp
noncomputable def bC:D->D->Option D
 | .list xs,.int i=>iD xs i
 | .tuple xs,.int i=>iD xs i
 | .str z,.int i=>if z.length<=qk then (iD z.cps.toList i).bind λ c=>qq (.str ⟨#[c]⟩) else qz
 | _,_=>qz
theorem aEx{K:FrG}{F:Hp}{ds:List D}{xs:List V}{i:Int}{d:D}(h:DenL K F ds xs)(e:iD ds i=qq d):∃ x,iD xs i=qq x/\Den K F d x:=by
 unfold iD at e ⊢;rw[<- h.length];obtain⟨j,e1,e2⟩:=bind_some e;obtain⟨x,e3,dx⟩:=h.get e2;exact⟨x,by rw[e1];exact e3,dx⟩
theorem aKA:kH X (uB X bC):=λ value iF aA s σ H x y v u Q I rx ry aK hs=>by
 obtain⟨F,L,S,dx,dy,z,R,nx,ny,e,q⟩:=aK;unfold bC at e
 split at e
 ·obtain⟨a,xs,rfl,sq,dl⟩:=nx.lst R.sub;obtain⟨r,e1,d1⟩:=aEx dl e;exact aK1 value iF aA s σ H _ y v u Q I rx ry ⟨a,xs,_,r,rfl,ny.int,sq,e1,q.here R d1⟩ hs
 ·obtain⟨a,xs,rfl,sq,dl⟩:=nx.tup R.sub;obtain⟨r,e1,d1⟩:=aEx dl e;exact aMx value iF aA s σ H _ y v u Q I rx ry ⟨a,xs,_,r,rfl,ny.int,sq,e1,q.here R d1⟩ hs
 ·split at e
  ·rename_i hz;obtain⟨c,e1,e2⟩:=bind_some e;cases e2;exact aNr value iF aA s σ H x y v u Q I rx ry ⟨_,_,c,nx.str,ny.int,hz,e1,q.here R (.str _)⟩ hs
  ·cases e
 ·cases e
noncomputable def qD(fa fb:FE):FE:=f2 fa fb (gN bC)
theorem aPq{a b:qw}{fa fb:FE}(ha:PE X a (aM X.K fa))(hb:PE X b (aM X.K fb))(hs:vH b):PE X (.Subscript a b pos) (aM X.K (qD fa fb)):=
 PE.weak (aFE aKA ha hb hs) (pY pC)
abbrev FO:=aU->aC->Option (Option Int×aC)
noncomputable def gM:FO:=λ _ S=>qq (qz,S)
noncomputable def eD(fa:FE):FO:=λ env S=>(fa env S).bind λ p=>match p.1 with
 | .d (.int i)=>qq (qq i,p.2)
 | _=>qz
def kE(K:FrG)(f:FO):TO:=λ σ H Q=>∃ F L S env o S',Rel K F L S H/\EnvR K F L env σ/\f env S=qq (o,S')/\∀ F' L' H',Gr F L F' L'->Rel K F' L' S' H'->Q o H'
theorem aPa:PO X qz (kE X.K gM):=λ aA s σ H Q I aK=>by
 obtain⟨F,L,S,env,o,S',R,E,e,q⟩:=aK;cases e;exact aKX aA s σ H Q I (q F L H Gr.refl R)
theorem aLv{a:qw}{fa:FE}(ha:PE X a (aM X.K fa)):PO X (qq a) (kE X.K (eD fa)):=λ aA s σ H Q I aK=>by
 obtain⟨F,L,S,env,o,S',R,E,e,q⟩:=aK;obtain⟨⟨w,S1⟩,e1,e2⟩:=bind_some e;dsimp only at e2
 split at e2
 ·cases e2;refine aKZ ha aA s σ H Q I ⟨F,L,S,env,_,_,R,E,e1,λ F1 L1 H1 v g1 R1 d1=>?_⟩
  cases (show Den X.K F1 (.int _) v from d1)
  exact⟨_,rfl,q F1 L1 H1 g1 R1⟩
 ·cases e2
noncomputable def dJ(xs:List D)(lo hi:Option Int):List D:=(xs.drop (HT.sIx xs.length 0 lo)).take (HT.sIx xs.length xs.length hi-HT.sIx xs.length 0 lo)
theorem aD1{K:FrG}{F:Hp}{ds:List D}{xs:List V}(h:DenL K F ds xs)(lo hi:Option Int):DenL K F (dJ ds lo hi) (lD xs lo hi):=by
 unfold dJ lD;rw[h.length];exact(h.drop _).take _
noncomputable def slL:D->Option Int->Option Int->Option (List D)
 | .list xs,lo,hi=>qq (dJ xs lo hi)
 | _,_,_=>qz
noncomputable def aGp(fa:FE)(fl fh:FO):FL:=λ env S=>(fa env S).bind λ p=>(fl env p.2).bind λ q=>(fh env q.2).bind λ r=>(dr r.2 p.1).bind λ d=>(slL d q.1 r.1).bind λ z=>qq (z,r.2)
theorem aO4{a:qw}{lo hi:Option qw}{p2:Pos}{fa:FE}{fl fh:FO}(ha:PE X a (aM X.K fa))(hl:PO X lo (kE X.K fl))(hh:PO X hi (kE X.K fh)):PE X (.Subscript a (.Slice lo hi qz p2) pos) (gQ X.K (aGp fa fl fh)):=
 PE.weak (aDT aJV ha hl hh) λ σ H Q aK=>by
  obtain⟨F,L,S,env,ds,S',R,E,e,q⟩:=aK;obtain⟨⟨w,S1⟩,e1,e⟩:=bind_some e;obtain⟨⟨l,S2⟩,e2,e⟩:=bind_some e;obtain⟨⟨h,S3⟩,e3,e⟩:=bind_some e;obtain⟨d,e4,e⟩:=bind_some e;obtain⟨z,e5,e⟩:=bind_some e;cases e;refine⟨F,L,S,env,w,S1,R,E,e1,λ F1 L1 H1 v g1 R1 d1=>⟨F1,L1,S1,env,l,S2,R1,E.mono g1,e2,λ F2 L2 H2 g2 R2=>⟨F2,L2,S2,env,h,S3,R2,E.mono (g1.trans g2),e3,λ F3 L3 H3 g3 R3=>?_⟩⟩⟩
  have n:=iN R3 (d1.mono (g2.trans g3)) e4;cases d with
  | list xs =>
    cases e5;obtain⟨a,vs,rfl,sq,dl⟩:=n.lst R3.sub;exact⟨a,vs,rfl,sq,λ p hp=>q F3 L3 _ p _ ((g1.trans g2).trans g3) (R3.lay hp) (R3.sub.free hp) (R3.notin hp) bQ (aD1 dl l h)⟩
  | _=>cases e5
noncomputable def jL(K:FrG)(np:Nat)(call:List W->aC->Option (W×aC)):Sp:=λ vs H Q _=>∃ F L S ws w S',ws.length=np/\Rel K F L S H/\WDenL K F L ws vs/\call ws S=qq (w,S')/\pZ K F L S' w Q
noncomputable def sA(fs:FA)(np:Nat)(call:List W->aC->Option (W×aC)):FE:=λ env S=>(fs env S).bind λ p=>if p.1.length=np then call p.1 p.2 else qz
theorem aNA{K:FrG}{fs:FA}{np:Nat}{call:List W->aC->Option (W×aC)}(σ:St)(H:Hp)(Q:VK)(h:aM K (sA fs np call) σ H Q):wM (jL K np call) [] E0 (cT K fs) σ H Q:=by
 obtain⟨F,L,S,env,w,S',R,E,e,q⟩:=h;obtain⟨⟨ws,S1⟩,e1,e⟩:=bind_some e
 split at e
 ·rename_i hn;refine⟨F,L,S,env,ws,S1,R,E,e1,λ F1 L1 H1 vs g1 R1 d1=>⟨F1,L1,S1,ws,w,S',hn,R1,by rw[yAs];exact d1,e,λ F2 L2 H2 v g2 R2 d2=>q F2 L2 H2 v (g1.trans g2) R2 d2⟩⟩
 ·cases e
inductive NowL (K:FrG) (F H:Hp):List D->List V->Prop
 | nil:NowL K F H [] []
 | cons {d:D}{ds:List D}{x:V}{xs:List V}:bJ K F H d x->NowL K F H ds xs->NowL K F H (d::ds) (x::xs)
noncomputable def xQ(S:aC):List W->Option (List D)
 | []=>qq []
 | w::r=>(dr S w).bind λ d=>(xQ S r).bind λ l=>qq (d::l)
theorem aEy{K:FrG}{F H:Hp}{L:List qv}{S:aC}(R:Rel K F L S H):∀ {ws:List W}{xs:List V}{ds:List D},WDenL K F L ws xs->xQ S ws=qq ds->NowL K F H ds xs
 | _,_,_,.nil,e=>by cases e;exact .nil
 | _,_,_,.cons h t,e=>by
   obtain⟨d,e1,e⟩:=bind_some e;obtain⟨l,e2,e⟩:=bind_some e;cases e;exact .cons (iN R h e1) (aEy R t e2)
noncomputable def kI(X:Cx)(g:List D->Option D):List V->Hp->VK->Prop:=λ xs H Q=>∃ F L S ds z,Rel X.K F L S H/\NowL X.K F H ds xs/\g ds=qq z/\fG X F L S z Q
noncomputable def pU(fs:FA)(g:List D->Option D):FE:=λ env S=>(fs env S).bind λ p=>(xQ p.2 p.1).bind λ ds=>(g ds).bind λ z=>qq (.d z,p.2)
theorem kU{fs:FA}{g:List D->Option D}(σ:St)(H:Hp)(Q:VK)(h:aM X.K (pU fs g) σ H Q):uD (kI X g) (cT X.K fs) σ H Q:=by
 obtain⟨F,L,S,env,w,S',R,E,e,q⟩:=h;obtain⟨⟨ws,S1⟩,e1,e⟩:=bind_some e;obtain⟨ds,e2,e⟩:=bind_some e;obtain⟨z,e3,e⟩:=bind_some e;cases e;refine⟨F,L,S,env,ws,_,R,E,e1,λ F1 L1 H1 vs g1 R1 d1=>⟨F1,L1,S1,ds,z,R1,aEy R1 d1 e2,e3,vE X rfl λ F2 L2 H2 v g2 R2 d2=>q F2 L2 H2 v (g1.trans g2) R2 d2⟩⟩
end
section
variable {prog : qo}{w : zq}{A : zj}{E : qx -> qj -> Prop}{s : qj}
theorem aCT{it t:qv}{aJ:Array qx}(hne:t≠it):∀ (n i:Nat) (s:qj) (Q:List qx->qj->Prop),s.heap.IsListIter it t i->s.heap.IsList t aJ->i+n<=aJ.size ->
 (∀ h',h'.IsListIter it t (i+n)->yCq it s.heap h'->Q ((aJ.toList.drop i).take n) {s with heap:=h' })->qu (model prog w) A (draw (.ref it) n) Q E s
 | 0,i,s,Q,hit,_,_,hQ=>wP (by simpa using hQ s.heap hit (Heap.SameBut.refl _ _))
 | n+1,i,s,Q,hit,hl,hle,hQ=>by
   have hlt:i<aJ.size:=by omega
   show qu _ _ (yo (.ref it) >>= _) Q E s;refine wB (wz hit hl (x:=aJ[i]) (by simp[hlt]) λ h1 hit1 hs1=>?_)
   refine wB (xq (aCT hne n (i+1) _ _ hit1 (hl.extBut hs1.extBut hne) (by omega) λ h2 hit2 hs2=>wP ?_))
   have q:=hQ h2 (by rw[show i+(n+1)=i+1+n by omega];exact hit2) (hs1.trans hs2)
   rw[yCl (by simpa using hlt),List.take_succ_cons] at q
   exact q
theorem aHu{env:Env}{elts:List qw}{x1}{pos:Pos}{t:qv}{aJ:Array qx}{Q:Unit->qj->Prop}(hh:A.handled=qz)(hl:s.heap.IsList t aJ)
 (hn:(xj elts env).length=aJ.size) (hstar:(xj elts env).findIdx? (·.1)=qz)
 (h:∀ h',Heap.ExtBut s.heap.objs.size s.heap h'->qu (model prog w) A (assignInOrder ((xj elts env).map (·.2)) aJ.toList) Q E {s with heap:=h' }) :
 qu (model prog w) A (assign (.Tuple elts x1 pos) env (.ref t)) Q E s:=by
 have hlt:t≠s.heap.objs.size:=by obtain⟨o,ho,_⟩:=hl;exact xAh (xAa ho)
 have hl1:∀ o,(s.heap.push o).IsList t aJ:=λ o=>let ⟨u,hu,r⟩:=hl;⟨u,hpS _ hu,r⟩
 rw[arm_assign_Tuple];refine wB (vv ?_);unfold unpack;rw[hn,hstar];refine wB (xq ?_);unfold unpackItems;refine wB ?_;unfold notIterableAtAll;refine wB (wpAny_specialOf hl.typeIs slot_list_iter.lookup (wP ?_));simp only[yBd,if_false];refine wB (xq (jo hl ?_));refine wB (xq (aCT hlt aJ.size 0 _ _ ⟨_,xAe _ rfl,rfl,rfl⟩ (hl1 _) (by omega) λ h1 hit1 hs1=>?_))
 rw[show List.take aJ.size (List.drop 0 aJ.toList)=aJ.toList by rw[yCu];exact yBm (by simp)]
 rw[if_neg (by simp)]
 have hl2:h1.IsList t aJ:=(hl1 _).extBut hs1.extBut hlt;refine wB (xq (ww hh hit1 hl2 (by simp) λ h2 he2=>?_))
 simp only[Option.isSome_none,yBd,if_false];exact wP (h h2 λ b o hb e=>he2 b o hb (hs1.extBut b o hb (hpS _ e)))
end
section
variable {X : Cx}
def aBM(K:FrG)(n:Nat)(t:iC):TG:=λ v σ H Q=>∃ a xs,v=.ref a/\(bL K H a xs\/bF K H a xs)/\xs.length=n/\t xs σ H Q
theorem aLA{es:List qw}{k:Nat}{t:iC}{n:Nat}{pos:Pos}(hc:X.calm=true)(h:nU X es t)(hn:(xj es X.env).length=n)(cZ:(xj es X.env).findIdx? (·.1)=qz):PG X (.Tuple es k pos) (aBM X.K n t):=by
 intro aA s σ H v u Q I r hw;obtain⟨a,xs,e1,hq,hl,hw⟩:=hw;rcases hq with hq | hq
 ·exact aLu hc h hn cZ aA s σ H v u Q I r ⟨a,xs,e1,hq,hl,hw⟩
 ·subst e1;cases r;obtain⟨its,rv,pl,hz⟩:=I.list hq;refine aHu (I.ok.hd hc) pl.isList (by simp[hn,<- hl,rv.length]) cZ λ h' hx=>?_
  have I1:Inv X aA σ H {s with heap:=h' }:=I.kept (t':=s.toks) λ b o e=>hx b o (xAh (xAa e)) e
  exact h aA _ σ H xs _ Q I1 (by simpa using rv) hw
end
section
variable {X : Cx}{pos : Pos}
noncomputable def wT(K:FrG)(D:Ends)(F':Hp)(L':List qv)(H':Hp):Fl->Prop
 | .nx aO=>∀ σ',EnvR K F' L' aO σ'->D.nx σ' H'
 | .rt w=>∀ v,dU K F' L' w v->D.rt v H'
 | .bk aO=>∀ σ',EnvR K F' L' aO σ'->D.bk σ' H'
 | .ct aO=>∀ σ',EnvR K F' L' aO σ'->D.ct σ' H'
theorem iL{K:FrG}{f:FS}{D:Ends}{σ:St}{H F:Hp}{L:List qv}{S:aC}{env:aU}{fl:Fl}{S':aC}(R:Rel K F L S H)(E:EnvR K F L env σ)(e:f env S=qq (fl,S'))
 (q:∀ F' L' H',Gr F L F' L'->Rel K F' L' S' H'->wT K D F' L' H' fl):cG K f D σ H:=⟨F,L,S,env,fl,S',R,E,e,λ F' L' H' g R'=>by
 have:=q F' L' H' g R';cases fl<;>exact this⟩
theorem kP{K:FrG}{f:FS}{D:Ends}{σ:St}{H:Hp}(h:cG K f D σ H):∃ F L S env fl S',Rel K F L S H/\EnvR K F L env σ/\f env S=qq (fl,S')/\∀ F' L' H',Gr F L F' L'->Rel K F' L' S' H'->wT K D F' L' H' fl:=by
 obtain⟨F,L,S,env,fl,S',R,E,e,q⟩:=h;exact⟨F,L,S,env,fl,S',R,E,e,λ F' L' H' g R'=>by
  have:=q F' L' H' g R';cases fl<;>exact this⟩
noncomputable def mW:FS:=λ env S=>qq (.nx env,S)
theorem aEZ:bO X [] (cG X.K mW):=bO.weak aAU λ D σ H h=>by
 obtain⟨F,L,S,env,fl,S',R,E,e,q⟩:=kP h;cases e;exact q F L H Gr.refl R σ E
noncomputable def cY(fa fb:FS):FS:=λ env S=>(fa env S).bind λ p=>match p.1 with
 | .nx e=>fb e p.2
 | fl=>qq (fl,p.2)
theorem aFx{a:zk}{b:List zk}{fa fb:FS}(ha:PS X a (cG X.K fa))(hb:bO X b (cG X.K fb)):bO X (a::b) (cG X.K (cY fa fb)):=bO.weak (aAC ha hb) λ D σ H h=>by
 obtain⟨F,L,S,env,fl,S',R,E,e,q⟩:=kP h;obtain⟨⟨f1,S1⟩,e1,e2⟩:=bind_some e;cases f1 with
 | nx e'=>exact iL R E e1 λ F1 L1 H1 g1 R1 σ1 E1=>iL R1 E1 e2 λ F2 L2 H2 g2 R2=>q F2 L2 H2 (g1.trans g2) R2
 | rt w=>cases e2;exact iL R E e1 λ F1 L1 H1 g1 R1=>q F1 L1 H1 g1 R1
 | bk e'=>cases e2;exact iL R E e1 λ F1 L1 H1 g1 R1=>q F1 L1 H1 g1 R1
 | ct e'=>cases e2;exact iL R E e1 λ F1 L1 H1 g1 R1=>q F1 L1 H1 g1 R1
noncomputable def sF(fa:FE):FS:=λ env S=>(fa env S).bind λ p=>qq (.nx env,p.2)
theorem aE9{e:qw}{fa:FE}(h:PE X e (aM X.K fa))(hs:swapsWith e qz pos.line X.env=pure false):PS X (.Expr e pos) (cG X.K (sF fa)):=PS.weak (aEv h hs) λ D σ H h=>by
 obtain⟨F,L,S,env,fl,S',R,E,e,q⟩:=kP h;obtain⟨⟨w,S1⟩,e1,e2⟩:=bind_some e;cases e2;exact⟨F,L,S,env,w,_,R,E,e1,λ F1 L1 H1 v g1 R1 d1=>q F1 L1 H1 g1 R1 σ (E.mono g1)⟩
noncomputable def lY(fa:FE):FS:=λ env S=>(fa env S).bind λ p=>qq (.rt p.1,p.2)
theorem aFs{e:qw}{fa:FE}(h:PE X e (aM X.K fa)):PS X (.Return (qq e) pos) (cG X.K (lY fa)):=PS.weak (aNz h) λ D σ H h=>by
 obtain⟨F,L,S,env,fl,S',R,E,e,q⟩:=kP h;obtain⟨⟨w,S1⟩,e1,e2⟩:=bind_some e;cases e2;exact⟨F,L,S,env,w,_,R,E,e1,λ F1 L1 H1 v g1 R1 d1=>q F1 L1 H1 g1 R1 v d1⟩
noncomputable def aOr:FS:=λ env S=>qq (.rt (.d .none),S)
noncomputable def mF(fc:FT)(fa fb:FS):FS:=λ env S=>(fc env S).bind λ p=>if p.1=true then fa env p.2 else fb env p.2
theorem aPQ{c:qw}{a b:List zk}{fc:FT}{fa fb:FS}(hc:PT X c (dQ X.K fc))(ha:bO X a (cG X.K fa))(hb:bO X b (cG X.K fb)):PS X (.If c a b pos) (cG X.K (mF fc fa fb)):=PS.weak (aFT hc ha hb) λ D σ H h=>by
 obtain⟨F,L,S,env,fl,S',R,E,e,q⟩:=kP h;obtain⟨⟨c,S1⟩,e1,e2⟩:=bind_some e;refine⟨F,L,S,env,c,S1,R,E,e1,λ F1 L1 H1 g1 R1=>?_⟩
 cases c with
 | true=>exact nO (iL R1 (E.mono g1) (by simpa using e2) λ F2 L2 H2 g2 R2=>q F2 L2 H2 (g1.trans g2) R2)
 | false=>exact nL (iL R1 (E.mono g1) (by simpa using e2) λ F2 L2 H2 g2 R2=>q F2 L2 H2 (g1.trans g2) R2)
noncomputable def dX(i:Nat)(fa:FE):FS:=λ env S=>(fa env S).bind λ p=>qq (.nx (env.set i (qq p.1)),p.2)
theorem aFq{K:FrG}{i:Nat}{fa:FE}(D:Ends)(σ:St)(H:Hp)(h:cG K (dX i fa) D σ H):sZ (aM K fa) (lX i) D σ H:=by
 obtain⟨F,L,S,env,fl,S',R,E,e,q⟩:=kP h;obtain⟨⟨w,S1⟩,e1,e2⟩:=bind_some e;cases e2;exact⟨F,L,S,env,w,_,R,E,e1,λ F1 L1 H1 v g1 R1 d1=>q F1 L1 H1 g1 R1 _ ((E.mono g1).set i d1)⟩
theorem wH{i:Nat}{x:Str}{e:qw}{fa:FE}{pos':Pos}(hN:X.N.Nodup)(hi:X.N[i]? = qq x)(hx:Loc X.env.scope x)(he:PE X e (aM X.K fa))(hs:swapsWith e (qq (.Name x pos')) pos.line X.env=pure false)(hf:X.fn x=true\/X.env.scope.names.lookup x=qq .local) :
 PS X (.Assign [.Name x pos'] e pos) (cG X.K (dX i fa)):=PS.weak (aFa hN hi hx he hs hf) aFq
noncomputable def lS:List Nat->List D->aU->Option aU
 | [],[],env=>qq env
 | i::is,d::ds,env=>lS is ds (env.set i (qq (.d d)))
 | _,_,_=>qz
inductive Tg where
 | one (i:Nat) | many (is:List Nat)
noncomputable def Tg.put:Tg->D->aU->Option aU
 | .one i,d,env=>qq (env.set i (qq (.d d)))
 | .many is,.tuple ds,env=>lS is ds env
 | .many is,.list ds,env=>lS is ds env
 | .many _,_,_=>qz
def GA(K:FrG)(t:Tg)(g:TG):Prop:=∀ (d:D) (x:V) (σ:St) (H F:Hp) (L:List qv) (S:aC) (env aO:aU) (Q:St->Hp->Prop),
 Rel K F L S H->EnvR K F L env σ->Den K F d x->t.put d env=qq aO->(∀ σ',EnvR K F L aO σ'->Q σ' H)->g x σ H Q
theorem aLC{K:FrG}(i:Nat):GA K (.one i) (lX i):=λ d x σ H F L S env aO Q R E dn e q=>by
 cases e;exact q _ (E.set i (w:=.d d) dn)
def uA(K:FrG)(is:List Nat)(g:iC):Prop:=∀ (ds:List D) (xs:List V) (σ:St) (H F:Hp) (L:List qv) (S:aC) (env aO:aU) (Q:St->Hp->Prop),
 Rel K F L S H->EnvR K F L env σ->DenL K F ds xs->lS is ds env=qq aO->(∀ σ',EnvR K F L aO σ'->Q σ' H)->g xs σ H Q
theorem aKk{K:FrG}:uA K [] aBC:=λ ds xs σ H F L S env aO Q R E dn e q=>by
 cases dn with
 | nil=>cases e;exact⟨rfl,q σ E⟩
 | cons _ _=>cases e
theorem aJt{K:FrG}{i:Nat}{is:List Nat}{g:iC}(h:uA K is g):uA K (i::is) (aBt (lX i) g):=λ ds xs σ H F L S env aO Q R E dn e q=>by
 cases dn with
 | nil=>cases e
 | cons d1 dr=>exact⟨_,_,rfl,h _ _ _ H F L S _ aO Q R (E.set i (w:=.d _) d1) dr e q⟩
theorem zQ:∀ {is:List Nat}{ds:List D}{env aO:aU},lS is ds env=qq aO->is.length=ds.length
 | [],[],_,_,_=>rfl
 | _::is,_::ds,_,_,e=>congrArg (· + 1) (zQ (is:=is) (ds:=ds) e)
 | [],_::_,_,_,e=>by cases e
 | _::_,[],_,_,e=>by cases e
theorem aKE{K:FrG}{is:List Nat}{g:iC}(h:uA K is g):GA K (.many is) (aBM K is.length g):=λ d x σ H F L S env aO Q R E dn e q=>by
 cases d with
 | tuple ds =>
   cases dn with
   | tup sq dl=>exact⟨_,_,rfl,.inl (gX R.sub sq),by rw[<- dl.length];exact(zQ e).symm,h _ _ σ H F L S env aO Q R E dl e q⟩
 | list ds =>
   cases dn with
   | lst sq dl=>exact⟨_,_,rfl,.inr (R.sub.seq sq),by rw[<- dl.length];exact(zQ e).symm,h _ _ σ H F L S env aO Q R E dl e q⟩
 | _=>cases e
noncomputable def lT(t:Tg)(fa:FE):FS:=λ env S=>(fa env S).bind λ p=>match p.1 with
 | .d d=>(t.put d env).bind λ e=>qq (.nx e,p.2)
 | _=>qz
theorem aLw{K:FrG}{t:Tg}{g:TG}{fa:FE}(hg:GA K t g)(D:Ends)(σ:St)(H:Hp)(h:cG K (lT t fa) D σ H):sZ (aM K fa) g D σ H:=by
 obtain⟨F,L,S,env,fl,S',R,E,e,q⟩:=kP h;obtain⟨⟨w,S1⟩,e1,e2⟩:=bind_some e;dsimp only at e2
 split at e2
 ·obtain⟨e',e3,e4⟩:=bind_some e2;cases e4;exact⟨F,L,S,env,_,_,R,E,e1,λ F1 L1 H1 v g1 R1 d1=>hg _ v σ H1 F1 L1 _ env e' _ R1 (E.mono g1) d1 e3 λ σ' E'=>q F1 L1 H1 g1 R1 σ' E'⟩
 ·cases e2
noncomputable def pN(S:aC):W->W->W->Option aC
 | .loc n,.d (.int k),.d x=>match S[n]? with
   | some (qq ds)=>(iV ds.length k).bind λ j=>qq (S.set n (qq (ds.set j x)))
   | _=>qz
 | _,_,_=>qz
noncomputable def nP(fo fi fe:FE):FS:=λ env S=>(fe env S).bind λ p=>(fo env p.2).bind λ q=>(fi env q.2).bind λ r=>(pN r.2 q.1 r.1 p.1).bind λ S'=>qq (.nx env,S')
theorem aH2{S S':aC}{o i x:W}(h:pN S o i x=qq S'):∃ n k d ds j,o=.loc n/\i=.d (.int k)/\x=.d d/\S[n]? = qq (qq ds)/\iV ds.length k=qq j/\S'=S.set n (qq (ds.set j d)):=by
 unfold pN at h
 split at h
 ·split at h
  ·rename_i ds e;obtain⟨j,e1,e2⟩:=bind_some h;cases e2;exact⟨_,_,_,ds,j,rfl,rfl,rfl,e,e1,rfl⟩
  ·cases h
 ·cases h
theorem aOj{K:FrG}{fo fi fe:FE}(D:Ends)(σ:St)(H:Hp)(h:cG K (nP fo fi fe) D σ H):sZ (aM K fe) (aGr (aM K fo) (aM K fi) aFR) D σ H:=by
 obtain⟨F,L,S,env,fl,S',R,E,e,q⟩:=kP h;obtain⟨⟨we,S1⟩,e1,e⟩:=bind_some e;obtain⟨⟨wo,S2⟩,e2,e⟩:=bind_some e;obtain⟨⟨wi,S3⟩,e3,e⟩:=bind_some e;obtain⟨S4,e4,e⟩:=bind_some e;cases e;obtain⟨n,k,d,ds,j,rfl,rfl,rfl,e5,e6,rfl⟩:=aH2 e4;refine⟨F,L,S,env,_,S1,R,E,e1,λ F1 L1 H1 v g1 R1 d1=>⟨F1,L1,S1,env,_,S2,R1,E.mono g1,e2,λ F2 L2 H2 o g2 R2 d2=>⟨F2,L2,S2,env,_,S3,R2,E.mono (g1.trans g2),e3,λ F3 L3 H3 i g3 R3 d3=>?_⟩⟩⟩
 obtain⟨a,ea,rfl⟩:=d2.mono g3;obtain⟨fa,xs,ha,dl⟩:=R3.loc n a ds ea e5;have hi:i=.int k:=by cases (show Den K F3 (.int k) i from d3);rfl
 refine⟨a,xs,k,j,rfl,hi,ha,by rw[<- dl.length];exact e6,?_⟩
 exact q F3 L3 _ ((g1.trans g2).trans g3) (R3.put ea fa (dl.set j (show Den K F3 d v from d1.mono (g2.trans g3)))) σ (E.mono ((g1.trans g2).trans g3))
theorem aOR{o i e:qw}{fo fi fe:FE}{pos':Pos}(ho:PE X o (aM X.K fo))(hi:PE X i (aM X.K fi))(he:PE X e (aM X.K fe))(ha:∀ v,assign (.Subscript o i pos') X.env v=(do
 let ov <- holding [v] (eval o X.env)
 let iv <- holding [v,ov] (eval i X.env)
 standAt pos'
 holding [v,ov,iv] (setItem ov iv v)
 release [v,ov,iv] [])) (hs:swapsWithSole [.Subscript o i pos'] e pos.line X.env=pure false) (hw:yy [.Subscript o i pos'] e X.env=pure qz):PS X (.Assign [.Subscript o i pos'] e pos) (cG X.K (nP fo fi fe)):=
 PS.weak (aFk he (aMS ho hi aJa ha) hs hw) aOj
noncomputable def eG(S:aC):W->W->Option (W×aC)
 | .loc n,.d x=>match S[n]? with
   | some (qq ds)=>if ds.length<qk then qq (.d .none,S.set n (qq (ds++[x]))) else qz
   | _=>qz
 | _,_=>qz
theorem aC9{S S':aC}{o x w:W}(h:eG S o x=qq (w,S')):∃ n d ds,o=.loc n/\x=.d d/\S[n]? = qq (qq ds)/\ds.length<qk/\w=.d .none/\S'=S.set n (qq (ds++[d])):=by
 unfold eG at h
 split at h
 ·split at h
  ·rename_i ds e
   split at h
   ·rename_i hz;cases h;exact⟨_,_,ds,rfl,rfl,e,hz,rfl,rfl⟩
   ·cases h
  ·cases h
 ·cases h
noncomputable def hU(fo fe:FE):FE:=f2 fo fe eG
theorem aFB{K:FrG}{fo fe:FE}(σ:St)(H:Hp)(Q:VK)(h:aM K (hU fo fe) σ H Q):yJ K "list" aEA (aM K fo) (cT K (cH fe eJ)) σ H Q:=by
 obtain⟨F,L,S,env,w,S',R,E,e,q⟩:=h;obtain⟨⟨wo,S1⟩,e1,e⟩:=bind_some e;obtain⟨⟨we,S2⟩,e2,e⟩:=bind_some e;obtain⟨n,d,ds,rfl,rfl,e5,hz,rfl,rfl⟩:=aC9 e;refine⟨F,L,S,env,_,S1,R,E,e1,λ F1 L1 H1 o g1 R1 d1=>?_⟩
 obtain⟨a,ea,rfl⟩:=d1;refine⟨.inl ⟨rfl,?_⟩,F1,L1,S1,env,[.d d],S2,R1,E.mono g1,?_,λ F2 L2 H2 vs g2 R2 d2=>?_⟩
 ·obtain⟨xs,hx⟩:=R1.tr n a ea;exact⟨xs,bF.of hx⟩
 ·unfold cH;rw[e2];rfl
 ·cases d2 with
  | cons dd dr =>
    cases dr;have ea2:=g2.get ea;obtain⟨fa,xs,ha,dl⟩:=R2.loc n a ds ea2 e5;exact⟨a,xs,_,rfl,rfl,ha,by rw[<- dl.length];exact hz,q F2 L2 _ _ (g1.trans g2) (R2.put ea2 fa (dl.append (.cons dd .nil))) Den.non⟩
end
section
variable {X : Cx}{pos : Pos}
structure Wk(K:FrG)(F:Hp)(L:List qv)(J:It)(ds:List D):Prop where
 go:∀ (i:Nat) (H:Hp),bN F H->i<ds.length->J.go i H
 stop:∀ (H:Hp),bN F H->J.stop ds.length H
 yld:∀ (i:Nat) (H F1:Hp) (L1:List qv) (S:aC) (x:V) (H':Hp) (d:D),Gr F L F1 L1->Rel K F1 L1 S H->ds[i]? = qq d->J.yld i H x H'->∃ F2,bN F1 F2/\Rel K F2 L1 S H'/\Den K F2 d x
def iA(K:FrG)(f:FL):TI:=λ σ H R=>∃ F L S env ds S',Rel K F L S H/\EnvR K F L env σ/\f env S=qq (ds,S')/\∀ F' L' H' J,Gr F L F' L'->Rel K F' L' S' H'->Wk K F' L' J ds->R J H'
theorem PI.weak{tg iter:qw}{t t':TI}(h:PI X tg iter t)(w:∀ σ H R,t' σ H R->t σ H R):PI X tg iter t':=λ aA s σ H R I q=>h aA s σ H R I (w σ H R q)
theorem aKG{K:FrG}{F:Hp}{L:List qv}{a:qv}{xs:List V}{ds:List D}(sq:bF K F a xs)(dl:DenL K F ds xs):Wk K F L (Itl K a) ds where
 go:=λ i H s hi=>⟨xs,xs[i]'(by rw[<- dl.length];exact hi),s.seq sq,by simp[dl.length▸hi]⟩
 stop:=λ H s=>⟨xs,s.seq sq,yEa dl.length.symm⟩
 yld:=λ i H F1 L1 S x H' d g R e y=>by
  obtain⟨e1,y⟩:=y;subst e1;have h:=y xs ((g.f.trans R.sub).seq sq);obtain⟨x',e2,dx⟩:=dl.get e;rw[h] at e2;cases e2;exact⟨F1,bN.refl _,R,dx.mono g.f⟩
theorem aMh{K:FrG}{F:Hp}{L:List qv}{a:qv}{xs:List V}{ds:List D}(sq:bL K F a xs)(dl:DenL K F ds xs):Wk K F L (Itt K a) ds where
 go:=λ i H s hi=>⟨xs,xs[i]'(by rw[<- dl.length];exact hi),gX s sq,by simp[dl.length▸hi]⟩
 stop:=λ H s=>⟨xs,gX s sq,yEa dl.length.symm⟩
 yld:=λ i H F1 L1 S x H' d g R e y=>by
  obtain⟨e1,y⟩:=y;subst e1;have h:=y xs (gX (g.f.trans R.sub) sq);obtain⟨x',e2,dx⟩:=dl.get e;rw[h] at e2;cases e2;exact⟨F1,bN.refl _,R,dx.mono g.f⟩
noncomputable def jY(lo:Int):Nat->List D
 | 0=>[]
 | n+1=>.int lo::jY (lo+1) n
theorem zH(n:Nat):∀ lo:Int,(jY lo n).length=n:=by
 induction n with
 | zero=>intro lo;rfl
 | succ n ih=>intro lo;simp[jY,ih]
theorem aDo:∀ (n:Nat) (lo:Int) (i:Nat),i<n->(jY lo n)[i]? = qq (.int (lo+i))
 | 0,_,_,h=>by omega
 | n+1,lo,0,_=>by simp[jY]
 | n+1,lo,i+1,h=>by
   rw[jY,yCr,aDo n (lo+1) i (by omega)]
   congr 2
   push_cast
   omega
theorem aJd{K:FrG}{F:Hp}{L:List qv}(lo:Int)(n:Nat):Wk K F L (xS lo n) (jY lo n) where
 go:=λ i H s hi=>by rw[zH] at hi;exact hi
 stop:=λ H s=>by rw[zH];exact yAc _
 yld:=λ i H F1 L1 S x H' d g R e y=>by
  obtain⟨rfl,rfl⟩:=y;have hi:i<n:=by
   have:=(gIm e).1;rw[zH] at this;exact this
  rw[aDo n lo i hi] at e;cases e;exact⟨F1,bN.refl _,R,.int _⟩
noncomputable def aGe(fa:FE):FL:=λ env S=>(fa env S).bind λ p=>match p.1 with
 | .d (.list ds)=>qq (ds,p.2)
 | _=>qz
noncomputable def aGx(fa:FE):FL:=λ env S=>(fa env S).bind λ p=>match p.1 with
 | .d (.tuple ds)=>qq (ds,p.2)
 | _=>qz
theorem aNE{tg a:qw}{fa:FE}(ha:PE X a (aM X.K fa)):PI X tg a (iA X.K (aGe fa)):=PI.weak (aKU ha) λ σ H Rr aK=>by
 obtain⟨F,L,S,env,ds,S',R,E,e,q⟩:=aK;obtain⟨⟨w,S1⟩,e1,e2⟩:=bind_some e;dsimp only at e2
 split at e2
 ·cases e2;refine⟨F,L,S,env,_,_,R,E,e1,λ F1 L1 H1 v g1 R1 d1=>?_⟩
  cases (show Den X.K F1 (.list ds) v from d1) with
  | lst sq dl=>exact⟨_,rfl,⟨_,R1.sub.seq sq⟩,q F1 L1 H1 _ g1 R1 (aKG sq dl)⟩
 ·cases e2
theorem aON{tg a:qw}{fa:FE}(ha:PE X a (aM X.K fa)):PI X tg a (iA X.K (aGx fa)):=PI.weak (aM9 ha) λ σ H Rr aK=>by
 obtain⟨F,L,S,env,ds,S',R,E,e,q⟩:=aK;obtain⟨⟨w,S1⟩,e1,e2⟩:=bind_some e;dsimp only at e2
 split at e2
 ·cases e2;refine⟨F,L,S,env,_,_,R,E,e1,λ F1 L1 H1 v g1 R1 d1=>?_⟩
  cases (show Den X.K F1 (.tuple ds) v from d1) with
  | tup sq dl=>exact⟨_,rfl,⟨_,gX R1.sub sq⟩,q F1 L1 H1 _ g1 R1 (aMh sq dl)⟩
 ·cases e2
noncomputable def rY(fa:FE):FL:=λ env S=>(fa env S).bind λ p=>match p.1 with
 | .d (.int j)=>if -(2^62)<=j/\j<2^62 then qq (jY 0 j.toNat,p.2) else qz
 | _=>qz
theorem aNc{K:FrG}{fa:FE}(σ:St)(H:Hp)(Rr:It->Hp->Prop)(h:iA K (rY fa) σ H Rr):aFU (cT K (cH fa eJ)) σ H Rr:=by
 obtain⟨F,L,S,env,ds,S',R,E,e,q⟩:=h;obtain⟨⟨w,S1⟩,e1,e2⟩:=bind_some e;dsimp only at e2
 split at e2
 ·split at e2
  ·rename_i j c;cases e2;refine⟨F,L,S,env,[.d (.int j)],_,R,E,by unfold cH;rw[e1];rfl,λ F1 L1 H1 vs g1 R1 d1=>?_⟩
   cases d1 with
   | cons dd dr =>
     cases dr;cases (show Den K F1 (.int j) _ from dd)
     exact⟨j,rfl,c.1,c.2,q F1 L1 H1 _ g1 R1 (aJd 0 j.toNat)⟩
  ·cases e2
 ·cases e2
noncomputable def iT(t:Tg)(fb:FS):List D->FS
 | []=>λ env S=>qq (.nx env,S)
 | d::ds=>λ env S=>(t.put d env).bind λ e1=>(fb e1 S).bind λ q=>(match q.1 with
    | .nx e=>iT t fb ds e q.2
    | .ct e=>iT t fb ds e q.2
    | .bk e=>qq (.nx e,q.2)
    | .rt w=>qq (.rt w,q.2))
noncomputable def jH(t:Tg)(fi:FL)(fb:FS):FS:=λ env S=>(fi env S).bind λ p=>iT t fb p.1 env p.2
theorem aOF{tg iter:qw}{b:List zk}{t:Tg}{g:TG}{fi:FL}{fb:FS}(hp:PassesOwn (model X.prog X.w) X.A X.env X.xe)(hc:X.calm=true)(hi:PI X tg iter (iA X.K fi))(hg:PG X tg g)(ga:GA X.K t g)(hb:bO X b (cG X.K fb))
 (hs:∀ x,jj iter X.env x=pure x):PS X (.For tg iter b [] pos) (cG X.K (jH t fi fb)):=PS.weak (aEJ hp hc hi hg hb hs) λ D σ H h=>by
 obtain⟨F,L,S,env,fl,S',R,E,e,q⟩:=kP h;obtain⟨⟨ds,S1⟩,e1,e2⟩:=bind_some e;refine⟨F,L,S,env,ds,S1,R,E,e1,λ F0 L0 H0 J g0 R0 wk=>?_⟩
 dsimp only at e2;refine⟨λ i m σ1 H1=>i+m=ds.length/\∃ F1 L1 S1 env1,Gr F0 L0 F1 L1/\Rel X.K F1 L1 S1 H1/\EnvR X.K F1 L1 env1 σ1/\iT t fb (ds.drop i) env1 S1=qq (fl,S'),
  ⟨ds.length,yFk _,F0,L0,S1,env,Gr.refl,R0,E.mono g0,by rw[yCu];exact e2⟩,?_⟩
 rintro i m σ1 H1 ⟨him,F1,L1,S1',env1,g1,R1,E1,e3⟩;cases m with
 | zero =>
   have hi:i=ds.length:=by omega
   subst hi;rw[yEi] at e3;cases e3;exact .inl ⟨wk.stop H1 (g1.f.trans R1.sub),q F1 L1 H1 (g0.trans g1) R1 σ1 E1⟩
 | succ m =>
   have hi:i<ds.length:=by omega
   refine .inr ⟨wk.go i H1 (g1.f.trans R1.sub) hi,λ σ3 H3=>∃ F3 L3 S3 env3,Gr F0 L0 F3 L3/\Rel X.K F3 L3 S3 H3/\EnvR X.K F3 L3 env3 σ3/\iT t fb (ds.drop (i+1)) env3 S3=qq (fl,S'),
    λ σ3 H3 h3=>⟨m,yDl m,by omega,h3⟩,λ x H2 y=>?_⟩
   rw[yCl hi] at e3;obtain⟨env2,e4,e5⟩:=bind_some e3;obtain⟨⟨f6,S6⟩,e6,e7⟩:=bind_some e5;obtain⟨F2,s2,R2,d2⟩:=wk.yld i H1 F1 L1 S1' x H2 ds[i] g1 R1 (yAd hi) y;have g2:Gr F1 L1 F2 L1:=⟨s2,[],by simp⟩
   refine ga ds[i] x σ1 H2 F2 L1 S1' env1 env2 _ R2 (E1.mono g2) d2 e4 λ σ2 E2=>?_
   refine iL R2 E2 e6 λ F3 L3 H3 g3 R3=>?_
   have g03:=(g1.trans g2).trans g3;cases f6 with
   | nx e'=>exact λ σ3 E3=>⟨F3,L3,S6,e',g03,R3,E3,e7⟩
   | ct e'=>exact λ σ3 E3=>⟨F3,L3,S6,e',g03,R3,E3,e7⟩
   | bk e'=>cases e7;exact λ σ3 E3=>q F3 L3 H3 (g0.trans g03) R3 σ3 E3
   | rt w=>cases e7;exact λ v d=>q F3 L3 H3 (g0.trans g03) R3 v d
noncomputable def kF(k:Nat)(S:aC):W->Option (W×aC)
 | .d x=>qq (.d x,S.take k)
 | .loc m=>if m<k then qq (.loc m,S.take k) else match S[m]? with
   | some (qq ds)=>qq (.d (.list ds),S.take k)
   | _=>qz
 | .exc c r=>qq (.exc c r,S.take k)
noncomputable def cK(fb:FS)(n:Nat)(ws:List W)(S:aC):Option (W×aC):=(fb (ws.map qq++yAf (n-ws.length) qz) S).bind λ p=>match p.1 with
 | .rt w=>kF S.length p.2 w
 | .nx _=>qq (.d .none,p.2.take S.length)
 | _=>qz
theorem aCO{K:FrG}{F:Hp}{L:List qv}{N:List Str}:∀ {ws:List W}{vs:List V},WDenL K F L ws vs->EnvR K F L (ws.map qq++yAf (N.length-ws.length) qz) (L2.start N vs):=by
 intro ws vs h;unfold L2.start;rw[h.length];generalize N.length-vs.length=k;refine⟨by simp[h.length],?_⟩
 induction h with
 | nil =>
   intro i w e;have:=xAi e;simp at this
 | cons hd tl ih =>
   intro i w e;cases i with
   | zero=>simp at e;subst e;exact⟨_,rfl,hd⟩
   | succ i =>
     obtain⟨v,e1,d⟩:=ih i w (by simpa using e)
     exact⟨v,by simpa using e1,d⟩
theorem vL{K:FrG}{F F1 H1:Hp}{L L1:List qv}{S S1:aC}{w w':W}{S':aC}{v:V}{Q:VK}(R:L.length=S.length)(g:Gr F L F1 L1)(R1:Rel K F1 L1 S1 H1)(d:dU K F1 L1 w v)(e:kF S.length S1 w=qq (w',S'))(q:pZ K F L S' w' Q):Q v H1:=by
 obtain⟨sf,M,rfl⟩:=g;cases w with
 | d x =>
   cases e;have R2:=R1.cut;rw[R] at R2;exact q F1 L H1 v ⟨sf,[],by simp⟩ R2 d
 | exc c r =>
   cases e;have R2:=R1.cut;rw[R] at R2;exact q F1 L H1 v ⟨sf,[],by simp⟩ R2 d
 | loc m =>
   have e':(if m<S.length then qq (W.loc m,S1.take S.length) else match S1[m]? with | some (qq ds)=>qq (W.d (.list ds),S1.take S.length) | _=>qz)=qq (w',S'):=e
   split at e'
   ·rename_i hm;cases e';have R2:=R1.cut;rw[R] at R2;obtain⟨a,ea,rfl⟩:=d;rw[xAj (by rw[R];exact hm)] at ea
    exact q F1 L H1 _ ⟨sf,[],by simp⟩ R2 ⟨a,ea,rfl⟩
   ·rename_i hm
    split at e'
    ·rename_i ds es;cases e';obtain⟨a,ea,rfl⟩:=d;obtain⟨F2,g2,R2,d2⟩:=R1.freeze ea es;have R3:=R2.cut;rw[R,List.take_set,List.set_eq_of_length_le (by rw[yBs];omega)] at R3
     exact q F2 L H1 _ ⟨sf.trans g2.f,[],by simp⟩ R3 d2
    ·cases e'
theorem aE7{K:FrG}{fb:FS}{N:List Str}{np:Nat}{vs:List V}{H:Hp}{Q:VK}{E:XK}(h:jL K np (cK fb N.length) vs H Q E):cG K fb {nx:=λ _ H'=>Q .non H',rt:=Q } (L2.start N vs) H:=by
 obtain⟨F,L,S,ws,w,S',hn,R,dl,e,q⟩:=h;obtain⟨⟨fl,S1⟩,e1,e2⟩:=bind_some e;refine iL R (aCO dl) e1 λ F1 L1 H1 g1 R1=>?_
 cases fl with
 | nx aO =>
   cases e2;exact λ σ' E'=>vL (w:=.d .none) R.len g1 R1 Den.non rfl q
 | rt w'=>exact λ v d=>vL R.len g1 R1 d e2 q
 | bk aO=>cases e2
 | ct aO=>cases e2
end
theorem aCv{α β:Type}{f:α->β->Sem (ForInStep β)}{g:α->β->β}:∀ (l:List α) (c:β),(∀ x∈l,∀ c,f x c=pure (ForInStep.yield (g x c)))->forIn l c f=pure (l.foldl (λ c x=>g x c) c)
 | [],c,_=>rfl
 | x::l,c,h=>by
   rw[List.forIn_cons,h x xAd c,pure_bind];exact aCv l (g x c) λ y hy=>h y (xAf _ hy)
noncomputable def jA(env:Env)(x:Str×vx)(cs:List (Str×qv)):List (Str×qv):=if (x.2==NameKind.free)=true then (x.1,(env.cells.lookup x.1).getD 0)::cs else cs
noncomputable def tM(scope:zy)(env:Env):List (Str×qv):=scope.names.foldl (λ c x=>jA env x c) []
theorem aH3{scope:zy}{env:Env}(h:∀ x∈scope.names,x.2=.free->∃ c,env.cells.lookup x.1=qq c):closureFor scope env=pure (tM scope env):=by
 unfold closureFor tM;dsimp only;rw[aCv (g:=jA env) scope.names [] (λ x hx c=>?_)]
 ·rfl
 ·obtain⟨n,k⟩:=x;unfold jA;dsimp only
  by_cases hk:k=.free
  ·obtain⟨a,ha⟩:=h (n,k) hx hk;rw[if_pos (by simp[hk]),if_pos (by simp[hk])]
   have:cellOf env n=pure a:=by unfold cellOf;rw[ha]
   rw[this,pure_bind,ha];rfl
  ·rw[if_neg (by simp[hk]),if_neg (by simp[hk])]
theorem aDn{env:Env}:∀ (l:List (Str×vx)) (aG:List (Str×qv)),(∀ x∈l,x.2=.free->∃ c,env.cells.lookup x.1=qq c)->(∀ x c,aG.lookup x=qq c->env.cells.lookup x=qq c) ->
 ∀ x c,(l.foldl (λ c x=>jA env x c) aG).lookup x=qq c->env.cells.lookup x=qq c
 | [],aG,_,ha,x,c,e=>ha x c e
 | y::l,aG,h,ha,x,c,e=>by
   refine aDn l (jA env y aG) (λ z hz=>h z (xAf _ hz)) (λ z d ez=>?_) x c e
   unfold jA at ez
   split at ez
   ·rename_i hk;obtain⟨a,hy⟩:=h y xAd (by simpa using hk)
    rw[yBa] at ez
    split at ez
    ·rename_i hz;cases ez;have:z=y.1:=by simpa using hz
     rw[this,hy];rfl
    ·exact ha z d ez
   ·exact ha z d ez
theorem aA4{env:Env}:∀ (l:List (Str×vx)) (aG:List (Str×qv)) (x:Str),((∃ k,(x,k)∈l/\k=.free)\/∃ c,aG.lookup x=qq c)->∃ c,(l.foldl (λ c x=>jA env x c) aG).lookup x=qq c
 | [],aG,x,h=>by
   rcases h with ⟨k,hk,_⟩ | h
   ·simp at hk
   ·exact h
 | y::l,aG,x,h=>by
   refine aA4 l (jA env y aG) x ?_;have step:(∃ c,aG.lookup x=qq c)->∃ c,(jA env y aG).lookup x=qq c:=λ aK=>by
    obtain⟨c,e⟩:=aK;unfold jA
    split
    ·rw[yBa]
     split
     ·exact⟨_,rfl⟩
     ·exact⟨c,e⟩
    ·exact⟨c,e⟩
   rcases h with ⟨k,hk,e⟩ | h
   ·rcases List.mem_cons.mp hk with z | z
    ·right
     subst z e;unfold jA;rw[if_pos (by simp)]
     exact⟨(env.cells.lookup x).getD 0,by rw[yBa];simp⟩
    ·exact .inl ⟨k,z,e⟩
   ·exact .inr (step h)
theorem aCB{x:Str}(h:Str->vx->vx):∀ l:List (Str×vx),(l.map λ p=>(p.1,h p.1 p.2)).lookup x=(l.lookup x).map (h x)
 | []=>rfl
 | (n,k)::r=>by
   have ih:=aCB (x:=x) h r;rw[yAj,yBa,yBa];cases hx:x==n with
   | true =>
     have e:x=n:=by simpa using hx
     subst e;rfl
   | false=>exact ih
theorem aG4{env:Env}{x:Str}(names:List (Str×vx)) :
 (names.map λ(n,k)=>if (k==NameKind.free&&env.scope.kind==.function&&env.kindOf n==qq .cell) then (n,NameKind.cell) else (n,k)).lookup x =
   (names.lookup x).map λ k=>if (k==NameKind.free&&env.scope.kind==.function&&env.kindOf x==qq .cell) then NameKind.cell else k:=by
 have e:(λ(p:Str×vx)=>match p with | (n,k)=>if (k==NameKind.free&&env.scope.kind==.function&&env.kindOf n==qq .cell)=true then (n,NameKind.cell) else (n,k)) =
  λ p=>(p.1,if (p.2==NameKind.free&&env.scope.kind==.function&&env.kindOf p.1==qq .cell)=true then NameKind.cell else p.2):=funext λ aK=>by
  obtain⟨n,k⟩:=aK;dsimp only
  split<;>rfl
 rw[e];exact aCB (λ n k=>if (k==NameKind.free&&env.scope.kind==.function&&env.kindOf n==qq .cell)=true then NameKind.cell else k) names
section
variable {prog : qo}{w : zq}{A : zj}{R : Result -> qj -> Prop}{s : qj}
theorem aHi{elt target iter:qw}{ifs:List qw}{scope:zy}{pos:Pos}{it aG:qx}{env:Env}(I:Nat->qj->Prop)
 (turn:∀ n s,I n s->qu (model prog w) A (yo it) (λ r s₁=>match r with
   | none=>R (.ok .next) s₁
   | some v=>qu (model prog w) A (vw target it v) (λ _ s₀=>qu (model prog w) A (assign target env v) (λ _ s₂ =>
      qu (model prog w) A (forIn ifs true λ c r=>if r=true then do let ok <- isTrue c env (eval c env);pure (ForInStep.yield ok) else pure (ForInStep.yield r)) (λ ok s₃ =>
       if ok=true then qu (model prog w) A (eval elt env) (λ x s₄ =>
        qu (model prog w) A (call (.builtin "list.append") [aG,x]) (λ _ s₅=>∃ m,m<n/\I m s₅) (λ _ _=>False) s₄) (λ _ _=>False) s₃
       else ∃ m,m<n/\I m s₃) (λ _ _=>False) s₂) (λ _ _=>False) s₀) (λ _ _=>False) s₁) (λ _ _=>False) s)
 (n:Nat) (h:I n s):wq (model prog w) A (.compLoop (.ListComp elt [⟨target,iter,ifs,0⟩] scope pos) 0 it aG env) R s:=by
 have up:∀ {α:Type}{t:Sem α}{Q Q':α->qj->Prop}{E:qx->qj->Prop}{s:qj},qu (model prog w) A t Q (λ _ _=>False) s->(∀ a s,Q a s->Q' a s)->qu (model prog w) A t Q' E s:=
  λ h hq=>wpAny_mono h hq λ _ _ f=>f.elim
 refine codeAny_loop rfl I (λ n s hI=>?_) n h
 show qu _ A ((compTurn (.ListComp elt [⟨target,iter,ifs,0⟩] scope pos) 0 it aG env).onRaise (λ x=>do noteFrame x env;theTreesLotGoes x)) _ _ s
 refine wpAny_noted ?_;rw[compTurn_list];refine wB (vv (wB (up (turn n s hI) λ r s₁ h₁=>?_)))
 cases r with
 | none=>exact wP h₁
 | some v =>
   refine wB (up h₁ λ _ s₀ h₀=>?_)
   refine wB (up h₀ λ _ s₂ h₂=>wB (up h₂ λ ok s₃ h₃=>?_))
   cases ok with
   | false=>exact wP ⟨rfl,h₃⟩
   | true =>
     exact wB (wB (up h₃ λ x s₄ h₄=>wB (up h₄ λ _ s₅ h₅=>wP (wP ⟨rfl,h₅⟩))))
end
noncomputable def iW(X:Cx)(aA:List (qv×Obj))(fp:List qv)(scope:zy)(C:qv)(s₀:qj)(H₀:Hp):Cx:=
 {X with s₀:=s₀,H₀:=H₀,env:=compEnvC scope (tM scope X.env) C X.env,outer:=X.stack,stack:=X.stack,ex:=fp,fn:=λ _=>false,pn:=X.pn++aA,xe:=λ _ _=>False }
def jC(X:Cx)(scope:zy)(Y:Cx):Prop:=∃ aA fp C s₀ H₀,Y=iW X aA fp scope C s₀ H₀
structure ScOk(scope osc:zy):Prop where
 kind:scope.kind=.function
 nocell:∀ x∈scope.names,x.2≠.cell
 free:∀ x∈scope.names,x.2=.free->osc.names.lookup x.1=qq .cell\/osc.names.lookup x.1=qq .free
 loc:∀ x∈scope.names,x.2=.local->scope.names.lookup x.1=qq .local
theorem mem_of_lookup{α:Type}{x:Str}{k:α}:∀ {l:List (Str×α)},l.lookup x=qq k->(x,k)∈l
 | [],h=>by simp at h
 | (n,j)::r,h=>by
   rw[yBa] at h
   split at h
   ·rename_i hx;cases h;have:x=n:=by simpa using hx
    subst this;exact xAd
   ·exact xAf _ (mem_of_lookup h)
section
variable {X : Cx}{aA : List (qv×Obj)}{σ : L2.St}{H : Hp}{s : qj}{scope : zy}{fp : List qv}
theorem aCW{C:qv}{s₀:qj}{H₀:Hp}{x:Str}:(iW X aA fp scope C s₀ H₀).env.kindOf x=(scope.names.lookup x).map λ k=>if (k==NameKind.free&&X.env.scope.kind==.function&&X.env.kindOf x==qq .cell) then NameKind.cell else k:=
 aG4 scope.names
theorem aC6(ok:ScOk scope X.env.scope){C:qv}{s₀:qj}{H₀:Hp}{x:Str}(h:(iW X aA fp scope C s₀ H₀).env.kindOf x=qq .cell\/(iW X aA fp scope C s₀ H₀).env.kindOf x=qq .free):scope.names.lookup x=qq .free:=by
 rw[aCW] at h;cases e:scope.names.lookup x with
 | none=>rw[e] at h;simp at h
 | some k =>
   rw[e] at h;have nc:=ok.nocell (x,k) (mem_of_lookup e);cases k with
   | free=>rfl
   | cell=>exact absurd rfl nc
   | «local» => simp at h
   | globalExplicit=>simp at h
   | globalImplicit=>simp at h
theorem aDW(I:Inv X aA σ H s)(hfp:∀ b∈fp,fW X aA H b):∀ b∈fp,b ∉ dB X.stack:=λ b hb z=>by
 rcases List.mem_cons.mp (I.stkSub b z) with q | q
 ·exact(hfp b hb).2.1 q
 ·exact(hfp b hb).2.2.1 q
theorem aCZ(I:Inv X aA σ H s)(ok:ScOk scope X.env.scope):∀ x∈scope.names,x.2=.free->∃ c,X.env.cells.lookup x.1=qq c:=λ x hx e=>by
 rcases ok.free x hx e with q | q
 ·exact I.ok.has x.1 (.inl q)
 ·exact I.ok.has x.1 (.inr q)
theorem mU(I:Inv X aA σ H s)(ok:ScOk scope X.env.scope){x:Str}{c:qv}(h:(tM scope X.env).lookup x=qq c):X.env.cells.lookup x=qq c:=
 aDn scope.names [] (aCZ I ok) (λ x c e=>by simp at e) x c h
theorem aKp(I:Inv X aA σ H s)(ok:ScOk scope X.env.scope)(hfp:∀ b∈fp,fW X aA H b)(hth:∀ b∈fp,b<s.heap.objs.size){C:qv}(hC:s.heap.objs.size<=C):(iW X aA fp scope C s H).Ok where
 mod:=I.ok.mod
 kind:=ok.kind
 glob:=I.ok.glob
 blt:=I.ok.blt
 above:=hC
 inj:=λ x y c h1 h2=>I.ok.inj x y c (mU I ok h1) (mU I ok h2)
 has:=λ x h=>aA4 scope.names [] x (.inl ⟨.free,mem_of_lookup (aC6 ok h),rfl⟩)
 cab:=λ x c h _=>nomatch h
 hd:=I.ok.hd
 frames:=I.ok.frames
 stk:=.inl rfl
 exf:=λ b hb=>⟨λ z=>absurd (xAc (hth b hb) hC) (by have z':b=C:=z;rw[z'];exact yBc _),λ x c h=>(hfp b hb).2.2.2.2.1 x c (mU I ok h)⟩
 bs:=I.bs
 bsz:=xAg I.ok.bsz I.sz
 noex:=λ b o e hb=>by
  rcases (hfp b hb).2.2.2.1 with z | z
  ·exact I.ok.noex b o e z
  ·exact absurd (xAc (xAa e) (xAg I.ok.bsz z)) (yBc _)
 exfs:=λ b hb=>aDW I hfp b hb
 funs:=I.stack
 frf:=I.stkFree
end
noncomputable def clr{α:Type}(is:List Nat)(l:List (Option α)):List (Option α):=is.foldl (λ e i=>e.set i qz) l
theorem uO{α:Type}:∀ (is:List Nat) (l:List (Option α)),(clr is l).length=l.length
 | [],_=>rfl
 | i::is,l=>by
   show(clr is (l.set i qz)).length=_;rw[uO is,yAq]
theorem vC{α:Type}:∀ (is:List Nat) (l:List (Option α)) (j:Nat) (v:α),(clr is l)[j]? = qq (qq v)->l[j]? = qq (qq v)/\j ∉ is
 | [],_,_,_,h=>⟨h,by simp⟩
 | i::is,l,j,v,h=>by
   obtain⟨h1,h2⟩:=vC is (l.set i qz) j v h
   by_cases hj:i=j
   ·subst hj;rcases yEc i l.length with q | q
    ·rw[yAn q] at h1;cases h1
    ·rw[yCz (by rw[yAq];exact q)] at h1;cases h1
   ·rw[yAm hj] at h1;exact⟨h1,λ z=>(List.mem_cons.mp z).elim (λ e=>hj e.symm) h2⟩
theorem aDL{α:Type}:∀ (is:List Nat) (l:List (Option α)) (j:Nat),j ∉ is->(clr is l)[j]? = l[j]?
 | [],_,_,_=>rfl
 | i::is,l,j,h=>by
   show(clr is (l.set i qz))[j]? = _;rw[aDL is _ j (λ z=>h (xAf _ z)),yAm (λ z=>h (by rw[z];exact xAd))]
noncomputable def Tg.slots:Tg->List Nat
 | .one i=>[i]
 | .many is=>is
theorem EnvR.clr{K:FrG}{F:Hp}{L:List qv}{env:aU}{σ:St}(h:EnvR K F L env σ)(is:List Nat):EnvR K F L (EV.clr is env) (EV.clr is σ):=
 ⟨by rw[uO,uO];exact h.len,λ j w e=>by
  obtain⟨e1,hj⟩:=vC is env j w e;obtain⟨v,e2,d⟩:=h.get j w e1;exact⟨v,by rw[aDL is σ j hj];exact e2,d⟩⟩
theorem zF:∀ {is:List Nat}{ds:List D}{env aO:aU}{j:Nat},lS is ds env=qq aO->j ∉ is->aO[j]? = env[j]?
 | [],[],_,_,_,e,_=>by cases e;rfl
 | i::is,d::ds,env,aO,j,e,h=>by
   rw[zF (is:=is) (ds:=ds) e (λ z=>h (xAf _ z)),yAm (λ z=>h (by rw[z];exact xAd))]
 | [],_::_,_,_,_,e,_=>by cases e
 | _::_,[],_,_,_,e,_=>by cases e
theorem Tg.put_keep{t:Tg}{d:D}{env aO:aU}{j:Nat}(e:t.put d env=qq aO)(h:j ∉ t.slots):aO[j]? = env[j]?:=by
 cases t with
 | one i=>cases e;exact yAm (λ z=>h (by rw[z];exact xAd))
 | many is =>
   cases d with
   | tuple ds=>exact zF e h
   | list ds=>exact zF e h
   | _=>cases e
theorem zB:∀ {is:List Nat}{ds:List D}{env aO:aU},lS is ds env=qq aO->aO.length=env.length
 | [],[],_,_,e=>by cases e;rfl
 | i::is,d::ds,env,aO,e=>by rw[zB (is:=is) (ds:=ds) e,yAq]
 | [],_::_,_,_,e=>by cases e
 | _::_,[],_,_,e=>by cases e
theorem Tg.put_length{t:Tg}{d:D}{env aO:aU}(e:t.put d env=qq aO):aO.length=env.length:=by
 cases t with
 | one i=>cases e;exact yAq
 | many is =>
   cases d with
   | tuple ds=>exact zB e
   | list ds=>exact zB e
   | _=>cases e
theorem EnvR.back{K:FrG}{F:Hp}{L:List qv}{env aO:aU}{σ:St}{t:Tg}{d:D}(e:t.put d (EV.clr t.slots env)=qq aO)(h:EnvR K F L aO σ):EnvR K F L (EV.clr t.slots env) σ:=
 ⟨by rw[<- h.len,Tg.put_length e],λ j w q=>by
  obtain⟨_,hj⟩:=vC t.slots env j w q;exact h.get j w (by rw[Tg.put_keep e hj];exact q)⟩
noncomputable def jD(t:Tg)(fc:FT)(fe:FE)(n:Nat)(env:aU):List D->aC->Option aC
 | [],S=>qq S
 | d::ds,S=>(t.put d env).bind λ e1=>(fc e1 S).bind λ c=>if c.1=true then (fe e1 c.2).bind λ p=>(eG p.2 (.loc n) p.1).bind λ r=>jD t fc fe n env ds r.2 else jD t fc fe n env ds c.2
noncomputable def gI(t:Tg)(fi:FL)(fc:FT)(fe:FE):FL:=λ env S=>(fi env S).bind λ p=>(jD t fc fe p.2.length (clr t.slots env) p.1 (p.2++[qq []])).bind λ S'=>match S'[p.2.length]? with
 | some (qq zs)=>qq (zs,S'.take p.2.length)
 | _=>qz
def kQ(Y:Cx)(ifs:List qw)(fc:FT):Prop:=∀ (aA:List (qv×Obj)) (s:qj) (σ:St) (H:Hp) (Q:Bool->Hp->Prop),Inv Y aA σ H s->dQ Y.K fc σ H Q ->
 qu (model Y.prog Y.w) Y.A (forIn ifs true λ c r=>if r=true then do let ok <- isTrue c Y.env (eval c Y.env);pure (ForInStep.yield ok) else pure (ForInStep.yield r)) (TP Y aA σ Q) Y.xe s
noncomputable def nK:FT:=λ _ S=>qq (true,S)
theorem aAd{Y:Cx}:kQ Y [] nK:=λ aA s σ H Q I aK=>by
 obtain⟨F,L,S,env,b,S',R,E,e,q⟩:=aK;cases e;exact wpAny_tests_nil ⟨H,I,q F L H Gr.refl R⟩
theorem aDa{Y:Cx}{c:qw}{fc:FT}(h:PT Y c (dQ Y.K fc)):kQ Y [c] fc:=λ aA s σ H Q I q=>wpAny_tests_one (h aA s σ H Q I q)
def aBj(N:List Str)(scope:zy)(is:List Nat):Prop:=∀ (i:Nat) (x:Str),N[i]? = qq x->scope.names.lookup x=qq .local->i∈is
section
variable {X : Cx}{scope : zy}{tg iter elt : qw}{ifs : List qw}{pos : Pos}{t : Tg}{g : TG}{fi : FL}{fc : FT}{fe : FE}
theorem aDe(use:Option (qx->Sem Unit))(hc:X.calm=true)(ok:ScOk scope X.env.scope)(own:aBj X.N scope t.slots)(hi:PI X tg iter (iA X.K fi))(hg:∀ Y,jC X scope Y->PG Y tg g)(ga:GA X.K t g)
 (ht:∀ Y,jC X scope Y->kQ Y ifs fc) (he:∀ Y,jC X scope Y->PE Y elt (aM X.K fe)) (hs:∀ x,jj iter X.env x=pure x)
 {aA:List (qv×Obj)}{s:qj}{σ:St}{H:Hp}{Q:VK}{QQ:qx->qj->Prop}{pp:Pos} (I:Inv X aA σ H s) (h:gQ X.K (gI t fi fc fe) σ H Q)
 (hend:∀ (p C:qv) (s1:qj) (H':Hp),fW X aA H' C->(∃ m,s1.heap.Ns C m)->(∀ h',yCq C s1.heap h'->Inv X aA σ H' {s1 with heap:=h' })->Q (.ref p) H' ->
   compPost (model X.prog X.w) X.A X.xe use QQ (.ref p) C (.ok .next) s1) :
 qu (model X.prog X.w) X.A (comprehension (.ListComp elt [⟨tg,iter,ifs,0⟩] scope pos) scope X.env pp (newList []) false (eval iter X.env) use) QQ X.xe s:=by
 obtain⟨F,L,S,env,zs,S',R,E,e,q⟩:=h;obtain⟨⟨ds,S1⟩,e1,e⟩:=bind_some e;obtain⟨S2,e2,e⟩:=bind_some e;dsimp only at e e2;have hz:S2[S1.length]? = qq (qq zs)/\S'=S2.take S1.length:=by
  split at e
  ·rename_i z ez;cases e;exact⟨ez,rfl⟩
  ·cases e
 obtain⟨hz,rfl⟩:=hz;refine wpAny_comprehension_free (use:=use) rfl hs (aH3 (aCZ I ok)) ok.kind ok.loc ?_;refine aX (hi aA s σ H (λ J H'=>∃ F' L',Gr F L F' L'/\Rel X.K F' L' S1 H'/\Wk X.K F' L' J ds) I ⟨F,L,S,env,ds,S1,R,E,e1,λ F' L' H' J g R' wk=>⟨F',L',g,R',wk⟩⟩) λ v s1 h1=>aX h1 λ itv s2 h2=>?_
 obtain⟨it,fp,tn,J,H2,rfl,I2,T,st2,f2,F1,L1,g1,R1,wk⟩:=h2;refine xw (wpAny_newFunctionEnv ok.nocell (by intro y hy;simp at hy) (λ h₁ hns₁ hsb₁=>?_) ok.kind)
 dsimp only at hns₁ hsb₁ ⊢;have I3:Inv X aA σ (aT H2 s2.heap.objs.size (.lst [])) {s2 with heap:=s2.heap.push {cls:=.type "list",dict:=qz,data:=.seq ([]:List qx).toArray } }:=I2.lnew (its:=[]) (t':=s2.toks) .nil (yEo _)
 generalize hs3:({s2 with heap:=s2.heap.push {cls:=.type "list",dict:=qz,data:=.seq ([]:List qx).toArray } }:qj)=s3 at I3
 have hh3:s2.heap.push {cls:=.type "list",dict:=qz,data:=.seq ([]:List qx).toArray }=s3.heap:=by rw[<- hs3]
 generalize hD:s2.heap.objs.size=Dd at I3;generalize hH3:aT H2 Dd (.lst [])=H3 at I3;have hfr2:H2 Dd=qz:=by rw[<- hD];exact I2.fresh
 rw[hh3] at hns₁ hsb₁;rw[hh3];have cZ:({heap:=h₁,gens:=s2.gens,drawn:=s2.drawn,toks:=s2.toks+([]:List (Str×qx)).length,os:=s2.os }:qj)={s3 with heap:=h₁,toks:=s3.toks+([]:List (Str×qx)).length }:=by rw[<- hs3]
 rw[cZ];clear cZ;generalize hC:s3.heap.objs.size=C at hns₁ hsb₁;have old:∀ b u,s3.heap.get? b=qq u->h₁.get? b=qq u:=λ b u q=>by
  have hb:b≠C:=by rw[<- hC];exact xAh (xAa q)
  exact hsb₁.extBut b u hb (hpS _ q)
 have lt2:∀ b∈fp,b<s2.heap.objs.size:=λ b hb=>by
  obtain⟨o,eo,_⟩:=T.obj 0 _ st2 b hb;exact xAa eo
 have up23:∀ b u,s2.heap.get? b=qq u->s3.heap.get? b=qq u:=λ b u q=>by rw[<- hh3];exact hpS _ q
 have lt3:∀ b∈fp,b<s3.heap.objs.size:=λ b hb=>by
  obtain⟨o,eo,_⟩:=T.obj 0 _ st2 b hb;exact xAa (up23 b o eo)
 have f3:∀ b∈fp,fW X aA H3 b:=λ b hb=>by
  refine⟨?_,(f2 b hb).2⟩;have ne:b≠Dd:=by rw[<- hD];exact xAh (lt2 b hb)
  rw[<- hH3,aW ne];exact(f2 b hb).1
 have okY:(iW X aA fp scope C s3 H3).Ok:=aKp I3 ok f3 lt3 (by rw[hC];exact yAc _)
 have hIC:jC X scope (iW X aA fp scope C s3 H3):=⟨aA,fp,C,s3,H3,rfl⟩;generalize hY:iW X aA fp scope C s3 H3=Y at okY hIC;have yE:Y.env=compEnvC scope (tM scope X.env) C X.env:=by rw[<- hY];rfl
 have I4:Inv Y [] (clr t.slots σ) H3 {s3 with heap:=h₁,toks:=s3.toks+([]:List (Str×qx)).length }:=by
  rw[<- hY] at okY ⊢;refine⟨okY,rfl,I3.bare,Un.kept old,⟨_,hns₁,λ i x v a1 a2 a3=>?_⟩,λ x c a=>?_,?_,λ x c a=>I3.freeC x c (mU I3 ok a),λ p hp=>?_,I3.hok.kept old,by rw[uO];exact I3.len⟩
  ·obtain⟨a4,a5⟩:=vC t.slots σ i v a2;have nl:scope.names.lookup x≠qq .local:=λ z=>a5 (own i x a1 z)
   have iU:(iW X aA fp scope C s3 H3).env.kindOf x=qq .cell\/(iW X aA fp scope C s3 H3).env.kindOf x=qq .free:=by
    rcases a3 with z | z | z
    ·exfalso;have z':(iW X aA fp scope C s3 H3).env.kindOf x=qq .local:=z;rw[aCW] at z';cases ek:scope.names.lookup x with
     | none=>rw[ek] at z';cases z'
     | some k =>
       rw[ek] at z';cases k with
       | «local» => exact nl ek
       | free =>
         simp only[Option.map_some,Option.some.injEq] at z'
         split at z'<;>cases z'
       | cell=>exact ok.nocell (x,.cell) (mem_of_lookup ek) rfl
       | globalExplicit=>simp at z'
       | globalImplicit=>simp at z'
    ·exact .inl z
    ·exact .inr z
   have fr:=aC6 ok iU;have ov:=ok.free (x,.free) (mem_of_lookup fr) rfl;obtain⟨m,hm,hl⟩:=I3.loc;obtain⟨u,ru,lk⟩:=hl i x v a1 a4 (ov.elim (λ z=>.inr (.inl z)) λ z=>.inr (.inr z))
   refine⟨u,ru,.inr ⟨iU,?_⟩⟩;obtain⟨c,hcl⟩:=aA4 (env:=X.env) scope.names [] x (.inl ⟨.free,mem_of_lookup fr,rfl⟩);have hc2:=mU I3 ok hcl;rcases lk with ⟨z,_⟩ | ⟨_,c',e',o',ho',hd'⟩
   ·exfalso;have z':X.env.scope.names.lookup x=qq .local:=z;rcases ov with w | w
    ·rw[w] at z';cases z'
    ·rw[w] at z';cases z'
   ·rw[hc2] at e';cases e';exact⟨c,hcl,o',old _ _ ho',hd'⟩
  ·obtain⟨v,o,ho,hd⟩:=I3.cell x c (mU I3 ok a);exact⟨v,o,old _ _ ho,hd⟩
  ·show H3 C=qz;rw[<- hC];exact I3.fresh
  ·have hp':p∈X.pn++aA:=by
    have:p∈(X.pn++aA)++[]:=hp;rwa [yAs] at this
   obtain⟨b1,b2,b3,b4,b5⟩:=I3.pin p hp';refine⟨old _ _ b1,b2,?_,λ z=>?_,b5⟩
   ·show p.1≠C;rw[<- hC];exact xAh (xAa b1)
   ·rcases List.mem_cons.mp (I3.stkSub p.1 z) with w | w
    ·exact b3 w
    ·exact b4 w
 have fpY:∀ {H':Hp},(∀ b∈fp,H' b=qz)->∀ b∈fp,fW Y [] H' b:=λ hn b hb=>by
  rw[<- hY];refine⟨hn b hb,?_,aDW I3 f3 b hb,.inl hb,λ x c a=>(f3 b hb).2.2.2.2.1 x c (mU I3 ok a),λ p hp=>?_⟩
  ·show b≠C;rw[<- hC];exact xAh (lt3 b hb)
  ·have hp':p∈X.pn++aA:=by
    have:p∈(X.pn++aA)++[]:=hp;rwa [yAs] at this
   exact(f3 b hb).2.2.2.2.2 p hp'
 have yA:Y.A=X.A:=by rw[<- hY];rfl
 have yP:Y.prog=X.prog:=by rw[<- hY];rfl
 have yW:Y.w=X.w:=by rw[<- hY];rfl
 have yK:Y.K=X.K:=by rw[<- hY];rfl
 have yC:Y.calm=true:=by rw[<- hY];exact hc
 have yX:Y.xe=λ _ _=>False:=by rw[<- hY];rfl
 have R3:Rel X.K F1 (L1++[Dd]) (S1++[qq []]) H3:=by rw[<- hH3];exact R1.newLoc hfr2 .nil
 obtain⟨PP,hPP⟩:∃ PP:Result->qj->Prop,PP=compPost (model X.prog X.w) X.A X.xe use QQ (.ref Dd) C:=⟨_,rfl⟩;have bB:∀ (s1:qj) (σ':L2.St) (H' F':Hp) (L':List qv),Inv Y [] σ' H' s1->Gr F1 (L1++[Dd]) F' L'->Rel X.K F' L' S2 H'->PP (.ok .next) s1:=by
  intro s1 σ' H' F' L' J' gg RR;rw[hPP];rw[<- hY] at J';obtain⟨m,hmC,_⟩:=J'.loc;have hCn:H' C=qz:=J'.free;have hfC:fW X aA H' C:=I3.fpOk (by rw[hC];exact yAc _) hCn
  obtain⟨sf,M,rfl⟩:=gg;have bZ:L1.length=S1.length:=R1.len;have eL:((L1++[Dd])++M)[S1.length]? = qq Dd:=by
   rw[yDe,yAe (by rw[bZ];exact yAc _),bZ,yCj];rfl
  obtain⟨hF,xs,hx,dl⟩:=RR.loc S1.length Dd zs eL hz;have RR2:Rel X.K F' (L1++([Dd]++M)) S2 H':=by rw[<- yDe];exact RR
  have Rc:=RR2.cut;rw[bZ] at Rc;have hnd:Dd ∉ L1:=λ z=>by
   have nd:=RR2.nd;rw[yFa] at nd;exact nd.2.2 Dd z Dd (by simp) rfl
  refine hend Dd C s1 H' hfC ⟨m,hmC⟩ (λ h' sb=>?_) (q F' L1 H' Dd xs (g1.trans ⟨sf,[],by simp⟩) Rc hF hnd hx dl)
  have neC:∀ b u,s3.heap.get? b=qq u->b≠C:=λ b u z=>by rw[<- hC];exact xAh (xAa z)
  have kp:∀ b u,b≠C->s1.heap.get? b=qq u->h'.get? b=qq u:=λ b u z w=>sb.extBut b u z w
  have bU:Un (dB X.stack) fp H3 H' s3.heap s1.heap:=J'.base;have u:Un (dB X.stack) fp H3 H' s3.heap h':=
   ⟨λ b o z n hb hx=>kp b o (neC b o z) (bU.keep b o z n hb hx),λ b o z n hb hx=>by obtain⟨sl,w⟩:=bU.slot b o z n hb hx;exact⟨sl,kp b _ (neC b o z) w⟩,bU.free,
    λ b o z hx=>by obtain⟨o',w⟩:=bU.there b o z hx;exact⟨o',kp b _ (neC b o z) w⟩,bU.tups,bU.frzs,bU.tbls⟩
  have hokY:cL X.prog X.w H' s1.heap:=J'.hok;have hok':cL X.prog X.w H' h':=λ b o z=>(hokY b o z).stay (λ c v hc2 w=>kp c v (λ zz=>by
   rcases hc2 with w2 | w2
   ·rw[w2] at zz;rw[zz,hCn] at z;cases z
   ·rw[zz,hCn] at w2;cases w2) w) (λ _ w=>w) λ _ _ w=>w
  have os1:s1.os=s3.os:=J'.os;exact I3.call' (s':={s1 with heap:=h' }) os1 u hok' J'.bare λ b hb=>⟨(f3 b hb).2.2.2.1,(f3 b hb).2.1,(f3 b hb).2.2.2.2.1,(f3 b hb).2.2.2.2.2⟩
 have loop:∀ s5:qj,Inv Y [] (clr t.slots σ) H3 s5->tn 0 s5.heap ->
  wq (model X.prog X.w) X.A (.compLoop (.ListComp elt [⟨tg,iter,ifs,0⟩] scope pos) 0 (.ref it) (.ref Dd) Y.env) PP s5:=by
  intro s5 I5 st5;have E0:EnvR X.K F1 (L1++[Dd]) (clr t.slots env) (clr t.slots σ):=(E.mono (g1.trans Gr.newLoc)).clr t.slots;obtain⟨Iv,hIv⟩:∃ Iv:Nat->qj->Prop,∀ n s',Iv n s' ↔ (∃ i σ' H' F' L' S',Inv Y [] σ' H' s'/\tn i s'.heap/\(∀ b∈fp,H' b=qz)/\Gr F1 (L1++[Dd]) F' L'/\Rel X.K F' L' S' H'/\EnvR X.K F' L' (clr t.slots env) σ'/\i+n=ds.length /\
   jD t fc fe S1.length (clr t.slots env) (ds.drop i) S'=qq S2):=⟨_,λ _ _=>Iff.rfl⟩
  refine aHi Iv ?_ ds.length ((hIv _ _).mpr ⟨0,clr t.slots σ,H3,F1,L1++[Dd],S1++[qq []],I5,st5,λ b hb=>(f3 b hb).1,Gr.refl,R3,E0,yFk _,by rw[yCu];exact e2⟩)
  intro n s6 h6;obtain⟨i,σ6,H6,F6,L6,S6,I6,st6,fr6,g6,R6,E6,hin,ec⟩:=(hIv _ _).mp h6;clear h6;have g16:Gr F1 L1 F6 L6:=Gr.newLoc.trans g6;have toA:∀ {α:Type}{tt:Sem α}{QQ:α->qj->Prop}{EE:qx->qj->Prop}{ss:qj},qu (model X.prog X.w) Y.A tt QQ EE ss->qu (model X.prog X.w) X.A tt QQ EE ss:=λ hh=>by rw[yA] at hh;exact hh
  cases n with
  | zero =>
    have hi':i=ds.length:=by omega
    subst hi';rw[yEi] at ec;cases ec;refine aX (toA (T.done Y yP yW yK yC ds.length [] s6 σ6 H6 _ I6 (fpY fr6) st6 (wk.stop H6 (g16.f.trans R6.sub)))) λ r s7 hPq29=>?_
    obtain⟨hr,I7⟩:=hPq29;subst hr;exact bB s7 σ6 H6 F6 L6 I7 g6 R6
  | succ n =>
    have hi':i<ds.length:=by omega
    refine aX (toA (T.item Y yP yW yK yC i [] s6 σ6 H6 _ I6 (fpY fr6) st6 (wk.go i H6 (g16.f.trans R6.sub) hi'))) λ r s7 hPq30=>?_
    obtain⟨u,hr,h7⟩:=hPq30;subst hr;refine aX (toA h7) λ _ s8 hPq31=>?_
    obtain⟨x,H8,I8,r8,y8,st8,fr8⟩:=hPq31;obtain⟨F8,sf8,R8,d8⟩:=wk.yld i H6 F6 L6 S6 x H8 ds[i] g16 R6 (yAd hi') y8;have g8:Gr F6 L6 F8 L6:=⟨sf8,[],by simp⟩
    rw[yCl hi'] at ec;obtain⟨env9,ep,ec⟩:=bind_some ec;obtain⟨⟨cb,S9⟩,et,ec⟩:=bind_some ec;have I8':=I8.pinned (fpY fr8) (T.obj _ _ st8);have toF:∀ {α:Type}{tt:Sem α}{QQ:α->qj->Prop}{ss:qj},qu (model Y.prog Y.w) Y.A tt QQ Y.xe ss->qu (model X.prog X.w) X.A tt QQ (λ _ _=>False) ss:=λ hh=>by rw[yX,yP,yW,yA] at hh;exact hh
    refine toF (aX (hg Y hIC _ s8 σ6 H8 x u (λ σ' H'=>H'=H8/\EnvR X.K F8 L6 env9 σ') I8' r8 (ga ds[i] x σ6 H8 F8 L6 S6 (clr t.slots env) env9 _ R8 (E6.mono g8) d8 ep λ σ' E'=>⟨rfl,E'⟩)) λ _ s9 hPq32=>?_)
    obtain⟨σ9,H9,I9,hH9,E9⟩:=hPq32;subst hH9;refine toF (aX (ht Y hIC _ s9 σ9 H9 (λ b H'=>∃ F' L',Gr F8 L6 F' L'/\Rel X.K F' L' S9 H'/\b=cb) I9 (by rw[yK];exact⟨F8,L6,S6,env9,cb,S9,R8,E9,et,λ F' L' H' g' R'=>⟨F',L',g',R',rfl⟩⟩)) λ ok2 s10 hPq33=>?_)
    obtain⟨H10,I10,F10,L10,g10,R10,hb10⟩:=hPq33;subst hb10;dsimp only at ec;have again:∀ {σ7:L2.St}{H7 F7:Hp}{L7:List qv}{S7:aC}{s7':qj},Inv Y ([]++rT fp s8.heap) σ7 H7 s7'->Gr F8 L6 F7 L7->Rel X.K F7 L7 S7 H7->EnvR X.K F7 L7 env9 σ7->jD t fc fe S1.length (clr t.slots env) (ds.drop (i+1)) S7=qq S2 ->
     ∃ m,m<n+1/\Iv m s7':=by
     intro σ7 H7 F7 L7 S7 s7' I7 g7 R7 E7 ec7;refine⟨n,yDl n,(hIv _ _).mpr ⟨i+1,σ7,H7,F7,L7,S7,I7.unpinned,T.keep _ _ _ st8 λ b hb o eo=>(I7.pin (b,o) (xAl _ (xAl _ (qM hb eo)))).1,λ b hb=>?_,(g6.trans g8).trans g7,R7,EnvR.back ep E7,by omega,ec7⟩⟩
     obtain⟨o,eo,_⟩:=T.obj _ _ st8 b hb;exact(I7.pin (b,o) (xAl _ (xAl _ (qM hb eo)))).2.1
    cases ok2 with
    | false =>
      rw[if_neg (by simp)] at ec
      rw[if_neg (by simp)]
      exact again I10 g10 R10 (E9.mono g10) ec
    | true =>
      rw[if_pos rfl] at ec;rw[if_pos rfl];obtain⟨⟨wv,S11⟩,ee,ec⟩:=bind_some ec;obtain⟨⟨wn,S12⟩,ea,ec⟩:=bind_some ec;obtain⟨n',dv,zs',hn',hw',es',hlt,hwn,rfl⟩:=aC9 ea;cases hn';subst hw';refine toF (aX (he Y hIC _ s10 σ9 H10 (λ v H'=>∃ F' L',Gr F10 L10 F' L'/\Rel X.K F' L' S11 H'/\Den X.K F' dv v) I10 ⟨F10,L10,S9,env9,_,S11,R10,E9.mono g10,ee,λ F' L' H' v g' R' d'=>⟨F',L',g',R',d'⟩⟩) λ xv s11 hPq34=>?_)
      obtain⟨v11,H11,I11,r11,F11,L11,g11,R11,d11⟩:=hPq34;have gA:Gr F1 (L1++[Dd]) F11 L11:=((g6.trans g8).trans g10).trans g11;have eL:L11[S1.length]? = qq Dd:=gA.get (by rw[yAe (by rw[R1.len];exact yAc _),R1.len,yCj];rfl)
      obtain⟨hF,xs,hx,dl⟩:=R11.loc S1.length Dd zs' eL es';refine toF (aX (zY (X:=Y) _ s11 σ9 H11 (.ref Dd) [v11] (.ref Dd) [xv] (λ _ H'=>Rel X.K F11 L11 (S11.set S1.length (qq (zs'++[dv]))) H') I11 rfl (.cons r11 .nil) ⟨Dd,xs,v11,rfl,rfl,hx,by rw[<- dl.length];exact hlt,R11.put eL hF (dl.append (.cons d11 .nil))⟩) λ _ s12 hPq35=>?_)
      obtain⟨_,H12,I12,_,R12⟩:=hPq35;exact again I12 (g10.trans g11) R12 (E9.mono (g10.trans g11)) ec
 rw[yE,hPP] at loop;have st4:tn 0 h₁:=T.keep 0 _ _ st2 λ b _ o eo=>old b o (up23 b o eo)
 exact codeAny_compStart_list (loop _ I4 st4) (T.self X.A 0 _ _ _ st4 (loop _ I4 st4))
theorem aBc(hc:X.calm=true)(ok:ScOk scope X.env.scope)(own:aBj X.N scope t.slots)(hi:PI X tg iter (iA X.K fi))(hg:∀ Y,jC X scope Y->PG Y tg g)(ga:GA X.K t g)
 (ht:∀ Y,jC X scope Y->kQ Y ifs fc) (he:∀ Y,jC X scope Y->PE Y elt (aM X.K fe)) (hs:∀ x,jj iter X.env x=pure x) :
 PE X (.ListComp elt [⟨tg,iter,ifs,0⟩] scope pos) (gQ X.K (gI t fi fc fe)):=λ aA s σ H Q I h=>by
 rw[eval_ListComp];exact aDe qz hc ok own hi hg ga ht he hs I h λ p C s1 H' _ hm hI q=>hm.elim λ m hm=>⟨m,hm,λ h' sb=>⟨.ref p,H',hI h' sb,rfl,q⟩⟩
theorem aIa{i:Nat}{x:Str}{pos' spos:Pos}{fa:FE}(hN:X.N.Nodup)(hx1:X.N[i]? = qq x)(hx2:L2.Loc X.env.scope x)(hf:X.fn x=true\/X.env.scope.names.lookup x=qq .local)
 (hc:X.calm=true) (ok:ScOk scope X.env.scope) (own:aBj X.N scope t.slots) (hi:PI X tg iter (iA X.K fi)) (hg:∀ Y,jC X scope Y->PG Y tg g) (ga:GA X.K t g)
 (ht:∀ Y,jC X scope Y->kQ Y ifs fc) (he:∀ Y,jC X scope Y->PE Y elt (aM X.K fe)) (hs:∀ x,jj iter X.env x=pure x)
 (hw:∀ σ H Q,aM X.K fa σ H Q->gQ X.K (gI t fi fc fe) σ H Q) :
 PS X (.Assign [.Name x pos'] (.ListComp elt [⟨tg,iter,ifs,0⟩] scope pos) spos) (cG X.K (dX i fa)):=by
 have hb:∃ b,swapsWith (.ListComp elt [⟨tg,iter,ifs,0⟩] scope pos) (qq (.Name x pos')) spos.line X.env=pure b:=⟨_,rfl⟩;obtain⟨b,hb⟩:=hb;cases b with
 | false=>exact wH hN hx1 hx2 (PE.weak (aBc hc ok own hi hg ga ht he hs) hw) hb hf
 | true =>
   intro aA s σ H DD I h;have h2:=aFq DD σ H h;rw[exec_Assign_Name_used _ _ _ _ hb];refine wB (vv (wB ?_));show qu _ X.A (do let _ <- comprehension (.ListComp elt [⟨tg,iter,ifs,0⟩] scope pos) scope X.env _ (newList []) false (eval iter X.env) (qq (assign (.Name x pos') X.env))) _ _ s
   refine wB (aX (aDe (QQ:=λ _ s'=>SP X aA DD .next s') (qq (assign (.Name x pos') X.env)) hc ok own hi hg ga ht he hs I (hw _ _ _ h2) λ p C s1 H' hC hm hI q=>?_) λ _ s' hq=>wP (wP hq))
   obtain⟨m,hm⟩:=hm;have I1:Inv X aA σ H' s1:=hI s1.heap (Heap.SameBut.refl _ _);obtain⟨o,es,ep,ho,hd,r⟩:=hm;have I2:=I1.pinned (fp:=[C]) (λ b hb=>by rw[List.mem_singleton.mp hb];exact hC) λ b hb=>by rw[List.mem_singleton.mp hb];exact⟨o,ho,λ v z=>by rw[hd] at z;cases z⟩
   refine aX (aAQ (pos:=pos') hN hx1 hx2 hf _ s1 σ H' (.ref p) (.ref p) _ I2 rfl q) λ _ s2 hPq36=>?_
   obtain⟨σ2,H2,I3,q3⟩:=hPq36;obtain⟨b1,b2,_⟩:=I3.pin (C,o) (xAl _ (xAl _ (qM (by simp) ho)))
   refine⟨m,⟨o,es,ep,b1,hd,r⟩,λ h' sb=>⟨σ2,H2,?_,q3⟩⟩
   exact I3.unpinned.turned (t':=s2.toks) (λ b o hb e=>sb.extBut b o hb e) b2 hC.2.1 hC.2.2.2.1 hC.2.2.2.2.1 hC.2.2.2.2.2
end
noncomputable def rH:List D->Option (List Int)
 | []=>qq []
 | .int i::r=>(rH r).bind λ l=>qq (i::l)
 | _::_=>qz
noncomputable def jS:List D->Option (List Bool)
 | []=>qq []
 | .bool i::r=>(jS r).bind λ l=>qq (i::l)
 | _::_=>qz
noncomputable def fS:List D->Option D
 | [.list xs]=>qq (.int xs.length)
 | [.tuple xs]=>qq (.int xs.length)
 | [.str z]=>if z.length<=qk then qq (.int z.length) else qz
 | _=>qz
noncomputable def xG:List D->Option D
 | [.int i,.int j]=>qq (.int (if j>i then j else i))
 | [.int i,.int j,.int k]=>qq (.int (if j>i then (if k>j then k else j) else (if k>i then k else i)))
 | [.list xs]=>match rH xs with
   | some (i::r)=>qq (.int (r.foldl max i))
   | _=>qz
 | _=>qz
noncomputable def sM:List D->Option D
 | [.int i,.int j]=>qq (.int (if j<i then j else i))
 | [.list xs]=>match rH xs with
   | some (i::r)=>qq (.int (r.foldl min i))
   | _=>qz
 | _=>qz
noncomputable def sX:List D->Option D
 | [.int i]=>qq (.int i)
 | [.bool k]=>qq (.int (if k then 1 else 0))
 | _=>qz
noncomputable def aBP:List D->Option D
 | [.int i]=>qq (.int (if i<0 then -i else i))
 | _=>qz
noncomputable def oZ:List D->Option D
 | [.list xs]=>qq (.tuple xs)
 | [.tuple xs]=>qq (.tuple xs)
 | _=>qz
noncomputable def aBS:List D->Option D
 | [.list xs]=>(rH xs).bind λ l=>qq (.int l.sum)
 | _=>qz
noncomputable def wX:List D->Option D
 | [.list xs]=>(jS xs).bind λ l=>qq (.bool (l.all id))
 | _=>qz
noncomputable def xC:List D->Option D
 | [.list xs]=>(jS xs).bind λ l=>qq (.bool (l.any id))
 | _=>qz
section
variable {X : Cx}
theorem hJ{F H:Hp}{d:D}{xs:List V}(h:NowL X.K F H [d] xs):∃ x,xs=[x]/\bJ X.K F H d x:=by
 cases h with
 | cons a b=>cases b;exact⟨_,rfl,a⟩
theorem aGy{F H:Hp}{d e:D}{xs:List V}(h:NowL X.K F H [d,e] xs):∃ x y,xs=[x,y]/\bJ X.K F H d x/\bJ X.K F H e y:=by
 cases h with
 | cons a b =>
   cases b with
   | cons c d=>cases d;exact⟨_,_,rfl,a,c⟩
theorem aPo{F H:Hp}{d e f:D}{xs:List V}(h:NowL X.K F H [d,e,f] xs):∃ x y z,xs=[x,y,z]/\bJ X.K F H d x/\bJ X.K F H e y/\bJ X.K F H f z:=by
 cases h with
 | cons a b=>cases b with
   | cons c d=>cases d with
     | cons e f=>cases f;exact⟨_,_,_,rfl,a,c,e⟩
theorem aOA{x y z:V}{us:List qx}(r:aS [x,y,z] us):∃ u v w',us=[u,v,w']/\aV x u/\aV y v/\aV z w':=by
 cases r with
 | cons r1 r2=>cases r2 with
   | cons r3 r4=>cases r4 with
     | cons r5 r6=>cases r6;exact⟨_,_,_,rfl,r1,r3,r5⟩
theorem aIz(hc:X.calm=true):cF X (.builtin "max") (λ xs H Q=>∃ i j k,xs=[.int i,.int j,.int k]/\Q (.int (if j>i then (if k>j then k else j) else (if k>i then k else i))) H):=by
 intro aA s σ H xs us Q I r h;obtain⟨i,j,k,rfl,q⟩:=h;obtain⟨u,v,w',rfl,⟨t,rfl⟩,⟨t',rfl⟩,⟨t2,rfl⟩⟩:=aOA r;refine max_three_ints (I.ok.hd hc) λ h' tk kk=>⟨_,H,I.kept kk,?_,q⟩
 by_cases h1:j>i<;>by_cases h2:k>j<;>by_cases h3:k>i<;>simp only[h1,h2,h3,if_true,if_false]<;>exact⟨_,rfl⟩
theorem uN{K:FrG}{F:Hp}:∀ {ds:List D}{xs:List V}{ns:List Int},DenL K F ds xs->rH ds=qq ns->xs=ns.map V.int
 | _,_,_,.nil,e=>by cases e;rfl
 | .int i::r,_,_,.cons h t,e=>by
   obtain⟨l,e1,e2⟩:=bind_some e;cases e2;cases h;rw[yAj,uN t e1]
 | .none::_,_,_,.cons _ _,e=>by cases e
 | .bool _::_,_,_,.cons _ _,e=>by cases e
 | .str _::_,_,_,.cons _ _,e=>by cases e
 | .list _::_,_,_,.cons _ _,e=>by cases e
 | .tuple _::_,_,_,.cons _ _,e=>by cases e
 | .dict _::_,_,_,.cons _ _,e=>by cases e
theorem aEh:∀ (l:List Int) (i:Int),(l.foldl max i∈i::l)/\∀ a∈i::l,a<=l.foldl max i
 | [],i=>⟨List.mem_singleton.mpr rfl,λ a h=>by rw[List.mem_singleton.mp h];exact Int.le_refl _⟩
 | b::l,i=>by
   obtain⟨h1,h2⟩:=aEh l (max i b);rw[yAk];refine⟨?_,λ a ha=>?_⟩
   ·rcases List.mem_cons.mp h1 with h | h
    ·rw[h];rcases Int.le_total i b with q | q
     ·rw[Int.max_eq_right q];simp
     ·rw[Int.max_eq_left q];simp
    ·simp[h]
   ·have h3:=h2 (max i b) xAd;simp only[yAx] at ha;rcases ha with rfl | rfl | ha
    ·exact yFl (Int.le_max_left _ _) h3
    ·exact yFl (Int.le_max_right _ _) h3
    ·exact h2 a (xAf _ ha)
theorem aDY:∀ (l:List Int) (i:Int),(l.foldl min i∈i::l)/\∀ a∈i::l,l.foldl min i<=a
 | [],i=>⟨List.mem_singleton.mpr rfl,λ a h=>by rw[List.mem_singleton.mp h];exact Int.le_refl _⟩
 | b::l,i=>by
   obtain⟨h1,h2⟩:=aDY l (min i b);rw[yAk];refine⟨?_,λ a ha=>?_⟩
   ·rcases List.mem_cons.mp h1 with h | h
    ·rw[h];rcases Int.le_total i b with q | q
     ·rw[Int.min_eq_left q];simp
     ·rw[Int.min_eq_right q];simp
    ·simp[h]
   ·have h3:=h2 (min i b) xAd;simp only[yAx] at ha;rcases ha with rfl | rfl | ha
    ·exact yFl h3 (Int.min_le_left _ _)
    ·exact yFl h3 (Int.min_le_right _ _)
    ·exact h2 a (xAf _ ha)
theorem zN:∀ {l:List Int}{us:List qx},aS (l.map V.int) us->∃ ps:List (Int×Tok),us=ps.map (λ p=>Value.int p.1 p.2)/\ps.map (·.1)=l
 | [],us,r=>by cases r;exact⟨[],rfl,rfl⟩
 | i::l,us,r=>by
   cases r with
   | cons h t =>
     obtain⟨tk,rfl⟩:=h;obtain⟨ps,rfl,rfl⟩:=zN t;exact⟨(i,tk)::ps,rfl,rfl⟩
theorem aIt(hc:X.calm=true):cF X (.builtin "max") (λ xs H Q=>∃ (a:qv) (l:List Int),xs=[.ref a]/\bF X.K H a (l.map V.int)/\0<l.length/\∀ M,M∈l->(∀ i∈l,i<=M)->Q (.int M) H):=by
 intro aA s σ H xs us Q I r h;obtain⟨a,l,rfl,sq,hl,q⟩:=h;obtain⟨u,rfl,ru⟩:=eZ r;cases ru;obtain⟨its,rv,pl,hz⟩:=I.list sq;obtain⟨ps,rfl,rfl⟩:=zN rv;have hIL:s.heap.IsList a (intItems ps.toArray):=by
  have e:intItems ps.toArray=(ps.map (λ p=>Value.int p.1 p.2)).toArray:=by simp[intItems]
  rw[e];exact pl.isList
 refine max_intList (xs:=ps.toArray) (I.ok.hd hc) hIL (by simpa using hl) λ v h' tk hv hk=>?_
 obtain⟨t,rfl⟩:=intItems_at hv;obtain⟨h1,h2⟩:=argBest_gt (numAt ps.toArray) (ps.toArray.size-1);refine⟨.int _,H,I.kept hk,⟨_,rfl⟩,q _ ?_ λ i hi=>?_⟩
 ·rw[numAt_eq];have hz':0<ps.toArray.size:=by simpa using hl
  exact getD_mem (by rw[yAg,yBn];exact yDt h1 (Nat.sub_lt hz' Nat.one_pos))
 ·obtain⟨j,hj,rfl⟩:=mem_getD hi;rw[yAg] at hj;have:=h2 j (by rw[yAb];omega)
  rw[numAt_eq (j:=j)] at this;exact this
theorem aIw(hc:X.calm=true):cF X (.builtin "min") (λ xs H Q=>∃ (a:qv) (l:List Int),xs=[.ref a]/\bF X.K H a (l.map V.int)/\0<l.length/\∀ M,M∈l->(∀ i∈l,M<=i)->Q (.int M) H):=by
 intro aA s σ H xs us Q I r h;obtain⟨a,l,rfl,sq,hl,q⟩:=h;obtain⟨u,rfl,ru⟩:=eZ r;cases ru;obtain⟨its,rv,pl,hz⟩:=I.list sq;obtain⟨ps,rfl,rfl⟩:=zN rv;have hIL:s.heap.IsList a (intItems ps.toArray):=by
  have e:intItems ps.toArray=(ps.map (λ p=>Value.int p.1 p.2)).toArray:=by simp[intItems]
  rw[e];exact pl.isList
 refine min_intList (xs:=ps.toArray) (I.ok.hd hc) hIL (by simpa using hl) λ v h' tk hv hk=>?_
 obtain⟨t,rfl⟩:=intItems_at hv;obtain⟨h1,h2⟩:=argBest_lt (numAt ps.toArray) (ps.toArray.size-1);refine⟨.int _,H,I.kept hk,⟨_,rfl⟩,q _ ?_ λ i hi=>?_⟩
 ·rw[numAt_eq];have hz':0<ps.toArray.size:=by simpa using hl
  exact getD_mem (by rw[yAg,yBn];exact yDt h1 (Nat.sub_lt hz' Nat.one_pos))
 ·obtain⟨j,hj,rfl⟩:=mem_getD hi;rw[yAg] at hj;have:=h2 j (by rw[yAb];omega)
  rw[numAt_eq (j:=j)] at this;exact this
theorem aN2:cF X (.builtin "len") (kI X fS):=λ aA s σ H xs us Q I r aK=>by
 obtain⟨F,L,S,ds,z,R,n,e,q⟩:=aK;unfold fS at e
 split at e
 ·cases e;obtain⟨x,rfl,nx⟩:=hJ n;obtain⟨a,ys,rfl,sq,dl⟩:=nx.lst R.sub;exact aCw aA s σ H _ us Q I r ⟨a,ys,rfl,.inl sq,by rw[<- dl.length];exact q.here R (.int _)⟩
 ·cases e;obtain⟨x,rfl,nx⟩:=hJ n;obtain⟨a,ys,rfl,sq,dl⟩:=nx.tup R.sub;exact aCw aA s σ H _ us Q I r ⟨a,ys,rfl,.inr sq,by rw[<- dl.length];exact q.here R (.int _)⟩
 ·split at e
  ·rename_i hz;cases e;obtain⟨x,rfl,nx⟩:=hJ n;exact aHg aA s σ H _ us Q I r ⟨_,by rw[nx.str],hz,q.here R (.int _)⟩
  ·cases e
 ·cases e
theorem aOm(hc:X.calm=true):cF X (.builtin "max") (kI X xG):=λ aA s σ H xs us Q I r aK=>by
 obtain⟨F,L,S,ds,z,R,n,e,q⟩:=aK;unfold xG at e
 split at e
 ·cases e;obtain⟨x,y,rfl,nx,ny⟩:=aGy n;exact aIy hc aA s σ H _ us Q I r ⟨_,_,by rw[nx.int,ny.int],q.here R (.int _)⟩
 ·cases e;obtain⟨x,y,u,rfl,nx,ny,nu⟩:=aPo n;exact aIz hc aA s σ H _ us Q I r ⟨_,_,_,by rw[nx.int,ny.int,nu.int],q.here R (.int _)⟩
 ·split at e
  ·rename_i xs' i r' hi;cases e;obtain⟨x,rfl,nx⟩:=hJ n;obtain⟨a,ys,rfl,sq,dl⟩:=nx.lst R.sub;obtain rfl:=uN dl hi;refine aIt hc aA s σ H _ us Q I r ⟨a,i::r',rfl,sq,by simp,λ M h1 h2=>?_⟩
   have f:=aEh r' i;have:M=r'.foldl max i:=Int.le_antisymm (f.2 _ h1) (h2 _ f.1);rw[this];exact q.here R (.int _)
  ·cases e
 ·cases e
theorem aO6(hc:X.calm=true):cF X (.builtin "min") (kI X sM):=λ aA s σ H xs us Q I r aK=>by
 obtain⟨F,L,S,ds,z,R,n,e,q⟩:=aK;unfold sM at e
 split at e
 ·cases e;obtain⟨x,y,rfl,nx,ny⟩:=aGy n;exact aIg hc aA s σ H _ us Q I r ⟨_,_,by rw[nx.int,ny.int],q.here R (.int _)⟩
 ·split at e
  ·rename_i xs' i r' hi;cases e;obtain⟨x,rfl,nx⟩:=hJ n;obtain⟨a,ys,rfl,sq,dl⟩:=nx.lst R.sub;obtain rfl:=uN dl hi;refine aIw hc aA s σ H _ us Q I r ⟨a,i::r',rfl,sq,by simp,λ M h1 h2=>?_⟩
   have f:=aDY r' i;have:M=r'.foldl min i:=Int.le_antisymm (h2 _ f.1) (f.2 _ h1);rw[this];exact q.here R (.int _)
  ·cases e
 ·cases e
theorem aOE:cF X (.type "int") (kI X sX):=λ aA s σ H xs us Q I r aK=>by
 obtain⟨F,L,S,ds,z,R,n,e,q⟩:=aK;unfold sX at e
 split at e
 ·cases e;obtain⟨x,rfl,nx⟩:=hJ n;exact aDc aA s σ H _ us Q I r (.inl ⟨_,by rw[nx.int],q.here R (.int _)⟩)
 ·cases e;obtain⟨x,rfl,nx⟩:=hJ n;exact aDc aA s σ H _ us Q I r (.inr ⟨_,by rw[nx.bl],q.here R (.int _)⟩)
 ·cases e
theorem aNT:cF X (.builtin "abs") (kI X aBP):=λ aA s σ H xs us Q I r aK=>by
 obtain⟨F,L,S,ds,z,R,n,e,q⟩:=aK;unfold aBP at e
 split at e
 ·cases e;obtain⟨x,rfl,nx⟩:=hJ n;exact aI8 aA s σ H _ us Q I r ⟨_,by rw[nx.int],q.here R (.int _)⟩
 ·cases e
theorem aKF:cF X (.type "tuple") (kI X oZ):=λ aA s σ H xs us Q I r aK=>by
 obtain⟨F,L,S,ds,z,R,n,e,q⟩:=aK;unfold oZ at e
 split at e
 ·cases e;obtain⟨x,rfl,nx⟩:=hJ n;obtain⟨a,ys,rfl,sq,dl⟩:=nx.lst R.sub;exact aCs aA s σ H _ us Q I r ⟨a,ys,rfl,.inl ⟨sq,λ l hl=>q.tup R hl dl⟩⟩
 ·cases e;obtain⟨x,rfl,nx⟩:=hJ n;have nx':=nx;obtain⟨a,ys,rfl,sq,dl⟩:=nx.tup R.sub;refine aCs aA s σ H _ us Q I r ⟨a,ys,rfl,.inr ⟨sq,q.here R ?_⟩⟩;rcases nx' with nx | ⟨_,_,_,e,_⟩
  ·exact nx
  ·cases e
 ·cases e
theorem zK{prog:qo}{w:zq}{A:zj}(hh:A.handled=qz)(I ax:qv)(hne:ax≠I)(aJ:Array qx) :
 WalksS prog w A I [I,ax] [I] (λ a b=>b=a) aJ.size (λ i v=>aJ[i]? = qq v) (λ i s=>s.heap.IsListIter I ax i/\s.heap.IsList ax aJ) where
 sub:=λ b hb=>by simp at hb;simp[hb]
 grefl:=λ _=>rfl
 gtrans:=λ _ _ _ h1 h2=>h2.trans h1
 frame:=λ _ _ _ _ st _ hk=>⟨st.1.at λ o e=>hk I (by simp) o e,st.2.at λ o e=>hk ax (by simp) o e⟩
 item:=λ i s Q E hi st hQ=>by
  refine wz st.1 st.2 (x:=aJ[i]) (by simp[hi]) λ h' hit' hs'=>?_
  exact hQ _ _ (by simp[hi]) ⟨hit',st.2.extBut hs'.extBut hne⟩ ⟨λ b o hb e=>hs'.extBut b o (λ h=>hb (by simp[h])) e,rfl,rfl,rfl,yAc _⟩
 done:=λ s Q E st hQ=>ww hh st.1 st.2 (by simp) λ h' he'=>hQ _ ⟨λ b o hb e=>he' b o (λ h=>hb (by simp[h])) e,rfl,rfl,rfl,yAc _⟩
 self:=λ _ _ _ _ st hQ=>wpAny_pyIter_listiter st.1 hQ
theorem aCF:∀ (ns:List Int) (k:Nat),k<=ns.length->preSum (λ i=>ns.getD i 0) k=(ns.take k).sum
 | _,0,_=>by simp[preSum]
 | ns,k+1,h=>by
   rw[preSum,aCF ns k (by omega),List.take_succ_eq_append_getElem (by omega),List.sum_append]
   have:ns.getD k 0=ns[k]:=by simp[List.getD,yAd (show k<ns.length by omega)]
   rw[this];simp
theorem zJ{K:FrG}{F:Hp}:∀ {ds:List D}{xs:List V}{ns:List Bool},DenL K F ds xs->jS ds=qq ns->xs=ns.map V.bl
 | _,_,_,.nil,e=>by cases e;rfl
 | .bool i::r,_,_,.cons h t,e=>by
   obtain⟨l,e1,e2⟩:=bind_some e;cases e2;cases h;rw[yAj,zJ t e1]
 | .none::_,_,_,.cons _ _,e=>by cases e
 | .int _::_,_,_,.cons _ _,e=>by cases e
 | .str _::_,_,_,.cons _ _,e=>by cases e
 | .list _::_,_,_,.cons _ _,e=>by cases e
 | .tuple _::_,_,_,.cons _ _,e=>by cases e
 | .dict _::_,_,_,.cons _ _,e=>by cases e
theorem aHA{ns:List Int}{us:List qx}(r:aS (ns.map V.int) us){i:Nat}{v:qx}(e:us[i]? = qq v):∃ t,v=.int (ns.getD i 0) t:=by
 have hl:=r.length;rw[yAg] at hl;have hi:i<ns.length:=by rw[hl];exact(gIm e).1
 obtain⟨u,e1,ru⟩:=aS.get r (i:=i) (x:=.int ns[i]) (by rw[xAb,yAd hi];rfl)
 rw[e] at e1;cases e1;obtain⟨t,rfl⟩:=ru;exact⟨t,by simp[List.getD,yAd hi]⟩
theorem aCx{ns:List Bool}{us:List qx}(r:aS (ns.map V.bl) us){i:Nat}{v:qx}(e:us[i]? = qq v):v=.bool (ns.getD i false):=by
 have hl:=r.length;rw[yAg] at hl;have hi:i<ns.length:=by rw[hl];exact(gIm e).1
 obtain⟨u,e1,ru⟩:=aS.get r (i:=i) (x:=.bl ns[i]) (by rw[xAb,yAd hi];rfl)
 rw[e] at e1;cases e1;obtain rfl:=ru;simp[List.getD,yAd hi]
theorem aN7(hc:X.calm=true):cF X (.builtin "sum") (kI X aBS):=λ aA s σ H xs us Q I r aK=>by
 obtain⟨F,L,S,ds,z,R,n,e,q⟩:=aK;unfold aBS at e
 split at e
 ·obtain⟨ns,e1,e2⟩:=bind_some e;cases e2;obtain⟨x,rfl,nx⟩:=hJ n;obtain⟨a,ys,rfl,sq,dl⟩:=nx.lst R.sub;obtain rfl:=uN dl e1;obtain⟨u,rfl,ru⟩:=eZ r;cases ru;obtain⟨its,rv,pl,hz⟩:=I.list sq;have hh:X.A.in1.handled=qz:=I.ok.hd hc;refine call_sum_walkAnyS (jo pl.isList ?_);have hne:a≠s.heap.objs.size:=by
   obtain⟨o,ho,_⟩:=pl.isList;exact xAh (xAa ho)
  have hl:=rv.length;rw[yAg] at hl;refine⟨_,_,_,_,_,_,_,λ i=>ns.getD i 0,rfl,zK hh s.heap.objs.size a hne its.toArray,⟨⟨_,xAe _ rfl,rfl,rfl⟩,?_⟩,λ b hb=>?_,λ i v e=>aHA rv (by simpa using e),λ s' t' mv=>?_⟩
  ·obtain⟨o,ho,r'⟩:=pl.isList;exact⟨o,hpS _ ho,r'⟩
  ·obtain⟨o,ho,_⟩:=pl.isList;have h1:=xAa ho;simp only[yAx,yAr,or_false] at hb;rw[yBr];rcases hb with rfl | rfl
   ·exact yDl _
   ·exact yFb h1
  ·obtain⟨h',g',d',t2,o'⟩:=s';obtain⟨mh,mg,md,mo,mt⟩:=mv;dsimp only at mh mg md mo;subst mg md mo;have I':Inv X aA σ H {s with heap:=h',toks:=t2 }:=I.kept λ b o e=>mh b o (λ z=>by
    have:b=s.heap.objs.size:=by simpa using z
    exact yBc _ (this▸xAa e)) (hpS _ e)
   have e3:preSum (λ i=>ns.getD i 0) its.toArray.size=ns.sum:=by
    rw[yAb,<- hl,aCF ns ns.length (yAc _),yAh]
   rw[e3];exact⟨.int ns.sum,H,I',⟨_,rfl⟩,q.here R (.int _)⟩
 ·cases e
theorem aCK{prog:qo}{w:zq}{A:zj}{b:Bool}{s:qj}{Q:Bool->qj->Prop}{E:qx->qj->Prop}(h:Q b s):qu (model prog w) A (truthy (.bool b)) Q E s:=by
 first
  | exact ju h
  | exact PySem.wpAny_truthy_bool h
  | exact truthy_bool h
theorem aIb(bs:List Bool):(yBe bs.length).all (λ i=>bs.getD i false)=bs.all id:=by
 have h:(yBe bs.length).map (λ i=>bs.getD i false)=bs:=by
  apply List.ext_getElem
  ·simp
  ·intro i h1 h2;simp[List.getD,yAd h2]
 have h2:bs.all id=((yBe bs.length).map (λ i=>bs.getD i false)).all id:=by rw[h]
 rw[h2,List.all_map];rfl
theorem aIG(bs:List Bool):(yBe bs.length).any (λ i=>bs.getD i false)=bs.any id:=by
 have h:(yBe bs.length).map (λ i=>bs.getD i false)=bs:=by
  apply List.ext_getElem
  ·simp
  ·intro i h1 h2;simp[List.getD,yAd h2]
 have h2:bs.any id=((yBe bs.length).map (λ i=>bs.getD i false)).any id:=by rw[h]
 rw[h2,List.any_map];rfl
theorem aOW(hc:X.calm=true):cF X (.builtin "all") (kI X wX):=λ aA s σ H xs us Q I r aK=>by
 obtain⟨F,L,S,ds,z,R,n,e,q⟩:=aK;unfold wX at e
 split at e
 ·obtain⟨bs,e1,e2⟩:=bind_some e;cases e2;obtain⟨x,rfl,nx⟩:=hJ n;obtain⟨a,ys,rfl,sq,dl⟩:=nx.lst R.sub;obtain rfl:=zJ dl e1;obtain⟨u,rfl,ru⟩:=eZ r;cases ru;obtain⟨its,rv,pl,hz⟩:=I.list sq;have hh:X.A.in1.handled=qz:=I.ok.hd hc;refine call_all_walkS (jo pl.isList ?_);have hne:a≠s.heap.objs.size:=by
   obtain⟨o,ho,_⟩:=pl.isList;exact xAh (xAa ho)
  have hl:=rv.length;rw[yAg] at hl;refine⟨_,_,_,_,_,_,_,λ i=>bs.getD i false,rfl,zK hh s.heap.objs.size a hne its.toArray,⟨⟨_,xAe _ rfl,rfl,rfl⟩,?_⟩,λ i v s' Q' E' e hq=>?_,λ s' mv=>?_⟩
  ·obtain⟨o,ho,r'⟩:=pl.isList;exact⟨o,hpS _ ho,r'⟩
  ·obtain rfl:=aCx rv (i:=i) (by simpa using e)
   exact aCK hq
  ·obtain⟨h',g',d',t2,o'⟩:=s';obtain⟨mh,mg,md,mo,mt⟩:=mv;dsimp only at mh mg md mo;subst mg md mo;have I':Inv X aA σ H {s with heap:=h',toks:=t2 }:=I.kept λ b o e=>mh b o (λ z=>by
    have:b=s.heap.objs.size:=by simpa using z
    exact yBc _ (this▸xAa e)) (hpS _ e)
   rw[yAb,<- hl,aIb];exact⟨.bl (bs.all id),H,I',rfl,q.here R (.bl _)⟩
 ·cases e
theorem aN4(hc:X.calm=true):cF X (.builtin "any") (kI X xC):=λ aA s σ H xs us Q I r aK=>by
 obtain⟨F,L,S,ds,z,R,n,e,q⟩:=aK;unfold xC at e
 split at e
 ·obtain⟨bs,e1,e2⟩:=bind_some e;cases e2;obtain⟨x,rfl,nx⟩:=hJ n;obtain⟨a,ys,rfl,sq,dl⟩:=nx.lst R.sub;obtain rfl:=zJ dl e1;obtain⟨u,rfl,ru⟩:=eZ r;cases ru;obtain⟨its,rv,pl,hz⟩:=I.list sq;have hh:X.A.in1.handled=qz:=I.ok.hd hc;refine call_any_walkS (jo pl.isList ?_);have hne:a≠s.heap.objs.size:=by
   obtain⟨o,ho,_⟩:=pl.isList;exact xAh (xAa ho)
  have hl:=rv.length;rw[yAg] at hl;refine⟨_,_,_,_,_,_,_,λ i=>bs.getD i false,rfl,zK hh s.heap.objs.size a hne its.toArray,⟨⟨_,xAe _ rfl,rfl,rfl⟩,?_⟩,λ i v s' Q' E' e hq=>?_,λ s' mv=>?_⟩
  ·obtain⟨o,ho,r'⟩:=pl.isList;exact⟨o,hpS _ ho,r'⟩
  ·obtain rfl:=aCx rv (i:=i) (by simpa using e)
   exact aCK hq
  ·obtain⟨h',g',d',t2,o'⟩:=s';obtain⟨mh,mg,md,mo,mt⟩:=mv;dsimp only at mh mg md mo;subst mg md mo;have I':Inv X aA σ H {s with heap:=h',toks:=t2 }:=I.kept λ b o e=>mh b o (λ z=>by
    have:b=s.heap.objs.size:=by simpa using z
    exact yBc _ (this▸xAa e)) (hpS _ e)
   rw[yAb,<- hl,aIG];exact⟨.bl (bs.any id),H,I',rfl,q.here R (.bl _)⟩
 ·cases e
noncomputable def tyD:D->Option String
 | .none=>qq "NoneType"
 | .bool _=>qq "bool"
 | .int _=>qq "int"
 | .str _=>qq "str"
 | .list _=>qq "list"
 | .tuple _=>qq "tuple"
 | .dict _=>qz
noncomputable def tB(K:FrG)(n:String)(d:D):Option D:=(tyD d).bind λ t=>(PySem.W.kitOne K (.type t) (.type n)).map yBf
theorem aL0{aA:List (qv×Obj)}{s:qj}{σ:L2.St}{H F:Hp}{L:List qv}{S:aC}{x:V}{v:qx}{d z:D}{n:String}{Q:VK}(I:Inv X aA σ H s)(R:Rel X.K F L S H)(rx:aV x v)(nx:bJ X.K F H d x)(e:tB X.K n d=qq z)(q:fG X F L S z Q) :
 qu (model X.prog X.w) X.A (call (.builtin "isinstance") [v,.type n]) (EP X aA σ Q) X.xe s:=by
 obtain⟨t,e1,e2⟩:=bind_some e;cases ek:PySem.W.kitOne X.K (.type t) (.type n) with
 | none=>rw[ek] at e2;cases e2
 | some b =>
   rw[ek] at e2;cases e2;have bB:∀ tk,EP X aA σ Q (.bool b) {s with toks:=tk }:=λ tk=>⟨.bl b,H,I.tok _,rfl,q.here R (.bl b)⟩
   cases d with
   | none=>cases e1;obtain rfl:=nx.non;cases (show v=Value.none from rx);exact yDc PySem.W.kitx_none I.kIn True.intro ek (λ z=>nomatch z) bB
   | bool y=>cases e1;obtain rfl:=nx.bl;cases (show v=Value.bool y from rx);exact yDc PySem.W.kitx_bool I.kIn True.intro ek (λ z=>nomatch z) bB
   | int i=>cases e1;obtain rfl:=nx.int;obtain⟨t,q⟩:=(show ∃ t,v=Value.int i t from rx);cases q;exact yDc PySem.W.kitx_int I.kIn True.intro ek (λ z=>nomatch z) bB
   | str y=>cases e1;obtain rfl:=nx.str;obtain⟨t,q⟩:=(show ∃ t,v=Value.str y t from rx);cases q;exact yDc PySem.W.kitx_str I.kIn True.intro ek (λ z=>nomatch z) bB
   | list l =>
     cases e1;obtain⟨a,xs,rfl,sq,dl⟩:=nx.lst R.sub;cases (show v=Value.ref a from rx)
     obtain⟨its,rv,pl,_⟩:=I.list sq;obtain⟨o,ho,hc,_⟩:=pl.isList;exact yDc PySem.W.kitx_list I.kIn ⟨o,ho,hc⟩ ek (λ z=>nomatch z) bB
   | tuple l =>
     cases e1;obtain⟨a,xs,rfl,sq,dl⟩:=nx.tup R.sub;cases (show v=Value.ref a from rx)
     obtain⟨its,rv,pl,_⟩:=I.tuple sq;obtain⟨o,ho,hc,_⟩:=pl;exact yDc PySem.W.kitx_tuple I.kIn ⟨o,ho,hc⟩ ek (λ z=>nomatch z) bB
   | dict l=>cases e1
noncomputable def aGl(K:FrG)(n:String)(fa:FE):FE:=f1 fa (dE (tB K n))
theorem aO5{a:qw}{fa:FE}{n:String}{x:Str}{p p' pos:Pos}(ha:PE X a (aM X.K fa))(hg:Gl X "isinstance")(hm:X.mg "isinstance" = qz)(hv:zu "isinstance" = qq (.builtin "isinstance"))(hg':Gl X x)(hm':X.mg x=qz)(hv':zu x=qq (.type n))(hn:x ≠ "__name__")(hd:(x==("__debug__" : Str))=false)
 (h1:zv [a,.Name x p'] X.env=(false,eval a X.env)::zv [.Name x p'] X.env):PE X (.Call (.Name "isinstance" p) [a,.Name x p'] [] pos) (aM X.K (aGl X.K n fa)):=by
 have pt:PE X (.Name x p') (tC (.ty n)):=aEB hg' hm' hv' rfl hn hd;have rule:cF X (.builtin "isinstance") (λ xs H Q=>∃ F L S y d z,xs=[y,.ty n]/\Rel X.K F L S H/\bJ X.K F H d y/\tB X.K n d=qq z/\fG X F L S z Q):=λ aA s σ H xs us Q I r aK=>by
  obtain⟨F,L,S,y,d,z,e,R,ny,e2,q⟩:=aK;subst e;obtain⟨u,u2,rfl,r1,r2⟩:=pG r;cases (show u2=Value.type n from r2)
  exact aL0 I R r1 ny e2 q
 refine PE.weak (jQ rule hg hm hv (jR ha (jR pt oV) h1) (by decide) (by decide) h1 rfl) λ σ H Q hPq37=>?_
 obtain⟨F,L,S,env,w,S',R,E,e,q⟩:=hPq37;obtain⟨⟨w1,S1⟩,e1,e2⟩:=bind_some e;obtain⟨d,z,e3,e4,rfl,rfl⟩:=qV e2;exact⟨F,L,S,env,w1,_,R,E,e1,λ F1 L1 H1 v g1 R1 d1=>⟨F1,L1,_,v,d,z,rfl,R1,iN R1 d1 e3,e4,vE X rfl λ F2 L2 H2 v2 g2 R2 d2=>q F2 L2 H2 v2 (g1.trans g2) R2 d2⟩⟩
noncomputable def wU(fa:FE):FL:=λ env S=>(fa env S).bind λ p=>(dr p.2 p.1).bind λ d=>(sB d).bind λ l=>qq (l,p.2)
theorem aOY{fa:FE}(σ:St)(H:Hp)(Q:VK)(h:gQ X.K (wU fa) σ H Q):uD (λ xs H Q=>∃ p ys,xs=[.ref p]/\(bF X.K H p ys\/bL X.K H p ys)/\∀ l,H l=qz->Q (.ref l) (aT H l (.lst ys))) (cT X.K (cH fa eJ)) σ H Q:=by
 obtain⟨F,L,S,env,ds,S',R,E,e,q⟩:=h;obtain⟨⟨w,S1⟩,e1,e⟩:=bind_some e;obtain⟨d,e2,e⟩:=bind_some e;obtain⟨l,e3,e⟩:=bind_some e;cases e;refine⟨F,L,S,env,[w],_,R,E,by unfold cH;rw[e1];rfl,λ F1 L1 H1 vs g1 R1 d1=>?_⟩
 cases d1 with
 | cons dd dr =>
   cases dr;obtain⟨p,xs,rfl,sq,dl⟩:=aAW R1.sub (iN R1 dd e2) e3;exact⟨p,xs,rfl,sq,λ l hl=>q F1 L1 _ l xs g1 (R1.lay hl) (R1.sub.free hl) (R1.notin hl) bQ dl⟩
end
section
variable {X : Cx}{aA : List (qv×Obj)}{σ : L2.St}{H : Hp}{s : qj}{h' : Heap}
theorem zU{ch:List qv}{p:qv}{o:HO}{t':Nat}(I:Inv X aA σ H s)(hch:∀ b∈ch,fW X aA H b)(k:∀ b u,b ∉ ch->s.heap.get? b=qq u->h'.get? b=qq u)(hp:s.heap.objs.size<=p)
 (new:fA X.prog X.w (aT H p o) h' p o):Inv X aA σ (aT H p o) {s with heap:=h',toks:=t' }:=by
 have hn:=I.hok.fresh hp;have nch:∀ b u,H b=qq u->b ∉ ch:=λ b u e z=>by rw[(hch b z).1] at e;cases e
 have nep:∀ b u,s.heap.get? b=qq u->b≠p:=λ b u e z=>absurd (xAc (xAa e) hp) (by rw[z];exact yBc _)
 refine I.step (g':=s.gens) (d':=s.drawn) (ch:=ch) (λ b hb=>⟨(hch b hb).2.2.2.1,(hch b hb).2.1,(hch b hb).2.2.2.2.1,(hch b hb).2.2.2.2.2⟩) (λ b o _ _ hc e _=>k b o hc e) (λ b o _ _ hc e _=>⟨o.slots,k b o hc e⟩) (λ b o _ e n=>by rw[aW (nep b o e)];exact n)
  (λ b o hc e=>⟨o,k b o hc e⟩) (λ b xs e=>by rw[aW (dF e hn)];exact e) (λ b u v e=>by rw[aW (dF e hn)];exact e) (λ b ps e=>⟨#[],by rw[aW (dF e hn),e];simp⟩) (λ m hm=>?_) (λ b u e=>?_) I.bare
 ·obtain⟨o,es,ep,ho,r⟩:=hm;exact⟨o,es,ep,k _ o (λ z=>(hch _ z).2.1 rfl) ho,r⟩
 ·by_cases hb:b=p
  ·subst hb;rw[bQ] at e;cases e;exact new
  ·rw[aW hb] at e;refine(I.hok b u e).stay (λ c v hc q=>k c v ?_ q) (λ c q=>by rw[aW (dF q hn)];exact q) λ c xs q=>by rw[aW (dF q hn)];exact q
   rcases hc with z | z
   ·rw[z];exact nch b u e
   ·exact nch c _ z
end
noncomputable def Ite(K:FrG)(a:qv):It:=
 ⟨λ i H=>∃ xs x,bF K H a xs/\xs[i]? = qq x,λ i H x H'=>∃ p y,H p=qz/\H'=aT H p (.tup [.int i,y])/\x=.ref p/\∀ xs,bF K H a xs->xs[i]? = qq y,λ i H=>∃ xs,bF K H a xs/\xs.length<=i⟩
theorem aIn{P:qo}{w:zq}{K:FrG}{elts:List qw}{k:Nat}{pos:Pos}(a e it:qv)(hei:e≠it):Turn P w K (.Tuple elts k pos) (Ite K a) [e,it] e (λ i h=>(∃ old,IsEnum h e it (i:Nat) old)/\h.IsListIter it a i) where
 mem:=xAd
 obj:=λ i h aK b hb=>by
  obtain⟨⟨old,he⟩,⟨o,ho,hc,hd⟩⟩:=aK;rcases List.mem_cons.mp hb with rfl | hb
  ·exact⟨_,he,λ v=>by intro z;cases z⟩
  ·rw[yBk] at hb;subst hb;exact⟨o,ho,λ v z=>by rw[hd] at z;cases z⟩
 keep:=λ i h h' ⟨⟨old,he⟩,hit⟩ q=>⟨⟨old,q e xAd _ he⟩,hit.at λ o e=>q it (by simp) o e⟩
 item:=λ X hP hW hK hc i aA s σ H E I hf aK jN=>by
  obtain⟨⟨old,he⟩,hit⟩:=aK;obtain⟨xs,x,hq,hx⟩:=jN;subst hP hW hK;obtain⟨its,rv,pl,hz⟩:=I.list hq;obtain⟨u,hu,ru⟩:=rv.get hx;refine wpAny_pyNext_enum_item he hit pl.isList (by simpa using hu) hei λ h₁ heo hit₁ ht₁ hz₁ hk₁=>⟨_,rfl,?_⟩
  refine yj heo λ h₂ he₂ hs₂=>?_
  have hs2:yCq e h₁ h₂:=hs₂;have eLt:e<s.heap.objs.size:=xAa he;have iLt:it<s.heap.objs.size:=by obtain⟨o,ho,_⟩:=hit;exact xAa ho
  have ht₂:h₂.get? s.heap.objs.size=qq {cls:=.type "tuple",data:=.seq #[.int i s.toks,u] }:=hs2.extBut _ _ (yCy eLt) ht₁;have I2:Inv X aA σ (aT H s.heap.objs.size (.tup [.int i,x])) {s with heap:=h₂,toks:=s.toks+1 }:=by
   refine zU I hf (λ b o hb e'=>?_) (yAc _) ⟨by show 2<=qk;decide,[.int i s.toks,u],.cons ⟨_,rfl⟩ (.cons ru .nil),⟨_,ht₂,rfl,0,rfl⟩⟩
   have b1:b≠e:=λ z=>hb (by simp[z])
   have b2:b≠it:=λ z=>hb (by simp[z])
   exact hs2.extBut b o b1 (hk₁ b o b1 b2 e')
  refine⟨.ref s.heap.objs.size,_,I2,rfl,⟨s.heap.objs.size,x,I.fresh,rfl,rfl,λ ys hy=>by rw[I.list_inj hy hq];exact hx⟩,⟨⟨u,by have:=he₂;rw[show((i+1:Nat):Int)=(i:Int)+1 by omega];exact this⟩,hit₁.extBut hs2.extBut (Ne.symm hei)⟩,λ b hb=>?_⟩
  have:b<s.heap.objs.size:=by
   rcases List.mem_cons.mp hb with rfl | hb
   ·exact eLt
   ·rw[yBk] at hb;subst hb;exact iLt
  rw[aW (xAh this)];exact(hf b hb).1
 done:=λ X hP hW hK hc i aA s σ H E I hf aK jN=>by
  obtain⟨⟨old,he⟩,hit⟩:=aK;obtain⟨xs,hq,hx⟩:=jN;subst hP hW hK;obtain⟨its,rv,pl,hz⟩:=I.list hq;refine wpAny_pyNext_enum_end (I.ok.hd hc) he hit pl.isList (by have:=rv.length;simp;omega) λ h₁ he₁=>⟨rfl,?_⟩
  obtain⟨f1,f2,f3,f4,f5,f6⟩:=hf it (by simp)
  exact I.turned (t':=s.toks) (λ b o hb e'=>he₁ b o hb e') f1 f2 f4 f5 f6
 self:=λ A i s Q E ⟨⟨old,he⟩,_⟩ hq=>wj he hq
section
variable {X : Cx}
noncomputable def gY(k:Int):List D->List D
 | []=>[]
 | d::r=>.tuple [.int k,d]::gY (k+1) r
theorem qK:∀ (ds:List D) (k:Int),(gY k ds).length=ds.length
 | [],_=>rfl
 | _::r,k=>by simp[gY,qK r]
theorem aAe:∀ (ds:List D) (k:Int) (i:Nat) (e:D),(gY k ds)[i]? = qq e->∃ d,ds[i]? = qq d/\e=.tuple [.int (k+i),d]
 | [],_,_,_,h=>by simp[gY] at h
 | d::r,k,0,e,h=>by simp[gY] at h;subst h;exact⟨d,rfl,by simp⟩
 | d::r,k,i+1,e,h=>by
   obtain⟨d',e1,e2⟩:=aAe r (k+1) i e (by simpa [gY] using h)
   refine⟨d',by simpa using e1,?_⟩
   rw[e2];congr 3
   push_cast
   omega
theorem aJJ{K:FrG}{F:Hp}{L:List qv}{a:qv}{xs:List V}{ds:List D}(sq:bF K F a xs)(dl:DenL K F ds xs):Wk K F L (Ite K a) (gY 0 ds) where
 go:=λ i H s hi=>by
  rw[qK] at hi;exact⟨xs,xs[i]'(by rw[<- dl.length];exact hi),s.seq sq,by simp[dl.length▸hi]⟩
 stop:=λ H s=>⟨xs,s.seq sq,by rw[qK];exact yEa dl.length.symm⟩
 yld:=λ i H F1 L1 S x H' d g R e y=>by
  obtain⟨p,y',hp,rfl,rfl,hy⟩:=y;obtain⟨d',e1,rfl⟩:=aAe ds 0 i d e;obtain⟨x',e2,dx⟩:=dl.get e1;have h:=hy xs ((g.f.trans R.sub).seq sq);rw[h] at e2;cases e2;have hF:F1 p=qz:=R.sub.free hp;refine⟨aT F1 p (.tup [.int i,y']),dG hF,R.new hp,.tup (bL.of bQ) ?_⟩;rw[Int.zero_add];exact .cons (.int _) (.cons (dx.mono (g.f.trans (dG hF))) .nil)
end
section
variable {prog : qo}{w : zq}{A : zj}{E : qx -> qj -> Prop}{s : qj}
theorem aGZ{it t:qv}{i:Nat}{aJ:Array qx}{x:qx}{Q:qx->qj->Prop}(hit:s.heap.IsTupleIter it t i)(ht:s.heap.IsTuple t aJ)(hx:aJ[i]? = qq x)
 (hQ:∀ h',h'.IsTupleIter it t (i+1)->yCq it s.heap h'->Q x {s with heap:=h' }):qu (model prog w) A (yAu (.ref it)) Q E s:=by
 obtain⟨o,ho,hc,hd⟩:=id hit;obtain⟨ol,hol,_,nl,hdl⟩:=ht;unfold yAu;refine wB (wpAny_callSpecial?_slot (name:=Str.ofString "__next__") hit.typeIs F.slot_tuple_iterator_next (jw F.slot_tuple_iterator_next hit.typeIs F.entry_tuple_iterator_next ?_ (F.args_tuple_iterator_next_1 _)));show qu _ _ (field (.ref it) 0 >>= _) _ _ s;refine wB (zw ho hd (x:=.ref t) rfl ?_);show qu _ _ (if (Value.ref t==Value.none)=true then _ else _) _ _ s
 rw[if_neg (show ¬ ((Value.ref t==Value.none)=true) from yAp)]
 show qu _ _ (field (.ref it) 1 >>= _) _ _ s;refine wB (zw ho hd (x:=.int i 0) rfl ?_);show qu _ _ (seqItems? (.ref t) >>= _) _ _ s;refine wB (jy hol hdl ?_);simp only[yBi,hx];refine wB (wpAny_setField ho hd (by simp) (wP ⟨x,rfl,wP (hQ _ ⟨_,yBw _ ho (Obj.isFreed_of_fields (Obj.data_mapFields hd _)),(Obj.cls_mapFields ..).trans hc,?_⟩ (Heap.SameBut.update ..))⟩))
 rw[Obj.data_mapFields hd];simp[jq]
theorem aCq{it t:qv}{i:Nat}{aJ:Array qx}{Q:qx->qj->Prop}(hh:A.handled=qz)(hit:s.heap.IsTupleIter it t i)(ht:s.heap.IsTuple t aJ)(hx:aJ[i]? = qz)
 (hE:∀ h' e,Heap.ExtBut it s.heap h'->(∃ o,h'.get? e=qq o/\o.cls=.type "StopIteration")->E (.ref e) {s with heap:=h' }):qu (model prog w) A (yAu (.ref it)) Q E s:=by
 obtain⟨o,ho,hc,hd⟩:=id hit;obtain⟨ol,hol,_,nl,hdl⟩:=ht;unfold yAu;refine wB (wpAny_callSpecial?_slot (name:=Str.ofString "__next__") hit.typeIs F.slot_tuple_iterator_next (jw F.slot_tuple_iterator_next hit.typeIs F.entry_tuple_iterator_next ?_ (F.args_tuple_iterator_next_1 _)));show qu _ _ (field (.ref it) 0 >>= _) _ _ s;refine wB (zw ho hd (x:=.ref t) rfl ?_);show qu _ _ (if (Value.ref t==Value.none)=true then _ else _) _ _ s
 rw[if_neg (show ¬ ((Value.ref t==Value.none)=true) from yAp)]
 show qu _ _ (field (.ref it) 1 >>= _) _ _ s;refine wB (zw ho hd (x:=.int i 0) rfl ?_);show qu _ _ (seqItems? (.ref t) >>= _) _ _ s;refine wB (jy hol hdl ?_);simp only[yBi,hx];refine wB (yv (wB (wpAny_setField ho hd (by simp) ?_)))
 show qu _ _ (newExc (.type "StopIteration") [] >>= _) _ _ _;refine wB ?_;simp only[newExc,newTuple];refine wB (xw (wB (m:=firstArgMember _ _) (wpAny_of_eq (a:=Value.none) (by first | rfl | (simp only[firstArgMember];rfl)) (xw ?_ (by size_fits)))) (by size_fits))
 simp only[raiseNew];refine wB (wpAny_handled ?_)
 first | rw[show A.in1.handled=qz from hh] | rw[hh]
 exact wB (wP (wpAny_throw (hE _ _ (((Heap.SameBut.update ..).extBut.push _).push _) ⟨_,xAe _ rfl,rfl⟩)))
theorem aGT{e it t:qv}{i:Nat}{aJ:Array qx}{old:qx}{Q:Option qx->qj->Prop}(hh:A.in1.handled=qz)
 (he:IsEnum s.heap e it i old) (hit:s.heap.IsTupleIter it t i) (ht:s.heap.IsTuple t aJ) (hx:aJ[i]? = qz)
 (hQ:∀ h',Heap.ExtBut it s.heap h'->Q qz {s with heap:=h' }):qu (model prog w) A (yo (.ref e)) Q E s:=by
 have hT:s.TypeIs (.ref e) "enumerate":=⟨_,he,rfl⟩;unfold yo;refine wB (wu (wpAny_callSpecial?_slot (name:=Str.ofString "__next__") hT F.slot_enumerate_next (jw F.slot_enumerate_next hT F.entry_enumerate_next ?_ (F.args_enumerate_next_1 _))));show qu _ _ (field (.ref e) 2 >>= _) _ _ _;refine wB (zw he rfl (x:=.ref it) rfl (wB (aCq hh hit ht hx λ h' x he' hx'=>?_)))
 obtain⟨o,ho,hc⟩:=hx';exact wB (wpAny_isInstance (T:="StopIteration") (b:=true) ⟨o,ho,hc⟩ isSubtype_stop (wP (hQ _ he')))
theorem aDd(hh:A.handled=qz)(it t:qv)(hne:t≠it)(aJ:Array qx):Draws prog w A it [it,t] aJ.size (λ i v=>aJ[i]? = qq v) (λ i h=>h.IsTupleIter it t i/\h.IsTuple t aJ) where
 live:=λ _ _ st=>let ⟨o,ho,_⟩:=st.1;⟨o,ho⟩
 frame:=λ _ _ _ st hk=>⟨st.1.at λ o e=>hk it (by simp) o e,let ⟨u,hu,r⟩:=st.2;⟨u,hk t (by simp) u hu,r⟩⟩
 item:=λ i s Q E hi st hQ=>aGZ st.1 st.2 (x:=aJ[i]) (by simp[hi]) λ h' hit' hs'=>hQ _ h' s.toks (by simp[hi]) ⟨hit',let ⟨u,hu,r⟩:=st.2;⟨u,hs'.extBut t u hne hu,r⟩⟩ hs'
 done:=λ s Q E st hE=>aCq hh st.1 st.2 (by simp) hE
theorem aIK(l:qv)(aJ:Array qx)(n:Nat)(dct:Option qv)(sl:Array (Option qx)) :
 Meets (Builtin.«enumerate.__new__» ⟨[.type "enumerate",.ref l],[]⟩) (λ _ R s=>s.heap.get? l=qq {cls:=.type "tuple",dict:=dct,data:=.seq aJ n,slots:=sl } /\
  R (.ok (.ret (.ref (s.heap.push {cls:=.type "tuple_iterator",data:=.fields #[.ref l,.int 0 0] }).objs.size)))
   {s with heap:=(s.heap.push {cls:=.type "tuple_iterator",data:=.fields #[.ref l,.int 0 0] }).push {cls:=.type "enumerate",data:=.fields #[.none,.bool false,.ref s.heap.objs.size,jq 0,.none,.none] } }):=
 .of_wp λ prog w A R s h=>by
  obtain⟨hp,g,d,tk,os⟩:=s;obtain⟨hl,h⟩:=h;have hsub:=sub_enumerate;have hL:Heap.IsTuple (Shared.heap ⟨hp,g,d,tk,os⟩) l aJ:=⟨_,hl,rfl,n,rfl⟩
  wp_walk using AutoSeq1.wpAny_loadPart' hl
  refine wpAny_stack_any λ st=>wP ?_
  split
  ·rename_i c _ _ _ _ _;cases (c==Value.type "enumerate")
   ·wp_walk using AutoSeq1.wpAny_loadPart' hl,vz hL
    exact⟨_,rfl,h⟩
   ·wp_walk using AutoSeq1.wpAny_loadPart' hl,vz hL
    exact⟨_,rfl,h⟩
  ·wp_walk using AutoSeq1.wpAny_loadPart' hl,vz hL
   exact⟨_,rfl,h⟩
theorem aHO{l:qv}{aJ:Array qx}{Q:qx->qj->Prop}(hL:s.heap.IsTuple l aJ)
 (h:∀ h',IsEnum h' (s.heap.objs.size+1) s.heap.objs.size 0 .none->h'.IsTupleIter s.heap.objs.size l 0->h'.objs.size=s.heap.objs.size+2 ->
   (∀ b o,s.heap.get? b=qq o->h'.get? b=qq o)->Q (.ref (s.heap.objs.size+1)) {s with heap:=h' }) :
 qu (model prog w) A (call (.type "enumerate") [.ref l]) Q E s:=by
 obtain⟨⟨c,dct,dt,sl⟩,hl,hc,n,hd⟩:=hL
 replace hc:c=.type "tuple":=hc
 replace hd:dt=.seq aJ n:=hd
 subst hc hd;refine callType_new F.called_enumerate (by decide) (F.typeCall_enumerate_1 _) (F.newCall_enumerate_1 _) (λ obj=>F.args_object_init_2 obj _) F.entry_enumerate_new (aIK l aJ n dct sl) ⟨hl,?_⟩
 have hz:(s.heap.push {cls:=.type "tuple_iterator",data:=.fields #[.ref l,.int 0 0] }).objs.size=s.heap.objs.size+1:=yBr ..;show _/\_;rw[hz];have he:IsEnum ((s.heap.push {cls:=.type "tuple_iterator",data:=.fields #[.ref l,.int 0 0] }).push {cls:=.type "enumerate",data:=.fields #[.none,.bool false,.ref s.heap.objs.size,jq 0,.none,.none] }) (s.heap.objs.size+1) s.heap.objs.size 0 .none:=by
  have:=xAe (s.heap.push {cls:=.type "tuple_iterator",data:=.fields #[.ref l,.int 0 0] }) (o:={cls:=.type "enumerate",data:=.fields #[.none,.bool false,.ref s.heap.objs.size,jq 0,.none,.none] }) rfl;rw[hz] at this;exact this
 exact⟨⟨_,he,rfl⟩,h _ he ⟨_,hpS _ (xAe _ rfl),rfl,rfl⟩ (by rw[yBr,hz]) λ b o x=>hpS _ (hpS _ x)⟩
end
noncomputable def aBQ(K:FrG)(a:qv):It:=
 ⟨λ i H=>∃ xs x,bL K H a xs/\xs[i]? = qq x,λ i H x H'=>∃ p y,H p=qz/\H'=aT H p (.tup [.int i,y])/\x=.ref p/\∀ xs,bL K H a xs->xs[i]? = qq y,λ i H=>∃ xs,bL K H a xs/\xs.length<=i⟩
theorem aHG{P:qo}{w:zq}{K:FrG}{elts:List qw}{k:Nat}{pos:Pos}(a e it:qv)(hei:e≠it)(hea:e≠a)(hai:a≠it):Turn P w K (.Tuple elts k pos) (aBQ K a) [e,it] e (λ i h=>(∃ old,IsEnum h e it (i:Nat) old)/\h.IsTupleIter it a i) where
 mem:=xAd
 obj:=λ i h aK b hb=>by
  obtain⟨⟨old,he⟩,⟨o,ho,hc,hd⟩⟩:=aK;rcases List.mem_cons.mp hb with rfl | hb
  ·exact⟨_,he,λ v=>by intro z;cases z⟩
  ·rw[yBk] at hb;subst hb;exact⟨o,ho,λ v z=>by rw[hd] at z;cases z⟩
 keep:=λ i h h' ⟨⟨old,he⟩,hit⟩ q=>⟨⟨old,q e xAd _ he⟩,hit.at λ o e=>q it (by simp) o e⟩
 item:=λ X hP hW hK hc i aA s σ H E I hf aK jN=>by
  obtain⟨⟨old,he⟩,hit⟩:=aK;obtain⟨xs,x,hq,hx⟩:=jN;subst hP hW hK;obtain⟨its,rv,pl,hz⟩:=I.tuple hq;obtain⟨u,hu,ru⟩:=rv.get hx;have hlt:i<its.toArray.size:=by
   rw[yAb];exact(gIm hu).1
  have hh:X.A.in1.handled=qz:=I.ok.hd hc;refine wpAny_pyNext_enum_itemD (aDd (prog:=X.prog) (w:=X.w) hh it a hai its.toArray) he ⟨hit,pl⟩ hlt hei (by simp[hei,hea]) λ x' h₁ tk hP heo hit₁ ht₁ hz₁ hk₁=>⟨_,rfl,?_⟩
  have:x'=u:=by
   rw[yEd,hu] at hP;exact(Option.some.inj hP).symm
  subst this;refine yj heo λ h₂ he₂ hs₂=>?_
  have hs2:yCq e h₁ h₂:=hs₂;have eLt:e<s.heap.objs.size:=xAa he;have iLt:it<s.heap.objs.size:=by obtain⟨o,ho,_⟩:=hit;exact xAa ho
  have ht₂:h₂.get? s.heap.objs.size=qq {cls:=.type "tuple",data:=.seq #[.int i tk,x'] }:=hs2.extBut _ _ (yCy eLt) ht₁;have I2:Inv X aA σ (aT H s.heap.objs.size (.tup [.int i,x])) {s with heap:=h₂,toks:=tk+1 }:=by
   refine zU I hf (λ b o hb e'=>?_) (yAc _) ⟨by show 2<=qk;decide,[.int i tk,x'],.cons ⟨_,rfl⟩ (.cons ru .nil),⟨_,ht₂,rfl,0,rfl⟩⟩
   have b1:b≠e:=λ z=>hb (by simp[z])
   have b2:b≠it:=λ z=>hb (by simp[z])
   exact hs2.extBut b o b1 (hk₁ b o b1 b2 e')
  refine⟨.ref s.heap.objs.size,_,I2,rfl,⟨s.heap.objs.size,x,I.fresh,rfl,rfl,λ ys hy=>by rw[I.tuple_inj hy hq];exact hx⟩,⟨⟨x',by have:=he₂;rw[show((i+1:Nat):Int)=(i:Int)+1 by omega];exact this⟩,?_⟩,λ b hb=>?_⟩
  ·obtain⟨o,ho,r⟩:=hit₁.1;exact⟨o,hs2.extBut it o (Ne.symm hei) ho,r⟩
  ·have:b<s.heap.objs.size:=by
    rcases List.mem_cons.mp hb with rfl | hb
    ·exact eLt
    ·rw[yBk] at hb;subst hb;exact iLt
   rw[aW (xAh this)];exact(hf b hb).1
 done:=λ X hP hW hK hc i aA s σ H E I hf aK jN=>by
  obtain⟨⟨old,he⟩,hit⟩:=aK;obtain⟨xs,hq,hx⟩:=jN;subst hP hW hK;obtain⟨its,rv,pl,hz⟩:=I.tuple hq;have hh:X.A.in1.handled=qz:=I.ok.hd hc;have hl:=rv.length;refine aGT hh he hit pl (by simp;omega) λ h₁ he₁=>⟨rfl,?_⟩
  obtain⟨f1,f2,f3,f4,f5,f6⟩:=hf it (by simp)
  exact I.turned (t':=s.toks) (λ b o hb e'=>he₁ b o hb e') f1 f2 f4 f5 f6
 self:=λ A i s Q E ⟨⟨old,he⟩,_⟩ hq=>wj he hq
section
variable {X : Cx}
def aEM(K:FrG)(ta:TA):TI:=λ σ H R=>ta σ H λ vs H1=>∃ a,vs=[.ref a]/\(((∃ xs,bF K H1 a xs)/\R (Ite K a) H1)\/((∃ xs,bL K H1 a xs)/\R (aBQ K a) H1))
theorem aJw{elts:List qw}{k:Nat}{pp:Pos}{a:qw}{ta:TA}{p pos:Pos}(hg:Gl X "enumerate")(hm:X.mg "enumerate" = qz)(ha:PA X [a] ta)(hs:zv [a] X.env=[(false,eval a X.env)]):PI X (.Tuple elts k pp) (.Call (.Name "enumerate" p) [a] [] pos) (aEM X.K ta):=by
 intro aA s σ H R I h;refine Call_ (oY I hg hm boot_enumerate (yCd (aX (ha pos aA s σ H _ I h) λ us s1 hPq38=>?_) hs rfl))
 obtain⟨vs,H1,I1,r1,q1⟩:=hPq38;obtain⟨l,rfl,q1⟩:=q1;obtain⟨u,rfl,ru⟩:=eZ r1;cases ru;have hb':∀ b∈[s1.heap.objs.size+1,s1.heap.objs.size],s1.heap.objs.size<=b:=λ b hb=>by
  rcases List.mem_cons.mp hb with rfl | hb
  ·exact Nat.le_succ _
  ·rw[yBk] at hb;rw[hb];exact yAc _
 rcases q1 with ⟨⟨xs,sq⟩,q⟩ | ⟨⟨xs,sq⟩,q⟩
 ·obtain⟨its,rv,pl,hz⟩:=I1.list sq;refine call_enumerate_list pl.isList λ h' he hit hsz hk=>wj he ?_
  have I2:Inv X aA σ H1 {s1 with heap:=h' }:=I1.kept (t':=s1.toks) hk
  exact⟨s1.heap.objs.size+1,[s1.heap.objs.size+1,s1.heap.objs.size],_,_,H1,rfl,I2,aIn l _ _ (Nat.succ_ne_self _),⟨⟨_,he⟩,hit⟩,λ b hb=>I1.fpOk (hb' b hb) (I1.hok.fresh (hb' b hb)),q⟩
 ·obtain⟨its,rv,pl,hz⟩:=I1.tuple sq;have hlt:l<s1.heap.objs.size:=by obtain⟨o,ho,_⟩:=pl;exact xAa ho
  refine aHO pl λ h' he hit hsz hk=>wj he ?_
  have I2:Inv X aA σ H1 {s1 with heap:=h' }:=I1.kept (t':=s1.toks) hk
  exact⟨s1.heap.objs.size+1,[s1.heap.objs.size+1,s1.heap.objs.size],_,_,H1,rfl,I2,aHG l _ _ (Nat.succ_ne_self _) (yCy (yFb hlt)) (xAh hlt),⟨⟨_,he⟩,hit⟩,λ b hb=>I1.fpOk (hb' b hb) (I1.hok.fresh (hb' b hb)),q⟩
theorem aJD{K:FrG}{F:Hp}{L:List qv}{a:qv}{xs:List V}{ds:List D}(sq:bL K F a xs)(dl:DenL K F ds xs):Wk K F L (aBQ K a) (gY 0 ds) where
 go:=λ i H s hi=>by
  rw[qK] at hi;exact⟨xs,xs[i]'(by rw[<- dl.length];exact hi),gX s sq,by simp[dl.length▸hi]⟩
 stop:=λ H s=>⟨xs,gX s sq,by rw[qK];exact yEa dl.length.symm⟩
 yld:=λ i H F1 L1 S x H' d g R e y=>by
  obtain⟨p,y',hp,rfl,rfl,hy⟩:=y;obtain⟨d',e1,rfl⟩:=aAe ds 0 i d e;obtain⟨x',e2,dx⟩:=dl.get e1;have h:=hy xs (gX (g.f.trans R.sub) sq);rw[h] at e2;cases e2;have hF:F1 p=qz:=R.sub.free hp;refine⟨aT F1 p (.tup [.int i,y']),dG hF,R.new hp,.tup (bL.of bQ) ?_⟩;rw[Int.zero_add];exact .cons (.int _) (.cons (dx.mono (g.f.trans (dG hF))) .nil)
noncomputable def rM(fa:FE):FL:=λ env S=>(fa env S).bind λ p=>match p.1 with
 | .d (.list ds)=>qq (gY 0 ds,p.2)
 | .d (.tuple ds)=>qq (gY 0 ds,p.2)
 | _=>qz
theorem aKB{K:FrG}{fa:FE}(σ:St)(H:Hp)(Rr:It->Hp->Prop)(h:iA K (rM fa) σ H Rr):aEM K (cT K (cH fa eJ)) σ H Rr:=by
 obtain⟨F,L,S,env,ds,S',R,E,e,q⟩:=h;obtain⟨⟨w,S1⟩,e1,e2⟩:=bind_some e;dsimp only at e2
 split at e2
 ·rename_i ds';cases e2;refine⟨F,L,S,env,[.d (.list ds')],_,R,E,by unfold cH;rw[e1];rfl,λ F1 L1 H1 vs g1 R1 d1=>?_⟩
  cases d1 with
  | cons dd dr =>
    cases dr;cases (show Den K F1 (.list ds') _ from dd) with
    | lst sq dl=>exact⟨_,rfl,.inl ⟨⟨_,R1.sub.seq sq⟩,q F1 L1 H1 _ g1 R1 (aJJ sq dl)⟩⟩
 ·rename_i ds';cases e2;refine⟨F,L,S,env,[.d (.tuple ds')],_,R,E,by unfold cH;rw[e1];rfl,λ F1 L1 H1 vs g1 R1 d1=>?_⟩
  cases d1 with
  | cons dd dr =>
    cases dr;cases (show Den K F1 (.tuple ds') _ from dd) with
    | tup sq dl=>exact⟨_,rfl,.inr ⟨⟨_,gX R1.sub sq⟩,q F1 L1 H1 _ g1 R1 (aJD sq dl)⟩⟩
 ·cases e2
end
inductive Tv where
 | int (i:Int) | str (x:Str) | bool (b:Bool)
 deriving DecidableEq
noncomputable def Tv.d:Tv->D
 | .int i=>.int i | .str x=>.str x | .bool b=>.bool b
noncomputable def Tv.v:Tv->V
 | .int i=>.int i | .str x=>.str x | .bool b=>.bl b
theorem Tv.den{K:FrG}{F:Hp}(t:Tv):Den K F t.d t.v:=by
 cases t
 ·exact .int _
 ·exact .str _
 ·exact .bl _
noncomputable def nC(w:zq):List DictEntry->List (Str×Tv)->Prop
 | [],[]=>True
 | e::r,(x,v)::aH=>e.hash=hashStr w x/\(∃ t,e.key=.str x t)/\aV v.v e.val/\nC w r aH
 | _,_=>False
def lV(K:FrG)(w:zq)(a:qv)(aH:List (Str×Tv)):Prop:=(a==sysModules)=false/\∃ es ep,K.lookup a=qq {cls:=.type "dict",data:=.dict es ep }/\nC w es.toList aH
noncomputable def wS(aH:List (Str×Tv)):D->Option D
 | .str x=>(aH.lookup x).map Tv.d
 | _=>qz
theorem aAy{P:qo}{w:zq}:∀ {l:List DictEntry}{aH:List (Str×Tv)},nC w l aH->∀ e∈l,∃ k,(gF P w).is k e.key=true/\e.hash=(gF P w).hash k
 | [],[],_,e,h=>by cases h
 | e::r,(x,v)::aH,ok,e',h=>by
   obtain⟨h1,⟨t,h2⟩,_,h4⟩:=ok;rcases List.mem_cons.mp h with rfl | h
   ·exact⟨.inr x,by rw[h2];exact zX x t,h1⟩
   ·exact aAy h4 e' h
 | [],_::_,ok,_,_=>ok.elim
 | _::_,[],ok,_,_=>ok.elim
theorem aDw(x y:Str)(t:Tok):lU (.inr x) (.str y t)=(x==y):=by
 have h:(y==x)=(x==y):=by
  rw[Bool.eq_iff_iff];constructor<;>intro z<;>simp at z ⊢ <;> exact z.symm
 simp[lU,Value.isStrOf,h]
theorem aAl{w:zq}{k:Str}{v:Tv}:∀ {l:List DictEntry}{aH:List (Str×Tv)},nC w l aH->aH.lookup k=qq v->∃ u,(l.find? λ e=>lU (.inr k) e.key).map (·.val)=qq u/\aV v.v u
 | [],[],_,h=>by cases h
 | e::r,(x,v')::aH,ok,h=>by
   obtain⟨h1,⟨t,h2⟩,h3,h4⟩:=ok;rw[yBa] at h;rw[List.find?_cons,h2,aDw];cases q:k==x with
   | true =>
     rw[q] at h;cases h;exact⟨e.val,rfl,h3⟩
   | false =>
     rw[q] at h;exact aAl h4 h
 | [],_::_,ok,_=>ok.elim
 | _::_,[],ok,_=>ok.elim
section
variable {X : Cx}
theorem aNp{aH:List (Str×Tv)}:kH X (λ x y H Q=>∃ a k v,x=.ref a/\lV X.K X.w a aH/\y=.str k/\aH.lookup k=qq v/\Q v.v H):=by
 intro value iF aA s σ H x y v u Q I rx ry h hs;obtain⟨a,k,tv,rfl,⟨_,es,ep,hl,ok⟩,rfl,hv,q⟩:=h;cases rx;obtain⟨t,rfl⟩:=ry;obtain⟨z,e1,e2⟩:=aAl ok hv;have hm:s.heap.MapOf (gF X.prog X.w) a (λ k=>findBy (gF X.prog X.w).is es k):=⟨_,es,ep,I.kIn a _ hl,⟨rfl,rfl,rfl⟩,rfl,λ e he=>aAy ok e (by simpa using he),λ _=>rfl⟩
 have hz:findBy (gF X.prog X.w).is es (.inr k)=qq z:=by
  unfold findBy;rw[<- yEu];exact e1
 exact tail_any hm.typeIs PySem.F.slot_dict_getitem.lookup (wpAny_getItem_of (zX k t) hm hz ⟨_,H,I.tok _,e2,q⟩) hs
theorem aN8{x:Str}{k:qw}{fk:FE}{p pos:Pos}{aH:List (Str×Tv)}(hg:Gl X x)(hd:(x==("__debug__" : Str))=false)(ht:∃ a,X.mg x=qq (.ref a)/\lV X.K X.w a aH)(hk:PE X k (aM X.K fk))(hs:vH k) :
 PE X (.Subscript (.Name x p) k pos) (aM X.K (f1 fk (dE (wS aH)))):=by
 obtain⟨a,hm,ta⟩:=ht;refine PE.weak (aFE (aNp (aH:=aH)) (rC (v:=.ref a) hg hm rfl hd) hk hs) λ σ H Q hPq39=>?_
 obtain⟨F,L,S,env,w,S',R,E,e,q⟩:=hPq39;obtain⟨⟨w1,S1⟩,e1,e2⟩:=bind_some e;obtain⟨d,z,e3,e4,rfl,rfl⟩:=qV e2;cases d with
 | str y =>
   obtain⟨v,hv,rfl⟩:=Option.map_eq_some_iff.mp (show(aH.lookup y).map Tv.d=qq z from e4)
   refine⟨F,L,S,env,w1,_,R,E,e1,λ F1 L1 H1 u g1 R1 d1=>⟨a,y,v,rfl,ta,(iN R1 d1 e3).str,hv,?_⟩⟩
   exact q F1 L1 H1 v.v g1 R1 (show Den X.K F1 v.d v.v from v.den)
 | _=>cases e4
end
section
variable {prog : qo}{w : zq}{A : zj}{s : qj}{R : Result -> qj -> Prop}{J : qv}{fp wr : List qv}{Gg : Array GenState -> Array GenState -> Prop}{m : Nat}{P : Nat -> qx -> Prop}{St : Nat -> qj -> Prop}
end
section
variable {prog : qo}{w : zq}{A : zj}{E : qx -> qj -> Prop}{s : qj}{J : qv}{fp wr : List qv}{Gg : Array GenState -> Array GenState -> Prop}{m : Nat}{P : Nat -> qx -> Prop}{St : Nat -> qj -> Prop}
end
section
variable {X : Cx}
end
noncomputable def wD:List qx->List Tv->Prop
 | [],[]=>True
 | u::us,t::ts=>aV t.v u/\wD us ts
 | _,_=>False
theorem aDI:∀ {us:List qx}{ts:List Tv},wD us ts->aS (ts.map Tv.v) us
 | [],[],_=>.nil
 | _::_,_::_,⟨h1,h2⟩=>.cons h1 (aDI h2)
 | [],_::_,h=>h.elim
 | _::_,[],h=>h.elim
theorem aEj{K:FrG}{F:Hp}:∀ ts:List Tv,DenL K F (ts.map Tv.d) (ts.map Tv.v)
 | []=>.nil
 | t::ts=>.cons t.den (aEj ts)
def nB(K:FrG)(a:qv)(ts:List Tv):Prop:=∃ (o:Obj) (its:Array qx) (n:Nat),K.lookup a=qq o/\o.cls=.type "tuple" /\ o.data=.seq its n/\its.size<=qk/\wD its.toList ts
theorem aJ2{K:FrG}{F:Hp}{a:qv}{ts:List Tv}(h:nB K a ts):Den K F (.tuple (ts.map Tv.d)) (.ref a):=by
 obtain⟨o,its,n,h1,h2,h3,h4,h5⟩:=h;exact .tup (.inr ⟨o,its,n,h1,h2,h3,h4,aDI h5⟩) (aEj ts)
section
variable {X : Cx}
theorem aNH{x:Str}{p:Pos}{ts:List Tv}(hg:Gl X x)(hd:(x==("__debug__" : Str))=false)(ht:∃ a,X.mg x=qq (.ref a)/\nB X.K a ts):PE X (.Name x p) (aM X.K (fC (.tuple (ts.map Tv.d)))):=by
 obtain⟨a,hm,ca⟩:=ht;refine PE.weak (rC (v:=.ref a) hg hm rfl hd) λ σ H Q hPq40=>?_
 obtain⟨F,L,S,env,w,S',R,E,e,q⟩:=hPq40;cases e;exact q F L H _ Gr.refl R (aJ2 ca)
noncomputable def aLE(op op':vk)(fa fb fc:FE):FE:=λ env S=>(fa env S).bind λ p=>(fb env p.2).bind λ q=>(gN (bA op) q.2 p.1 q.1).bind λ r=>match r.1 with
 | .d (.bool true)=>(fc env r.2).bind λ t=>gN (bA op') t.2 q.1 t.1
 | .d (.bool false)=>qq (.d (.bool false),r.2)
 | _=>qz
theorem aGU{prog:qo}{w:zq}{A:zj}{E:qx->qj->Prop}{s:qj}{t sl:qv}{aJ:Array qx}{vl vu:qx}{lo hi:Option Int}{Q:qx->qj->Prop}(ht:IsTup s.heap t aJ)(hs:s.heap.IsSliceOf sl vl vu .none)(pl:IsPart vl lo)(pu:IsPart vu hi)
 (hw:HT.sIx aJ.size 0 lo=0/\HT.sIx aJ.size aJ.size hi=aJ.size) (h:Q (.ref t) s):qu (model prog w) A (getItem (.ref t) (.ref sl)) Q E s:=by
 obtain⟨os,hos,hcs,hds⟩:=id hs;have hTs:s.TypeIs (.ref sl) "slice":=⟨os,hos,hcs⟩;unfold getItem
 try with_reducible refine xq ?_
 first | refine wB (wP ?_) | skip
 refine wB (wpAny_sequenceKey ht.typeIs (by decide) ?_)
 refine wB (wpAny_callSpecial?_slot (name:=Str.ofString "__getitem__") ht.typeIs yBu
  (jw yBu ht.typeIs entry_tuple_getitem ?_ (args_tuple_getitem _ _)))
 show qu _ _ (yEs (.ref t) >>= _) _ _ s;refine wB (tupleItemsOf_ ht ?_);refine wB (wpAny_typeOf hTs ?_);rw[if_pos (by decide)]
 refine wB (HT.sliceApplied_gen hs pl pu ?_);have hyes:(((HT.sIx aJ.size 0 lo:Nat):Int)==0&&(1:Int)==1&&(HT.sIx aJ.size aJ.size hi-HT.sIx aJ.size 0 lo)==aJ.size)=true:=by
  rw[hw.1,hw.2];simp
 show qu _ _ (if (((HT.sIx aJ.size 0 lo:Nat):Int)==0&&(1:Int)==1&&(HT.sIx aJ.size aJ.size hi-HT.sIx aJ.size 0 lo)==aJ.size)=true then _ else _) _ _ s
 rw[if_pos hyes];unfold Builtin.Tuple.tupleIsExact;refine wB (wB (wpAny_typeOf ht.typeIs (wP ?_)));rw[if_pos (by decide)]
 first
  | exact wB (yv (wP ⟨_,rfl,wP h⟩))
  | exact wB (yv (wB (wP (wP ⟨_,rfl,wP h⟩))))
  | exact wB (yv (wP ⟨_,rfl,h⟩))
noncomputable def aOl(K:FrG):V->Option Int->Option Int->Hp->VK->Prop:=λ x lo hi H Q=>∃ a xs,x=.ref a/\bL K H a xs /\
 (((HT.sIx xs.length 0 lo=0/\HT.sIx xs.length xs.length hi=xs.length)/\Q (.ref a) H)\/(¬ (HT.sIx xs.length 0 lo=0/\HT.sIx xs.length xs.length hi=xs.length)/\∀ p,H p=qz->Q (.ref p) (aT H p (.tup (lD xs lo hi)))))
theorem aK9:mH X (aOl X.K):=by
 intro aA s σ H x v vl vu lo hi sl Q I rx hs pl pu h;obtain⟨a,xs,rfl,hx,⟨hw,q⟩ | ⟨hw,q⟩⟩:=h
 ·cases rx;obtain⟨its,r,ht,hz⟩:=I.tuple hx;have bZ:its.toArray.size=xs.length:=by rw[yAb];exact r.length.symm
  refine⟨"tuple",_,PyProof.Rows.slot_tuple_getitem.lookup,ht.typeIs,?_⟩;exact aGU ht hs pl pu (by rw[bZ];exact hw) ⟨.ref a,H,I,rfl,q⟩
 ·exact aNa aA s σ H _ v vl vu lo hi sl Q I rx hs pl pu ⟨a,xs,rfl,hx,hw,q⟩
noncomputable def aFY:D->Option Int->Option Int->Option D
 | .tuple xs,lo,hi=>qq (.tuple (dJ xs lo hi))
 | _,_,_=>qz
noncomputable def aFn(fa:FE)(fl fh:FO):FE:=λ env S=>(fa env S).bind λ p=>(fl env p.2).bind λ q=>(fh env q.2).bind λ r=>(dr r.2 p.1).bind λ d=>(aFY d q.1 r.1).bind λ z=>qq (.d z,r.2)
theorem aM2{a:qw}{lo hi:Option qw}{p2 pos:Pos}{fa:FE}{fl fh:FO}(ha:PE X a (aM X.K fa))(hl:PO X lo (kE X.K fl))(hh:PO X hi (kE X.K fh)):PE X (.Subscript a (.Slice lo hi qz p2) pos) (aM X.K (aFn fa fl fh)):=
 PE.weak (aDT aK9 ha hl hh) λ σ H Q aK=>by
  obtain⟨F,L,S,env,ds,S',R,E,e,q⟩:=aK;obtain⟨⟨w,S1⟩,e1,e⟩:=bind_some e;obtain⟨⟨l,S2⟩,e2,e⟩:=bind_some e;obtain⟨⟨h,S3⟩,e3,e⟩:=bind_some e;obtain⟨d,e4,e⟩:=bind_some e;obtain⟨z,e5,e⟩:=bind_some e;cases e;refine⟨F,L,S,env,w,S1,R,E,e1,λ F1 L1 H1 v g1 R1 d1=>⟨F1,L1,S1,env,l,S2,R1,E.mono g1,e2,λ F2 L2 H2 g2 R2=>⟨F2,L2,S2,env,h,S3,R2,E.mono (g1.trans g2),e3,λ F3 L3 H3 g3 R3=>?_⟩⟩⟩
  have n:=iN R3 (d1.mono (g2.trans g3)) e4;cases d with
  | tuple xs =>
    cases e5;obtain⟨a,vs,rfl,sq,dl⟩:=n.tup R3.sub;refine⟨a,vs,rfl,sq,?_⟩
    by_cases hw:HT.sIx vs.length 0 l=0/\HT.sIx vs.length vs.length h=vs.length
    ·refine .inl ⟨hw,q F3 L3 H3 _ ((g1.trans g2).trans g3) R3 ?_⟩;have ec:dJ xs l h=xs:=by
      unfold dJ;rw[dl.length,hw.1,hw.2,yCu,yFm,<- dl.length,yAh]
     rw[ec];rcases n with n | ⟨_,_,_,z,_⟩
     ·exact n
     ·cases z
    ·exact .inr ⟨hw,λ p hp=>q _ L3 _ _ (((g1.trans g2).trans g3).trans (Gr.new (R3.sub.free hp))) (R3.new hp) (Den.tup (bL.of bQ) ((aD1 dl l h).mono (dG (R3.sub.free hp))))⟩
  | _=>cases e5
end
structure ZA(z TI TO i1 i2:qv)(gB gC:List qv):Prop where
 TIz:TI≠z
 TOz:TO≠z
 i1z:i1≠z
 i2z:i2≠z
 TITO:TI≠TO
 TIi1:TI≠i1
 TIi2:TI≠i2
 TOi1:TO≠i1
 TOi2:TO≠i2
 f1:∀ b∈gB,b≠z/\b≠TO/\b≠i2
 f2:∀ b∈gC,b≠z/\b≠TO/\b≠i1
section
variable {prog : qo}{w : zq}{A : zj}{E : qx -> qj -> Prop}{s : qj}
theorem aG3{z TI TO i1 i2:qv}{gB gC:List qv}{n1 n2 k:Nat}{P1 P2:Nat->qx->Prop}{eR dR:Nat->Heap->Prop}{a b:qx}{Q:qx->qj->Prop}
 (D1:Draws prog w A i1 gB n1 P1 eR) (D2:Draws prog w A i2 gC n2 P2 dR) (Z:ZA z TI TO i1 i2 gB gC)
 (hz:yx s.heap z TI TO .none) (eA:jx s.heap TI (.ref i1) (.ref i2)) (eQ:jx s.heap TO a b) (s1:eR k s.heap) (s2:dR k s.heap) (k1:k<n1) (k2:k<n2)
 (hQ:∀ x y h' tk,P1 k x->P2 k y->yx h' z TI TO (jq s.heap.objs.size)->jx h' TO x y->jx h' TI (.ref i1) (.ref i2)->eR (k+1) h'->dR (k+1) h'->jx h' s.heap.objs.size x y->h'.objs.size=s.heap.objs.size+1 ->
   (∀ c o,c≠z->c≠TO->c≠i1->c≠i2->s.heap.get? c=qq o->h'.get? c=qq o)->Q (.ref s.heap.objs.size) {s with heap:=h',toks:=tk }) :
 qu (model prog w) A (Builtin.«zip.__next__» ⟨[.ref z],[]⟩) (λ bB s'=>∃ v,bB=.done (.ret v)/\Q v s') E s:=by
 show qu _ _ (field (.ref z) 2 >>= _) _ _ _;refine wB (zw hz rfl (x:=.bool false) rfl ?_);show qu _ _ (field (.ref z) 3 >>= _) _ _ _;refine wB (zw hz rfl (x:=.ref TI) rfl ?_);refine wB (jy eA rfl ?_);show qu _ _ (yBo (.ref z) >>= _) _ _ _;refine wB ?_;unfold yBo;refine wB (zw hz rfl (x:=.none) rfl (wP ?_));simp only[if_true];refine wB (yv ?_);refine wB (zw hz rfl (x:=.ref TO) rfl ?_);refine wB (jk hz (by simp) λ h₁ hz₁ hs₁=>?_)
 replace hz₁:yx h₁ z TI TO .ellipsis:=hz₁
 refine wB ?_;simp only[yFg,List.zipIdx_nil,List.forIn_cons,yEy];have s11:eR k h₁:=D1.frame k _ _ s1 λ c hc o e=>hs₁.extBut _ _ (Z.f1 c hc).1 e
 have s21:dR k h₁:=D2.frame k _ _ s2 λ c hc o e=>hs₁.extBut _ _ (Z.f2 c hc).1 e
 refine wB (wB (yk ?_));show qu _ _ (yAu (.ref i1) >>= _) _ _ _;refine wB (D1.item k _ _ _ k1 s11 λ x h₂ tk₂ px s12 hs₂=>wP ?_)
 have s22:dR k h₂:=D2.frame k _ _ s21 λ c hc o e=>hs₂.extBut _ _ (Z.f2 c hc).2.2 e
 have hTO₂:jx h₂ TO a b:=hs₂.extBut _ _ Z.TOi1 (hs₁.extBut _ _ Z.TOz eQ);refine wB (jy hTO₂ rfl ?_);refine wB (yq hTO₂ λ h₃ hTO₃ hs₃=>?_)
 replace hTO₃:jx h₃ TO x b:=hTO₃
 have s13:eR (k+1) h₃:=D1.frame _ _ _ s12 λ c hc o e=>hs₃.extBut _ _ (Z.f1 c hc).2.1 e
 have s23:dR k h₃:=D2.frame k _ _ s22 λ c hc o e=>hs₃.extBut _ _ (Z.f2 c hc).2.1 e
 refine wB (wpAny_letGo (wP ?_));refine wB (wB (yk ?_));show qu _ _ (yAu (.ref i2) >>= _) _ _ _;refine wB (D2.item k _ _ _ k2 s23 λ y h₄ tk₄ py s24 hs₄=>wP ?_)
 have s14:eR (k+1) h₄:=D1.frame _ _ _ s13 λ c hc o e=>hs₄.extBut _ _ (Z.f1 c hc).2.2 e
 have hTO₄:jx h₄ TO x b:=hs₄.extBut _ _ Z.TOi2 hTO₃;refine wB (jy hTO₄ rfl ?_);refine wB (yq hTO₄ λ h₅ hTO₅ hs₅=>?_)
 replace hTO₅:jx h₅ TO x y:=hTO₅
 have s15:eR (k+1) h₅:=D1.frame _ _ _ s14 λ c hc o e=>hs₅.extBut _ _ (Z.f1 c hc).2.1 e
 have s25:dR (k+1) h₅:=D2.frame _ _ _ s24 λ c hc o e=>hs₅.extBut _ _ (Z.f2 c hc).2.1 e
 refine wB (wpAny_letGo (wP (wP ?_)));refine wB (jy hTO₅ rfl ?_);refine wB (wpAny_newTuple ?_);have hsz:h₅.objs.size=s.heap.objs.size:=by rw[hs₅.1,hs₄.1,hs₃.1,hs₂.1,hs₁.1]
 have hz₅:yx h₅ z TI TO .ellipsis:=hs₅.extBut _ _ Z.TOz.symm (hs₄.extBut _ _ Z.i2z.symm (hs₃.extBut _ _ Z.TOz.symm (hs₂.extBut _ _ Z.i1z.symm hz₁)));have hk₅:∀ c o,c≠z->c≠TO->c≠i1->c≠i2->s.heap.get? c=qq o->h₅.get? c=qq o:=λ c o c1 c2 c3 c4 e =>
  hs₅.extBut _ _ c2 (hs₄.extBut _ _ c4 (hs₃.extBut _ _ c2 (hs₂.extBut _ _ c3 (hs₁.extBut _ _ c1 e))))
 have hzlt:z<h₅.objs.size:=xAa hz₅;show qu _ _ (yDk (.ref z) (.ref h₅.objs.size) >>= _) _ _ _;refine wB ?_;unfold yDk;have hz₆:yx (h₅.push {cls:=.type "tuple",data:=.seq #[x,y] }) z TI TO .ellipsis:=hpS _ hz₅;refine wB (jk hz₆ (by simp) λ h₇ hz₇ hs₇=>?_)
 replace hz₇:yx h₇ z TI TO (jq h₅.objs.size):=hz₇
 refine jk hz₇ (by simp) λ h₈ hz₈ hs₈=>?_
 replace hz₈:yx h₈ z TI TO (jq h₅.objs.size):=hz₈
 have up:∀ c o,c≠z->h₅.get? c=qq o->h₈.get? c=qq o:=λ c o c1 e=>hs₈.extBut _ _ c1 (hs₇.extBut _ _ c1 (hpS _ e))
 have hT₈:jx h₈ h₅.objs.size x y:=hs₈.extBut _ _ (yCy hzlt) (hs₇.extBut _ _ (yCy hzlt) (xAe _ rfl));have hz8:h₈.objs.size=h₅.objs.size+1:=by rw[hs₈.1,hs₇.1,yBr]
 rw[hsz] at hz₈ hT₈ hz8;refine wP ⟨_,rfl,?_⟩;show Q (.ref h₅.objs.size) _;rw[hsz];exact hQ x y h₈ _ px py hz₈ (up _ _ Z.TOz hTO₅) (up _ _ Z.TIz (hk₅ _ _ Z.TIz Z.TITO Z.TIi1 Z.TIi2 eA)) (D1.frame _ _ _ s15 λ c hc o e=>up c o (Z.f1 c hc).1 e) (D2.frame _ _ _ s25 λ c hc o e=>up c o (Z.f2 c hc).1 e) hT₈ hz8 λ c o c1 c2 c3 c4 e=>up c o c1 (hk₅ c o c1 c2 c3 c4 e)
theorem aG9{z TI TO i1 i2:qv}{gB gC:List qv}{n1 n2 k:Nat}{P1 P2:Nat->qx->Prop}{eR dR:Nat->Heap->Prop}{a b:qx}{Q:Fin->qj->Prop}
 (D1:Draws prog w A i1 gB n1 P1 eR) (D2:Draws prog w A i2 gC n2 P2 dR) (Z:ZA z TI TO i1 i2 gB gC)
 (hz:yx s.heap z TI TO .none) (eA:jx s.heap TI (.ref i1) (.ref i2)) (eQ:jx s.heap TO a b) (s1:eR k s.heap) (s2:dR k s.heap) (hend:k=n1\/(k<n1/\k=n2))
 (hE:∀ h' tk e,(∀ c o,c≠z->c≠TO->c≠i1->c≠i2->s.heap.get? c=qq o->h'.get? c=qq o)->(∃ o,h'.get? e=qq o/\o.cls=.type "StopIteration")->E (.ref e) {s with heap:=h',toks:=tk }) :
 qu (model prog w) A (Builtin.«zip.__next__» ⟨[.ref z],[]⟩) Q E s:=by
 show qu _ _ (field (.ref z) 2 >>= _) _ _ _;refine wB (zw hz rfl (x:=.bool false) rfl ?_);show qu _ _ (field (.ref z) 3 >>= _) _ _ _;refine wB (zw hz rfl (x:=.ref TI) rfl ?_);refine wB (jy eA rfl ?_);show qu _ _ (yBo (.ref z) >>= _) _ _ _;refine wB ?_;unfold yBo;refine wB (zw hz rfl (x:=.none) rfl (wP ?_));simp only[if_true];refine wB (yv ?_);refine wB (zw hz rfl (x:=.ref TO) rfl ?_);refine wB (jk hz (by simp) λ h₁ hz₁ hs₁=>?_)
 replace hz₁:yx h₁ z TI TO .ellipsis:=hz₁
 refine wB ?_;simp only[yFg,List.zipIdx_nil,List.forIn_cons,yEy];have s11:eR k h₁:=D1.frame k _ _ s1 λ c hc o e=>hs₁.extBut _ _ (Z.f1 c hc).1 e
 have s21:dR k h₁:=D2.frame k _ _ s2 λ c hc o e=>hs₁.extBut _ _ (Z.f2 c hc).1 e
 refine wB (wB (yk ?_));show qu _ _ (yAu (.ref i1) >>= _) _ _ _;rcases hend with rfl | ⟨k1,rfl⟩
 ·refine wB (D1.done _ _ _ s11 λ h₂ e hs₂ he=>?_)
  obtain⟨oe,hoe,hce⟩:=he;have hz₂:yx h₂ z TI TO .ellipsis:=hs₂ _ _ Z.i1z.symm hz₁;have hez:e≠z:=λ x=>by subst x;rw[hz₂] at hoe;cases hoe;simp at hce
  exact jk hz₂ (by simp) λ h₃ _ hs₃=>hE h₃ _ e (λ c o c1 _ c3 _ x=>hs₃.extBut _ _ c1 (hs₂ _ _ c3 (hs₁.extBut _ _ c1 x))) ⟨oe,hs₃.extBut _ _ hez hoe,hce⟩
 ·refine wB (D1.item k _ _ _ k1 s11 λ x h₂ tk₂ px s12 hs₂=>wP ?_)
  have s22:dR k h₂:=D2.frame k _ _ s21 λ c hc o e=>hs₂.extBut _ _ (Z.f2 c hc).2.2 e
  have hTO₂:jx h₂ TO a b:=hs₂.extBut _ _ Z.TOi1 (hs₁.extBut _ _ Z.TOz eQ);refine wB (jy hTO₂ rfl ?_);refine wB (yq hTO₂ λ h₃ hTO₃ hs₃=>?_)
  have s23:dR k h₃:=D2.frame k _ _ s22 λ c hc o e=>hs₃.extBut _ _ (Z.f2 c hc).2.1 e
  refine wB (wpAny_letGo (wP ?_));refine wB (wB (yk ?_));show qu _ _ (yAu (.ref i2) >>= _) _ _ _;refine wB (D2.done _ _ _ s23 λ h₄ e hs₄ he=>?_)
  obtain⟨oe,hoe,hce⟩:=he;have hz₄:yx h₄ z TI TO .ellipsis:=hs₄ _ _ Z.i2z.symm (hs₃.extBut _ _ Z.TOz.symm (hs₂.extBut _ _ Z.i1z.symm hz₁));have hez:e≠z:=λ x=>by subst x;rw[hz₄] at hoe;cases hoe;simp at hce
  exact jk hz₄ (by simp) λ h₅ _ hs₅=>hE h₅ _ e (λ c o c1 c2 c3 c4 x=>hs₅.extBut _ _ c1 (hs₄ _ _ c4 (hs₃.extBut _ _ c2 (hs₂.extBut _ _ c3 (hs₁.extBut _ _ c1 x))))) ⟨oe,hs₅.extBut _ _ hez hoe,hce⟩
theorem aGX{z TI TO i1 i2:qv}{gB gC:List qv}{n1 n2 k:Nat}{P1 P2:Nat->qx->Prop}{eR dR:Nat->Heap->Prop}{a b:qx}{Q:Option qx->qj->Prop}
 (D1:Draws prog w A.in1 i1 gB n1 P1 eR) (D2:Draws prog w A.in1 i2 gC n2 P2 dR) (Z:ZA z TI TO i1 i2 gB gC)
 (hz:yx s.heap z TI TO .none) (eA:jx s.heap TI (.ref i1) (.ref i2)) (eQ:jx s.heap TO a b) (s1:eR k s.heap) (s2:dR k s.heap) (k1:k<n1) (k2:k<n2)
 (hQ:∀ x y h' tk,P1 k x->P2 k y->yx h' z TI TO (jq s.heap.objs.size)->jx h' TO x y->jx h' TI (.ref i1) (.ref i2)->eR (k+1) h'->dR (k+1) h'->jx h' s.heap.objs.size x y->h'.objs.size=s.heap.objs.size+1 ->
   (∀ c o,c≠z->c≠TO->c≠i1->c≠i2->s.heap.get? c=qq o->h'.get? c=qq o)->Q (qq (.ref s.heap.objs.size)) {s with heap:=h',toks:=tk }) :
 qu (model prog w) A (yo (.ref z)) Q E s:=by
 have hT:s.TypeIs (.ref z) "zip":=⟨_,hz,rfl⟩;unfold yo;exact wB (wu (wpAny_callSpecial?_slot (name:=Str.ofString "__next__") hT F.slot_zip_next
  (jw F.slot_zip_next hT F.entry_zip_next
    (aG3 D1 D2 Z hz eA eQ s1 s2 k1 k2 λ x y h' tk a0 b0 a1 a2 a3 a4 a5 a6 a7 a8=>wP (hQ x y h' tk a0 b0 a1 a2 a3 a4 a5 a6 a7 a8)) (F.args_zip_next_1 _))))
theorem aGY{z TI TO i1 i2:qv}{gB gC:List qv}{n1 n2 k:Nat}{P1 P2:Nat->qx->Prop}{eR dR:Nat->Heap->Prop}{a b:qx}{Q:Option qx->qj->Prop}
 (D1:Draws prog w A.in1 i1 gB n1 P1 eR) (D2:Draws prog w A.in1 i2 gC n2 P2 dR) (Z:ZA z TI TO i1 i2 gB gC)
 (hz:yx s.heap z TI TO .none) (eA:jx s.heap TI (.ref i1) (.ref i2)) (eQ:jx s.heap TO a b) (s1:eR k s.heap) (s2:dR k s.heap) (hend:k=n1\/(k<n1/\k=n2))
 (hQ:∀ h' tk,(∀ c o,c≠z->c≠TO->c≠i1->c≠i2->s.heap.get? c=qq o->h'.get? c=qq o)->Q qz {s with heap:=h',toks:=tk }):qu (model prog w) A (yo (.ref z)) Q E s:=by
 have hT:s.TypeIs (.ref z) "zip":=⟨_,hz,rfl⟩;unfold yo;refine wB (wu (wpAny_callSpecial?_slot (name:=Str.ofString "__next__") hT F.slot_zip_next
  (jw F.slot_zip_next hT F.entry_zip_next (aG9 D1 D2 Z hz eA eQ s1 s2 hend λ h' tk e hk he=>?_) (F.args_zip_next_1 _))))
 obtain⟨o,ho,hc⟩:=he;refine wB (wpAny_isInstance (T:="StopIteration") (b:=true) ⟨o,ho,hc⟩ isSubtype_stop ?_);exact wP (hQ _ _ hk)
end
noncomputable def aA8(t:Bool):String:=if t then "tuple_iterator" else "list_iterator"
def fX(t:Bool)(h:Heap)(a:qv)(its:Array qx):Prop:=match t with
 | true=>h.IsTuple a its
 | false=>h.IsList a its
def gE(t:Bool)(h:Heap)(it a:qv)(i:Nat):Prop:=match t with
 | true=>h.IsTupleIter it a i
 | false=>h.IsListIter it a i
def Sq(t:Bool)(K:FrG)(H:Hp)(a:qv)(xs:List V):Prop:=match t with
 | true=>bL K H a xs
 | false=>bF K H a xs
theorem gE.at{t:Bool}{h h':Heap}{it a:qv}{i:Nat}(x:gE t h it a i)(q:∀ o,h.get? it=qq o->h'.get? it=qq o):gE t h' it a i:=by
 cases t with
 | true=>exact Heap.IsTupleIter.at (h:=h) x q
 | false=>exact Heap.IsListIter.at (h:=h) x q
theorem gE.obj{t:Bool}{h:Heap}{it a:qv}{i:Nat}(x:gE t h it a i):∃ o,h.get? it=qq o/\∀ v,o.data≠.cell v:=by
 cases t with
 | true=>obtain⟨o,ho,hc,hd⟩:=x;exact⟨o,ho,λ v z=>by rw[hd] at z;cases z⟩
 | false=>obtain⟨o,ho,hc,hd⟩:=x;exact⟨o,ho,λ v z=>by rw[hd] at z;cases z⟩
theorem fX.lt{t:Bool}{h:Heap}{a:qv}{its:Array qx}(x:fX t h a its):a<h.objs.size:=by
 cases t with
 | true=>obtain⟨o,ho,_⟩:=x;exact xAa ho
 | false=>obtain⟨o,ho,_⟩:=x;exact xAa ho
theorem uS{prog:qo}{w:zq}{A:zj}(hh:A.handled=qz)(t:Bool)(it l:qv)(hne:l≠it)(aJ:Array qx):Draws prog w A it [it,l] aJ.size (λ i v=>aJ[i]? = qq v) (λ i h=>gE t h it l i/\fX t h l aJ):=by
 cases t with
 | true=>exact aDd hh it l hne aJ
 | false=>exact Draws.list hh it l hne aJ
theorem pI{X:Cx}{aA:List (qv×Obj)}{σ:L2.St}{H:Hp}{s:qj}{t:Bool}{a:qv}{xs:List V}(I:Inv X aA σ H s)(h:Sq t X.K H a xs):∃ its:List qx,aS xs its/\fX t s.heap a its.toArray:=by
 cases t with
 | true=>obtain⟨its,rv,pl,hz⟩:=I.tuple h;exact⟨its,rv,pl⟩
 | false=>obtain⟨its,rv,pl,hz⟩:=I.list h;exact⟨its,rv,pl.isList⟩
theorem aFb{X:Cx}{aA:List (qv×Obj)}{σ:L2.St}{H:Hp}{s:qj}{t:Bool}{a:qv}{xs ys:List V}(I:Inv X aA σ H s)(h:Sq t X.K H a xs)(h':Sq t X.K H a ys):xs=ys:=by
 cases t with
 | true=>exact I.tuple_inj h h'
 | false=>exact I.list_inj h h'
theorem lP{t:Bool}{K:FrG}{H H':Hp}{a:qv}{xs:List V}(e:bN H H')(h:Sq t K H a xs):Sq t K H' a xs:=by
 cases t with
 | true=>exact gX e h
 | false=>exact e.seq h
theorem aHC{X:Cx}{aA:List (qv×Obj)}{σ:L2.St}{H:Hp}{s:qj}{h':Heap}{ch:List qv}{t':Nat}(I:Inv X aA σ H s)(hch:∀ b∈ch,fW X aA H b)(k:∀ b u,b ∉ ch->s.heap.get? b=qq u->h'.get? b=qq u) :
 Inv X aA σ H {s with heap:=h',toks:=t' }:=by
 have nch:∀ b u,H b=qq u->b ∉ ch:=λ b u e z=>by rw[(hch b z).1] at e;cases e
 refine I.step (g':=s.gens) (d':=s.drawn) (ch:=ch) (λ b hb=>⟨(hch b hb).2.2.2.1,(hch b hb).2.1,(hch b hb).2.2.2.2.1,(hch b hb).2.2.2.2.2⟩) (λ b o _ _ hc e _=>k b o hc e) (λ b o _ _ hc e _=>⟨o.slots,k b o hc e⟩) (λ _ _ _ _ n=>n)
  (λ b o hc e=>⟨o,k b o hc e⟩) (λ _ _ e=>e) (λ _ _ _ e=>e) (λ b ps e=>⟨#[],by rw[e];simp⟩) (λ m hm=>?_) (λ b u e=>?_) I.bare
 ·obtain⟨o,es,ep,ho,r⟩:=hm;exact⟨o,es,ep,k _ o (λ z=>(hch _ z).2.1 rfl) ho,r⟩
 ·refine(I.hok b u e).stay (λ c v hc q=>k c v ?_ q) (λ _ q=>q) λ _ _ q=>q
  rcases hc with z | z
  ·rw[z];exact nch b u e
  ·exact nch c _ z
noncomputable def aBW(K:FrG)(t u:Bool)(a b:qv):It:=
 ⟨λ i H=>∃ xs x ys y,Sq t K H a xs/\xs[i]? = qq x/\Sq u K H b ys/\ys[i]? = qq y,
  λ i H v H'=>∃ p x y,H p=qz/\H'=aT H p (.tup [x,y])/\v=.ref p/\(∀ xs,Sq t K H a xs->xs[i]? = qq x)/\∀ ys,Sq u K H b ys->ys[i]? = qq y,
  λ i H=>∃ xs ys,Sq t K H a xs/\Sq u K H b ys/\i=min xs.length ys.length⟩
theorem lH{a c:qv}{l:List qv}(h:c ∉ a::l):c≠a:=λ q=>h (q▸xAd)
theorem eM{a c:qv}{l:List qv}(h:c ∉ a::l):c ∉ l:=λ q=>h (xAf _ q)
theorem mT{a b:qv}{l:List qv}(h:a∈l):a∈b::l:=xAf _ h
theorem kK{P:qv->Prop}{a:qv}{l:List qv}(h:P a)(t:∀ b∈l,P b):∀ b∈a::l,P b:=List.forall_mem_cons.mpr ⟨h,t⟩
theorem aln{P:qv->Prop}:∀ b∈([]:List qv),P b:=λ _ h=>nomatch h
theorem aJo{P:qo}{w:zq}{K:FrG}{elts:List qw}{k:Nat}{pos:Pos}(t u:Bool)(a b z TI TO i1 i2:qv)(Z:ZA z TI TO i1 i2 [i1,a] [i2,b])(h1:a≠i1)(h2:b≠i2) :
 Turn P w K (.Tuple elts k pos) (aBW K t u a b) [z,TI,TO,i1,i2] z (λ i h=>yx h z TI TO .none/\jx h TI (.ref i1) (.ref i2)/\(∃ x y,jx h TO x y)/\gE t h i1 a i/\gE u h i2 b i) where
 mem:=xAd
 obj:=λ i h ⟨hz,eA,⟨x,y,eQ⟩,hi1,hi2⟩=>kK ⟨_,hz,λ v=>by intro z;cases z⟩ (kK ⟨_,eA,λ v=>by intro z;cases z⟩ (kK ⟨_,eQ,λ v=>by intro z;cases z⟩ (kK hi1.obj (kK hi2.obj aln))))
 keep:=λ i h h' ⟨hz,eA,⟨x,y,eQ⟩,hi1,hi2⟩ q=>⟨q z xAd _ hz,q TI (mT xAd) _ eA,⟨x,y,q TO (mT (mT xAd)) _ eQ⟩,hi1.at λ o e=>q i1 (mT (mT (mT xAd))) o e,hi2.at λ o e=>q i2 (mT (mT (mT (mT xAd)))) o e⟩
 item:=λ X hP hW hK hc i aA s σ H E I hf aK jN=>by
  obtain⟨hz,eA,⟨x0,y0,eQ⟩,hi1,hi2⟩:=aK;obtain⟨xs,x,ys,y,sq1,hx,sq2,hy⟩:=jN;subst hP hW hK;have hh:X.A.in1.handled=qz:=I.ok.hd hc;obtain⟨oC,rv1,pl1⟩:=pI I sq1;obtain⟨iG,rv2,pl2⟩:=pI I sq2;obtain⟨u1,hu1,ru1⟩:=rv1.get hx;obtain⟨u2,hu2,ru2⟩:=rv2.get hy;have lt1:i<oC.toArray.size:=by rw[yAb];exact(gIm hu1).1
  have lt2:i<iG.toArray.size:=by rw[yAb];exact(gIm hu2).1
  refine aGX (uS (prog:=X.prog) (w:=X.w) hh t i1 a h1 oC.toArray) (uS (prog:=X.prog) (w:=X.w) hh u i2 b h2 iG.toArray) Z hz eA eQ ⟨hi1,pl1⟩ ⟨hi2,pl2⟩ lt1 lt2 λ x' y' h₁ tk px py hz₁ hTO₁ hTI₁ s1 s2 hT₁ hsz hk=>⟨_,rfl,?_⟩
  have ex:x'=u1:=by rw[yEd,hu1] at px;exact(Option.some.inj px).symm
  have ey:y'=u2:=by rw[yEd,hu2] at py;exact(Option.some.inj py).symm
  subst ex ey;have zLt:z<s.heap.objs.size:=xAa hz;refine wpAny_letOwnedTupleGo_zip hz₁ λ h₂ hz₂ hs₂=>?_
  have hs2:yCq z h₁ h₂:=hs₂;have ht₂:jx h₂ s.heap.objs.size x' y':=hs2.extBut _ _ (yCy zLt) hT₁;have I2:Inv X aA σ (aT H s.heap.objs.size (.tup [x,y])) {s with heap:=h₂,toks:=tk }:=by
   refine zU I hf (λ c o hb e'=>?_) (yAc _) ⟨by show 2<=qk;decide,[x',y'],.cons ru1 (.cons ru2 .nil),⟨_,ht₂,rfl,0,rfl⟩⟩
   exact hs2.extBut c o (lH hb) (hk c o (lH hb) (lH (eM (eM hb))) (lH (eM (eM (eM hb)))) (lH (eM (eM (eM (eM hb))))) e')
  refine⟨.ref s.heap.objs.size,_,I2,rfl,⟨s.heap.objs.size,x,y,I.fresh,rfl,rfl,λ zs hy=>by rw[aFb I hy sq1];exact hx,λ zs hz=>by rw[aFb I hz sq2];exact hy⟩,⟨hz₂,hs2.extBut _ _ Z.TIz hTI₁,⟨_,_,hs2.extBut _ _ Z.TOz hTO₁⟩,s1.1.at λ o e=>hs2.extBut _ _ Z.i1z e,s2.1.at λ o e=>hs2.extBut _ _ Z.i2z e⟩,λ c hb=>?_⟩
  have:c<s.heap.objs.size:=kK (P:=λ c=>c<s.heap.objs.size) zLt (kK (xAa eA) (kK (xAa eQ) (kK (let ⟨_,ho,_⟩:=hi1.obj;xAa ho) (kK (let ⟨_,ho,_⟩:=hi2.obj;xAa ho) aln)))) c hb
  rw[aW (xAh this)];exact(hf c hb).1
 done:=λ X hP hW hK hc i aA s σ H E I hf aK jN=>by
  obtain⟨hz,eA,⟨x0,y0,eQ⟩,hi1,hi2⟩:=aK;obtain⟨xs,ys,sq1,sq2,hi⟩:=jN;subst hP hW hK;have hh:X.A.in1.handled=qz:=I.ok.hd hc;obtain⟨oC,rv1,pl1⟩:=pI I sq1;obtain⟨iG,rv2,pl2⟩:=pI I sq2;have l1:=rv1.length;have l2:=rv2.length;have hend:i=oC.toArray.size\/(i<oC.toArray.size/\i=iG.toArray.size):=by
   rw[yAb,yAb];omega
  refine aGY (uS (prog:=X.prog) (w:=X.w) hh t i1 a h1 oC.toArray) (uS (prog:=X.prog) (w:=X.w) hh u i2 b h2 iG.toArray) Z hz eA eQ ⟨hi1,pl1⟩ ⟨hi2,pl2⟩ hend λ h₁ tk hk=>⟨rfl,?_⟩
  exact aHC I hf λ c o hb e'=>hk c o (lH hb) (lH (eM (eM hb))) (lH (eM (eM (eM hb)))) (lH (eM (eM (eM (eM hb))))) e'
 self:=λ A i s Q E ⟨hz,_⟩ hq=>wpAny_pyIter_zip hz hq
section
variable {prog : qo}{w : zq}{A : zj}{E : qx -> qj -> Prop}{s : qj}
noncomputable abbrev tQ(h:Heap)(t:Bool)(l1:qv):Heap:=h.push {cls:=.type (aA8 t),data:=.fields #[.ref l1,.int 0 0] }
noncomputable abbrev xY(h:Heap)(t u:Bool)(l1 l2:qv):Heap:=(tQ h t l1).push {cls:=.type (aA8 u),data:=.fields #[.ref l2,.int 0 0] }
noncomputable abbrev xV(h:Heap)(t u:Bool)(l1 l2:qv):Heap:=(xY h t u l1 l2).push {cls:=.type "tuple",data:=.seq #[.ref h.objs.size,.ref (tQ h t l1).objs.size] }
noncomputable abbrev yM(h:Heap)(t u:Bool)(l1 l2:qv):Heap:=(xV h t u l1 l2).push {cls:=.type "tuple",data:=.seq #[.none,.none] }
noncomputable abbrev lI(h:Heap)(t u:Bool)(l1 l2:qv):Heap:=(yM h t u l1 l2).push {cls:=.type "zip",data:=.fields #[.none,.bool false,.bool false,.ref (xY h t u l1 l2).objs.size,.ref (xV h t u l1 l2).objs.size] }
theorem aC0{t:Bool}{l:qv}{aJ:Array qx}{Q:qx->qj->Prop}(hl:fX t s.heap l aJ)
 (h:Q (.ref s.heap.objs.size) {s with heap:=s.heap.push {cls:=.type (aA8 t),data:=.fields #[.ref l,.int 0 0] } }):qu (model prog w) A (pyIter (.ref l)) Q E s:=by
 cases t with
 | true=>exact vz hl h
 | false=>exact jo hl h
theorem fX.push{t:Bool}{h:Heap}{a:qv}{its:Array qx}(x:fX t h a its)(o:Obj):fX t (h.push o) a its:=by
 cases t with
 | true=>obtain⟨o,ho,r⟩:=x;exact⟨o,hpS _ ho,r⟩
 | false=>obtain⟨o,ho,r⟩:=x;exact⟨o,hpS _ ho,r⟩
theorem aG1(t u:Bool)(l1 l2:qv)(xs ys:Array qx) :
 Meets (Builtin.«zip.__new__» ⟨[.type "zip",.ref l1,.ref l2],[]⟩) (λ _ R s=>fX t s.heap l1 xs/\fX u s.heap l2 ys /\
  R (.ok (.ret (.ref (yM s.heap t u l1 l2).objs.size))) {s with heap:=lI s.heap t u l1 l2 }):=
 .of_wp λ prog w A R s h=>by
  obtain⟨hp,g,d,tk,os⟩:=s;obtain⟨hl1,hl2,h⟩:=h;have hsub:=sub_zip;have hL1:fX t (Shared.heap ⟨hp,g,d,tk,os⟩) l1 xs:=hl1;have hL2:fX u (Shared.heap ⟨tQ hp t l1,g,d,tk,os⟩) l2 ys:=fX.push hl2 _
  wp_walk using aC0 hL1,aC0 hL2
  exact⟨_,rfl,h⟩
theorem aH6{t u:Bool}{l1 l2:qv}{xs ys:Array qx}{Q:qx->qj->Prop}(hl1:fX t s.heap l1 xs)(hl2:fX u s.heap l2 ys)
 (h:∀ h',yx h' (s.heap.objs.size+4) (s.heap.objs.size+2) (s.heap.objs.size+3) .none->jx h' (s.heap.objs.size+2) (.ref s.heap.objs.size) (.ref (s.heap.objs.size+1)) ->
   jx h' (s.heap.objs.size+3) .none .none->gE t h' s.heap.objs.size l1 0->gE u h' (s.heap.objs.size+1) l2 0->h'.objs.size=s.heap.objs.size+5 ->
   (∀ c o,s.heap.get? c=qq o->h'.get? c=qq o)->Q (.ref (s.heap.objs.size+4)) {s with heap:=h' }) :
 qu (model prog w) A (call (.type "zip") [.ref l1,.ref l2]) Q E s:=by
 refine callType_new F.called_zip (by decide) (F.typeCall_zip_2 _ _) (F.newCall_zip_2 _ _) (λ obj=>F.args_object_init_3 obj _ _) F.entry_zip_new
  (aG1 t u l1 l2 xs ys) ⟨hl1,hl2,?_⟩
 have z1:(tQ s.heap t l1).objs.size=s.heap.objs.size+1:=yBr ..;have z2:(xY s.heap t u l1 l2).objs.size=s.heap.objs.size+2:=by rw[yBr,z1]
 have z3:(xV s.heap t u l1 l2).objs.size=s.heap.objs.size+3:=by rw[yBr,z2]
 have z4:(yM s.heap t u l1 l2).objs.size=s.heap.objs.size+4:=by rw[yBr,z3]
 have z5:(lI s.heap t u l1 l2).objs.size=s.heap.objs.size+5:=by rw[yBr,z4]
 have g5:(lI s.heap t u l1 l2).get? (yM s.heap t u l1 l2).objs.size=qq _:=xAe _ rfl;have g4:(lI s.heap t u l1 l2).get? (xV s.heap t u l1 l2).objs.size=qq _:=hpS _ (xAe _ rfl);have g3:(lI s.heap t u l1 l2).get? (xY s.heap t u l1 l2).objs.size=qq _:=hpS _ (hpS _ (xAe _ rfl));have g2:(lI s.heap t u l1 l2).get? (tQ s.heap t l1).objs.size=qq _:=hpS _ (hpS _ (hpS _ (xAe _ rfl)));have g1:(lI s.heap t u l1 l2).get? s.heap.objs.size=qq _:=hpS _ (hpS _ (hpS _ (hpS _ (xAe _ rfl))));show _/\_;rw[z2,z3,z4] at g5;rw[z1,z2] at g3;rw[z3] at g4;rw[z1] at g2;rw[z4];have i1:gE t (lI s.heap t u l1 l2) s.heap.objs.size l1 0:=by cases t<;>exact⟨_,g1,rfl,rfl⟩
 have i2:gE u (lI s.heap t u l1 l2) (s.heap.objs.size+1) l2 0:=by cases u<;>exact⟨_,g2,rfl,rfl⟩
 exact⟨⟨_,g5,rfl⟩,h _ g5 g3 g4 i1 i2 z5 λ c o x =>
  hpS _ (hpS _ (hpS _ (hpS _ (hpS _ x))))⟩
end
theorem aMu{n a b:Nat}(ha:a<n)(hb:b<n):ZA (n+4) (n+2) (n+3) n (n+1) [n,a] [n+1,b]:=by
 have h:∀ i j:Nat,i≠j->(n+i:Nat)≠(n+j:Nat):=λ i j h=>by omega
 have l:∀ (c i:Nat),c<n->(c:Nat)≠(n+i:Nat):=λ c i h=>by omega
 refine⟨h 2 4 (by decide),h 3 4 (by decide),h 0 4 (by decide),h 1 4 (by decide),h 2 3 (by decide),h 2 0 (by decide),h 2 1 (by decide),h 3 0 (by decide),h 3 1 (by decide),λ c hc=>?_,λ c hc=>?_⟩
 ·rcases List.mem_cons.mp hc with e | e
  ·rw[e];exact⟨h 0 4 (by decide),h 0 3 (by decide),h 0 1 (by decide)⟩
  ·rw[List.mem_singleton.mp e];exact⟨l a 4 ha,l a 3 ha,l a 1 ha⟩
 ·rcases List.mem_cons.mp hc with e | e
  ·rw[e];exact⟨h 1 4 (by decide),h 1 3 (by decide),h 1 0 (by decide)⟩
  ·rw[List.mem_singleton.mp e];exact⟨l b 4 hb,l b 3 hb,l b 0 hb⟩
section
variable {X : Cx}
def aGt(K:FrG)(ta:TA):TI:=λ σ H R=>ta σ H λ vs H1=>∃ a b t u,vs=[.ref a,.ref b]/\(∃ xs,Sq t K H1 a xs)/\(∃ ys,Sq u K H1 b ys)/\R (aBW K t u a b) H1
theorem aNk{elts:List qw}{k:Nat}{pp:Pos}{a b:qw}{ta:TA}{p pos:Pos}(hg:Gl X "zip")(hm:X.mg "zip" = qz)(ha:PA X [a,b] ta)(hs:zv [a,b] X.env=(false,eval a X.env)::zv [b] X.env)(hs2:zv [b] X.env=[(false,eval b X.env)]):PI X (.Tuple elts k pp) (.Call (.Name "zip" p) [a,b] [] pos) (aGt X.K ta):=by
 intro aA s σ H R I h;refine Call_ (oY I hg hm boot_zip (yCd (aX (ha pos aA s σ H _ I h) λ us s1 hPq41=>?_) hs (by rw[hs2];rfl)))
 obtain⟨vs,H1,I1,r1,q1⟩:=hPq41;obtain⟨l1,l2,t,u,rfl,⟨xs,sq1⟩,⟨ys,sq2⟩,q⟩:=q1;obtain⟨u1,u2,rfl,ru1,ru2⟩:=pG r1;cases ru1;cases ru2;obtain⟨oC,rv1,pl1⟩:=pI I1 sq1;obtain⟨iG,rv2,pl2⟩:=pI I1 sq2;have a1:=pl1.lt;have a2:=pl2.lt;refine aH6 pl1 pl2 λ h' hz eA eQ hi1 hi2 hsz hk=>wpAny_pyIter_zip hz ?_
 have I2:Inv X aA σ H1 {s1 with heap:=h' }:=I1.kept (t':=s1.toks) hk
 have hb':∀ b∈[s1.heap.objs.size+4,s1.heap.objs.size+2,s1.heap.objs.size+3,s1.heap.objs.size,s1.heap.objs.size+1],s1.heap.objs.size<=b:=λ b hb=>by
  simp only[yAx,yAr,or_false] at hb;omega
 have Z:=aMu (n:=s1.heap.objs.size) (a:=l1) (b:=l2) a1 a2;exact⟨s1.heap.objs.size+4,[s1.heap.objs.size+4,s1.heap.objs.size+2,s1.heap.objs.size+3,s1.heap.objs.size,s1.heap.objs.size+1],_,_,H1,rfl,I2,aJo t u l1 l2 _ _ _ _ _ Z (xAh a1) (xAh (yFb a2)),⟨hz,eA,⟨_,_,eQ⟩,hi1,hi2⟩,λ b hb=>I1.fpOk (hb' b hb) (I1.hok.fresh (hb' b hb)),q⟩
noncomputable def gJ:List D->List D->List D
 | a::as,b::bs=>.tuple [a,b]::gJ as bs
 | _,_=>[]
theorem zI:∀ as bs:List D,(gJ as bs).length=min as.length bs.length
 | [],_=>by simp[gJ]
 | _::_,[]=>by simp[gJ]
 | _::as,_::bs=>by simp[gJ,zI as bs]
theorem aDl:∀ (as bs:List D) (i:Nat) (d:D),(gJ as bs)[i]? = qq d->∃ a b,as[i]? = qq a/\bs[i]? = qq b/\d=.tuple [a,b]
 | [],_,i,d,h=>by simp[gJ] at h
 | _::_,[],i,d,h=>by simp[gJ] at h
 | a::as,b::bs,0,d,h=>by simp[gJ] at h;exact⟨a,b,rfl,rfl,h.symm⟩
 | a::as,b::bs,i+1,d,h=>by
   obtain⟨x,y,h1,h2,h3⟩:=aDl as bs i d (by simpa [gJ] using h)
   exact⟨x,y,by simpa using h1,by simpa using h2,h3⟩
theorem aLR{K:FrG}{F:Hp}{L:List qv}{t u:Bool}{a b:qv}{xs ys:List V}{ds es:List D}(sq1:Sq t K F a xs)(dl1:DenL K F ds xs)(sq2:Sq u K F b ys)(dl2:DenL K F es ys):Wk K F L (aBW K t u a b) (gJ ds es) where
 go:=λ i H s hi=>by
  rw[zI] at hi;have h1:i<xs.length:=by rw[<- dl1.length];omega
  have h2:i<ys.length:=by rw[<- dl2.length];omega
  exact⟨xs,xs[i],ys,ys[i],lP s sq1,by simp[h1],lP s sq2,by simp[h2]⟩
 stop:=λ H s=>⟨xs,ys,lP s sq1,lP s sq2,by rw[zI,dl1.length,dl2.length]⟩
 yld:=λ i H F1 L1 S x H' d g R e y=>by
  obtain⟨p,x',y',hp,rfl,rfl,hx,hy⟩:=y;obtain⟨d1,d2,e1,e2,rfl⟩:=aDl ds es i d e;obtain⟨x1,e3,dx⟩:=dl1.get e1;obtain⟨y1,e4,dy⟩:=dl2.get e2;have q1:=hx xs (lP (g.f.trans R.sub) sq1);rw[q1] at e3;cases e3;have q2:=hy ys (lP (g.f.trans R.sub) sq2);rw[q2] at e4;cases e4;have hF:F1 p=qz:=R.sub.free hp;exact⟨aT F1 p (.tup [x',y']),dG hF,R.new hp,.tup (bL.of bQ) (.cons (dx.mono (g.f.trans (dG hF))) (.cons (dy.mono (g.f.trans (dG hF))) .nil))⟩
end
section
variable {X : Cx}
noncomputable def tE:W->Option (List D)
 | .d (.list ds)=>qq ds
 | .d (.tuple ds)=>qq ds
 | _=>qz
noncomputable def xL(fa fb:FE):FL:=λ env S=>(fa env S).bind λ p=>(fb env p.2).bind λ q=>(tE p.1).bind λ ds=>(tE q.1).bind λ es=>qq (gJ ds es,q.2)
theorem aC5{K:FrG}{F:Hp}{L:List qv}{w:W}{ds:List D}{v:V}(h:tE w=qq ds)(d:dU K F L w v):∃ t a xs,v=.ref a/\Sq t K F a xs/\DenL K F ds xs:=by
 unfold tE at h
 split at h
 ·cases h;cases (show Den K F (.list ds) v from d) with
  | lst sq dl=>exact⟨false,_,_,rfl,sq,dl⟩
 ·cases h;cases (show Den K F (.tuple ds) v from d) with
  | tup sq dl=>exact⟨true,_,_,rfl,sq,dl⟩
 ·cases h
theorem aNU{K:FrG}{fa fb:FE}(σ:L2.St)(H:Hp)(Rr:It->Hp->Prop)(h:iA K (xL fa fb) σ H Rr):aGt K (cT K (cH fa (cH fb eJ))) σ H Rr:=by
 obtain⟨F,L,S,env,ds,S',R,E,e,q⟩:=h;obtain⟨⟨w1,S1⟩,e1,e⟩:=bind_some e;obtain⟨⟨w2,S2⟩,e2,e⟩:=bind_some e;obtain⟨ds1,e3,e⟩:=bind_some e;obtain⟨ds2,e4,e⟩:=bind_some e;dsimp only at e e2 e3 e4;cases e;refine⟨F,L,S,env,[w1,w2],S',R,E,by unfold cH;simp only[e1,e2,eJ,yBb],λ F1 L1 H1 vs g1 R1 d1=>?_⟩
 cases d1 with
 | cons da dr =>
   cases dr with
   | cons db dn =>
     cases dn;obtain⟨t,a,xs,rfl,sq1,dl1⟩:=aC5 e3 da;obtain⟨u,b,ys,rfl,sq2,dl2⟩:=aC5 e4 db;exact⟨a,b,t,u,rfl,⟨xs,lP R1.sub sq1⟩,⟨ys,lP R1.sub sq2⟩,q F1 L1 H1 _ g1 R1 (aLR sq1 dl1 sq2 dl2)⟩
end
structure ZB(z TI TO i1 i2 i3:qv)(gB gC fp3:List qv):Prop where
 TIz:TI≠z
 TOz:TO≠z
 i1z:i1≠z
 i2z:i2≠z
 i3z:i3≠z
 TITO:TI≠TO
 TIi1:TI≠i1
 TIi2:TI≠i2
 TIi3:TI≠i3
 TOi1:TO≠i1
 TOi2:TO≠i2
 TOi3:TO≠i3
 f1:∀ b∈gB,b≠z/\b≠TO/\b≠i2/\b≠i3
 f2:∀ b∈gC,b≠z/\b≠TO/\b≠i1/\b≠i3
 f3:∀ b∈fp3,b≠z/\b≠TO/\b≠i1/\b≠i2
section
variable {prog : qo}{w : zq}{A : zj}{E : qx -> qj -> Prop}{s : qj}
end
section
variable {prog : qo}{w : zq}{A : zj}{E : qx -> qj -> Prop}{s : qj}
end
section
variable {X : Cx}
end
section
variable {X : Cx}
end
section
open PySem.SeqAt
open PySem.AutoSeq1 (wpAny_loadPart')
open PySem.MeetsSeq PySem.MeetsSeq2 PySem.MeetsSeq3
theorem oR:∀ {vs:List qx}{ns:List Int}{i:Nat},IntsAre vs ns->i<vs.length->∃ a t,vs[i]? = qq (.int a t)/\ns.drop i=a::ns.drop (i+1)
 | _,_,i,.nil,h=>absurd h (Nat.not_lt_zero i)
 | _,_,0,.cons a t _,_=>⟨a,t,rfl,rfl⟩
 | _,_,i+1,.cons a t r,h=>by
   obtain⟨b,u,h1,h2⟩:=oR (i:=i) r (by simpa using h)
   exact⟨b,u,by simpa using h1,by simpa using h2⟩
end
section
variable {prog : qo}{w : zq}{A : zj}{E : qx -> qj -> Prop}{s : qj}
end
section
variable {X : Cx}
end
section
variable {X : Cx}
end
section
variable {X : Cx}
end
section
variable {X : Cx}
end
section
variable {X : Cx}{tg : qw}
end
abbrev aL5(h:Heap)(z TI TO a:qv)(f:Bool):Prop:=
 h.get? z=qq {cls:=.type "zip",dict:=qz,data:=.fields #[jq a,.bool f,.bool false,.ref TI,.ref TO],slots:=#[] }
section
variable {prog : qo}{w : zq}{A : zj}{E : qx -> qj -> Prop}{s : qj}
end
structure ZW(X:Cx)(aA:List (qv×Obj))(σ:L2.St)(F1:Hp)(L1:List qv)(S1:aC)(SA z TI TO i1 i2:qv)(ds:List D)(H F:Hp)(vs:List V)(s:qj):Prop where
 inv:Inv X aA σ H s
 same:bN F1 F
 rel:Rel X.K F L1 S1 H
 free:F SA=qz
 lst:H SA=qq (.lst vs)
 den:DenL X.K F ds vs
 fp:∀ c∈[z,TI,TO,i1,i2],fW X aA H c
structure ZH(z TI TO i1 i2 a b:qv)(t u:Bool)(i:Nat)(h:Heap):Prop where
 ti:jx h TI (.ref i1) (.ref i2)
 q1:gE t h i1 a i
 q2:gE u h i2 b i
 to:∃ o,h.get? TO=qq o
 z:(yx h z TI TO .none/\∃ x y,jx h TO x y)\/∃ a0 f,aL5 h z TI TO a0 f/\∃ o,h.get? a0=qq o
theorem ZH.keep{z TI TO i1 i2 a b:qv}{t u:Bool}{i:Nat}{h h':Heap}(x:ZH z TI TO i1 i2 a b t u i h)(k:∀ c o,c∈[z,TI,TO,i1,i2]->h.get? c=qq o->h'.get? c=qq o)(k2:∀ c o,h.get? c=qq o->∃ o',h'.get? c=qq o'):ZH z TI TO i1 i2 a b t u i h':=by
 refine⟨k _ _ (by simp) x.ti,x.q1.at λ o e=>k _ _ (by simp) e,x.q2.at λ o e=>k _ _ (by simp) e,let ⟨o,e⟩:=x.to;k2 _ _ e,?_⟩
 rcases x.z with ⟨y,p,q,r⟩ | ⟨a0,f,y,o,e⟩
 ·exact .inl ⟨k _ _ (by simp) y,p,q,k _ _ (by simp) r⟩
 ·exact .inr ⟨a0,f,k _ _ (by simp) y,k2 _ _ e⟩
section
variable {X : Cx}{aA : List (qv×Obj)}{σ : L2.St}{F1 : Hp}{L1 : List qv}{S1 : aC}{SA z TI TO i1 i2 a b : qv}{t u : Bool}{ds : List D}{H F : Hp}{vs : List V}{s : qj}{xs ys : List V}{ds1 ds2 : List D}{A : zj}{E : qx -> qj -> Prop}{i : Nat}
end
section
variable {prog : qo}{w : zq}{A : zj}{s : qj}{R : Result -> qj -> Prop}{z TI TO : qv}{f0 : qx}
end
section
variable {prog : qo}{w : zq}{A : zj}{E : qx -> qj -> Prop}{s : qj}{z TI TO : qv}{f0 : qx}
end
section
variable {X : Cx}
end
section
variable {prog : qo}{w : zq}{A : zj}{E : qx -> qj -> Prop}{s : qj}
end
section
variable {X : Cx}{tg : qw}
end
section
variable {X : Cx}
end
noncomputable def yD(z:Str):It:=⟨λ i _=>i<z.cps.size,λ i H x H'=>H'=H/\∃ c,z.cps[i]? = qq c/\x=.str ⟨#[c]⟩,λ i _=>z.cps.size<=i⟩
theorem aIs{P:qo}{w:zq}{K:FrG}{tg:qw}(it:qv)(z:Str)(t:Tok)(n:String)(hn:n = "str_ascii_iterator" \/ n = "str_iterator"):Turn P w K tg (yD z) [it] it (λ i h=>h.IsStrIter it n z t i) where
 mem:=by simp
 obj:=λ i h st b hb=>by
  have e:b=it:=by simpa using hb
  subst e;obtain⟨o,e,c,d⟩:=st;exact⟨o,e,λ v z=>by rw[d] at z;cases z⟩
 keep:=λ i h h' st k=>by
  obtain⟨o,e,r⟩:=st;exact⟨o,k it (by simp) o e,r⟩
 item:=by
  intro X hP hw hK hc i aA s σ H E I hf st hg;subst hP hw hK;obtain⟨f0,f1,f2,f3,f4,f5⟩:=hf it (by simp)
  have hg:i<z.cps.size:=hg;have bB:∀ h',h'.IsStrIter it n z t (i+1)->yCq it s.heap h'->∃ u,qq (Value.str ⟨#[z.cps[i]]⟩ s.toks)=qq u/\qu (model X.prog X.w) X.A (vw tg (.ref it) u) (λ _ s2=>∃ x H',Inv X aA σ H' s2/\aV x u/\(yD z).yld i H x H'/\s2.heap.IsStrIter it n z t (i+1)/\∀ b∈[it],H' b=qz) E {s with heap:=h',toks:=s.toks+1 }:=λ h' st' sb=>by
   have I1:Inv X aA σ H {s with heap:=h',toks:=s.toks+1 }:=I.turned (λ b o hb e=>(sb.2 b hb).trans e) f0 f1 f3 f4 f5
   obtain⟨o,e,c,d⟩:=id st';exact⟨_,rfl,wL (s:={s with heap:=h',toks:=s.toks+1 }) e c d (by rcases hn with rfl | rfl<;>decide) ⟨.str ⟨#[z.cps[i]]⟩,H,I1,⟨_,rfl⟩,⟨rfl,z.cps[i],by simp[hg],rfl⟩,st',λ b hb=>(hf b hb).1⟩⟩
  rcases hn with rfl | rfl
  ·exact wpAny_pyNext_ascii_item st (c:=z.cps[i]) (by simp[hg]) bB
  ·exact wpAny_pyNext_wide_item st (c:=z.cps[i]) (by simp[hg]) bB
 done:=by
  intro X hP hw hK hc i aA s σ H E I hf st hg;subst hP hw hK;obtain⟨f0,f1,f2,f3,f4,f5⟩:=hf it (by simp)
  have hg:z.cps.size<=i:=hg;rcases hn with rfl | rfl
  ·exact wpAny_pyNext_ascii_end (I.ok.hd hc) st (by simp[hg]) λ h' eb=>⟨rfl,I.turned (t':=s.toks) (λ b o hb e=>eb b o hb e) f0 f1 f3 f4 f5⟩
  ·exact wpAny_pyNext_wide_end (I.ok.hd hc) st (by simp[hg]) λ h' eb=>⟨rfl,I.turned (t':=s.toks) (λ b o hb e=>eb b o hb e) f0 f1 f3 f4 f5⟩
 self:=λ _ _ _ _ _ st h=>by
  rcases hn with rfl | rfl
  ·exact wpAny_pyIter_striter_ascii st h
  ·exact wpAny_pyIter_striter_wide st h
section
variable {X : Cx}
def aOP(tl:TE):TI:=λ σ H R=>tl σ H λ x H1=>∃ z,x=.str z/\R (yD z) H1
theorem aHt(z:Str):strIterType z = "str_ascii_iterator" \/ strIterType z = "str_iterator":=by
 unfold strIterType
 split
 ·exact .inl rfl
 ·exact .inr rfl
theorem aKP{tg l:qw}{tl:TE}(hl:PE X l tl):PI X tg l (aOP tl):=by
 intro aA s σ H R I h;refine aX (hl aA s σ H _ I h) λ v s1 hPq42=>?_
 obtain⟨x,H1,I1,r1,q1⟩:=hPq42;obtain⟨z,e,q⟩:=q1;subst e;obtain⟨t,rfl⟩:=r1;refine wpAny_pyIter_strU ?_;refine⟨s1.heap.objs.size,[s1.heap.objs.size],_,_,H1,rfl,I1.kept (t':=s1.toks) λ b o e=>hpS _ e,aIs _ z t (strIterType z) (aHt z),⟨_,xAe _ rfl,rfl,rfl⟩,λ b hb=>?_,q⟩
 have e:b=s1.heap.objs.size:=by simpa using hb
 subst e;exact I1.fpOk (yAc _) (I1.hok.fresh (yAc _))
noncomputable def tL(c:Nat):D:=.str ⟨#[c]⟩
theorem aKa{K:FrG}{F:Hp}{L:List qv}(z:Str):Wk K F L (yD z) (z.cps.toList.map tL) where
 go:=λ i H s hi=>by
  have:i<z.cps.size:=by simpa using hi
  exact this
 stop:=λ H s=>by
  show z.cps.size<=(z.cps.toList.map tL).length;simp
 yld:=λ i H F1 L1 S x H' d g R e y=>by
  obtain⟨rfl,c,hc,rfl⟩:=y;rw[xAb,Array.getElem?_toList,hc] at e;cases e;exact⟨F1,bN.refl _,R,.str _⟩
noncomputable def wW(fa:FE):FL:=λ env S=>(fa env S).bind λ p=>match p.1 with
 | .d (.str z)=>qq (z.cps.toList.map tL,p.2)
 | _=>qz
theorem aO0{tg a:qw}{fa:FE}(ha:PE X a (aM X.K fa)):PI X tg a (iA X.K (wW fa)):=PI.weak (aKP ha) λ σ H Rr aK=>by
 obtain⟨F,L,S,env,ds,S',R,E,e,q⟩:=aK;obtain⟨⟨w,S1⟩,e1,e2⟩:=bind_some e;dsimp only at e2
 split at e2
 ·cases e2;refine⟨F,L,S,env,_,_,R,E,e1,λ F1 L1 H1 v g1 R1 d1=>?_⟩
  rename_i z;cases (show Den X.K F1 (.str z) v from d1)
  exact⟨z,rfl,q F1 L1 H1 _ g1 R1 (aKa z)⟩
 ·cases e2
noncomputable def mD(x y:Str):Bool:=!(Builtin.Str.occurrences y x 0 y.length 1).isEmpty
noncomputable def pQ(n:Bool):D->D->Option D
 | .str x,.str y=>qq (.bool (if n=true then !mD x y else mD x y))
 | _,_=>qz
noncomputable def mV:Bool->vk
 | true=>.NotIn
 | false=>.In
theorem aE1(n:Bool):bX X (jz (mV n)) (uB X (pQ n)):=by
 rintro aA s σ H x y v u Q I rx ry ⟨F,L,S,dx,dy,z,R,nx,ny,e,q⟩;unfold pQ at e
 split at e
 ·cases e;cases nx.str;cases ny.str;obtain⟨t,rfl⟩:=rx;obtain⟨t',rfl⟩:=ry;cases n
  ·exact P.in_str ⟨.bl _,H,I,rfl,q.here R (.bl _)⟩
  ·exact P.notIn_str ⟨.bl _,H,I,rfl,q.here R (.bl _)⟩
 ·cases e
noncomputable def nQ(n:Bool)(fa fb:FE):FE:=f2 fa fb (gN (pQ n))
theorem aNQ{n:Bool}{a b:qw}{pos:Pos}{fa fb:FE}(ha:PE X a (aM X.K fa))(hb:PE X b (aM X.K fb))(hm:jv (mV n) b=false):PE X (.Compare a [mV n] [b] pos) (aM X.K (nQ n fa fb)):=
 PE.weak (aAO (aE1 n) ha hb hm) (pY pC)
theorem aNt{n:Bool}{a b:qw}{pos:Pos}{fa fb:FE}(ha:PE X a (aM X.K fa))(hb:PE X b (aM X.K fb))(hm:jv (mV n) b=false):PT X (.Compare a [mV n] [b] pos) (dQ X.K (cJ (nQ n fa fb))):=
 PT.weak (aD8 (aE1 n) ha hb hm) λ σ H Q aK=>by
  obtain⟨F,L,S,env,b,S',R,E,e,q⟩:=aK;obtain⟨w,d,e1,e2,e3⟩:=aAc e;refine pY (fa:=fa) (fb:=fb) (g:=gN (pQ n)) pC σ H _ ⟨F,L,S,env,w,S',R,E,e1,λ F1 L1 H1 v g1 R1 d1=>?_⟩
  have hc:∃ c,w=.d (.bool c):=by
   obtain⟨p,ea,e1⟩:=bind_some e1;obtain⟨p2,eb,e1⟩:=bind_some e1;obtain⟨_,_,z,_,_,e6,rfl,_⟩:=uV e1;unfold pQ at e6
   split at e6
   ·cases e6;exact⟨_,rfl⟩
   ·cases e6
  obtain⟨c,rfl⟩:=hc;cases e2;cases e3;cases (show Den X.K F1 (.bool b) v from d1)
  exact⟨_,rfl,q F1 L1 H1 g1 R1⟩
noncomputable def pS:D->Option D
 | .int i=>if i.natAbs.log2<1920 then qq (.str (toString i)) else qz
 | .str x=>qq (.str x)
 | _=>qz
noncomputable def sV:D->Option D
 | .str x=>if x.length<=640 then (PySem.intText? x).bind λ n=>qq (.int n) else qz
 | _=>qz
noncomputable def rD1(X:Cx)(g:D->Option D):List V->Hp->VK->Prop:=λ xs H Q=>∃ F L S d z x,xs=[x]/\Rel X.K F L S H/\bJ X.K F H d x/\g d=qq z/\fG X F L S z Q
theorem aID:cF X (.type "str") (rD1 X pS):=by
 rintro aA s σ H xs us Q I r ⟨F,L,S,d,z,x,ex,R,nx,e,q⟩;subst ex;obtain⟨u,rfl,ru⟩:=eZ r;unfold pS at e
 split at e
 ·split at e
  ·rename_i i hi;cases e;cases nx.int;obtain⟨t,rfl⟩:=ru;exact PySem.P.str_of_int hi ⟨.str _,H,I.tok _,⟨_,rfl⟩,q.here R (.str _)⟩
  ·cases e
 ·cases e;cases nx.str;obtain⟨t,rfl⟩:=ru;exact P.str_of_str ⟨.str _,H,I,⟨_,rfl⟩,q.here R (.str _)⟩
 ·cases e
theorem aIB:cF X (.type "int") (rD1 X sV):=by
 rintro aA s σ H xs us Q I r ⟨F,L,S,d,z,x,ex,R,nx,e,q⟩;subst ex;obtain⟨u,rfl,ru⟩:=eZ r;unfold sV at e
 split at e
 ·split at e
  ·rename_i y hy;obtain⟨n,e1,e2⟩:=bind_some e;cases e2;cases nx.str;obtain⟨t,rfl⟩:=ru;exact PySem.W.KIN.call_text e1 hy ⟨.int n,H,I.tok _,⟨_,rfl⟩,q.here R (.int _)⟩
  ·cases e
 ·cases e
theorem aFW{g:D->Option D}{fa:FE}(σ:L2.St)(H:Hp)(Q:VK)(h:aM X.K (f1 fa (dE g)) σ H Q):uD (rD1 X g) (cT X.K (cH fa eJ)) σ H Q:=by
 obtain⟨F,L,S,env,w,S',R,E,e,q⟩:=h;obtain⟨⟨w1,S1⟩,e1,e2⟩:=bind_some e;obtain⟨d,z,e3,e4,rfl,rfl⟩:=qV e2;refine⟨F,L,S,env,[w1],_,R,E,by unfold cH;rw[e1];rfl,λ F1 L1 H1 vs g1 R1 d1=>?_⟩
 cases d1 with
 | cons dd dr =>
   cases dr;exact⟨F1,L1,_,d,z,_,rfl,R1,iN R1 dd e3,e4,vE X rfl λ F2 L2 H2 v2 g2 R2 d2=>q F2 L2 H2 v2 (g1.trans g2) R2 d2⟩
noncomputable def aGm:V->List V->Hp->VK->Prop:=λ x xs H Q=>∃ a y,x=.str a/\xs=[.str y]/\(y.length==0)=false/\a.length+2<=qk/\∀ p,H p=qz->Q (.ref p) (aT H p (.lst ((Txt.split a y).map V.str)))
theorem aC7:∀ l:List (Str×Tok),aS ((l.map (·.1)).map V.str) (strValues l)
 | []=>.nil
 | p::l=>.cons ⟨p.2,rfl⟩ (aC7 l)
theorem aIY:MtM X "str.split" aGm:=by
 rintro aA s σ H x xs v us Q I rx rs ⟨a,y,e1,e2,hy,hsz,q⟩;subst e1 e2;obtain⟨t,rfl⟩:=rx;obtain⟨u,rfl,ru⟩:=rs.one;obtain⟨t',rfl⟩:=ru;have hn:(Builtin.Str.partsBetween a (Builtin.Str.occurrences a y 0 a.length (a.length+1)) y.length).length<=qk:=by
  have e1:=StrLaws.occ_length_le a y 0 a.length (a.length+1);rw[length_partsBetween];omega
 have bB:∀ (l:List (Str×Tok)) (k:Nat),l.map (·.1)=Txt.split a y->l.length<=qk->EP X aA σ Q (.ref s.heap.objs.size) {s with heap:=s.heap.push {cls:=.type "list",data:=.seq (strValues l).toArray },toks:=k }:=λ l k e hl=>by
  have hv:=aC7 l;rw[e] at hv;exact⟨.ref _,_,I.lnew (t':=k) hv (by rw[<- e,yAg,yAg];exact hl),rfl,q _ I.fresh⟩
 cases h1:(decide (a.length<y.length)||decide (Builtin.Str.strKind a<Builtin.Str.strKind y))
 ·cases hf:(Builtin.Str.occurrences a y 0 a.length (a.length+1)).isEmpty
  ·refine vq yCv (typeIs_str _ _ _) yDu (yDo _ _) (meets_str_split_sep a y t t' h1 hy hf (by omega) hn) ?_
   show wants _ _ _ {s with toks:=_,heap:=s.heap.push {cls:=.type "list",data:=.seq (strsFrom s.toks (Builtin.Str.partsBetween a (Builtin.Str.occurrences a y 0 a.length (a.length+1)) y.length)).toArray } }
   rw[strsFrom_eq];refine bB (numbered s.toks _) _ ((numbered_texts _ _).trans ((if_neg (ne_true_of_eq_false h1)).trans (if_neg (ne_true_of_eq_false hf))).symm) ?_;have:=congrArg List.length (numbered_texts s.toks (Builtin.Str.partsBetween a (Builtin.Str.occurrences a y 0 a.length (a.length+1)) y.length));rw[yAg] at this;omega
  ·exact vq yCv (typeIs_str _ _ _) yDu (yDo _ _) (meets_str_split_not_found a y t t' h1 hy hf)
    (bB [(a,t)] s.toks ((if_neg (ne_true_of_eq_false h1)).trans (if_pos hf)).symm (by show 1<=qk;decide))
 ·exact vq yCv (typeIs_str _ _ _) yDu (yDo _ _) (meets_str_split_cannot_occur a y t t' h1)
   (bB [(a,t)] s.toks (if_pos h1).symm (by show 1<=qk;decide))
noncomputable def wZ(S:aC):W->W->Option (List D×aC)
 | .d (.str a),.d (.str y)=>if (y.length==0)=false/\a.length+2<=qk then qq ((Txt.split a y).map yAa,S) else qz
 | _,_=>qz
theorem aIo{S S':aC}{o x:W}{ds:List D}(h:wZ S o x=qq (ds,S')):∃ a y,o=.d (.str a)/\x=.d (.str y)/\(y.length==0)=false/\a.length+2<=qk/\ds=(Txt.split a y).map yAa/\S'=S:=by
 unfold wZ at h
 split at h
 ·rename_i a y
  split at h
  ·rename_i hc;cases h;exact⟨a,y,rfl,rfl,hc.1,hc.2,rfl,rfl⟩
  ·cases h
 ·cases h
noncomputable def xJ(fa fb:FE):FL:=λ env S=>(fa env S).bind λ p=>(fb env p.2).bind λ q=>wZ q.2 p.1 q.1
theorem aDy{K:FrG}{F:Hp}:∀ l:List Str,DenL K F (l.map yAa) (l.map V.str)
 | []=>.nil
 | a::l=>.cons (.str a) (aDy l)
theorem aOX{K:FrG}{fo fe:FE}(σ:L2.St)(H:Hp)(Q:VK)(h:gQ K (xJ fo fe) σ H Q):yJ K "str" aGm (aM K fo) (cT K (cH fe eJ)) σ H Q:=by
 obtain⟨F,L,S,env,ds,S',R,E,e,q⟩:=h;obtain⟨⟨wo,S1⟩,e1,e⟩:=bind_some e;obtain⟨⟨we,S2⟩,e2,e⟩:=bind_some e;obtain⟨a,y,rfl,rfl,h1,h2,rfl,rfl⟩:=aIo e;refine⟨F,L,S,env,_,S1,R,E,e1,λ F1 L1 H1 o g1 R1 d1=>?_⟩
 cases (show Den K F1 (.str a) o from d1)
 refine⟨rfl,F1,L1,S1,env,[.d (.str y)],S',R1,E.mono g1,?_,λ F2 L2 H2 vs g2 R2 d2=>?_⟩
 ·unfold cH;rw[e2];rfl
 ·cases d2 with
  | cons dd dr =>
    cases dr;cases (show Den K F2 (.str y) _ from dd)
    exact⟨a,y,rfl,rfl,h1,h2,λ p hp=>q F2 L2 _ p _ (g1.trans g2) (R2.lay hp) (R2.sub.free hp) (R2.notin hp) bQ (aDy _)⟩
noncomputable def pA:List D->Option (List Str)
 | []=>qq []
 | .str i::r=>(pA r).bind λ l=>qq (i::l)
 | _::_=>qz
theorem aCQ{K:FrG}{F:Hp}:∀ {ds:List D}{xs:List V}{ns:List Str},DenL K F ds xs->pA ds=qq ns->xs=ns.map V.str
 | _,_,_,.nil,e=>by cases e;rfl
 | .str i::r,_,_,.cons h t,e=>by
   obtain⟨l,e1,e2⟩:=bind_some e;cases e2;cases h;rw[yAj,aCQ t e1]
 | .none::_,_,_,.cons _ _,e=>by cases e
 | .bool _::_,_,_,.cons _ _,e=>by cases e
 | .int _::_,_,_,.cons _ _,e=>by cases e
 | .list _::_,_,_,.cons _ _,e=>by cases e
 | .tuple _::_,_,_,.cons _ _,e=>by cases e
 | .dict _::_,_,_,.cons _ _,e=>by cases e
noncomputable def rJn(K:FrG):V->List V->Hp->VK->Prop:=λ x xs H Q=>∃ (z:Str) (a:qv) (ys:List Str),x=.str z/\xs=[.ref a]/\bF K H a (ys.map V.str)/\(ys.map (·.length)).sum+ys.length*z.length<=16777216/\Q (.str (Txt.join z ys)) H
theorem aDH:∀ {ys:List Str}{us:List qx},aS (ys.map V.str) us->StrsAre us ys
 | [],_,.nil=>.nil
 | y::ys,_,.cons r1 r2=>by
   obtain⟨t,rfl⟩:=r1;exact .cons y t (aDH r2)
theorem aK2:MtM X "str.join" (rJn X.K):=by
 rintro aA s σ H x xs v us Q I rx rs ⟨z,a,ys,e1,e2,sq,hok,q⟩;subst e1 e2;obtain⟨t,rfl⟩:=rx;obtain⟨u,rfl,ru⟩:=rs.one;cases ru;obtain⟨its,rv,p,hz⟩:=I.list sq;exact join_list p.isList (aDH (by simpa using rv)) hok λ t' k=>⟨.str _,H,I.tok k,⟨_,rfl⟩,q⟩
noncomputable def wG:D->D->Option D
 | .str z,.list ds=>(pA ds).bind λ ys=>if (ys.map (·.length)).sum+ys.length*z.length<=16777216 then qq (.str (Txt.join z ys)) else qz
 | _,_=>qz
noncomputable def nV(fa fb:FE):FE:=f2 fa fb (gN wG)
theorem aPG{K:FrG}{fo fe:FE}(σ:L2.St)(H:Hp)(Q:VK)(h:aM K (nV fo fe) σ H Q):yJ K "str" (rJn K) (aM K fo) (cT K (cH fe eJ)) σ H Q:=by
 obtain⟨F,L,S,env,w,S',R,E,e,q⟩:=h;obtain⟨⟨wo,S1⟩,e1,e⟩:=bind_some e;obtain⟨⟨we,S2⟩,e2,e⟩:=bind_some e;obtain⟨da,db,z,ea,eb,eg,rfl,rfl⟩:=uV e;unfold wG at eg
 split at eg
 ·rename_i y ds;obtain⟨ys,e5,e6⟩:=bind_some eg
  split at e6
  ·rename_i hok;cases e6;cases wo with
   | loc n=>simp[dr] at ea;cases hS:S'[n]? with
     | none=>rw[hS] at ea;cases ea
     | some o=>rw[hS] at ea;cases o<;>cases ea
   | exc c r=>cases ea
   | d dd =>
     cases ea;refine⟨F,L,S,env,_,S1,R,E,e1,λ F1 L1 H1 o g1 R1 d1=>?_⟩
     cases (show Den K F1 (.str y) o from d1)
     refine⟨rfl,F1,L1,S1,env,[we],S',R1,E.mono g1,?_,λ F2 L2 H2 vs g2 R2 d2=>?_⟩
     ·unfold cH;rw[e2];rfl
     ·cases d2 with
      | cons dd dr =>
        cases dr;obtain⟨a,xs,rfl,sq,dl⟩:=(iN R2 dd eb).lst R2.sub;obtain rfl:=aCQ dl e5;exact⟨y,a,ys,rfl,rfl,sq,hok,q F2 L2 H2 _ (g1.trans g2) R2 (.str _)⟩
  ·cases e6
 ·cases eg
noncomputable def wA(aH:List (Str×Tv)):D->Option D
 | .str x=>qq (.bool (aH.lookup x).isSome)
 | _=>qz
theorem aDv{w:zq}{k:Str}:∀ {l:List DictEntry}{aH:List (Str×Tv)},nC w l aH->aH.lookup k=qz->(l.find? λ e=>lU (.inr k) e.key)=qz
 | [],[],_,_=>rfl
 | e::r,(x,v')::aH,ok,h=>by
   obtain⟨h1,⟨t,h2⟩,h3,h4⟩:=ok;rw[yBa] at h;rw[List.find?_cons,h2,aDw];cases q:k==x with
   | true=>rw[q] at h;cases h
   | false =>
     rw[q] at h;exact aDv h4 h
 | [],_::_,ok,_=>ok.elim
 | _::_,[],ok,_=>ok.elim
theorem aKJ{aH:List (Str×Tv)}:bX X (jz .In) (λ x y H Q=>∃ a k,y=.ref a/\lV X.K X.w a aH/\x=.str k/\Q (.bl (aH.lookup k).isSome) H):=by
 intro aA s σ H x y v u Q I rx ry h;obtain⟨a,k,rfl,⟨hs,es,ep,hl,ok⟩,rfl,q⟩:=h;cases ry;obtain⟨t,rfl⟩:=rx;have hm:s.heap.MapOf (gF X.prog X.w) a (λ k=>findBy (gF X.prog X.w).is es k):=⟨_,es,ep,I.kIn a _ hl,⟨rfl,rfl,rfl⟩,rfl,λ e he=>aAy ok e (by simpa using he),λ _=>rfl⟩
 have hz:(findBy (gF X.prog X.w).is es (.inr k)).isSome=(aH.lookup k).isSome:=by
  unfold findBy;rw[<- yEu];cases hv:aH.lookup k with
  | none=>rw[show(es.toList.find? λ e=>(gF X.prog X.w).is (.inr k) e.key)=qz from aDv ok hv];rfl
  | some tv =>
    obtain⟨z,e1,_⟩:=aAl ok hv;rw[show((es.toList.find? λ e=>(gF X.prog X.w).is (.inr k) e.key).map (·.val))=qq z from e1]
    rfl
 refine wpAny_in_of (knd:=gF X.prog X.w) (k:=.inr k) (zX k t) hs hm ⟨.bl _,H,I.tok _,?_,q⟩;show Value.bool _=Value.bool _;rw[hz]
theorem aNv{x:Str}{k:qw}{fk:FE}{p pos:Pos}{aH:List (Str×Tv)}(hg:Gl X x)(hd:(x==("__debug__" : Str))=false)(ht:∃ a,X.mg x=qq (.ref a)/\lV X.K X.w a aH)(hk:PE X k (aM X.K fk)) :
 PE X (.Compare k [.In] [.Name x p] pos) (aM X.K (f1 fk (dE (wA aH)))):=by
 obtain⟨a,hm,ta⟩:=ht;refine PE.weak (aAO (aKJ (aH:=aH)) hk (rC (v:=.ref a) hg hm rfl hd) rfl) λ σ H Q hPq43=>?_
 obtain⟨F,L,S,env,w,S',R,E,e,q⟩:=hPq43;obtain⟨⟨w1,S1⟩,e1,e2⟩:=bind_some e;obtain⟨d,z,e3,e4,rfl,rfl⟩:=qV e2;cases d with
 | str y =>
   cases e4;refine⟨F,L,S,env,w1,_,R,E,e1,λ F1 L1 H1 u g1 R1 d1=>⟨a,y,rfl,ta,(iN R1 d1 e3).str,?_⟩⟩
   exact q F1 L1 H1 _ g1 R1 (.bl _)
 | _=>cases e4
theorem aOi{x y:Str}{p:Pos}(hg:Gl X x)(hd:(x==("__debug__" : Str))=false)(ht:∃ t,X.mg x=qq (.str y t)):PE X (.Name x p) (aM X.K (fC (.str y))):=by
 obtain⟨t,hm⟩:=ht;refine PE.weak (rC (v:=.str y) hg hm ⟨t,rfl⟩ hd) λ σ H Q hPq44=>?_
 obtain⟨F,L,S,env,w,S',R,E,e,q⟩:=hPq44;cases e;exact q F L H _ Gr.refl R (.str _)
end
noncomputable def fO(fa:FE)(fl fh:FO):FE:=λ env S=>(fa env S).bind λ p=>(fl env p.2).bind λ q=>(fh env q.2).bind λ r=>(dr r.2 p.1).bind λ d=>match d with
 | .list xs=>qq (.d (.list (dJ xs q.1 r.1)),r.2)
 | .tuple xs=>qq (.d (.tuple (dJ xs q.1 r.1)),r.2)
 | _=>qz
noncomputable def eN(fa:FE):FL:=λ env S=>(fa env S).bind λ p=>match p.1 with
 | .d (.list ds)=>qq (ds,p.2)
 | .d (.tuple ds)=>qq (ds,p.2)
 | _=>qz
section
variable {X : Cx}{pos : Pos}
theorem aPN{a:qw}{lo hi:Option qw}{p2:Pos}{fa:FE}{fl fh:FO}(ha:PE X a (aM X.K fa))(hl:PO X lo (kE X.K fl))(hh:PO X hi (kE X.K fh)):PE X (.Subscript a (.Slice lo hi qz p2) pos) (aM X.K (fO fa fl fh)):=by
 rintro aA s σ H Q I ⟨F,L,S,env,w,S',R,E,e,q⟩;obtain⟨⟨w1,S1⟩,e1,e⟩:=bind_some e;obtain⟨⟨l,S2⟩,e2,e⟩:=bind_some e;obtain⟨⟨h,S3⟩,e3,e⟩:=bind_some e;obtain⟨d,e4,e⟩:=bind_some e;dsimp only at e e2 e3 e4;cases d with
 | list xs =>
   cases e;refine pV (aO4 ha hl hh) aA s σ H Q I ⟨F,L,S,env,_,_,R,E,?_,q⟩;unfold fY aGp;rw[e1];dsimp only[yDb];rw[e2];dsimp only;rw[e3];dsimp only;rw[e4];rfl
 | tuple xs =>
   cases e;refine aM2 ha hl hh aA s σ H Q I ⟨F,L,S,env,_,_,R,E,?_,q⟩;unfold aFn;rw[e1];dsimp only[yDb];rw[e2];dsimp only;rw[e3];dsimp only;rw[e4];dsimp only[aFY]
 | _=>cases e
theorem aPb{tg a:qw}{fa:FE}(ha:PE X a (aM X.K fa)):PI X tg a (iA X.K (eN fa)):=by
 rintro aA s σ H Rr I ⟨F,L,S,env,ds,S',R,E,e,q⟩;obtain⟨⟨w1,S1⟩,e1,e⟩:=bind_some e;dsimp only at e
 split at e
 ·rename_i ds';cases e;refine aNE ha aA s σ H Rr I ⟨F,L,S,env,_,_,R,E,?_,q⟩;unfold aGe;rw[e1];rfl
 ·cases e;refine aON ha aA s σ H Rr I ⟨F,L,S,env,_,_,R,E,?_,q⟩;unfold aGx;rw[e1];rfl
 ·cases e
end
inductive Ty where
 | int | bool | str | lst | tup
 deriving DecidableEq
noncomputable def Ty.s:Ty->String
 | .int => "int" | .bool => "bool" | .str => "str" | .lst => "list" | .tup => "tuple"
noncomputable def Ty.n:Ty->Str
 | .int => "int" | .bool => "bool" | .str => "str" | .lst => "list" | .tup => "tuple"
noncomputable def fL:Ty->D->Option D
 | _,.dict _=>qz
 | .int,.int _=>qq (.bool true)
 | .int,.bool _=>qq (.bool true)
 | .bool,.bool _=>qq (.bool true)
 | .str,.str _=>qq (.bool true)
 | .lst,.list _=>qq (.bool true)
 | .tup,.tuple _=>qq (.bool true)
 | _,_=>qq (.bool false)
theorem aOM{i:Int}:fL .int (.int i)=qq (.bool true):=rfl
theorem aNW{i:Int}:fL .bool (.int i)=qq (.bool false):=rfl
theorem aOx{xs:List D}:fL .tup (.tuple xs)=qq (.bool true):=rfl
theorem aOc{b:Bool}:fL .bool (.bool b)=qq (.bool true):=rfl
theorem aOK{b:Bool}:fL .int (.bool b)=qq (.bool true):=rfl
theorem aLJ(K:FrG){ty:Ty}{d z:D}(h:fL ty d=qq z):tB K ty.s d=qq z:=by
 cases ty<;>cases d<;>first | (cases h;done) | (cases h;rfl)
inductive B where
 | len | mx | mn | int | abs | tup | sum | all | any
 deriving DecidableEq
noncomputable def B.g:B->List D->Option D
 | .len=>fS | .mx=>xG | .mn=>sM | .int=>sX | .abs=>aBP | .tup=>oZ | .sum=>aBS | .all=>wX | .any=>xC
noncomputable def B.n:B->Str
 | .len => "len" | .mx => "max" | .mn => "min" | .int => "int" | .abs => "abs" | .tup => "tuple" | .sum => "sum" | .all => "all" | .any => "any"
inductive E where
 | var (i:Nat) | int (i:Int) | bl (b:Bool) | non | str (x:Str)
 | bin (op:vj) (a b:E) | un (op:kq) (a:E) | cmp (op:vk) (a b:E) | ltl (a b:E)
 | and (a b:E) | or (a b:E) | not (a:E) | ite (c a b:E)
 | tup (es:E) | lst (es:E) | nil | cons (a r:E)
 | chn (op op':vk) (a b c:E) | con (x:Str) (ts:List Tv)
 | ix (a b:E) | dsp (k l m:Str) (a b c i:E) | tab (x:Str) (aH:List (Str×Tv)) (k:E) | slL (a lo hi:E) | sl (a lo hi:E) | no
 | call (f:Nat) (es:E) | blt (b:B) (es:E) | isi (a:E) (n:Ty) | bits (a:E) | app (o a:E) | pop (o a:E) | idx (o a:E)
 | lof (a:E) | lzip (a b:E) | lrg1 (a:E) | lrg2 (a b:E) | srt (a:E) | lrev (a:E) | lrep (a b:E) | comp (elt:E) (t:Tg) (it:E) (cond:E)
 | it (a:E) | rng1 (a:E) | rng2 (a b:E) | rng3 (a b c:E) | rrng (a:E) | enm (a:E) | zip (a b:E) | zip3 (a b c:E)
 | fz (a:E) | new (a:E)
 | its (a:E) | ins (n:Bool) (a b:E) | st1 (a:E) | itx (a:E) | spl (a b:E) | jn (a b:E) | intb (x:Str) (aH:List (Str×Tv)) (k:E) | gst (x y:Str)
abbrev Calls:=Nat->Option (Nat×(List W->aC->Option (W×aC)))
noncomputable def iM(C:Calls)(f:Nat)(fs:FA):FE:=λ env S=>match C f with
 | some (np,call)=>sA fs np call env S
 | none=>qz
section
variable (C : Calls)
mutual
noncomputable def ev:E->FE
 | .var i=>dW i
 | .int i=>fC (.int i)
 | .bl b=>fC (.bool b)
 | .non=>fC .none
 | .str x=>fC (.str x)
 | .bin op a b=>nM op (ev a) (ev b)
 | .cmp op a b=>kA op (ev a) (ev b)
 | .and a b=>sC (ev a) (ev b)
 | .or a b=>xB (ev a) (ev b)
 | .not a=>wC (ev a)
 | .ite c a b=>nT (tv c) (ev a) (ev b)
 | .tup es=>sL (av es)
 | .ix a b=>qD (ev a) (ev b)
 | .tab _ aH k=>f1 (ev k) (dE (wS aH))
 | .con _ ts=>fC (.tuple (ts.map Tv.d))
 | .sl a lo hi=>fO (ev a) (ov lo) (ov hi)
 | .call f es=>iM C f (av es)
 | .blt b es=>pU (av es) b.g
 | .isi a n=>f1 (ev a) (dE (fL n))
 | .app o a=>hU (ev o) (ev a)
 | .fz a=>fY (lv a)
 | .new a=>gK (lv a)
 | .ins n a b=>nQ n (ev a) (ev b)
 | .st1 a=>f1 (ev a) (dE pS)
 | .itx a=>f1 (ev a) (dE sV)
 | .jn a b=>nV (ev a) (ev b)
 | .intb _ aH k=>f1 (ev k) (dE (wA aH))
 | .gst _ y=>fC (.str y)
 | _=>λ _ _=>qz
noncomputable def tv:E->FT
 | .and a b=>wY (tv a) (tv b)
 | .or a b=>yQ (tv a) (tv b)
 | .not a=>xD (tv a)
 | .var i=>cJ (dW i)
 | .cmp op a b=>cJ (kA op (ev a) (ev b))
 | .ix a b=>cJ (qD (ev a) (ev b))
 | .call f es=>cJ (iM C f (av es))
 | .blt b es=>cJ (pU (av es) b.g)
 | .isi a n=>cJ (f1 (ev a) (dE (fL n)))
 | .bin op a b=>cJ (nM op (ev a) (ev b))
 | .bl b=>cJ (fC (.bool b))
 | .no=>nK
 | .ins n a b=>cJ (nQ n (ev a) (ev b))
 | _=>λ _ _=>qz
noncomputable def av:E->FA
 | .nil=>eJ
 | .cons a r=>cH (ev a) (av r)
 | _=>λ _ _=>qz
noncomputable def ov:E->FO
 | .no=>gM
 | .cons a .nil=>eD (ev a)
 | _=>λ _ _=>qz
noncomputable def lv:E->FL
 | .lst es=>lC (av es)
 | .lof a=>wU (ev a)
 | .comp elt t it cond=>gI t (lv it) (tv cond) (ev elt)
 | .it a=>eN (ev a)
 | .rng1 a=>rY (ev a)
 | .enm a=>rM (ev a)
 | .zip a b=>xL (ev a) (ev b)
 | .its a=>wW (ev a)
 | .spl a b=>xJ (ev a) (ev b)
 | _=>λ _ _=>qz
end
inductive Sx where
 | skip | seq (a b:Sx) | expr (e:E) | ret (e:E)
 | ifs (c:E) (a b:Sx) | set (i:Nat) (e:E) | setC (nw:Bool) (i:Nat) (e:E) | setT (t:Tg) (e:E) | put (o i e:E)
 | loop (t:Tg) (it:E) (b:Sx)
noncomputable def xs:Sx->FS
 | .skip=>mW
 | .seq a b=>cY (xs a) (xs b)
 | .expr e=>sF (ev C e)
 | .ret e=>lY (ev C e)
 | .ifs c a b=>mF (tv C c) (xs a) (xs b)
 | .set i e=>dX i (ev C e)
 | .setC nw i e=>dX i (match nw with | true=>gK (lv C e) | false=>fY (lv C e))
 | .setT t e=>lT t (ev C e)
 | .put o i e=>nP (ev C o) (ev C i) (ev C e)
 | .loop t it b=>jH t (lv C it) (xs b)
theorem aNe{i}:ev C (.var i)=dW i:=rfl
theorem aLp{i}:ev C (.int i)=fC (.int i):=rfl
theorem aOV{b}:ev C (.bl b)=fC (.bool b):=rfl
theorem aLj:ev C .non=fC .none:=rfl
theorem aLT{x}:ev C (.str x)=fC (.str x):=rfl
theorem aMs{op a b}:ev C (.bin op a b)=nM op (ev C a) (ev C b):=rfl
theorem aL6{op a b}:ev C (.cmp op a b)=kA op (ev C a) (ev C b):=rfl
theorem aNg{a b}:ev C (.and a b)=sC (ev C a) (ev C b):=rfl
theorem aNM{a b}:ev C (.or a b)=xB (ev C a) (ev C b):=rfl
theorem aLh{a}:ev C (.not a)=wC (ev C a):=rfl
theorem aMZ{c a b}:ev C (.ite c a b)=nT (tv C c) (ev C a) (ev C b):=rfl
theorem aL2{es}:ev C (.tup es)=sL (av C es):=rfl
theorem aOq{a b}:ev C (.ix a b)=qD (ev C a) (ev C b):=rfl
theorem aLq{n0 aH k}:ev C (.tab n0 aH k)=f1 (ev C k) (dE (wS aH)):=rfl
theorem aLK{n0 ts}:ev C (.con n0 ts)=fC (.tuple (ts.map Tv.d)):=rfl
theorem aBv{a lo hi}:ev C (.sl a lo hi)=fO (ev C a) (ov C lo) (ov C hi):=rfl
theorem aK6{f es}:ev C (.call f es)=iM C f (av C es):=rfl
theorem aNm{b es}:ev C (.blt b es)=pU (av C es) b.g:=rfl
theorem aNw{a n}:ev C (.isi a n)=f1 (ev C a) (dE (fL n)):=rfl
theorem aLb{o a}:ev C (.app o a)=hU (ev C o) (ev C a):=rfl
theorem aNY{a}:ev C (.fz a)=fY (lv C a):=rfl
theorem aMF{a}:ev C (.new a)=gK (lv C a):=rfl
theorem aMN{n a b}:ev C (.ins n a b)=nQ n (ev C a) (ev C b):=rfl
theorem aM3{a}:ev C (.st1 a)=f1 (ev C a) (dE pS):=rfl
theorem aLm{a}:ev C (.itx a)=f1 (ev C a) (dE sV):=rfl
theorem aNK{a b}:ev C (.jn a b)=nV (ev C a) (ev C b):=rfl
theorem aKh{n0 aH k}:ev C (.intb n0 aH k)=f1 (ev C k) (dE (wA aH)):=rfl
theorem aMY{n0 y}:ev C (.gst n0 y)=fC (.str y):=rfl
theorem aNl{n a b}:tv C (.ins n a b)=cJ (nQ n (ev C a) (ev C b)):=rfl
theorem aLX{a}:lv C (.its a)=wW (ev C a):=rfl
theorem aNy{a b}:lv C (.spl a b)=xJ (ev C a) (ev C b):=rfl
theorem aMP{a b}:tv C (.and a b)=wY (tv C a) (tv C b):=rfl
theorem aOd{a b}:tv C (.or a b)=yQ (tv C a) (tv C b):=rfl
theorem aMp{a}:tv C (.not a)=xD (tv C a):=rfl
theorem aLH{i}:tv C (.var i)=cJ (dW i):=rfl
theorem aMf{op a b}:tv C (.cmp op a b)=cJ (kA op (ev C a) (ev C b)):=rfl
theorem aOp{a b}:tv C (.ix a b)=cJ (qD (ev C a) (ev C b)):=rfl
theorem aK7{f es}:tv C (.call f es)=cJ (iM C f (av C es)):=rfl
theorem aMG{b es}:tv C (.blt b es)=cJ (pU (av C es) b.g):=rfl
theorem aLs{a n}:tv C (.isi a n)=cJ (f1 (ev C a) (dE (fL n))):=rfl
theorem aLo{op a b}:tv C (.bin op a b)=cJ (nM op (ev C a) (ev C b)):=rfl
theorem aN6{b}:tv C (.bl b)=cJ (fC (.bool b)):=rfl
theorem aOJ:tv C .no=nK:=rfl
theorem aLP:av C .nil=eJ:=rfl
theorem aKi{a r}:av C (.cons a r)=cH (ev C a) (av C r):=rfl
theorem aOC:ov C .no=gM:=rfl
theorem aJT{a}:ov C (.cons a .nil)=eD (ev C a):=rfl
theorem aMW{es}:lv C (.lst es)=lC (av C es):=rfl
theorem aL8{a}:lv C (.lof a)=wU (ev C a):=rfl
theorem aKc{elt t it cond}:lv C (.comp elt t it cond)=gI t (lv C it) (tv C cond) (ev C elt):=rfl
theorem sI{a}:lv C (.it a)=eN (ev C a):=rfl
theorem rD{a}:lv C (.rng1 a)=rY (ev C a):=rfl
theorem pD{a}:lv C (.enm a)=rM (ev C a):=rfl
theorem rL{a b}:lv C (.zip a b)=xL (ev C a) (ev C b):=rfl
theorem aD3:xs C .skip=mW:=rfl
theorem mS{a b}:xs C (.seq a b)=cY (xs C a) (xs C b):=rfl
theorem aJL{e}:xs C (.expr e)=sF (ev C e):=rfl
theorem aER{e}:xs C (.ret e)=lY (ev C e):=rfl
theorem rK{c a b}:xs C (.ifs c a b)=mF (tv C c) (xs C a) (xs C b):=rfl
theorem vN{i e}:xs C (.set i e)=dX i (ev C e):=rfl
theorem aAH{nw i e}:xs C (.setC nw i e)=dX i (match nw with | true=>gK (lv C e) | false=>fY (lv C e)):=rfl
theorem aKf{t e}:xs C (.setT t e)=lT t (ev C e):=rfl
theorem aLc{o i e}:xs C (.put o i e)=nP (ev C o) (ev C i) (ev C e):=rfl
theorem aKx{t it b}:xs C (.loop t it b)=jH t (lv C it) (xs C b):=rfl
end
theorem no{P:Prop}(h:false=true):P:=by cases h
theorem bW{a b:Bool}(h:(a&&b)=true):a=true/\b=true:=by
 cases a with
 | false=>exact no h
 | true=>exact⟨rfl,h⟩
theorem aL{a b:Bool}(h:(a&&b)=true):a=true:=(bW h).1
theorem aR{a b:Bool}(h:(a&&b)=true):b=true:=(bW h).2
theorem dM{c:Prop}{d:Decidable c}{f:c->Bool}(h:(@dite _ c d f λ _=>false)=true):c:=by
 cases d with
 | isTrue k=>exact k
 | isFalse _=>exact no h
noncomputable def dY(k:Str->Pos->Bool)(x:qw):Bool:=if h:x.ctorIdx=23 then @Expr.Name.elim (λ _=>Bool) x h k else false
theorem eK{P:qw->Prop}{k:Str->Pos->Bool}{x:qw}(h:dY k x=true)(g:∀ a b,k a b=true->P (.Name a b)):P x:=@Expr.Name.elim (λ e=>dY k e=true->P e) x (dM h) g h
noncomputable def kCo(k:Const->Nat->Pos->Bool)(x:qw):Bool:=if h:x.ctorIdx=19 then @Expr.Constant.elim (λ _=>Bool) x h k else false
theorem aPe{P:qw->Prop}{k:Const->Nat->Pos->Bool}{x:qw}(h:kCo k x=true)(g:∀ a b c,k a b c=true->P (.Constant a b c)):P x:=@Expr.Constant.elim (λ e=>kCo k e=true->P e) x (dM h) g h
noncomputable def tP(k:qw->vj->qw->Pos->Bool)(x:qw):Bool:=if h:x.ctorIdx=2 then @Expr.BinOp.elim (λ _=>Bool) x h k else false
theorem aGn{P:qw->Prop}{k:qw->vj->qw->Pos->Bool}{x:qw}(h:tP k x=true)(g:∀ a b c d,k a b c d=true->P (.BinOp a b c d)):P x:=@Expr.BinOp.elim (λ e=>tP k e=true->P e) x (dM h) g h
noncomputable def xX(k:kq->qw->Pos->Bool)(x:qw):Bool:=if h:x.ctorIdx=3 then @Expr.UnaryOp.elim (λ _=>Bool) x h k else false
theorem aFZ{P:qw->Prop}{k:kq->qw->Pos->Bool}{x:qw}(h:xX k x=true)(g:∀ a b c,k a b c=true->P (.UnaryOp a b c)):P x:=@Expr.UnaryOp.elim (λ e=>xX k e=true->P e) x (dM h) g h
noncomputable def kCm(k:qw->List vk->List qw->Pos->Bool)(x:qw):Bool:=if h:x.ctorIdx=15 then @Expr.Compare.elim (λ _=>Bool) x h k else false
theorem aPu{P:qw->Prop}{k:qw->List vk->List qw->Pos->Bool}{x:qw}(h:kCm k x=true)(g:∀ a b c d,k a b c d=true->P (.Compare a b c d)):P x:=@Expr.Compare.elim (λ e=>kCm k e=true->P e) x (dM h) g h
noncomputable def kBo(k:BoolOp->List qw->Pos->Bool)(x:qw):Bool:=if h:x.ctorIdx=0 then @Expr.BoolOp.elim (λ _=>Bool) x h k else false
theorem aPM{P:qw->Prop}{k:BoolOp->List qw->Pos->Bool}{x:qw}(h:kBo k x=true)(g:∀ a b c,k a b c=true->P (.BoolOp a b c)):P x:=@Expr.BoolOp.elim (λ e=>kBo k e=true->P e) x (dM h) g h
noncomputable def kIe(k:qw->qw->qw->Pos->Bool)(x:qw):Bool:=if h:x.ctorIdx=5 then @Expr.IfExp.elim (λ _=>Bool) x h k else false
theorem aPx{P:qw->Prop}{k:qw->qw->qw->Pos->Bool}{x:qw}(h:kIe k x=true)(g:∀ a b c d,k a b c d=true->P (.IfExp a b c d)):P x:=@Expr.IfExp.elim (λ e=>kIe k e=true->P e) x (dM h) g h
noncomputable def mE(k:List qw->Nat->Pos->Bool)(x:qw):Bool:=if h:x.ctorIdx=25 then @Expr.Tuple.elim (λ _=>Bool) x h k else false
theorem mC{P:qw->Prop}{k:List qw->Nat->Pos->Bool}{x:qw}(h:mE k x=true)(g:∀ a b c,k a b c=true->P (.Tuple a b c)):P x:=@Expr.Tuple.elim (λ e=>mE k e=true->P e) x (dM h) g h
noncomputable def qC(k:List qw->Pos->Bool)(x:qw):Bool:=if h:x.ctorIdx=24 then @Expr.List.elim (λ _=>Bool) x h k else false
theorem wV{P:qw->Prop}{k:List qw->Pos->Bool}{x:qw}(h:qC k x=true)(g:∀ a b,k a b=true->P (.List a b)):P x:=@Expr.List.elim (λ e=>qC k e=true->P e) x (dM h) g h
noncomputable def yR(k:qw->qw->Pos->Bool)(x:qw):Bool:=if h:x.ctorIdx=21 then @Expr.Subscript.elim (λ _=>Bool) x h k else false
theorem aGa{P:qw->Prop}{k:qw->qw->Pos->Bool}{x:qw}(h:yR k x=true)(g:∀ a b c,k a b c=true->P (.Subscript a b c)):P x:=@Expr.Subscript.elim (λ e=>yR k e=true->P e) x (dM h) g h
noncomputable def kSl(k:Option qw->Option qw->Option qw->Pos->Bool)(x:qw):Bool:=if h:x.ctorIdx=26 then @Expr.Slice.elim (λ _=>Bool) x h k else false
theorem aPH{P:qw->Prop}{k:Option qw->Option qw->Option qw->Pos->Bool}{x:qw}(h:kSl k x=true)(g:∀ a b c d,k a b c d=true->P (.Slice a b c d)):P x:=@Expr.Slice.elim (λ e=>kSl k e=true->P e) x (dM h) g h
noncomputable def xZ(k:qw->List qw->List Keyword->Pos->Bool)(x:qw):Bool:=if h:x.ctorIdx=16 then @Expr.Call.elim (λ _=>Bool) x h k else false
theorem aGg{P:qw->Prop}{k:qw->List qw->List Keyword->Pos->Bool}{x:qw}(h:xZ k x=true)(g:∀ a b c d,k a b c d=true->P (.Call a b c d)):P x:=@Expr.Call.elim (λ e=>xZ k e=true->P e) x (dM h) g h
noncomputable def yB(k:qw->Str->Pos->Bool)(x:qw):Bool:=if h:x.ctorIdx=20 then @Expr.Attribute.elim (λ _=>Bool) x h k else false
theorem aGh{P:qw->Prop}{k:qw->Str->Pos->Bool}{x:qw}(h:yB k x=true)(g:∀ a b c,k a b c=true->P (.Attribute a b c)):P x:=@Expr.Attribute.elim (λ e=>yB k e=true->P e) x (dM h) g h
noncomputable def kLc(k:qw->List Comprehension->zy->Pos->Bool)(x:qw):Bool:=if h:x.ctorIdx=8 then @Expr.ListComp.elim (λ _=>Bool) x h k else false
theorem aO9{P:qw->Prop}{k:qw->List Comprehension->zy->Pos->Bool}{x:qw}(h:kLc k x=true)(g:∀ a b c d,k a b c d=true->P (.ListComp a b c d)):P x:=@Expr.ListComp.elim (λ e=>kLc k e=true->P e) x (dM h) g h
noncomputable def tU(k:qw->Pos->Bool)(x:zk):Bool:=if h:x.ctorIdx=24 then @Stmt.Expr.elim (λ _=>Bool) x h k else false
theorem aBY{P:zk->Prop}{k:qw->Pos->Bool}{x:zk}(h:tU k x=true)(g:∀ a b,k a b=true->P (.Expr a b)):P x:=@Stmt.Expr.elim (λ e=>tU k e=true->P e) x (dM h) g h
noncomputable def yF(k:Option qw->Pos->Bool)(x:zk):Bool:=if h:x.ctorIdx=3 then @Stmt.Return.elim (λ _=>Bool) x h k else false
theorem aF5{P:zk->Prop}{k:Option qw->Pos->Bool}{x:zk}(h:yF k x=true)(g:∀ a b,k a b=true->P (.Return a b)):P x:=@Stmt.Return.elim (λ e=>yF k e=true->P e) x (dM h) g h
noncomputable def yN(k:qw->List zk->List zk->Pos->Bool)(x:zk):Bool:=if h:x.ctorIdx=12 then @Stmt.If.elim (λ _=>Bool) x h k else false
theorem aFX{P:zk->Prop}{k:qw->List zk->List zk->Pos->Bool}{x:zk}(h:yN k x=true)(g:∀ a b c d,k a b c d=true->P (.If a b c d)):P x:=@Stmt.If.elim (λ e=>yN k e=true->P e) x (dM h) g h
noncomputable def iE(k:List qw->qw->Pos->Bool)(x:zk):Bool:=if h:x.ctorIdx=5 then @Stmt.Assign.elim (λ _=>Bool) x h k else false
theorem jF{P:zk->Prop}{k:List qw->qw->Pos->Bool}{x:zk}(h:iE k x=true)(g:∀ a b c,k a b c=true->P (.Assign a b c)):P x:=@Stmt.Assign.elim (λ e=>iE k e=true->P e) x (dM h) g h
noncomputable def xW(k:qw->qw->List zk->List zk->Pos->Bool)(x:zk):Bool:=if h:x.ctorIdx=9 then @Stmt.For.elim (λ _=>Bool) x h k else false
theorem aF1{P:zk->Prop}{k:qw->qw->List zk->List zk->Pos->Bool}{x:zk}(h:xW k x=true)(g:∀ a b c d e,k a b c d e=true->P (.For a b c d e)):P x:=@Stmt.For.elim (λ e=>xW k e=true->P e) x (dM h) g h
noncomputable def gL{α:Type}(k:α->Bool)(l:List α):Bool:=match l with
 | [a]=>k a
 | _=>false
theorem fQ{α:Type}{P:List α->Prop}{k:α->Bool}:∀ {l:List α},gL k l=true->(∀ a,k a=true->P [a])->P l
 | [],h,_=>no h
 | [a],h,g=>g a h
 | _::_::_,h,_=>no h
noncomputable def aBJ{α:Type}(k:α->α->Bool)(l:List α):Bool:=match l with
 | a::r=>gL (k a) r
 | []=>false
theorem aFS{α:Type}{P:List α->Prop}{k:α->α->Bool}:∀ {l:List α},aBJ k l=true->(∀ a b,k a b=true->P [a,b])->P l
 | [],h,_=>no h
 | a::_,h,g=>fQ (P:=λ r=>P (a::r)) h (g a)
theorem eE{α:Type}{P:List α->Prop}:∀ {l:List α},l.isEmpty=true->P []->P l
 | [],_,g=>g
 | _::_,h,_=>no h
noncomputable def sN{α:Type}(o:Option α):Bool:=match o with
 | none=>true
 | some _=>false
theorem wI{α:Type}{P:Option α->Prop}:∀ {o:Option α},sN o=true->P qz->P o
 | none,_,g=>g
 | some _,h,_=>no h
theorem pP{α:Type}{P:Option α->Prop}{k:α->Bool}:∀ {o:Option α},o.any k=true->(∀ a,k a=true->P (qq a))->P o
 | none,h,_=>no h
 | some a,h,g=>g a h
theorem dT{p:Prop}{d:Decidable p}(h:decide p=true):p:=oqT h
noncomputable def iU(sc:zy)(x:Str):Bool:=match sc.names.lookup x with
 | some .local=>true | some .cell=>true | some .free=>true | _=>false
noncomputable def loc(sc:zy)(x:Str):Bool:=match sc.names.lookup x with
 | some .local=>true | some .cell=>true | _=>false
noncomputable def aFK(e:E):Bool:=decide (e.ctorIdx=E.nil.ctorIdx)
theorem aPL{P:E->Prop}{e:E}(h:aFK e=true)(g:P .nil):P e:=@E.nil.elim P e (dT h) g
theorem aIQ{α:Type}{o:Option α}{p:α->Bool}(h:o.any p=true):∃ a,o=qq a/\p a=true:=by
 cases o with
 | none=>cases h
 | some a=>exact⟨a,rfl,h⟩
noncomputable def lo(sc:zy)(x:Str):Bool:=decide (sc.names.lookup x=qq .local)
noncomputable def gl(sc:zy)(x:Str):Bool:=decide (sc.names.lookup x=qq .globalImplicit)
noncomputable def bS(e:qw):Bool:=![7,22,26].contains e.ctorIdx
noncomputable def kG(e:qw):Bool:=![0,3,5,15].contains e.ctorIdx
noncomputable def vW(e:qw):Bool:=![16].contains e.ctorIdx
noncomputable def eW(e:qw):Bool:=![8,9,10].contains e.ctorIdx
noncomputable def sH(e:qw):Bool:=mE (λ _ _ _=>true) e
noncomputable def kN:List qw->Bool
 | []=>true
 | e::r=>bS e&&kN r
noncomputable def nS(scope osc:zy):zy:={scope with names:=scope.names.map λ(n,k)=>if (k==.free&&osc.kind==.function&&osc.names.lookup n==qq .cell) then (n,.cell) else (n,k) }
noncomputable def aBp(scope osc:zy):Bool:=decide (scope.kind=.function)&&scope.names.all λ x=>(!decide (x.2=.cell))&&(!decide (x.2=.free)||decide (osc.names.lookup x.1=qq .cell)||decide (osc.names.lookup x.1=qq .free))&&(!decide (x.2=.local)||decide (scope.names.lookup x.1=qq .local))
noncomputable def xO(N:List Str)(scope:zy)(is:List Nat):Nat->Bool
 | 0=>true
 | n+1=>xO N scope is n&&(match N[n]? with
   | some x=>!decide (scope.names.lookup x=qq .local)||is.contains n
   | none=>true)
noncomputable def aBa(b:Bool)(N:List Str)(sc:zy)(i:Nat)(x:Str):Bool:=decide (N[i]? = qq x)&&(match b with
 | true=>decide (sc.names.lookup x=qq .local)
 | false=>loc sc x)
noncomputable def aAN(b:Bool)(N:List Str)(sc:zy):List Nat->List qw->Bool
 | [],es=>es.isEmpty
 | i::is,es=>(match es with
   | e::r=>dY (λ x _=>aBa b N sc i x&&aAN b N sc is r) e
   | []=>false)
noncomputable def qA(b:Bool)(N:List Str)(sc:zy)(t:Tg)(e:qw):Bool:=match t with
 | .one i=>dY (λ x _=>aBa b N sc i x) e
 | .many is=>mE (λ es _ _=>aAN b N sc is es) e
noncomputable def aEu(e:E):Bool:=decide (e.ctorIdx=(E.comp .no (.one 0) .no .no).ctorIdx)
theorem aPw{P:E->Prop}{e:E}(h:aEu e=true)(g:∀ a t b c,P (.comp a t b c)):P e:=@E.comp.elim P e (dT h) g
noncomputable def aBO(e:E):Bool:=decide (e.ctorIdx=E.no.ctorIdx)
theorem aGv{P:E->Prop}{e:E}(h:aBO e=true)(g:P .no):P e:=@E.no.elim P e (dT h) g
noncomputable def kZ(c:Const)(e:qw):Bool:=kCo (λ d _ _=>decide (d=c)) e
theorem nE{P:qw->Prop}{c:Const}{x:qw}(h:kZ c x=true)(g:∀ k p,P (.Constant c k p)):P x:=
 aPe h λ _ k p z=>(dT z)▸g k p
noncomputable def nI(k:qw->vk->qw->Bool)(e:qw):Bool:=kCm (λ x os ys _=>gL (λ o=>gL (λ y=>k x o y&&bS y) ys) os) e
theorem pO{P:qw->Prop}{k:qw->vk->qw->Bool}{x:qw}(h:nI k x=true)(g:∀ a o b p,k a o b=true->bS b=true->P (.Compare a [o] [b] p)):P x:=
 aPu h λ a os _ p z=>fQ (P:=λ os=>P (.Compare a os _ p)) z λ o z=>fQ (P:=λ ys=>P (.Compare a [o] ys p)) z λ b z=>g a o b p (aL z) (aR z)
noncomputable def pL(op:BoolOp)(k:qw->qw->Bool)(e:qw):Bool:=kBo (λ o es p=>decide (o=op)&&(match es with
 | [x,y]=>k x y
 | x::y::z::r=>k x (.BoolOp op (y::z::r) p)
 | _=>false)) e
theorem rR{P:qw->Prop}{op:BoolOp}{k:qw->qw->Bool}{x:qw}(h:pL op k x=true)(g:∀ a b p,k a b=true->P (.BoolOp op [a,b] p))(f:∀ a b c r p,k a (.BoolOp op (b::c::r) p)=true->P (.BoolOp op (a::b::c::r) p)):P x:=
 aPM h λ o es p z=>by
  obtain rfl:=dT (aL z)
  match es,aR z with
  | [a,b],z=>exact g a b p z
  | a::b::c::r,z=>exact f a b c r p z
  | [],z=>exact no z
  | [_],z=>exact no z
noncomputable def tW(k:qw->qw->Bool)(e:qw):Bool:=yR (λ x y _=>k x y&&bS y) e
theorem aBD{P:qw->Prop}{k:qw->qw->Bool}{x:qw}(h:tW k x=true)(g:∀ a b p,k a b=true->bS b=true->P (.Subscript a b p)):P x:=aGa h λ a b p z=>g a b p (aL z) (aR z)
noncomputable def aGd(k:qw->Option qw->Option qw->Bool)(e:qw):Bool:=yR (λ x s _=>kSl (λ l h t _=>sN t&&k x l h) s) e
theorem aO2{P:qw->Prop}{k:qw->Option qw->Option qw->Bool}{x:qw}(h:aGd k x=true)(g:∀ a l u p q,k a l u=true->P (.Subscript a (.Slice l u qz p) q)):P x:=
 aGa h λ a _ q z=>aPH (P:=λ s=>P (.Subscript a s q)) z λ l u _ p z=>wI (P:=λ t=>P (.Subscript a (.Slice l u t p) q)) (aL z) (g a l u p q (aR z))
noncomputable def iP(k:Str->List qw->Bool)(e:qw):Bool:=xZ (λ f xs ks _=>dY (λ n _=>ks.isEmpty&&k n xs) f) e
theorem kS{P:qw->Prop}{k:Str->List qw->Bool}{x:qw}(h:iP k x=true)(g:∀ n p xs q,k n xs=true->P (.Call (.Name n p) xs [] q)):P x:=
 aGg h λ _ xs ks q z=>eK (P:=λ f=>P (.Call f xs ks q)) z λ n p z=>eE (P:=λ ks=>P (.Call (.Name n p) xs ks q)) (aL z) (g n p xs q (aR z))
noncomputable def qH(nm:Str)(sc:zy)(k:qw->Bool)(e:qw):Bool:=iP (λ n xs=>decide (n=nm)&&gl sc n&&gL (λ y=>k y&&bS y) xs) e
theorem tJ{P:qw->Prop}{nm:Str}{sc:zy}{k:qw->Bool}{x:qw}(h:qH nm sc k x=true)(g:∀ p y q,gl sc nm=true->k y=true->bS y=true->P (.Call (.Name nm p) [y] [] q)):P x:=
 kS h λ n p xs q z=>by
  obtain rfl:=dT (aL (aL z));exact fQ (P:=λ xs=>P (.Call (.Name n p) xs [] q)) (aR z) λ y u=>g p y q (aR (aL z)) (aL u) (aR u)
noncomputable def nY(nm:Str)(sc:zy)(k l:qw->Bool)(e:qw):Bool:=iP (λ n xs=>decide (n=nm)&&gl sc n&&aBJ (λ y z=>(k y&&bS y)&&(l z&&bS z)) xs) e
theorem sY{P:qw->Prop}{nm:Str}{sc:zy}{k l:qw->Bool}{x:qw}(h:nY nm sc k l x=true)(g:∀ p y z q,gl sc nm=true->k y=true->bS y=true->l z=true->bS z=true->P (.Call (.Name nm p) [y,z] [] q)):P x:=
 kS h λ n p xs q z=>by
  obtain rfl:=dT (aL (aL z));exact aFS (P:=λ xs=>P (.Call (.Name n p) xs [] q)) (aR z) λ y w u=>g p y w q (aR (aL z)) (aL (aL u)) (aR (aL u)) (aL (aR u)) (aR (aR u))
noncomputable def kMe(nm:Str)(k:qw->List qw->Bool)(e:qw):Bool:=xZ (λ f xs ks cp=>yB (λ o m ap=>ks.isEmpty&&(ap.endLine==cp.line)&&decide (m=nm)&&vW o&&k o xs) f) e
theorem aPh{P:qw->Prop}{nm:Str}{k:qw->List qw->Bool}{x:qw}(h:kMe nm k x=true)(g:∀ o ap xs cp,(ap.endLine==cp.line)=true->vW o=true->k o xs=true->P (.Call (.Attribute o nm ap) xs [] cp)):P x:=
 aGg h λ _ xs ks cp z=>aGh (P:=λ f=>P (.Call f xs ks cp)) z λ o m ap z=>by
  obtain rfl:=dT (aR (aL (aL z)));exact eE (P:=λ ks=>P (.Call (.Attribute o m ap) xs ks cp)) (aL (aL (aL (aL z)))) (g o ap xs cp (aR (aL (aL (aL z)))) (aR (aL z)) (aR z))
noncomputable def tD(nm:Str)(k l:qw->Bool)(e:qw):Bool:=kMe nm (λ o xs=>k o&&gL (λ y=>l y&&bS y) xs) e
theorem vZ{P:qw->Prop}{nm:Str}{k l:qw->Bool}{x:qw}(h:tD nm k l x=true)(g:∀ o ap y cp,(ap.endLine==cp.line)=true->vW o=true->k o=true->l y=true->bS y=true->P (.Call (.Attribute o nm ap) [y] [] cp)):P x:=
 aPh h λ o ap xs cp h1 h2 z=>fQ (P:=λ xs=>P (.Call (.Attribute o nm ap) xs [] cp)) (aR z) λ y u=>g o ap y cp h1 h2 (aL z) (aL u) (aR u)
noncomputable def aFp(k:qw->qw->qw->List qw->zy->Bool)(e:qw):Bool:=kLc (λ el gs sc _=>gL (λ g=>decide (g.is_async=0)&&k el g.target g.iter g.ifs sc) gs) e
theorem aMg{P:qw->Prop}{k:qw->qw->qw->List qw->zy->Bool}{x:qw}(h:aFp k x=true)(g:∀ e tg it ifs sc p,k e tg it ifs sc=true->P (.ListComp e [⟨tg,it,ifs,0⟩] sc p)):P x:=
 aO9 h λ e _ sc p z=>fQ (P:=λ gs=>P (.ListComp e gs sc p)) z λ aK z=>by
  obtain⟨tg,it,ifs,as⟩:=aK;obtain rfl:as=0:=dT (aL z);exact g e tg it ifs sc p (aR z)
noncomputable def aBG(N:List Str)(t:Tg)(cond:E)(sc:zy)(fI:qw->qw->Bool)(fT fE:zy->qw->Bool)(x:qw):Bool:=aFp (λ e tg iter ifs scope=>aBp scope sc&&xO N scope t.slots N.length&&qA true N (nS scope sc) t tg&&fI tg iter&&bS iter &&
 (match ifs with | []=>aBO cond | y::r=>r.isEmpty&&fT (nS scope sc) y)&&fE (nS scope sc) e) x
theorem aBZ{P:qw->Prop}{N:List Str}{t:Tg}{cond:E}{sc:zy}{fI:qw->qw->Bool}{fT fE:zy->qw->Bool}{x:qw}(h:aBG N t cond sc fI fT fE x=true)(g:∀ e tg iter ifs scope p,aBp scope sc=true->xO N scope t.slots N.length=true->qA true N (nS scope sc) t tg=true->fI tg iter=true->bS iter=true->(match ifs with | []=>aBO cond | y::r=>r.isEmpty&&fT (nS scope sc) y)=true->fE (nS scope sc) e=true->P (.ListComp e [⟨tg,iter,ifs,0⟩] scope p)):P x:=
 aMg h λ e tg iter ifs scope p h=>g e tg iter ifs scope p (aL (aL (aL (aL (aL (aL h)))))) (aR (aL (aL (aL (aL (aL h)))))) (aR (aL (aL (aL (aL h))))) (aR (aL (aL (aL h)))) (aR (aL (aL h))) (aR (aL h)) (aR h)
structure Tx where
 fn:List (Str×Nat)
 tb:List (Str×List (Str×Tv))
 cn:List (Str×List Tv)
 st:List (Str×Str)
section
variable (T : Tx)(N : List Str)
mutual
noncomputable def aZ:E->zy->qw->Bool
 | .var i,sc,x=>dY (λ x _=>decide (N[i]? = qq x)&&iU sc x && !(x==("__debug__" : Str)) && !(x==("__classdict__" : Str))) x
 | .int i,_,x=>kZ (.int i) x
 | .bl i,_,x=>kZ (.bool i) x
 | .non,_,x=>kZ .none x
 | .str i,_,x=>kZ (.str i) x
 | .bin op a b,sc,x=>tP (λ x op' y _=>decide (op'=op)&&aZ a sc x&&aZ b sc y) x
 | .cmp op a b,sc,x=>nI (λ x op' y=>decide (op'=op)&&aZ a sc x&&aZ b sc y) x
 | .and a b,sc,x=>pL .And (λ x y=>aZ a sc x&&aZ b sc y) x
 | .or a b,sc,x=>pL .Or (λ x y=>aZ a sc x&&aZ b sc y) x
 | .not a,sc,x=>xX (λ o x _=>decide (o=.Not)&&aZ a sc x) x
 | .ite c a b,sc,x=>kIe (λ x y z _=>jJ c sc x&&aZ a sc y&&aZ b sc z) x
 | .tup es,sc,x=>mE (λ xs _ _=>kJ es sc xs) x
 | .ix a b,sc,x=>tW (λ x y=>aZ a sc x&&aZ b sc y) x
 | .con n ts,sc,x=>dY (λ x _=>decide (x=n)&&T.cn.contains (n,ts)&&gl sc x && !(x==("__debug__" : Str))) x
 | .tab n aH k,sc,x=>tW (λ x y=>aZ k sc y&&dY (λ x _=>decide (x=n)&&T.tb.contains (n,aH)&&gl sc x && !(x==("__debug__" : Str))) x) x
 | .sl a lo hi,sc,x=>aGd (λ x l h=>aZ a sc x&&okO lo sc l&&okO hi sc h) x
 | .call f es,sc,x=>iP (λ x xs=>decide ((T.fn[f]?).map (·.1)=qq x)&&gl sc x && !(x==("__debug__" : Str))&&kJ es sc xs&&kN xs) x
 | .blt b es,sc,x=>iP (λ x ys=>!ys.isEmpty&&decide (x=b.n)&&gl sc x&&kJ es sc ys&&kN ys) x
 | .isi a n,sc,x=>nY "isinstance" sc (λ y=>aZ a sc y) (λ z=>dY (λ z _=>decide (z=n.n)&&gl sc z) z) x
 | .app o a,sc,x=>tD "append" (λ x=>aZ o sc x) (λ y=>aZ a sc y) x
 | .fz a,sc,e=>tV a sc e
 | .new a,sc,e=>tV a sc e
 | .ins n a b,sc,x=>nI (λ x op' y=>decide (op'=mV n)&&aZ a sc x&&aZ b sc y) x
 | .st1 a,sc,x=>qH "str" sc (λ y=>aZ a sc y) x
 | .itx a,sc,x=>qH "int" sc (λ y=>aZ a sc y) x
 | .jn o a,sc,x=>tD "join" (λ x=>aZ o sc x) (λ y=>aZ a sc y) x
 | .intb n aH k,sc,x=>nI (λ x op' y=>decide (op'=.In)&&aZ k sc x&&dY (λ x _=>decide (x=n)&&T.tb.contains (n,aH)&&gl sc x && !(x==("__debug__" : Str))) y) x
 | .gst n y,sc,x=>dY (λ x _=>decide (x=n)&&T.st.contains (n,y)&&gl sc x && !(x==("__debug__" : Str))) x
 | _,_,_=>false
noncomputable def jJ:E->zy->qw->Bool
 | .and a b,sc,x=>pL .And (λ x y=>jJ a sc x&&jJ b sc y) x
 | .or a b,sc,x=>pL .Or (λ x y=>jJ a sc x&&jJ b sc y) x
 | .not a,sc,x=>xX (λ o x _=>decide (o=.Not)&&jJ a sc x) x
 | .cmp op a b,sc,x=>nI (λ x op' y=>decide (op'=op)&&aZ a sc x&&aZ b sc y) x
 | .var i,sc,x=>dY (λ x _=>decide (N[i]? = qq x)&&iU sc x && !(x==("__debug__" : Str)) && !(x==("__classdict__" : Str))) x&&kG x
 | .bl i,_,x=>kZ (.bool i) x&&kG x
 | .bin op a b,sc,x=>tP (λ x op' y _=>decide (op'=op)&&aZ a sc x&&aZ b sc y) x&&kG x
 | .ix a b,sc,x=>tW (λ x y=>aZ a sc x&&aZ b sc y) x&&kG x
 | .call f es,sc,x=>iP (λ x xs=>decide ((T.fn[f]?).map (·.1)=qq x)&&gl sc x && !(x==("__debug__" : Str))&&kJ es sc xs&&kN xs) x&&kG x
 | .blt b es,sc,x=>iP (λ x ys=>!ys.isEmpty&&decide (x=b.n)&&gl sc x&&kJ es sc ys&&kN ys) x&&kG x
 | .isi a n,sc,x=>nY "isinstance" sc (λ y=>aZ a sc y) (λ z=>dY (λ z _=>decide (z=n.n)&&gl sc z) z) x&&kG x
 | .ins n a b,sc,x=>nI (λ x op' y=>decide (op'=mV n)&&aZ a sc x&&aZ b sc y) x
 | _,_,_=>false
noncomputable def kJ:E->zy->List qw->Bool
 | .nil,_,xs=>xs.isEmpty
 | .cons a r,sc,xs=>(match xs with
   | x::xs=>aZ a sc x&&bS x&&kJ r sc xs
   | []=>false)
 | _,_,_=>false
noncomputable def okO:E->zy->Option qw->Bool
 | .no,_,x=>sN x
 | .cons a r,sc,x=>aFK r&&x.any λ x=>aZ a sc x
 | _,_,_=>false
noncomputable def tV:E->zy->qw->Bool
 | .lst es,sc,x=>qC (λ xs _=>kJ es sc xs) x
 | .lof a,sc,x=>qH "list" sc (λ y=>aZ a sc y) x
 | .comp elt t it cond,sc,x=>aBG N t cond sc (λ g y=>tR it sc g y) (λ s y=>jJ cond s y) (λ s y=>aZ elt s y) x
 | .spl o a,sc,x=>tD "split" (λ x=>aZ o sc x) (λ y=>aZ a sc y) x
 | _,_,_=>false
noncomputable def tR:E->zy->qw->qw->Bool
 | .it a,sc,_,x=>aZ a sc x
 | .rng1 a,sc,_,x=>qH "range" sc (λ y=>aZ a sc y) x
 | .zip a b,sc,tg,x=>sH tg&&nY "zip" sc (λ y=>aZ a sc y) (λ z=>aZ b sc z) x
 | .enm a,sc,tg,x=>sH tg&&qH "enumerate" sc (λ y=>aZ a sc y) x
 | .its a,sc,_,x=>aZ a sc x
 | _,_,_,_=>false
end
mutual
noncomputable def okS:Sx->zy->zk->Bool
 | .expr e,sc,st=>tU (λ x _=>aZ T N e sc x&&eW x) st
 | .ret e,sc,st=>yF (λ v _=>v.any λ x=>aZ T N e sc x) st
 | .ifs c a b,sc,st=>yN (λ x y z _=>jJ T N c sc x&&jZ a sc y&&jZ b sc z) st
 | .set i e,sc,st=>iE (λ ts y _=>aZ T N e sc y&&eW y&&gL (λ t=>dY (λ x _=>decide (N[i]? = qq x)&&loc sc x) t) ts) st
 | .setC _ i e,sc,st=>iE (λ ts y _=>aEu e&&tV T N e sc y&&gL (λ t=>dY (λ x _=>decide (N[i]? = qq x)&&loc sc x) t) ts) st
 | .setT t e,sc,st=>iE (λ ts y _=>aZ T N e sc y&&eW y && !sH y&&gL (λ tg=>sH tg&&qA false N sc t tg) ts) st
 | .put o i e,sc,st=>iE (λ ts z _=>aZ T N e sc z&&eW z&&gL (λ t=>tW (λ x y=>aZ T N o sc x&&aZ T N i sc y) t) ts) st
 | .loop t it b,sc,st=>xW (λ tg x y z _=>z.isEmpty&&qA false N sc t tg&&tR T N it sc tg x&&bS x&&jZ b sc y) st
 | _,_,_=>false
noncomputable def jZ:Sx->zy->List zk->Bool
 | .skip,_,l=>l.isEmpty
 | .seq a b,sc,l=>(match l with
   | st::r=>okS a sc st&&jZ b sc r
   | []=>false)
 | _,_,_=>false
end
end
noncomputable def bltNames:List Str:=["len", "max", "min", "int", "abs", "tuple", "sum", "all", "any", "isinstance", "list", "range", "enumerate", "bool", "str", "reversed", "zip", "sorted"]
structure Ctx(T:Tx)(C:Calls)(X:Cx):Prop where
 nd:X.N.Nodup
 calm:X.calm=true
 xe:X.xe=λ _ _=>False
 kind:X.env.scope.kind=.function
 room:∃ k,Room k X.A/\∀ f np call x,C f=qq (np,call)->(T.fn[f]?).map (·.1)=qq x->∃ fa fd ps,X.mg x=qq (.ref fa)/\yBq X.K (.ref fa)=true/\dD X.K fd ps []/\FnOk X.prog X.w X.K X.mg X.base fH k fa fd ps (jL X.K np call)
 blt:∀ x∈bltNames,X.mg x=qz
 tbs:∀ x aH,(x,aH)∈T.tb->∃ a,X.mg x=qq (.ref a)/\lV X.K X.w a aH
 cns:∀ x ts,(x,ts)∈T.cn->∃ a,X.mg x=qq (.ref a)/\nB X.K a ts
 sts:∀ x y,(x,y)∈T.st->∃ t,X.mg x=qq (.str y t)
theorem Ctx.units{T:Tx}{C:Calls}{X:Cx}(h:Ctx T C X):X.A.units+64<cLine:=let ⟨_,r,_⟩:=h.room;r.units
theorem Ctx.own{T:Tx}{C:Calls}{X:Cx}(h:Ctx T C X):PassesOwn (model X.prog X.w) X.A X.env X.xe:=by rw[h.xe];exact PassesOwn.never
theorem Ctx.comp{T:Tx}{C:Calls}{X Y:Cx}{scope:zy}(h:Ctx T C X)(hk:scope.kind=.function)(hy:jC X scope Y):Ctx T C Y/\Y.env.scope=nS scope X.env.scope/\Y.N=X.N/\Y.K=X.K:=by
 obtain⟨aA,fp,Ca,s₀,H₀,rfl⟩:=hy;exact⟨⟨h.nd,h.calm,rfl,hk,h.room,h.blt,h.tbs,h.cns,h.sts⟩,rfl,rfl,rfl⟩
theorem cV{e:qw}(h:bS e=true)(es:List qw)(env:Env):zv (e::es) env=(false,eval e env)::zv es env:=by
 cases e<;>first | rfl | exact no h
theorem qW:∀ {es:List qw} (h:kN es=true) (env:Env) (pos:Pos),(backTo pos (zv es env)).any (·.1)=false
 | [],_,_,_=>rfl
 | e::es,h,env,pos=>by
   obtain⟨h1,h2⟩:=bW h;rw[cV h1];show(false||(backTo pos (zv es env)).any (·.1))=false
   rw[qW h2 env pos];rfl
theorem aFt{e:qw}(h:bS e=true):vH e:=by
 intro o i;cases e<;>first | rfl | exact no h
theorem qU{e:qw}(h:bS e=true)(op:vk):jv op e=false:=by
 cases e<;>first | rfl | exact no h
theorem qO{e:qw}(h:bS e=true)(env:Env)(x:qx):jj e env x=pure x:=by
 cases e<;>first | rfl | exact no h
theorem mM{e:qw}(h:vW e=true)(m:Str)(env:Env):attributeBase e m env (eval e env)=eval e env:=by
 cases e<;>first | rfl | exact no h
theorem lM{e:qw}(h:eW e=true)(t:Option qw)(line:Nat)(env:Env):swapsWith e t line env=pure false:=by
 cases e<;>first | rfl | exact no h
theorem aLB{e:qw}(h:kG e=true)(env:Env)(dZ:Sem qx):isTrue e env dZ=(do let v <- dZ;standAt e.pos;holding [v] (truthy v)):=by
 cases e<;>first | rfl | exact no h
theorem aIq{o i:qw}{pos:Pos}{env:Env}(h:bS i=true)(v:qx):assign (.Subscript o i pos) env v=(do
 let ov <- holding [v] (eval o env)
 let iv <- holding [v,ov] (eval i env)
 standAt pos
 holding [v,ov,iv] (setItem ov iv v)
 release [v,ov,iv] []):=by
 cases i<;>first | rfl | exact no h
section
variable {X : Cx}
theorem aBf{x:Str}(h:iU X.env.scope x=true):lJ X.env.scope x:=by
 unfold iU at h;unfold lJ
 split at h<;>first | exact .inl (by assumption) | exact .inr (.inl (by assumption)) | exact .inr (.inr (by assumption)) | exact no h
theorem oW{x:Str}(h:loc X.env.scope x=true):L2.Loc X.env.scope x:=by
 unfold loc at h;unfold L2.Loc
 split at h<;>first | exact .inl (by assumption) | exact .inr (by assumption) | exact no h
theorem cS{x:Str}(h:gl X.env.scope x=true):Gl X x:=(oqT h:X.env.scope.names.lookup x=qq .globalImplicit)
theorem dC{x y:Str}(h:(!(x==y))=true):(x==y)=false:=by
 cases e:x==y with
 | false=>rfl
 | true=>rw[e] at h;exact no h
def aAX(b:Bool)(X:Cx):Prop:=b=true\/∀ x,X.fn x=true
theorem aEb{b:Bool}(st:aAX b X){i:Nat}{x:Str}(h:aBa b X.N X.env.scope i x=true):X.N[i]? = qq x/\L2.Loc X.env.scope x/\(X.fn x=true\/X.env.scope.names.lookup x=qq .local):=by
 obtain⟨h1,h2⟩:=bW h;cases b with
 | true =>
   have h3:=oqT h2;exact⟨oqT h1,.inl h3,.inr h3⟩
 | false =>
   refine⟨oqT h1,oW h2,?_⟩;rcases st with z | z
   ·cases z
   ·exact .inl (z x)
noncomputable def sW:List Nat->iC
 | []=>aBC
 | i::is=>aBt (lX i) (sW is)
noncomputable def nX(K:FrG):Tg->TG
 | .one i=>lX i
 | .many is=>aBM K is.length (sW is)
theorem aE4(K:FrG):∀ is:List Nat,uA K is (sW is)
 | []=>aKk
 | _::is=>aJt (aE4 K is)
theorem pM(K:FrG)(t:Tg):GA K t (nX K t):=by
 cases t with
 | one i=>exact aLC i
 | many is=>exact aKE (aE4 K is)
theorem aDO{b:Bool}(st:aAX b X)(nd:X.N.Nodup):∀ {is:List Nat}{es:List qw},aAN b X.N X.env.scope is es=true->nU X es (sW is)/\(xj es X.env).length=is.length/\(xj es X.env).findIdx? (·.1)=qz
 | [],[],_=>⟨aJX,rfl,rfl⟩
 | [],_::_,h=>no h
 | _::_,[],h=>no h
 | i::is,e::r,h=>eK (P:=λ e=>nU X (e::r) (sW (i::is))/\(xj (e::r) X.env).length=(i::is).length/\(xj (e::r) X.env).findIdx? (·.1)=qz) h λ x p h=>by
   obtain⟨a1,a2,a3⟩:=aEb st (aL h);obtain⟨pg,hl2,hf⟩:=aDO st nd (aR h);refine⟨aJx (aAQ nd a1 a2 a3) pg rfl,?_,?_⟩
   ·show((false,assign (.Name x p) X.env)::xj r X.env).length=_;rw[yCh,yCh,hl2]
   ·show((false,assign (.Name x p) X.env)::xj r X.env).findIdx? (·.1)=qz;rw[List.findIdx?_cons,hf];rfl
theorem pJ{b:Bool}(st:aAX b X)(nd:X.N.Nodup)(hc:X.calm=true){t:Tg}{tg:qw}(h:qA b X.N X.env.scope t tg=true):PG X tg (nX X.K t):=by
 cases t with
 | one i=>exact eK (P:=λ e=>PG X e (lX i)) h λ x p h=>let ⟨a1,a2,a3⟩:=aEb st h;aAQ nd a1 a2 a3
 | many is=>exact mC (P:=λ e=>PG X e (nX X.K (.many is))) h λ es k p h=>let ⟨pg,hl2,hf⟩:=aDO st nd h;aLA hc pg hl2 hf
end
section
variable (T : Tx)(C : Calls)
def SE(c:E):Prop:=∀ X,Ctx T C X->∀ x,aZ T X.N c X.env.scope x=true->PE X x (aM X.K (ev C c))
def ST(c:E):Prop:=∀ X,Ctx T C X->∀ x,jJ T X.N c X.env.scope x=true->PT X x (dQ X.K (tv C c))/\∀ op es p,x=.BoolOp op es p->PW X x (dQ X.K (tv C c))
def SA(c:E):Prop:=∀ X,Ctx T C X->∀ x,kJ T X.N c X.env.scope x=true->PA X x (cT X.K (av C c))
def SO(c:E):Prop:=∀ X,Ctx T C X->∀ x,okO T X.N c X.env.scope x=true->PO X x (kE X.K (ov C c))
def SL(c:E):Prop:=∀ X,Ctx T C X->∀ x,tV T X.N c X.env.scope x=true->PE X x (gQ X.K (lv C c))
def SI(c:E):Prop:=∀ X,Ctx T C X->∀ tg x,tR T X.N c X.env.scope tg x=true->PI X tg x (iA X.K (lv C c))
end
section
variable {T : Tx}{C : Calls}
theorem aKu{X:Cx}{x:qw}{f:FE}(h:∀ env S,f env S=qz):PE X x (aM X.K f):=λ aA s σ H Q I aK=>by
 obtain⟨F,L,S,env,w,S',R,E,e,q⟩:=aK;rw[h] at e;cases e
theorem aNX{X:Cx}{x:qw}{f:FE}(h:PE X x (aM X.K f))(ht:kG x=true):PT X x (dQ X.K (cJ f))/\∀ op es p,x=.BoolOp op es p->PW X x (dQ X.K (cJ f)):=
 ⟨aOh h λ dZ=>aLB ht X.env dZ,λ op es p e=>by subst e;exact no ht⟩
theorem aFl(i:Nat):SE T C (.var i):=λ X hX x hx=>eK (P:=λ x=>PE X x _) hx λ y p h=>aBq (dT (aL (aL (aL h)))) (aBf (aR (aL (aL h)))) (dC (aR (aL h))) (dC (aR h))
theorem aNj(i:Int):SE T C (.int i):=λ X hX x h=>nE (P:=λ x=>PE X x _) h λ k p=>aOa
theorem aFD(i:Bool):SE T C (.bl i):=λ X hX x h=>nE (P:=λ x=>PE X x _) h λ k p=>aGs
theorem aMi:SE T C .non:=λ X hX x h=>nE (P:=λ x=>PE X x _) h λ k p=>aOI
theorem aLV(i:Str):SE T C (.str i):=λ X hX x h=>nE (P:=λ x=>PE X x _) h λ k p=>aFQ
theorem aEV{op:vj}{a b:E}(ha:SE T C a)(hb:SE T C b):SE T C (.bin op a b):=λ X hX x hx=>aGn (P:=λ x=>PE X x _) hx λ l o r p h=>by
 obtain rfl:=dT (aL (aL h));exact aFG (ha X hX _ (aR (aL h))) (hb X hX _ (aR h))
theorem aM1{op:vk}{a b:E}(ha:SE T C a)(hb:SE T C b):SE T C (.cmp op a b):=λ X hX x hx=>pO (P:=λ x=>PE X x _) hx λ l o r p h h4=>by
 obtain rfl:=dT (aL (aL h));exact aFN hX.units (ha X hX _ (aR (aL h))) (hb X hX _ (aR h)) (qU h4 o)
theorem aBh{X:Cx}{x:qw}{t:TT}(h:PT X x t)(n:x.ctorIdx≠0):PT X x t/\∀ op es p,x=.BoolOp op es p->PW X x t:=
 ⟨h,λ op es p e=>absurd (congrArg Expr.ctorIdx e) n⟩
theorem aMT{op:vk}{a b:E}(ha:SE T C a)(hb:SE T C b):ST T C (.cmp op a b):=λ X hX x hx=>pO (P:=λ x=>PT X x _/\∀ op es p,x=.BoolOp op es p->PW X x _) hx λ l o r p h h4=>by
 obtain rfl:=dT (aL (aL h));exact aBh (aMK hX.units (ha X hX _ (aR (aL h))) (hb X hX _ (aR h)) (qU h4 o)) (yFh 14)
theorem aMj{n:Str}{ts:List Tv}:SE T C (.con n ts):=λ X hX x hx=>eK (P:=λ x=>PE X x _) hx λ y p h=>by
 obtain rfl:=dT (aL (aL (aL h)));exact aNH (cS (aR (aL h))) (dC (aR h)) (hX.cns _ _ (List.contains_iff_mem.mp (aR (aL (aL h)))))
theorem aMB{a b:E}(ha:SE T C a)(hb:SE T C b):SE T C (.and a b):=λ X hX x hx=>rR (P:=λ x=>PE X x _) hx
 (λ l r p h=>PE.weak (vU (ha X hX _ (aL h)) (aA1 (hb X hX _ (aR h)))) vP) λ l b c r p h=>PE.weak (vU (ha X hX _ (aL h)) (hb X hX _ (aR h))) vP
theorem aOU{a b:E}(ha:SE T C a)(hb:SE T C b):SE T C (.or a b):=λ X hX x hx=>rR (P:=λ x=>PE X x _) hx
 (λ l r p h=>PE.weak (aFv (ha X hX _ (aL h)) (aA1 (hb X hX _ (aR h)))) aFO) λ l b c r p h=>PE.weak (aFv (ha X hX _ (aL h)) (hb X hX _ (aR h))) aFO
theorem aEU{X:Cx}{x:qw}{t:TT}(k:PW X x t):PT X x t/\∀ op es p,x=.BoolOp op es p->PW X x t:=⟨k.pt,λ _ _ _ _=>k⟩
theorem aMq{a b:E}(ha:ST T C a)(hb:ST T C b):ST T C (.and a b):=λ X hX x hx=>aEU (rR (P:=λ x=>PW X x _) hx
 (λ l r p h=>PW.weak (aEI (ha X hX _ (aL h)).1 (aK0 (hb X hX _ (aR h)).1)) aFC) λ l b c r p h=>PW.weak (aEI (ha X hX _ (aL h)).1 ((hb X hX _ (aR h)).2 _ _ _ rfl)) aFC)
theorem aNP{a b:E}(ha:ST T C a)(hb:ST T C b):ST T C (.or a b):=λ X hX x hx=>aEU (rR (P:=λ x=>PW X x _) hx
 (λ l r p h=>PW.weak (aFV (ha X hX _ (aL h)).1 (aNf (hb X hX _ (aR h)).1)) aF0) λ l b c r p h=>PW.weak (aFV (ha X hX _ (aL h)).1 ((hb X hX _ (aR h)).2 _ _ _ rfl)) aF0)
theorem aLW{a:E}(ha:SE T C a):SE T C (.not a):=λ X hX x hx=>aFZ (P:=λ x=>PE X x _) hx λ o y p h=>by
 obtain rfl:=dT (aL h);exact aMm (ha X hX _ (aR h))
theorem aMk{a:E}(ha:ST T C a):ST T C (.not a):=λ X hX x hx=>aFZ (P:=λ x=>PT X x _/\∀ op es p,x=.BoolOp op es p->PW X x _) hx λ o y p h=>by
 obtain rfl:=dT (aL h);exact aBh (aN1 (ha X hX _ (aR h)).1) (yFh 2)
theorem aNh{c a b:E}(hc:ST T C c)(ha:SE T C a)(hb:SE T C b):SE T C (.ite c a b):=λ X hX x hx=>aPx (P:=λ x=>PE X x _) hx λ x y z p h=>aN0 (hc X hX _ (aL (aL h))).1 (ha X hX _ (aR (aL h))) (hb X hX _ (aR h))
theorem aLM{a:E}(ha:SA T C a):SE T C (.tup a):=λ X hX x hx=>mC (P:=λ x=>PE X x _) hx λ xs k p h=>aFM (ha X hX _ h)
theorem aLn{a:E}(ha:SA T C a):SL T C (.lst a):=λ X hX x hx=>wV (P:=λ x=>PE X x _) hx λ xs p h=>wR (ha X hX _ h)
theorem aM6:SA T C .nil:=λ X hX x h=>eE (P:=λ x=>PA X x _) h mY
theorem aKW{a r:E}(ha:SE T C a)(hr:SA T C r):SA T C (.cons a r):=λ X hX x h=>by
 cases x with
 | nil=>exact no h
 | cons y ys=>exact lQ (ha X hX _ (aL (aL h))) (hr X hX _ (aR h)) (cV (aR (aL h)) _ _)
theorem aOv:SO T C .no:=λ X hX x h=>wI (P:=λ x=>PO X x _) h aPa
theorem aJ4{a r:E}(ha:SE T C a):SO T C (.cons a r):=λ X hX x h=>aPL (P:=λ r=>PO X x (kE X.K (ov C (.cons a r)))) (aL h) (pP (P:=λ x=>PO X x _) (aR h) λ y h=>aLv (ha X hX _ h))
theorem aFL{a b:E}(ha:SE T C a)(hb:SE T C b):SE T C (.ix a b):=λ X hX x hx=>aBD (P:=λ x=>PE X x _) hx λ l r p h h3=>aPq (ha X hX _ (aL h)) (hb X hX _ (aR h)) (aFt h3)
theorem aLe{n:Str}{aH:List (Str×Tv)}{k:E}(hk:SE T C k):SE T C (.tab n aH k):=λ X hX x hx=>aBD (P:=λ x=>PE X x _) hx λ y z p g h6=>eK (P:=λ y=>PE X (.Subscript y z p) _) (aR g) λ u q h=>by
 obtain rfl:=dT (aL (aL (aL h)));exact aN8 (cS (aR (aL h))) (dC (aR h)) (hX.tbs _ _ (List.contains_iff_mem.mp (aR (aL (aL h))))) (hk X hX _ (aL g)) (aFt h6)
theorem aNG{a lo hi:E}(ha:SE T C a)(hl:SO T C lo)(hh:SO T C hi):SE T C (.sl a lo hi):=λ X hX x hx=>aO2 (P:=λ x=>PE X x _) hx λ y l u p q h=>aPN (ha X hX _ (aL (aL h))) (hl X hX _ (aR (aL h))) (hh X hX _ (aR h))
theorem aLa{N:List Str}{a:E}{sc:zy}(h:kJ T N a sc []=true):a=.nil:=by
 cases a<;>first | rfl | exact no h
theorem aIi{f np:Nat}{call:List W->aC->Option (W×aC)}{fs:FA}(h:C f=qq (np,call)):iM C f fs=sA fs np call:=by
 funext env S
 unfold iM;rw[h]
theorem aEs{f:Nat}{a:E}(ha:SA T C a):SE T C (.call f a):=λ X hX x hx=>kS (P:=λ x=>PE X x _) hx λ y p zs q h=>by
 cases hC:C f with
 | none=>exact aKu λ env S=>by show iM C f (av C a) env S=qz;unfold iM;rw[hC]
 | some nc =>
   obtain⟨k,rm,fs⟩:=hX.room;obtain⟨fa,fd,ps,m1,m2,m3,m4⟩:=fs f nc.1 nc.2 y hC (dT (aL (aL (aL (aL h)))));have hw:∀ σ H Q,aM X.K (ev C (.call f a)) σ H Q->wM (jL X.K nc.1 nc.2) [] E0 (cT X.K (av C a)) σ H Q:=λ σ H Q hq=>aNA σ H Q (aIi (fs:=av C a) hC▸hq)
   have h2:=cS (aR (aL (aL (aL h))));have h3:=dC (aR (aL (aL h)));cases zs with
   | nil =>
     refine PE.weak (aI5 m4 rm h2 m1 m2 m3 .nil aFu h3) λ σ H Q hq=>?_
     obtain⟨F,L,S,env,ws,S',R,E,e,q2⟩:=hw σ H Q hq;cases aLa (aR (aL h));cases e;exact q2 F L H [] Gr.refl R .nil
   | cons z zr=>exact PE.weak (aKn m4 rm h2 m1 m2 m3 .nil aFu (ha X hX _ (aR (aL h))) h3 (cV (aL (aR h)) _ _) (qW (aR (aR h)) _ _)) hw
theorem aE0{b:B}{a:E}(ha:SA T C a):SE T C (.blt b a):=λ X hX x hx=>kS (P:=λ x=>PE X x _) hx λ y p zs q h=>by
 obtain rfl:=dT (aR (aL (aL (aL h))));cases zs with
 | nil=>exact no (aL (aL (aL (aL h))))
 | cons z zr =>
 have A:=ha X hX _ (aR (aL h));have G:=cS (aR (aL (aL h)));have s1:=cV (aL (aR h)) zr X.env;have s2:=qW (aR (aR h)) X.env q;cases b with
 | len=>exact PE.weak (jQ aN2 G (hX.blt _ (by decide)) (by decide +kernel) A (by decide) (by decide) s1 s2) kU
 | mx=>exact PE.weak (jQ (aOm hX.calm) G (hX.blt _ (by decide)) (by decide +kernel) A (by decide) (by decide) s1 s2) kU
 | mn=>exact PE.weak (jQ (aO6 hX.calm) G (hX.blt _ (by decide)) (by decide +kernel) A (by decide) (by decide) s1 s2) kU
 | abs=>exact PE.weak (jQ aNT G (hX.blt _ (by decide)) (by decide +kernel) A (by decide) (by decide) s1 s2) kU
 | sum=>exact PE.weak (jQ (aN7 hX.calm) G (hX.blt _ (by decide)) (by decide +kernel) A (by decide) (by decide) s1 s2) kU
 | all=>exact PE.weak (jQ (aOW hX.calm) G (hX.blt _ (by decide)) (by decide +kernel) A (by decide) (by decide) s1 s2) kU
 | any=>exact PE.weak (jQ (aN4 hX.calm) G (hX.blt _ (by decide)) (by decide +kernel) A (by decide) (by decide) s1 s2) kU
 | int=>exact PE.weak (qP aOE G (hX.blt _ (by decide)) (by decide +kernel) A (by decide) (by decide) s1 s2) kU
 | tup=>exact PE.weak (qP aKF G (hX.blt _ (by decide)) (by decide +kernel) A (by decide) (by decide) s1 s2) kU
theorem aDN(n:Ty):zu n.n=qq (.type n.s)/\n.n∈bltNames:=by cases n<;>exact⟨by decide +kernel,by decide⟩
theorem aEL{a:E}{n:Ty}(ha:SE T C a):SE T C (.isi a n):=λ X hX x hx=>sY (P:=λ x=>PE X x _) hx λ p y w q h3 h5 h6 h7 _=>eK (P:=λ w=>PE X (.Call (.Name "isinstance" p) [y,w] [] q) _) h7 λ z pz h=>by
 obtain rfl:=dT (aL h);have k:=aO5 (X:=X) (n:=n.s) (x:=n.n) (p:=p) (p':=pz) (pos:=q) (ha X hX _ h5) (cS h3) (hX.blt _ (by decide)) (by decide +kernel) (cS (aR h)) (hX.blt _ (aDN n).2) (aDN n).1 (by cases n<;>decide) (by cases n<;>decide) (cV h6 _ _)
 refine PE.weak k λ σ H Q ⟨F,L,S,env,w,S',R,E,e,q2⟩=>⟨F,L,S,env,w,S',R,E,?_,q2⟩
 obtain⟨⟨w1,S1⟩,e1,e2⟩:=bind_some e;obtain⟨d,z,e3,e4,rfl,rfl⟩:=qV e2;unfold aGl f1;rw[e1];show dE (tB X.K n.s) _ w1=_;unfold dE;rw[e3];dsimp only[yDb];rw[aLJ X.K e4]
theorem st1{X:Cx}{z:qw}(h:bS z=true):zv [z] X.env=(false,eval z X.env)::zv [] X.env:=cV h [] X.env
theorem lG{X:Cx}{a:E}{z:qw}(ha:SE T C a)(hX:Ctx T C X)(h:aZ T X.N a X.env.scope z=true)(hp:bS z=true):PA X [z] (cT X.K (cH (ev C a) eJ)):=lQ (ha X hX _ h) mY (st1 hp)
theorem aLG{o a:E}(ho:SE T C o)(ha:SE T C a):SE T C (.app o a):=λ X hX x hx=>vZ (P:=λ x=>PE X x _) hx λ y ap z cp h4 h3 h2 h5 h6 =>
 PE.weak (wF PySem.F.plainAttrs_list PySem.F.slot_list_append PySem.F.type_list_append zY (ho X hX _ h2) (lG ha hX h5 h6) (mM h3 _ _) (by rw[st1 h6];rfl) h4 (st1 h6) rfl) aFB
theorem aME{a:E}(ha:SE T C a):SL T C (.lof a):=λ X hX x hx=>tJ (P:=λ x=>PE X x _) hx λ p z q h2 h3 h4 =>
 PE.weak (qP aHm (cS h2) (hX.blt _ (by decide)) (by decide +kernel) (lG ha hX h3 h4) (by decide) (by decide) (st1 h4) rfl) aOY
theorem aN3{a:E}(ha:SE T C a):SI T C (.it a):=λ X hX tg x h=>aPb (ha X hX _ h)
theorem aJ6{a:E}(ha:SE T C a):SI T C (.rng1 a):=λ X hX tg x hx=>tJ (P:=λ x=>PI X tg x _) hx λ p z q h2 h3 h4 =>
 PI.weak (aIv (cS h2) (hX.blt _ (by decide)) (lG ha hX h3 h4) (st1 h4)) aNc
theorem aLO{a:E}(ha:SE T C a):SI T C (.enm a):=λ X hX tg x hx=>mC (P:=λ tg=>PI X tg x _) (aL hx) λ ts k tp _=>tJ (P:=λ x=>PI X _ x _) (aR hx) λ p z q h2 h3 h4 =>
 PI.weak (aJw (cS h2) (hX.blt _ (by decide)) (lG ha hX h3 h4) (st1 h4)) aKB
theorem aMI{a b:E}(ha:SE T C a)(hb:SE T C b):SI T C (.zip a b):=λ X hX tg x hx=>mC (P:=λ tg=>PI X tg x _) (aL hx) λ ts k tp _=>sY (P:=λ x=>PI X _ x _) (aR hx) λ p z z2 q h2 h3 h4 h5 h6 =>
 PI.weak (aNk (cS h2) (hX.blt _ (by decide)) (lQ (ha X hX _ h3) (lG hb hX h5 h6) (cV h4 [z2] X.env)) (cV h4 [z2] X.env) (st1 h6)) aNU
theorem or2{a b:Bool}(h:(a||b)=true)(n:a=false):b=true:=by
 rw[n] at h;exact h
theorem aAI{scope osc:zy}(h:aBp scope osc=true):ScOk scope osc:=by
 have h2:=List.all_eq_true.mp (aR h);refine⟨dT (aL h),λ x hx e=>?_,λ x hx e=>?_,λ x hx e=>?_⟩
 ·have:=h2 x hx;simp[e] at this
 ·have:=h2 x hx;simp[e] at this;exact this
 ·have:=h2 x hx;simp[e] at this;exact this
theorem vO{N:List Str}{scope:zy}{is:List Nat}:∀ {n:Nat},xO N scope is n=true->∀ i,i<n->∀ x,N[i]? = qq x->scope.names.lookup x=qq .local->i∈is
 | 0,_,i,hi,_,_,_=>absurd hi (Nat.not_lt_zero i)
 | n+1,h,i,hi,x,e,el=>by
   rcases Nat.lt_succ_iff_lt_or_eq.mp hi with z | z
   ·exact vO (aL h) i z x e el
   ·subst z;have h2:=aR h;rw[e] at h2;exact List.contains_iff_mem.mp (or2 h2 (by rw[el];rfl))
theorem aJU{elt it cond:E}{t:Tg}(he:SE T C elt)(hi:SI T C it)(hc:ST T C cond):SL T C (.comp elt t it cond):=λ X hX x hx=>aBZ (P:=λ x=>PE X x _) hx λ e tg iter ifs scope p h1 h2 h3 h4 h5 h6 h7=>by
 have sok:=aAI h1;refine aBc (g:=nX X.K t) hX.calm sok (λ i x a1 a2=>vO h2 i (gIm a1).1 x a1 a2) (hi X hX tg iter h4) (λ Y hY=>?_) (pM X.K t) (λ Y hY=>?_) (λ Y hY=>?_) (qO h5 X.env)
 ·obtain⟨c1,c2,c3,c4⟩:=hX.comp sok.kind hY;rw[<- c4];exact pJ (.inl rfl) c1.nd c1.calm (by rw[c2,c3];exact h3)
 ·obtain⟨c1,c2,c3,c4⟩:=hX.comp sok.kind hY;cases ifs with
  | nil=>exact aGv (P:=λ cond=>kQ Y [] (tv C cond)) h6 aAd
  | cons y r=>exact eE (P:=λ r=>kQ Y (y::r) _) (aL h6) (aDa (hc Y c1 y (by rw[c2,c3];exact aR h6)).1)
 ·obtain⟨c1,c2,c3,c4⟩:=hX.comp sok.kind hY;rw[<- c4];exact he Y c1 e (by rw[c2,c3];exact h7)
theorem aN9{a:E}(ha:SL T C a):SE T C (.fz a):=λ X hX x h=>pV (ha X hX x h)
theorem aLg{a:E}(ha:SL T C a):SE T C (.new a):=λ X hX x h=>aFr (ha X hX x h)
theorem aLS{n:Bool}{a b:E}(ha:SE T C a)(hb:SE T C b):SE T C (.ins n a b):=λ X hX x hx=>pO (P:=λ x=>PE X x _) hx λ l o r p h h4=>by
 obtain rfl:=dT (aL (aL h));exact aNQ (ha X hX _ (aR (aL h))) (hb X hX _ (aR h)) (qU h4 _)
theorem aL4{n:Bool}{a b:E}(ha:SE T C a)(hb:SE T C b):ST T C (.ins n a b):=λ X hX x hx=>pO (P:=λ x=>PT X x _/\∀ op es p,x=.BoolOp op es p->PW X x _) hx λ l o r p h h4=>by
 obtain rfl:=dT (aL (aL h));exact aBh (aNt (ha X hX _ (aR (aL h))) (hb X hX _ (aR h)) (qU h4 _)) (yFh 14)
theorem aM4{a:E}(ha:SE T C a):SE T C (.st1 a):=λ X hX x hx=>tJ (P:=λ x=>PE X x _) hx λ p z q h2 h3 h4 =>
 PE.weak (qP aID (cS h2) (hX.blt _ (by decide)) (by decide +kernel) (lG ha hX h3 h4) (by decide) (by decide) (st1 h4) rfl) aFW
theorem aMA{a:E}(ha:SE T C a):SE T C (.itx a):=λ X hX x hx=>tJ (P:=λ x=>PE X x _) hx λ p z q h2 h3 h4 =>
 PE.weak (qP aIB (cS h2) (hX.blt _ (by decide)) (by decide +kernel) (lG ha hX h3 h4) (by decide) (by decide) (st1 h4) rfl) aFW
theorem aOy{o a:E}(ho:SE T C o)(ha:SE T C a):SE T C (.jn o a):=λ X hX x hx=>vZ (P:=λ x=>PE X x _) hx λ y ap z cp h4 h3 h2 h5 h6 =>
 PE.weak (wF PySem.F.plainAttrs_str PySem.F.slot_str_join PySem.F.type_str_join aK2 (ho X hX _ h2) (lG ha hX h5 h6) (mM h3 _ _) (by rw[st1 h6];rfl) h4 (st1 h6) rfl) aPG
theorem aLN{o a:E}(ho:SE T C o)(ha:SE T C a):SL T C (.spl o a):=λ X hX x hx=>vZ (P:=λ x=>PE X x _) hx λ y ap z cp h4 h3 h2 h5 h6 =>
 PE.weak (wF PySem.F.plainAttrs_str yCv PySem.F.type_str_split aIY (ho X hX _ h2) (lG ha hX h5 h6) (mM h3 _ _) (by rw[st1 h6];rfl) h4 (st1 h6) rfl) aOX
theorem aJ9{n:Str}{aH:List (Str×Tv)}{k:E}(hk:SE T C k):SE T C (.intb n aH k):=λ X hX x hx=>pO (P:=λ x=>PE X x _) hx λ l o r p h h4=>eK (P:=λ r=>PE X (.Compare l [o] [r] p) _) (aR h) λ u q g=>by
 obtain rfl:=dT (aL (aL h));obtain rfl:=dT (aL (aL (aL g)));exact aNv (cS (aR (aL g))) (dC (aR g)) (hX.tbs _ _ (List.contains_iff_mem.mp (aR (aL (aL g))))) (hk X hX _ (aR (aL h)))
theorem aMQ{n y:Str}:SE T C (.gst n y):=λ X hX x hx=>eK (P:=λ x=>PE X x _) hx λ u p h=>by
 obtain rfl:=dT (aL (aL (aL h)));exact aOi (cS (aR (aL h))) (dC (aR h)) (hX.sts _ _ (List.contains_iff_mem.mp (aR (aL (aL h)))))
theorem aML{a:E}(ha:SE T C a):SI T C (.its a):=λ X hX tg x h=>aO0 (ha X hX x h)
theorem mZ{c:E}(h:SE T C c)(ht:tv C c=cJ (ev C c))(hk:∀ N sc x,jJ T N c sc x=(aZ T N c sc x&&kG x)):ST T C c:=λ X hX x q=>by
 rw[hk] at q;rw[ht];exact aNX (h X hX x (aL q)) (aR q)
structure Sn(T:Tx)(C:Calls)(c:E):Prop where
 e:SE T C c:=by exact λ _ _ _ h=>no h
 t:ST T C c:=by exact λ _ _ _ h=>no h
 a:SA T C c:=by exact λ _ _ _ h=>no h
 o:SO T C c:=by exact λ _ _ _ h=>no h
 l:SL T C c:=by exact λ _ _ _ h=>no h
 i:SI T C c:=by exact λ _ _ _ _ h=>no h
theorem sn(c:E):Sn T C c:=by
 induction c with
 | var i=>exact {e:=aFl i,t:=mZ (aFl i) rfl λ _ _ _=>rfl }
 | int i=>exact {e:=aNj i }
 | bl b=>exact {e:=aFD b,t:=mZ (aFD b) rfl λ _ _ _=>rfl }
 | non=>exact {e:=aMi }
 | str x=>exact {e:=aLV x }
 | bin op a b aP bG=>exact {e:=aEV aP.e bG.e,t:=mZ (aEV aP.e bG.e) rfl λ _ _ _=>rfl }
 | un op a aP=>exact {}
 | cmp op a b aP bG=>exact {e:=aM1 aP.e bG.e,t:=aMT aP.e bG.e }
 | ltl a b aP bG=>exact {}
 | and a b aP bG=>exact {e:=aMB aP.e bG.e,t:=aMq aP.t bG.t }
 | or a b aP bG=>exact {e:=aOU aP.e bG.e,t:=aNP aP.t bG.t }
 | not a aP=>exact {e:=aLW aP.e,t:=aMk aP.t }
 | ite c a b ihc aP bG=>exact {e:=aNh ihc.t aP.e bG.e }
 | tup a aP=>exact {e:=aLM aP.a }
 | lst a aP=>exact {l:=aLn aP.a }
 | nil=>exact {a:=aM6 }
 | cons a r aP ihr=>exact {a:=aKW aP.e ihr.a,o:=aJ4 aP.e }
 | chn op gN a b c aP bG ihc=>exact {}
 | con x ts=>exact {e:=aMj }
 | ix a b aP bG=>exact {e:=aFL aP.e bG.e,t:=mZ (aFL aP.e bG.e) rfl λ _ _ _=>rfl }
 | dsp k l m a b c i aP bG ihc ihi=>exact {}
 | tab x aH k ihk=>exact {e:=aLe ihk.e }
 | slL a lo hi aP ihlo ihhi=>exact {}
 | sl a lo hi aP ihlo ihhi=>exact {e:=aNG aP.e ihlo.o ihhi.o }
 | no=>exact {o:=aOv }
 | call f a aP=>exact {e:=aEs aP.a,t:=mZ (aEs aP.a) rfl λ _ _ _=>rfl }
 | blt b a aP=>exact {e:=aE0 aP.a,t:=mZ (aE0 aP.a) rfl λ _ _ _=>rfl }
 | isi a n aP=>exact {e:=aEL aP.e,t:=mZ (aEL aP.e) rfl λ _ _ _=>rfl }
 | bits a aP=>exact {}
 | app o a iho aP=>exact {e:=aLG iho.e aP.e }
 | pop o a iho aP=>exact {}
 | idx o a iho aP=>exact {}
 | lof a aP=>exact {l:=aME aP.e }
 | lzip a b aP bG=>exact {}
 | lrg1 a aP=>exact {}
 | lrg2 a b aP bG=>exact {}
 | srt a aP=>exact {}
 | lrev a aP=>exact {}
 | lrep a b aP bG=>exact {}
 | comp elt t it cond ihelt ihit ihcond=>exact {l:=aJU ihelt.e ihit.i ihcond.t }
 | it a aP=>exact {i:=aN3 aP.e }
 | rng1 a aP=>exact {i:=aJ6 aP.e }
 | rng2 a b aP bG=>exact {}
 | rng3 a b c aP bG ihc=>exact {}
 | rrng a aP=>exact {}
 | enm a aP=>exact {i:=aLO aP.e }
 | zip a b aP bG=>exact {i:=aMI aP.e bG.e }
 | zip3 a b c aP bG ihc=>exact {}
 | fz a aP=>exact {e:=aN9 aP.l }
 | new a aP=>exact {e:=aLg aP.l }
 | its a aP=>exact {i:=aML aP.e }
 | ins n a b aP bG=>exact {e:=aLS aP.e bG.e,t:=aL4 aP.e bG.e }
 | st1 a aP=>exact {e:=aM4 aP.e }
 | itx a aP=>exact {e:=aMA aP.e }
 | spl a b aP bG=>exact {l:=aLN aP.e bG.e }
 | jn a b aP bG=>exact {e:=aOy aP.e bG.e }
 | intb x aH k ihk=>exact {e:=aJ9 ihk.e }
 | gst x y=>exact {e:=aMQ }
end
section
variable (T : Tx)(C : Calls)
def SS(c:Sx):Prop:=∀ X,Ctx T C X->(∀ x,X.fn x=true)->∀ st,okS T X.N c X.env.scope st=true->PS X st (cG X.K (xs C c))
def mI(c:Sx):Prop:=∀ X,Ctx T C X->(∀ x,X.fn x=true)->∀ st,jZ T X.N c X.env.scope st=true->bO X st (cG X.K (xs C c))
end
section
variable {T : Tx}{C : Calls}
theorem aD0{e t:qw}(h:eW e=true)(line:Nat)(env:Env):swapsWithSole [t] e line env=pure false:=lM h _ _ _
theorem aHZ{e:qw}{ts:List qw}{k:Nat}{p:Pos}{env:Env}(h:sH e=false):yy [.Tuple ts k p] e env=pure qz:=by
 cases e<;>first | rfl | exact no h.symm
theorem aHz{o i e:qw}{p:Pos}{env:Env}:yy [.Subscript o i p] e env=pure qz:=by
 cases e<;>rfl
theorem aLx{a b:Sx}(ha:SS T C a)(hb:mI T C b):mI T C (.seq a b):=λ X hX hf st h=>by
 cases st with
 | nil=>exact no h
 | cons s r =>
   obtain⟨h1,h2⟩:=bW h;exact aFx (ha X hX hf _ h1) (hb X hX hf _ h2)
theorem aJW:mI T C .skip:=λ X hX hf st h=>eE (P:=λ st=>bO X st _) h aEZ
theorem aKb{e:E}:SS T C (.expr e):=λ X hX hf st h=>aBY (P:=λ st=>PS X st _) h λ x p h=>aE9 ((sn e).e X hX _ (aL h)) (lM (aR h) _ _ _)
theorem aLU{e:E}:SS T C (.ret e):=λ X hX hf st h=>aF5 (P:=λ st=>PS X st _) h λ _ p h=>pP (P:=λ v=>PS X (.Return v p) _) h λ x h=>aFs ((sn e).e X hX _ h)
theorem aMO{c:E}{a b:Sx}(ha:mI T C a)(hb:mI T C b):SS T C (.ifs c a b):=λ X hX hf st h=>aFX (P:=λ st=>PS X st _) h λ x y z p h=>aPQ ((sn c).t X hX _ (aL (aL h))).1 (ha X hX hf _ (aR (aL h))) (hb X hX hf _ (aR h))
theorem aMe{i:Nat}{e:E}:SS T C (.set i e):=λ X hX hf st h=>jF (P:=λ st=>PS X st _) h λ _ y p h=>fQ (P:=λ ts=>PS X (.Assign ts y p) _) (aR h) λ _ g=>eK (P:=λ t=>PS X (.Assign [t] y p) _) g λ x q g =>
 wH hX.nd (dT (aL g)) (oW (aR g)) ((sn e).e X hX _ (aL (aL h))) (lM (aR (aL h)) _ _ _) (.inl (hf _))
theorem aPY{K:FrG}{f:FL}(σ:St)(H:Hp)(Q:VK)(h:aM K (fY f) σ H Q):gQ K f σ H Q:=by
 obtain⟨F,L,S,env,w,S',R,E,e,q⟩:=h;obtain⟨⟨ds,S1⟩,e1,e2⟩:=bind_some e;cases e2;exact⟨F,L,S,env,ds,_,R,E,e1,λ F1 L1 H1 p xs g1 R1 hF hL hH dl=>q _ L1 _ _ (g1.trans (Gr.new hF)) (R1.adopt hF hL hH) (Den.lst (bF.of bQ) (dl.mono (dG hF)))⟩
theorem aOB{K:FrG}{f:FL}(σ:St)(H:Hp)(Q:VK)(h:aM K (gK f) σ H Q):gQ K f σ H Q:=by
 obtain⟨F,L,S,env,w,S',R,E,e,q⟩:=h;obtain⟨⟨ds,S1⟩,e1,e2⟩:=bind_some e;cases e2;refine⟨F,L,S,env,ds,_,R,E,e1,λ F1 L1 H1 p xs g1 R1 hF hL hH dl=>q _ _ _ _ (g1.trans Gr.newLoc) (R1.adoptLoc hF hL hH dl) ⟨p,?_,rfl⟩⟩
 dsimp only;rw[<- R1.len,yAe (yAc _)];simp
theorem aPr{K:FrG}{f:FL}(nw:Bool):∀ (σ:St) (H:Hp) (Q:VK),aM K (match nw with | true=>gK f | false=>fY f) σ H Q->gQ K f σ H Q:=by
 cases nw
 ·exact aPY
 ·exact aOB
theorem aK3{nw:Bool}{i:Nat}{e:E}:SS T C (.setC nw i e):=λ X hX hf st h=>jF (P:=λ st=>PS X st _) h λ _ y p h=>fQ (P:=λ ts=>PS X (.Assign ts y p) _) (aR h) λ _ g=>eK (P:=λ t=>PS X (.Assign [t] y p) _) g λ x q g=>by
 refine aPw (P:=λ e=>tV T X.N e X.env.scope y=true->PS X (.Assign [.Name x q] y p) (cG X.K (xs C (.setC nw i e)))) (aL (aL h)) (λ elt t it cond hL=>aBZ (P:=λ y=>PS X (.Assign [.Name x q] y p) (cG X.K (xs C (.setC nw i (.comp elt t it cond))))) hL λ e tg iter ifs scope r h1 h2 h3 h4 h5 h6 h7=>?_) (aR (aL h))
 have sok:=aAI h1;refine aIa (g:=nX X.K t) hX.nd (dT (aL g)) (oW (aR g)) (.inl (hf _)) hX.calm sok (λ i x a1 a2=>vO h2 i (gIm a1).1 x a1 a2) ((sn it).i X hX tg iter h4) (λ Y hY=>?_) (pM X.K t) (λ Y hY=>?_) (λ Y hY=>?_) (qO h5 X.env) (aPr nw)
 ·obtain⟨c1,c2,c3,c4⟩:=hX.comp sok.kind hY;rw[<- c4];exact pJ (.inl rfl) c1.nd c1.calm (by rw[c2,c3];exact h3)
 ·obtain⟨c1,c2,c3,c4⟩:=hX.comp sok.kind hY;cases ifs with
  | nil=>exact aGv (P:=λ cond=>kQ Y [] (tv C cond)) h6 aAd
  | cons y r=>exact eE (P:=λ r=>kQ Y (y::r) _) (aL h6) (aDa ((sn cond).t Y c1 y (by rw[c2,c3];exact aR h6)).1)
 ·obtain⟨c1,c2,c3,c4⟩:=hX.comp sok.kind hY;rw[<- c4];exact(sn elt).e Y c1 e (by rw[c2,c3];exact h7)
theorem tH{b:Bool}(h:(!b)=true):b=false:=by
 cases b with
 | false=>rfl
 | true=>exact no h
theorem aKt{t:Tg}{e:E}:SS T C (.setT t e):=λ X hX hf st h=>jF (P:=λ st=>PS X st _) h λ _ v p h=>fQ (P:=λ ts=>PS X (.Assign ts v p) _) (aR h) λ tg g=>by
 have h1:=pJ (.inr hf) hX.nd hX.calm (aR g)
 revert h1
 exact mC (P:=λ tg=>PG X tg (nX X.K t)->PS X (.Assign [tg] v p) (cG X.K (xs C (.setT t e)))) (aL g) λ ts k q _ h1=>PS.weak (aFk ((sn e).e X hX _ (aL (aL (aL h)))) h1 (aD0 (aR (aL (aL h))) _ _) (aHZ (tH (aR (aL h)))) rfl) (aLw (pM X.K t))
theorem aNo{o i e:E}:SS T C (.put o i e):=λ X hX hf st h=>jF (P:=λ st=>PS X st _) h λ _ z p h=>fQ (P:=λ ts=>PS X (.Assign ts z p) _) (aR h) λ _ g=>aBD (P:=λ t=>PS X (.Assign [t] z p) _) g λ x y q g h3 =>
 aOR ((sn o).e X hX _ (aL g)) ((sn i).e X hX _ (aR g)) ((sn e).e X hX _ (aL (aL h))) (aIq h3) (aD0 (aR (aL h)) _ _) aHz
theorem aJH{t:Tg}{it:E}{b:Sx}(hb:mI T C b):SS T C (.loop t it b):=λ X hX hf st h=>aF1 (P:=λ st=>PS X st _) h λ tg x y z p h=>eE (P:=λ z=>PS X (.For tg x y z p) _) (aL (aL (aL (aL h))))
 (aOF hX.own hX.calm ((sn it).i X hX _ _ (aR (aL (aL h)))) (pJ (.inr hf) hX.nd hX.calm (aR (aL (aL (aL h))))) (pM X.K t) (hb X hX hf _ (aR h)) (qO (aR (aL h)) X.env))
theorem ss(c:Sx):SS T C c/\mI T C c:=by
 have N2:∀ {c:Sx},SS T C c->(∀ N sc st,jZ T N c sc st=false)->SS T C c/\mI T C c:=λ q hh=>⟨q,λ X hX hf st h=>by rw[hh] at h;exact no h⟩
 induction c with
 | skip=>exact⟨λ X hX hf st h=>no h,aJW⟩
 | seq a b aP bG=>exact⟨λ X hX hf st h=>no h,aLx aP.1 bG.2⟩
 | expr e=>exact N2 aKb λ _ _ _=>rfl
 | ret e=>exact N2 aLU λ _ _ _=>rfl
 | ifs c a b aP bG=>exact N2 (aMO aP.2 bG.2) λ _ _ _=>rfl
 | set i e=>exact N2 aMe λ _ _ _=>rfl
 | setC nw i e=>exact N2 aK3 λ _ _ _=>rfl
 | setT t e=>exact N2 aKt λ _ _ _=>rfl
 | put o i e=>exact N2 aNo λ _ _ _=>rfl
 | loop t it b bG=>exact N2 (aJH bG.2) λ _ _ _=>rfl
end
structure Fn where
 name:Str
 np:Nat
 N:List Str
 body:Sx
 st:zk
noncomputable def aD(fs:List Fn):Nat->Calls
 | 0=>λ _=>qz
 | d+1=>λ f=>(fs[f]?).map λ F=>(F.np,cK (xs (aD fs d) F.body) F.N.length)
structure Tbs where
 tb:List (Str×List (Str×Tv))
 cn:List (Str×List Tv)
 st:List (Str×Str)
noncomputable def tab(fs:List Fn)(tb:Tbs):Tx:=⟨fs.map λ F=>(F.name,F.np),tb.tb,tb.cn,tb.st⟩
noncomputable def vS:List Str->Bool
 | []=>true
 | x::r=>!r.contains x&&vS r
theorem aAx:∀ {l:List Str},vS l=true->l.Nodup
 | [],_=>List.nodup_nil
 | x::r,h=>by
   obtain⟨h1,h2⟩:=bW h;refine List.nodup_cons.mpr ⟨λ z=>?_,aAx h2⟩
   have:r.contains x=true:=by simpa using z
   rw[this] at h1;exact no h1
noncomputable def tI(fs:List Fn)(tb:Tbs)(F:Fn):Bool:=
 decide ((bH F.st).kind=.function) && !(bH F.st).isCoroutine && !(bH F.st).isGenerator&&vS F.N&&decide (F.np<=F.N.length)&&(F.N.take F.np).all (loc (bH F.st))&&(bH F.st).names.all (λ y=>!decide (y.2=.free)) &&
  jZ (tab fs tb) F.N F.body (bH F.st) (dN F.st)
theorem rJ{sc:zy}{x:Str}(h:loc sc x=true):sc.names.lookup x=qq .local\/sc.names.lookup x=qq .cell:=by
 unfold loc at h
 split at h<;>first | exact .inl (by assumption) | exact .inr (by assumption) | exact no h
theorem aJl{fs:List Fn}{tb:Tbs}{F:Fn}(h:tI fs tb F=true):FnScope F.N (F.N.take F.np) (bH F.st)/\jZ (tab fs tb) F.N F.body (bH F.st) (dN F.st)=true/\(F.N.take F.np).length=F.np:=by
 obtain⟨h,h8⟩:=bW h;obtain⟨h,h7⟩:=bW h;obtain⟨h,h6⟩:=bW h;obtain⟨h,h5⟩:=bW h;obtain⟨h,h4⟩:=bW h;obtain⟨h,h3⟩:=bW h;obtain⟨h1,h2⟩:=bW h;have hl:(F.N.take F.np).length=F.np:=by
  rw[yBs];have:=oqT h5;omega
 refine⟨⟨oqT h1,?_,?_,aAx h4,by rw[hl],λ x hx=>rJ (List.all_eq_true.mp h6 x hx),λ y hy=>?_⟩,h8,hl⟩
 ·cases q:(bH F.st).isCoroutine with
  | false=>rfl
  | true=>rw[q] at h2;exact no h2
 ·cases q:(bH F.st).isGenerator with
  | false=>rfl
  | true=>rw[q] at h3;exact no h3
 ·have:=List.all_eq_true.mp h7 y hy;intro z;rw[dqT z] at this;exact no this
section
variable {P : qo}{w : zq}{K : FrG}{mg : Str -> Option qx}{base : Heap}
theorem aEi(fs:List Fn)(tb:Tbs)(hk:∀ F∈fs,tI fs tb F=true)(top:∀ F∈fs,∃ fa fd,Fun K F.name F.name F.st fa fd/\mg F.name=qq (.ref fa)/\dD K fd (F.N.take F.np) [])(hb:∀ x∈bltNames,mg x=qz)(ht:∀ x aH,(x,aH)∈tb.tb->∃ a,mg x=qq (.ref a)/\lV K w a aH)(hcn:∀ x ts,(x,ts)∈tb.cn->∃ a,mg x=qq (.ref a)/\nB K a ts)(cZ:∀ x y,(x,y)∈tb.st->∃ t,mg x=qq (.str y t)) :
 ∀ d f F np call fa fd,fs[f]? = qq F->aD fs d f=qq (np,call)->Fun K F.name F.name F.st fa fd->FnOk P w K mg base fH d fa fd (F.N.take F.np) (jL K np call)
 | 0,f,F,np,call,fa,fd,eF,e,Fu=>by cases e
 | d+1,f,F,np,call,fa,fd,eF,e,Fu=>by
   have ih:=aEi fs tb hk top hb ht hcn cZ d;have e2:(F.np,cK (xs (aD fs d) F.body) F.N.length)=(np,call):=by
    have e':(fs[f]?).map (λ F=>(F.np,cK (xs (aD fs d) F.body) F.N.length))=qq (np,call):=e
    rw[eF] at e';exact Option.some.inj e'
   cases e2;have hm:F∈fs:=xAi eF;obtain⟨sc,hok,hl⟩:=aJl (hk F hm);refine Fu.ok sc (λ vs H Q E h=>?_) λ cdv A outer s H vs Q E hr h=>?_
   ·obtain⟨F1,L,S,ws,w1,S',hn,R,dl,_⟩:=h;rw[hl,<- hn];exact dl.length.symm
   ·refine⟨_,(ss (T:=tab fs tb) (C:=aD fs d) F.body).2 _ ⟨sc.nd,rfl,rfl,sc.kind,⟨d,hr,λ f' np' call' x' e1 e2=>?_⟩,hb,λ x aH hx=>ht x aH hx,λ x ts hx=>hcn x ts hx,λ x y hx=>cZ x y hx⟩ (λ _=>rfl) _ hok,aE7 h⟩
    have e2:((fs.map λ F=>(F.name,F.np))[f']?).map (·.1)=qq x':=e2
    rw[xAb] at e2;cases q:fs[f']? with
    | none=>rw[q] at e2;cases e2
    | some F' =>
      rw[q] at e2;have hx:F'.name=x':=Option.some.inj e2;subst hx;obtain⟨fa',fd',Fu',hmg',hbi'⟩:=top F' (xAi q);exact⟨fa',fd',_,hmg',Fu'.kp,hbi',ih f' F' np' call' fa' fd' q e1 Fu'⟩
end
structure TopFn(K:FrG)(F:Fn):Prop where
 ex:∃ (f:qv) (oc:qx) (od an:Option qv) (sl:Array (Option qx)) (kV dc pm cd ct:qx),yBx K qy F.name=qq (qq (.ref f)) /\
  K.lookup f=qq ⟨oc,od,.func (yBv F.name F.name (gT F.st) (dN F.st) (bH F.st) .none kV dc pm an cd ct),sl⟩/\yDi K cd F.name=true/\yBq K (.ref f)=true
theorem top_mk{K:FrG}{F:Fn}{f:qv}{oc:qx}{od an:Option qv}{sl:Array (Option qx)}{kV dc pm cd ct:qx}(a:yBx K qy F.name=qq (qq (.ref f)))
 (l:K.lookup f=qq ⟨oc,od,.func (yBv F.name F.name (gT F.st) (dN F.st) (bH F.st) .none kV dc pm an cd ct),sl⟩) (c:yDi K cd F.name=true) (k:yBq K (.ref f)=true):TopFn K F:=
 ⟨f,oc,od,an,sl,kV,dc,pm,cd,ct,a,l,c,k⟩
structure TabTop(K:FrG)(w:zq)(t:Str×List (Str×Tv)):Prop where
 ex:∃ (a:qv) (es:Array DictEntry) (ep:Nat),yBx K qy t.1=qq (qq (.ref a))/\(a==sysModules)=false/\K.lookup a=qq {cls:=.type "dict",data:=.dict es ep }/\nC w es.toList t.2
theorem tab_mk{K:FrG}{w:zq}{t:Str×List (Str×Tv)}{a:qv}{es:Array DictEntry}{ep:Nat}(a1:yBx K qy t.1=qq (qq (.ref a)))
 (l1:K.lookup a=qq {cls:=.type "dict",data:=.dict es ep }) (c1:nC w es.toList t.2) (s1:(a==sysModules)=false):TabTop K w t:=⟨a,es,ep,a1,s1,l1,c1⟩
structure ConTop(K:FrG)(t:Str×List Tv):Prop where
 ex:∃ a:qv,yBx K qy t.1=qq (qq (.ref a))/\nB K a t.2
theorem con_mk{K:FrG}{t:Str×List Tv}{a:qv}{its:Array qx}{n:Nat}{od:Option qv}{sl:Array (Option qx)}(a1:yBx K qy t.1=qq (qq (.ref a)))
 (l1:K.lookup a=qq {cls:=.type "tuple",dict:=od,data:=.seq its n,slots:=sl }) (z1:its.size<=100) (c1:wD its.toList t.2):ConTop K t:=
 ⟨a,a1,_,its,n,l1,rfl,rfl,xAg z1 (by decide),c1⟩
structure StTop(K:FrG)(t:Str×Str):Prop where
 ex:∃ k:Tok,yBx K qy t.1=qq (qq (.str t.2 k))
theorem st_mk{K:FrG}{t:Str×Str}{k:Tok}(a1:yBx K qy t.1=qq (qq (.str t.2 k))):StTop K t:=⟨k,a1⟩
def oS(F:Fn):Prop:=∀ (kV doc pm:qx) (an:Option qv) (cdv ct:qx) (us:List qx),us.length=(F.N.take F.np).length->bindArgs (yBv F.name F.name (gT F.st) (dN F.st) (bH F.st) .none kV doc pm an cdv ct) ⟨us,[]⟩=pure ((F.N.take F.np).zip us)
noncomputable def wQ(F:Fn):Bool:=match gT F.st with
 | ⟨[],as,qz,[],_,qz,_⟩=>decide (F.N.take F.np=as.map (·.arg))&&decide (F.N.take F.np).Nodup
 | _=>false
theorem aAv:∀ {ns:List Str}{us:List qx},ns.Nodup->us.length=ns.length->(∀ n∈ns,((ns.zip us).lookup n).isNone=false)/\ns.filterMap (λ n=>((ns.zip us).lookup n).map (n,·))=ns.zip us
 | [],us,_,_=>⟨λ n h=>(nomatch h),by cases us<;>rfl⟩
 | x::ns,[],_,h=>by cases h
 | x::ns,u::us,hn,hl=>by
   obtain⟨h1,h2⟩:=List.nodup_cons.mp hn;obtain⟨i1,i2⟩:=aAv h2 (Nat.succ.inj hl);have e:∀ n∈ns,((x,u)::ns.zip us).lookup n=(ns.zip us).lookup n:=λ n m=>by
    rw[yBa];have:(n==x)=false:=by
     rw[beq_eq_false_iff_ne];rintro rfl;exact h1 m
    rw[this]
   refine⟨λ n m=>?_,?_⟩
   ·rw[List.zip_cons_cons];rcases List.mem_cons.mp m with rfl | m
    ·rw[yBa,beq_self_eq_true];rfl
    ·rw[e n m];exact i1 n m
   ·rw[List.zip_cons_cons,yCc,yBa,beq_self_eq_true];show(x,u)::_=_;congr 1;rw[<- i2];rw[i2];have g:∀ l:List Str,(∀ n∈l,n∈ns)->l.filterMap (λ n=>(((x,u)::ns.zip us).lookup n).map (n,·))=l.filterMap (λ n=>((ns.zip us).lookup n).map (n,·)):=λ l=>by
     induction l with
     | nil=>intro _;rfl
     | cons y l ih=>intro hl;rw[yCc,yCc,e y (hl y xAd),ih λ n m=>hl n (xAf _ m)]
    rw[g ns λ n m=>m,i2]
theorem aDK{F:Fn}(h:wQ F=true):oS F:=by
 intro kV doc pm an cdv ct us hu;unfold wQ at h
 split at h
 ·rename_i as kd df e;obtain⟨h1,h2⟩:=bW h;have h1:=oqT h1;rw[e];rw[h1] at hu h2 ⊢;obtain⟨i1,i2⟩:=aAv (oqT h2) hu;have m:((as.map (·.arg)).take (as.map (·.arg)).length).filter (λ n=>(((as.map (·.arg)).zip us).lookup n).isNone)=[]:=by
   rw[yAh,List.filter_eq_nil_iff];intro n hn;rw[i1 n hn];decide
  unfold bindArgs;have q:seqItems? Value.none=(pure qz:Sem (Option (Array qx))):=rfl;simp only[yBv,q,pure_bind,yCi,yCp,yAs,yEy,yEg,yDd,List.drop_nil,List.zip_nil_right,yFm,hu,gt_iff_lt,yBc,decide_false,yEx,yBd,if_false,m,List.isEmpty_nil,Bool.not_true,i2,Option.isNone_none]
 ·exact no h
theorem aCz:∀ {ns:List Int}{i:Int},i∈ns->yAi i<=PySem.W.WData.weightAll (ns.map PySem.W.WData.int)
 | [],i,h=>by cases h
 | n::r,i,h=>by
   have e:PySem.W.WData.weightAll ((n::r).map PySem.W.WData.int)=yAi n+1+PySem.W.WData.weightAll (r.map PySem.W.WData.int):=rfl;rw[e];rcases List.mem_cons.mp h with z | z
   ·subst z;omega
   ·have:=aCz z;omega
theorem aI0{ns:List Int}(h:PySem.W.WData.layableAll [PySem.W.WData.list (ns.map PySem.W.WData.int)]=true):∀ i∈ns,yAi i<=1048576:=λ i hi=>by
 have h1:PySem.W.WData.layable (PySem.W.WData.list (ns.map PySem.W.WData.int))=true:=by
  have:=List.all_eq_true.mp h _ xAd;exact this
 have h2:PySem.W.WData.weight (PySem.W.WData.list (ns.map PySem.W.WData.int))<=2^20:=oqT (bW h1).2;exact xAg (aCz hi) h2
theorem aJ3{l:yFj}{n:Nat}{q:qo}{loose:List Str}{XP:(Str->Option qx)->Heap->Prop}{YP:zq->Heap->Prop}{d:DefRec}
 (hn:l.most=qq n) (hdf:d.params.defaults=[])
 (go:∀ (w:zq) (s₀ s₁:qj) (mg mb:Str->Option qx) (fa:qv) (a:qv) (vs:List qx) (ns:List Int),
   PySem.W.Ground q loose [] XP w s₀ mg mb s₁.heap->YP w s₁.heap->mg d.name=qq (.ref fa) ->
   s₁.heap.get? a=qq {cls:=.type "list",data:=.seq vs.toArray }->IntsAre vs ns->ns.length<=n->(∀ i∈ns,yAi i<=1048576)->s₁.gens = #[] ->
   wq (model l.prog w) callerA (.call (.ref fa) ⟨[.ref a],[]⟩) (λ r s'=>r=.ok (.ret (.bool true))/\OldK s₁.heap s'.heap/\s'.os=s₁.os/\AllBare s'.gens) s₁) :
 PySem.W.WalkO q loose XP YP l.row.toRowW d [] (λ f vs=>PySem.call f vs):=by
 intro w s₀ s₁ mg mb G Y fa o pm cd doc dV kV ho hd hcd hD hmg hg args vals as hpre hlay hrd hwl hlo;obtain rfl:dV=.none:=PySem.W.Dflts.none hD hdf;obtain rfl:kV=.none:=PySem.W.Dflts.noKw hD;obtain⟨a,vs,ns,rfl,rfl,hobj,hints,bZ⟩:=Att.script_of hn hpre hwl;refine PySem.W.enter_call (codeAny_mono (go w s₀ s₁ mg mb fa a vs ns G Y hmg hobj hints bZ (aI0 hlay) hg) λ r s' hq=>?_)
 obtain⟨rfl,h2,h3,h4⟩:=hq;exact⟨.inl ⟨.bool true,.bool true,[],rfl,λ _=>rfl,.bool true,Att.post_true l _,λ _=>⟨List.Pairwise.nil,λ _ hm=>(nomatch hm)⟩⟩,h2,h3,h4⟩
structure Trc(h:Heap)(h0:Heap)(H:Hp)(e:qv)(cls:qx)(dx:Option qv)(fl:Option qx):Prop where
 ex:∃ oe vs,h.get? e=qq oe/\oe.cls=cls/\oe.dict=dx/\oe.data=.fields vs/\1<vs.size/\h0.get? e=qz/\H e=qz /\
  (fl=qz/\vs[1]? = qq .none\/∃ f T oT ts,fl=qq f/\vs[1]? = qq (.ref T)/\T≠e/\h0.get? T=qz/\H T=qz/\h.get? T=qq oT/\oT.data=.fields ts/\ts[3]? = qq f)
structure Chg(fs:List qv)(h0:Heap)(H:Hp)(h h':Heap):Prop where
 keep:∀ b o,h.get? b=qq o->b ∉ fs->(h0.get? b≠qz\/H b≠qz\/∀ vs,o.data≠.fields vs)->h'.get? b=qq o
 slot:∀ b o,h.get? b=qq o->b∈fs->(∀ vs,o.data≠.fields vs)->∃ sl,h'.get? b=qq {o with slots:=sl }
 there:∀ b o,h.get? b=qq o->∃ o',h'.get? b=qq o'
theorem Chg.refl{fs:List qv}{h0:Heap}{H:Hp}{h:Heap}:Chg fs h0 H h h:=⟨λ _ _ e _ _=>e,λ _ o e _ _=>⟨o.slots,e⟩,λ _ o e=>⟨o,e⟩⟩
theorem Chg.trans{fs:List qv}{h0:Heap}{H:Hp}{h h1 h2:Heap}(a:Chg fs h0 H h h1)(b:Chg fs h0 H h1 h2):Chg fs h0 H h h2:=
 ⟨λ c o e n q=>b.keep c o (a.keep c o e n q) n q,λ c o e n q=>by
  obtain⟨sl,e1⟩:=a.slot c o e n q;obtain⟨sl2,e2⟩:=b.slot c _ e1 n q;exact⟨sl2,e2⟩,λ c o e=>let ⟨o1,e1⟩:=a.there c o e;b.there c o1 e1⟩
section
variable {M : Model}{A : zj}{E : qx -> qj -> Prop}{s : qj}
theorem aJv{base:Heap}{env:Env}{outer:List Env}{L e:qv}{oe:Obj}{vs:Array qx}{head:qx}{hadNext:Bool}{Q:Unit->qj->Prop}
 (hfr:A.frames=qq (env::outer)) (hl:s.heap.FunFrames base (env::outer)) (hf:env.frame=qq L) (he:s.heap.get? e=qq oe) (hd:oe.data=.fields vs) (hsz:1<vs.size)
 (h:∀ h' T oT ts,h'.get? e=qq (oe.mapFields (·.setIfInBounds 1 (.ref T)))->s.heap.objs.size<=T->h'.get? T=qq oT->oT.data=.fields ts->ts[3]? = qq (jq L) ->
   (∀ b o,s.heap.get? b=qq o->b≠e->b ∉ dB (env::outer)->h'.get? b=qq o)->(∀ b o,s.heap.get? b=qq o->b≠e->∃ sl,h'.get? b=qq {o with slots:=sl })->Q () {s with heap:=h' }) :
 qu M A (do let a <- frameOf env;let pl <- entryPlaceOf L hadNext;let b <- EntryCells.newEntry head a .none (jq L) .none pl;setField (.ref e) 1 b) Q E s:=by
 have hene:e ∉ (env::outer).filterMap (·.frame):=λ hm=>by
  obtain⟨_,o,ho,hnf⟩:=hl.mem hm;rw[he] at ho;cases ho;exact hnf vs hd
 refine wB (wpAny_frameOf_fun hfr hl hf λ h1 hs1=>?_)
 refine wB (wpAny_entryPlaceOf λ pl hpl=>?_)
 unfold EntryCells.newEntry newFields;refine wB (xw ?_ (hpl.sizeOk5 _ _ _ _ _));have he1:h1.get? e=qq oe:=(hs1.2.1 e hene).trans he;generalize hob:({cls:=.type "traceback",dict:=qz,data:=.fields ([head,.ref L,.none,jq L,.none]++(if pl.isEmpty then yAf 6 Value.none else pl)).toArray }:Obj)=ob
 have hobd:ob.data=.fields ([head,.ref L,.none,jq L,.none]++(if pl.isEmpty then yAf 6 Value.none else pl)).toArray:=by rw[<- hob]
 have he2:=hpS (h:=h1) ob he1;refine wpAny_setField he2 hd hsz ?_;have hTe:h1.objs.size≠e:=yCy (xAa he1);have hd3:=Obj.data_mapFields hd (·.setIfInBounds 1 (Value.ref h1.objs.size));have hfr:ob.isFreed=false:=Obj.isFreed_of_fields hobd;refine h _ h1.objs.size ob _ (yBw _ he2 (Obj.isFreed_of_fields hd3)) (by rw[hs1.1];exact yAc _) ?_ hobd (by simp) (λ b o hb hbe hbf=>?_) λ b o hb hbe=>?_
 ·rw[yBl _ _ (Ne.symm hTe)];exact xAe h1 hfr
 ·rw[yBl _ _ (Ne.symm hbe)];exact hpS _ ((hs1.2.1 b hbf).trans hb)
 ·obtain⟨sl,hs⟩:=hs1.2.2 b o hb;exact⟨sl,by rw[yBl _ _ (Ne.symm hbe)];exact hpS _ hs⟩
theorem aKv{base:Heap}{env:Env}{outer:List Env}{L e:qv}{cls:qx}{dx:Option qv}{fl:Option qx}{h0:Heap}{H:Hp}{Q:Unit->qj->Prop}
 (hfr:A.frames=qq (env::outer)) (hl:s.heap.FunFrames base (env::outer)) (hf:env.frame=qq L) (hlo:∀ b,s.heap.objs.size<=b->h0.get? b=qz) (hH:∀ b,s.heap.objs.size<=b->H b=qz) (ht:Trc s.heap h0 H e cls dx fl)
 (hfl:fl=qz\/fl=qq .none\/fl=qq (jq L)) (h:∀ h',Trc h' h0 H e cls dx (qq (jq L))->Chg (dB (env::outer)) h0 H s.heap h'->Q () {s with heap:=h' }):qu M A (noteFrame (.ref e) env) Q E s:=by
 obtain⟨oe,vs,he,hc,hdx,hd,hsz,hle,hHe,ht⟩:=id ht.ex;have last:∀ {s1:qj}{head:qx}{hn:Bool},s1.heap.FunFrames base (env::outer)->s1.heap.get? e=qq oe->s1.heap.objs.size=s.heap.objs.size->Chg (dB (env::outer)) h0 H s.heap s1.heap->(∀ h',Q () {s1 with heap:=h' }=Q () {s with heap:=h' }) ->
  qu M A (do let a <- frameOf env;let pl <- entryPlaceOf L hn;let b <- EntryCells.newEntry head a .none (jq L) .none pl;setField (.ref e) 1 b) Q E s1:=by
  intro s1 head hn hl1 he1 hz c1 hQ;refine aJv hfr hl1 hf he1 hd hsz λ h' T oT ts x1 x2 x3 x4 x5 x6 x7=>?_
  rw[hQ];have hT:s.heap.objs.size<=T:=by rw[<- hz];exact x2
  have hTe:T≠e:=λ z=>by
   have:=xAa he;rw[<- z] at this;exact absurd (xAc this hT) (yBc _)
  refine h h' ⟨_,_,x1,?_,?_,Obj.data_mapFields hd _,by simpa using hsz,hle,hHe,.inr ⟨_,T,oT,ts,rfl,by simp[hsz],hTe,hlo T hT,hH T hT,x3,x4,x5⟩⟩ (c1.trans ⟨λ b o hb hn hq=>x6 b o hb (λ z=>?_) hn,λ b o hb hm hnf=>x7 b o hb (λ z=>?_),λ b o hb=>?_⟩)
  ·rw[Obj.cls_mapFields];exact hc
  ·have:(oe.mapFields (·.setIfInBounds 1 (Value.ref T))).dict=oe.dict:=by
    obtain⟨_,_,dt,_⟩:=oe;cases dt<;>rfl
   rw[this];exact hdx
  ·subst z;rw[he1] at hb;cases hb;rcases hq with q | q | q
   ·exact q hle
   ·exact q hHe
   ·exact q vs hd
  ·subst z;rw[he1] at hb;cases hb;exact hnf vs hd
  ·by_cases z:b=e
   ·subst z;exact⟨_,x1⟩
   ·obtain⟨sl,q⟩:=x7 b o hb z;exact⟨_,q⟩
 rcases ht with ⟨rfl,h1⟩ | ⟨f,T,oT,ts,rfl,h1,hTe,hTlo,hHT,hT,hdT,h3⟩
 ·unfold noteFrame;simp only[hf];refine wB (zw he hd h1 ?_);rw[if_neg (by decide)]
  exact last hl he rfl .refl λ _=>rfl
 ·by_cases hfL:f=jq L
  ·subst hfL;unfold noteFrame;simp only[hf];refine wB (zw he hd h1 ?_);rw[if_pos (show(Value.ref T != Value.none)=true from by simp)]
   refine wB (zw hT hdT h3 ?_);rw[if_pos (show(jq L==jq L)=true from by simp)]
   exact wP (h s.heap ht .refl)
  ·obtain rfl:f=.none:=by
    rcases hfl with z | z | z
    ·cases z
    ·cases z;rfl
    ·cases z;exact absurd rfl hfL
   unfold noteFrame;simp only[hf];refine wB (zw he hd h1 ?_);rw[if_pos (show(Value.ref T != Value.none)=true from by simp)]
   refine wB (zw hT hdT h3 ?_);rw[if_neg (show ¬ ((Value.none==jq L)=true) from by simp[jq])]
   refine wB (wpAny_setField hT hdT (Array.getElem?_eq_some_iff.mp h3).1 ?_);have other:∀ b,b≠T->(s.heap.update T (Obj.mapFields (·.setIfInBounds 3 Value.none))).get? b=s.heap.get? b:=λ b hb=>yBl _ _ (Ne.symm hb)
   have noRec:∀ b o,s.heap.get? b=qq o->(∀ vs,o.data≠.fields vs)->b≠T:=λ b o hb hnf q=>by
    subst q;rw[hT] at hb;cases hb;exact hnf ts hdT
   refine last (hl.of_keeps λ b o hb hnf=>⟨o,(other b (noRec b o hb hnf)).trans hb,rfl⟩) ((other e (Ne.symm hTe)).trans he) (Heap.size_after_update ..) ⟨λ b o hb hn hq=>(other b λ z=>?_).trans hb,λ b o hb hm hnf=>⟨o.slots,(other b (noRec b o hb hnf)).trans hb⟩,λ b o hb=>?_⟩ λ _=>rfl
   ·subst z;rw[hT] at hb;cases hb;rcases hq with q | q | q
    ·exact q hTlo
    ·exact q hHT
    ·exact q ts hdT
   ·by_cases z:b=T
    ·subst z;exact⟨_,yBw _ hT (Obj.isFreed_of_fields (Obj.data_mapFields hdT _))⟩
    ·exact⟨o,(other b z).trans hb⟩
theorem aIf{e:qv}{cls:qx}{dx:Option qv}{f:qx}{h0:Heap}{H:Hp}{fs:List qv}{v:Option qv}{Q:Unit->qj->Prop}(ht:Trc s.heap h0 H e cls dx (qq f))
 (h:∀ h',Trc h' h0 H e cls dx (qq (v.elim .none λ f=>jq f))->Chg fs h0 H s.heap h'->Q () {s with heap:=h' }):qu M A (setFlight (.ref e) v) Q E s:=by
 obtain⟨oe,vs,he,hc,hdx,hd,hsz,hle,hHe,ht⟩:=ht.ex;rcases ht with ⟨z,_⟩ | ⟨f',T,oT,ts,z,h1,hTe,hTlo,hHT,hT,hdT,h3⟩
 ·cases z
 cases z;have hsz3:3<ts.size:=(Array.getElem?_eq_some_iff.mp h3).1;unfold setFlight;refine wB (zw he hd h1 ?_);rw[if_pos (show(Value.ref T != Value.none)=true from by simp)]
 have other:∀ b,b≠T->(s.heap.update T (Obj.mapFields (·.setIfInBounds 3 (v.elim Value.none λ f=>jq f)))).get? b=s.heap.get? b:=λ b hb=>yBl _ _ (Ne.symm hb)
 have noRec:∀ b o,s.heap.get? b=qq o->(∀ vs,o.data≠.fields vs)->b≠T:=λ b o hb hnf q=>by
  subst q;rw[hT] at hb;cases hb;exact hnf ts hdT
 have hT2:=yBw (Obj.mapFields (·.setIfInBounds 3 (v.elim Value.none λ f=>jq f))) hT (Obj.isFreed_of_fields (Obj.data_mapFields hdT _))
 refine wpAny_setField hT hdT hsz3 (h _ ⟨oe,vs,(other e (Ne.symm hTe)).trans he,hc,hdx,hd,hsz,hle,hHe,.inr ⟨_,T,_,_,rfl,h1,hTe,hTlo,hHT,hT2,Obj.data_mapFields hdT _,by simp[hsz3]⟩⟩ ⟨λ b o hb hn hq=>(other b λ z=>?_).trans hb,λ b o hb hm hnf=>⟨o.slots,(other b (noRec b o hb hnf)).trans hb⟩,λ b o hb=>?_⟩)
 ·subst z;rw[hT] at hb;cases hb;rcases hq with q | q | q
  ·exact q hTlo
  ·exact q hHT
  ·exact q ts hdT
 ·by_cases z:b=T
  ·subst z;exact⟨_,hT2⟩
  ·exact⟨o,(other b z).trans hb⟩
end
structure Bel(X:Cx)(aA:List (qv×Obj))(h0:Heap):Prop where
 s0:∀ b o,X.s₀.heap.get? b=qq o->b ∉ X.ex->h0.get? b≠qz
 loc:h0.get? X.env.locals≠qz
 cell:∀ x c,X.env.cells.lookup x=qq c->h0.get? c≠qz
 pin:∀ p∈X.pn++aA,h0.get? p.1≠qz
theorem jV{h:Heap}{b:qv}{o:Obj}(e:h.get? b=qq o):h.get? b≠qz:=by rw[e];simp
theorem rB{X:Cx}{aA:List (qv×Obj)}{σ:L2.St}{H:Hp}{s:qj}(I:Inv X aA σ H s):Bel X aA s.heap:=
 ⟨λ b o e n=>let ⟨_,e'⟩:=I.base.there b o e n;jV e',let ⟨_,⟨_,_,_,ho,_⟩,_⟩:=I.loc;jV ho,λ x c e=>let ⟨v,o,ho,_⟩:=I.cell x c e;jV ho,λ p hp=>jV (I.pin p hp).1⟩
theorem aEF{X:Cx}{aA:List (qv×Obj)}{σ:L2.St}{H:Hp}{s:qj}{h0 h':Heap}(I:Inv X aA σ H s)(B:Bel X aA h0)(c:Chg (dB X.stack) h0 H s.heap h'):Inv X aA σ H {s with heap:=h' }:=by
 have nfs:∀ b u,H b=qq u->b ∉ dB X.stack:=λ b u e z=>by rw[I.stkFree b z] at e;cases e
 have hnf:∀ b∈dB X.stack,∀ o,s.heap.get? b=qq o->∀ vs,o.data≠.fields vs:=λ b hb o ho vs=>by
  obtain⟨_,o',ho',hd⟩:=I.stack.mem hb;rw[ho] at ho';cases ho';exact hd vs
 have any:∀ b o,s.heap.get? b=qq o->h0.get? b≠qz->∃ sl,h'.get? b=qq {o with slots:=sl }:=λ b o e n=>by
  by_cases hb:b∈dB X.stack
  ·exact c.slot b o e hb (hnf b hb o e)
  ·exact⟨o.slots,c.keep b o e hb (.inl n)⟩
 have neL:∀ b o,X.s₀.heap.get? b=qq o->b≠X.env.locals:=λ b o e=>xAh (xAc (xAa e) I.ok.above)
 have cellK:∀ x k,X.env.cells.lookup x=qq k->∀ v,s.heap.IsCell k v->h'.IsCell k v:=λ x k e v aK=>by
  obtain⟨o,ho,hd⟩:=aK;obtain⟨sl,q⟩:=any k o ho (B.cell x k e);exact⟨_,q,hd⟩
 refine⟨I.ok,I.os,I.bare,⟨λ b o e n hb hx=>?_,λ b o e n hb hx=>?_,I.base.free,λ b o e hx=>?_,I.base.tups,I.base.frzs,I.base.tbls⟩,?_,λ x k e=>?_,I.free,I.freeC,λ p hp=>?_,λ b u e=>?_,I.len⟩
 ·exact c.keep b o (I.base.keep b o e n hb hx) (λ z=>(List.mem_cons.mp (I.stkSub b z)).elim (neL b o e) hb) (.inl (B.s0 b o e hx))
 ·obtain⟨sl,e1⟩:=I.base.slot b o e n hb hx;obtain⟨sl',e2⟩:=any b _ e1 (B.s0 b o e hx);exact⟨sl',e2⟩
 ·obtain⟨o',e1⟩:=I.base.there b o e hx;exact c.there b o' e1
 ·obtain⟨m,⟨o,es,ep,ho,r⟩,hl⟩:=I.loc;obtain⟨sl,q⟩:=any _ o ho B.loc;refine⟨m,⟨_,es,ep,q,r⟩,λ i x v e1 e2 e3=>?_⟩
  obtain⟨u,r,l⟩:=hl i x v e1 e2 e3;refine⟨u,r,?_⟩;rcases l with l | ⟨k,d,e,z⟩
  ·exact .inl l
  ·exact .inr ⟨k,d,e,cellK x d e _ z⟩
 ·obtain⟨v,z⟩:=I.cell x k e;exact⟨v,cellK x k e v z⟩
 ·obtain⟨e,n,ne,nf,d⟩:=I.pin p hp;exact⟨c.keep p.1 p.2 e (λ z=>(List.mem_cons.mp (I.stkSub _ z)).elim ne nf) (.inl (B.pin p hp)),n,ne,nf,d⟩
 ·refine(I.hok b u e).stay (λ d v hd q=>c.keep d v q ?_ (.inr (.inl ?_))) (λ _ q=>q) λ _ _ q=>q
  ·rcases hd with z | z
   ·rw[z];exact nfs b u e
   ·exact nfs d _ z
  ·rcases hd with z | z
   ·rw[z,e];simp
   ·rw[z];simp
abbrev XW:=L2.St->qx->Option qv->Hp->Prop
def jG(X:Cx)(W:XW)(e:qx)(s:qj):Prop:=∃ a cls dx fl h0 σ H,e=.ref a/\Inv X [] σ H s/\Trc s.heap h0 H a cls dx fl/\(fl=qz\/fl=qq .none\/fl=qq (jq X.env.locals))/\Bel X [] h0/\(∀ b,h0.get? b≠qz->s.heap.get? b≠qz)/\W σ cls dx H
noncomputable def iY(P:qo)(w:zq):hZ:=λ outer H s E e s'=>∃ a cls dx H',e=.ref a/\s'.os=s.os/\AllBare s'.gens/\Un (dB outer) [] H H' s.heap s'.heap/\cL P w H' s'.heap/\Trc s'.heap s.heap H' a cls dx (qq .none)/\E cls dx H'
structure Dfb(X:Cx):Prop where
 stk:X.stack=X.env::X.outer
 frm:X.env.frame=qq X.env.locals
 ex:X.ex=[]
theorem aHl{h0 h:Heap}(q:∀ b,h0.get? b≠qz->h.get? b≠qz):∀ b,h.objs.size<=b->h0.get? b=qz:=λ b hb=>by
 cases e:h0.get? b with
 | none=>rfl
 | some o =>
   have:=q b (jV e);cases e2:h.get? b with
   | none=>exact absurd e2 this
   | some o2=>exact absurd (xAc (xAa e2) hb) (yBc _)
theorem Chg.stay{fs:List qv}{h0 h1:Heap}{H:Hp}{h h':Heap}(c:Chg fs h1 H h h')(q:∀ b,h0.get? b≠qz->h.get? b≠qz):∀ b,h0.get? b≠qz->h'.get? b≠qz:=λ b hb=>by
 have:=q b hb;cases e:h.get? b with
 | none=>exact absurd e this
 | some o=>obtain⟨o',e'⟩:=c.there b o e;exact jV e'
theorem oJ{X:Cx}{aA:List (qv×Obj)}{σ:L2.St}{H:Hp}{s:qj}(I:Inv X aA σ H s):Inv X [] σ H s:=
 ⟨I.ok,I.os,I.bare,I.base,I.loc,I.cell,I.free,I.freeC,λ p hp=>I.pin p (by rw[yAs] at hp;exact yEk _ hp),I.hok,I.len⟩
theorem Trc.down{h h0 h1:Heap}{H:Hp}{e:qv}{cls:qx}{dx:Option qv}{fl:Option qx}(t:Trc h h1 H e cls dx fl)(q:∀ b,h0.get? b≠qz->h1.get? b≠qz):Trc h h0 H e cls dx fl:=by
 have z:∀ b,h1.get? b=qz->h0.get? b=qz:=λ b hb=>by
  cases e:h0.get? b with
  | none=>rfl
  | some o=>exact absurd hb (q b (jV e))
 obtain⟨oe,vs,he,hc,hdx,hd,hsz,hle,hHe,ht⟩:=t.ex;refine⟨oe,vs,he,hc,hdx,hd,hsz,z e hle,hHe,?_⟩;rcases ht with t | ⟨f,T,oT,ts,a,b,c,d,r⟩
 ·exact .inl t
 ·exact .inr ⟨f,T,oT,ts,a,b,c,z T d,r⟩
theorem aAp{X:Cx}{A:zj}{W:XW}{e:qx}{s:qj}{E:qx->qj->Prop}{Q:Unit->qj->Prop}(D:Dfb X)(hA:A.frames=X.A.frames)(h:jG X W e s)
 (hq:∀ a cls dx h0 σ H s',e=.ref a->Inv X [] σ H s'->Trc s'.heap h0 H a cls dx (qq (jq X.env.locals))->Bel X [] h0->(∀ b,h0.get? b≠qz->s'.heap.get? b≠qz)->W σ cls dx H->Q () s'):qu (model X.prog X.w) A (noteFrame e X.env) Q E s:=by
 obtain⟨a,cls,dx,fl,h0,σ,H,rfl,I,T,hfl,B,hb,hw⟩:=h;have hs:=I.stack;rw[D.stk] at hs;refine aKv (by rw[hA,I.ok.frames,D.stk]) hs D.frm (aHl hb) (λ b=>I.hok.fresh) T hfl λ h' T' c=>?_
 rw[<- D.stk] at c;exact hq a cls dx h0 σ H _ rfl (aEF I B c) T' B (c.stay hb) hw
theorem qT{X:Cx}{A:zj}{σ:L2.St}{H:Hp}{a:qv}{cls f:qx}{dx:Option qv}{h0:Heap}{s:qj}{v:Option qv}{E:qx->qj->Prop}{Q:Unit->qj->Prop}(I:Inv X [] σ H s)(T:Trc s.heap h0 H a cls dx (qq f))(B:Bel X [] h0)(hb:∀ b,h0.get? b≠qz->s.heap.get? b≠qz)
 (hq:∀ s',Inv X [] σ H s'->Trc s'.heap h0 H a cls dx (qq (v.elim .none λ f=>jq f))->(∀ b,h0.get? b≠qz->s'.heap.get? b≠qz)->Q () s'):qu (model X.prog X.w) A (setFlight (.ref a) v) Q E s:=
 aIf (fs:=dB X.stack) T λ h' T' c=>hq _ (aEF I B c) T' (c.stay hb)
theorem aIS{P:qo}{w:zq}{K:FrG}{mg:Str->Option qx}{base:Heap}{N:List Str}{bE:Str}{scope:zy}{f:qv}{cd:qx}{A:zj}{outer:List Env}{s:qj}{H:Hp}{E:XK}{e:qx}{s':qj}
 (h:jG (hB (iY P w) P w K mg base N bE scope f cd A outer s H E) (λ _=>E) e s'):(hB (iY P w) P w K mg base N bE scope f cd A outer s H E).xe e s':=by
 unfold hB leaving;refine wB (aAp (X:=hB (iY P w) P w K mg base N bE scope f cd A outer s H E) ⟨rfl,rfl,rfl⟩ rfl h λ a cls dx h0 σ H' s1 ea I T B hb hw=>?_)
 subst ea;refine qT (X:=hB (iY P w) P w K mg base N bE scope f cd A outer s H E) (v:=qz) I T B hb λ s2 I2 T2 hb2=>?_
 exact⟨a,cls,dx,H',rfl,I2.os,I2.bare,I2.base,I2.hok,T2.down λ b hb=>by
  cases q:s.heap.get? b with
  | none=>exact absurd q hb
  | some o=>exact B.s0 b o q (by intro z;cases z),hw⟩
theorem aEn{X:Cx}{W:XW}(D:Dfb X):PassesOwn (model X.prog X.w) X.A X.env (jG X W):=λ e s h=>by
 refine aAp D rfl h λ a cls dx h0 σ H s1 ea I T B hb hw=>?_
 subst ea;obtain⟨oe,vs,he,hc,hdx,hd,hsz,hle,hHe,ht⟩:=id T.ex;rcases ht with ⟨z,_⟩ | ⟨f',Tb,oT,ts,z,h1,_⟩
 ·cases z
 cases z;unfold cameBackBy;refine wB (zw he hd h1 ?_);rw[if_neg (by simp)]
 refine qT I T B hb λ s2 I2 T2 hb2=>?_
 rw[D.frm] at T2;exact⟨a,cls,dx,_,h0,σ,H,rfl,I2,T2,.inr (.inr rfl),B,hb2,hw⟩
theorem jG.unwish{X:Cx}{E:qx->qj->Prop}{W:XW}{e:qx}{s:qj}(h:jG (X.wish E) W e s):jG X W e s:=by
 obtain⟨a,cls,dx,fl,h0,σ,H,ea,I,T,hfl,B,hb,hw⟩:=h;exact⟨a,cls,dx,fl,h0,σ,H,ea,I.unwish,T,hfl,⟨B.s0,B.loc,B.cell,B.pin⟩,hb,hw⟩
theorem Dfb.wish{X:Cx}(D:Dfb X)(E:qx->qj->Prop):Dfb (X.wish E):=⟨D.stk,D.frm,D.ex⟩
section
variable {P : qo}{w : zq}{K : FrG}{mg : Str -> Option qx}{base : Heap}
theorem bO.wish{X:Cx}{E:qx->qj->Prop}(hE:∀ e s,E e s->X.xe e s){st:List zk}{t:TS}(h:bO (X.wish E) st t):bO X st t:=λ aA s σ H D I hw =>
 wpAny_mono (h aA s σ H D (I.wish _) hw) (λ _ _ q=>q.unwish) hE
theorem Fun.okX{x bE:Str}{st:zk}{f:qv}{fd:xu}{N ps:List Str}{k:Nat}{sp:Sp}(F:Fun K x bE st f fd)(S:FnScope N ps (bH st))(len:∀ vs H Q E,sp vs H Q E->vs.length=ps.length)
 (hbody:∀ (X:Cx) (A:zj) (vs:List V) (H:Hp) (Q:VK) (E:XK),X.prog=P->X.w=w->X.K=K->X.mg=mg->X.base=base->X.N=N->X.env.scope=bH st->X.calm=true->(∀ x,X.fn x=true)->Dfb X->Room k X.A->sp vs H Q E ->
   ∃ t,bO (X.wish (jG X λ _=>E)) (dN st) t/\t {nx:=λ _ H'=>Q .non H',rt:=Q } (start N vs) H):FnOk P w K mg base (iY P w) (k+1) f fd ps sp:=by
 obtain⟨oc,od,kV,doc,pm,an,cdv,ct,osl,rfl,lk,hcd⟩:=F.ex;refine aFP lk hcd S len λ A outer s H vs Q E hr hsp=>?_
 obtain⟨t,h,q⟩:=hbody (hB (iY P w) P w K mg base N bE (bH st) f cdv A outer s H E) A vs H Q E rfl rfl rfl rfl rfl rfl rfl rfl (λ _=>rfl) ⟨rfl,rfl,rfl⟩ hr hsp
 exact⟨t,bO.wish (λ e s h=>aIS h) h,q⟩
end
section
variable {X : Cx}{k : Nat}{f : qv}{fd : xu}{ps : List Str}{sp : Sp}{W : XW}{x : Str}{p pos : Pos}{e : qw}{es : List qw}{t : TA}
def rX(X:Cx)(W:XW):Prop:=∀ e s,jG X W e s->X.xe e s
theorem aKY{aA:List (qv×Obj)}{σ:L2.St}{H:Hp}{s:qj}{Q:VK}{us:List qx}{vs:List V}(F:FnOk X.prog X.w X.K X.mg X.base (iY X.prog X.w) k f fd ps sp)(hr:Room k X.A)(hb:dD X.K fd ps [])(hx:rX X W)
 (I:Inv X aA σ H s) (r:aS vs us) (h:sp vs H Q (W σ)):qu (model X.prog X.w) X.A (call (.ref f) us) (EP X aA σ Q) X.xe s:=by
 have hl:(us++[]).length=ps.length:=by rw[yAs,<- r.length];exact F.len _ _ _ _ h
 have hbb:=hb s us I.kIn hl;rw[yAs] at hbb;refine wpAny_call (codeAny_mono (F.run X.A X.stack s H ⟨us,[]⟩ us vs Q (W σ) hr I.env0 hbb r h) λ r s' hq=>?_)
 cases r with
 | error e =>
   obtain⟨a,cls,dx,H',rfl,os,bare,un,hok,T,q⟩:=hq;have I2:Inv X aA σ H' s':=I.call' (ch:=[]) os un hok bare λ b z=>absurd z (by simp)
   exact hx _ _ ⟨a,cls,dx,_,s.heap,σ,H',rfl,oJ I2,T,.inr (.inl rfl),rB (oJ I),λ b hb=>by
    cases q:s.heap.get? b with
    | none=>exact absurd q hb
    | some o=>obtain⟨o',e'⟩:=un.there b o q (by simp);exact jV e',q⟩
 | ok fl =>
   cases fl with
   | ret u=>exact I.after hq
   | next=>exact False.elim hq
   | brk=>exact False.elim hq
   | cont=>exact False.elim hq
def aEW(sp:Sp)(W:XW)(t:TA):TE:=λ σ H Q=>t σ H λ vs H1=>sp vs H1 Q (W σ)
theorem aJe(F:FnOk X.prog X.w X.K X.mg X.base (iY X.prog X.w) k f fd ps sp)(hr:Room k X.A)(hg:Gl X x)(hm:X.mg x=qq (.ref f))(hk:yBq X.K (.ref f)=true)(hb:dD X.K fd ps [])(hx:rX X W)
 (ha:PA X (e::es) t) (hdb:(x==("__debug__" : Str))=false) (he:zv (e::es) X.env=(false,eval e X.env)::zv es X.env) (hpl:(backTo pos (zv es X.env)).any (·.1)=false) :
 PE X (.Call (.Name x p) (e::es) [] pos) (aEW sp W t):=by
 intro aA s σ H Q I h;refine xy (kO I hg hm ?_ hdb);refine yDp (h₀:=X.base) I.ok.mod.kin hk (aX (ha pos aA s σ H _ I h) λ us s1 ⟨vs,H1,I1,r,q⟩=>⟨I1.kIn,?_⟩) he hpl
 exact aKY F hr hb hx I1 r q
end
inductive FlX where
 | fl (f:Fl) | ex (env:aU) (c:Str) (r:D)
abbrev FX:=aU->aC->Option (FlX×aC)
inductive ResX where
 | ok (w:W) | ex (c:Str) (r:D)
abbrev jM:=aU->aC->Option (ResX×aC)
def nR(K:FrG)(F:Hp)(c:Str)(r:D)(cls:qx)(dx:Option qv):Prop:=∃ C,cls=.ref C/\yBx K qy c=qq (qq (.ref C))/\sQ F dx r
theorem nR.mono{K:FrG}{F F':Hp}(e:bN F F'){c:Str}{r:D}{cls:qx}{dx:Option qv}(h:nR K F c r cls dx):nR K F' c r cls dx:=let ⟨C,h1,h2,h3⟩:=h;⟨C,h1,h2,h3.mono e⟩
section
variable (K : FrG)(W : XW)
noncomputable def aOZ(D:Ends)(F':Hp)(L':List qv)(H':Hp):FlX->Prop
 | .fl f=>wT K D F' L' H' f
 | .ex env c r=>∀ σ cls dx,EnvR K F' L' env σ->nR K F' c r cls dx->W σ cls dx H'
def tX(f:FX):TS:=λ D σ H=>∃ F L S env fx S',Rel K F L S H/\EnvR K F L env σ/\f env S=qq (fx,S')/\∀ F' L' H',Gr F L F' L'->Rel K F' L' S' H'->aOZ K W D F' L' H' fx
noncomputable def sJ(F:Hp)(L:List qv)(S':aC)(Q:VK)(E:XK):ResX->Prop
 | .ok w=>pZ K F L S' w Q
 | .ex c r=>∀ F' L' H' cls dx,Gr F L F' L'->Rel K F' L' S' H'->nR K F' c r cls dx->E cls dx H'
def oA(f:jM):TE:=λ σ H Q=>∃ F L S env res S',Rel K F L S H/\EnvR K F L env σ/\f env S=qq (res,S')/\sJ K F L S' Q (W σ) res
noncomputable def nZ(np:Nat)(call:List EV.W->aC->Option (ResX×aC)):Sp:=λ vs H Q E=>∃ F L S ws res S',ws.length=np/\Rel K F L S H/\WDenL K F L ws vs/\call ws S=qq (res,S')/\sJ K F L S' Q E res
end
theorem sJ.mono{K:FrG}{F F1:Hp}{L L1:List qv}{S':aC}{Q:VK}{E:XK}{res:ResX}(g:Gr F L F1 L1)(h:sJ K F L S' Q E res):sJ K F1 L1 S' Q E res:=by
 cases res with
 | ok w=>exact λ F2 L2 H2 v g2 R2 d2=>h F2 L2 H2 v (g.trans g2) R2 d2
 | ex c r=>exact λ F2 L2 H2 cls dx g2 R2 x2=>h F2 L2 H2 cls dx (g.trans g2) R2 x2
section
variable {X : Cx}{W : XW}{pos : Pos}
theorem PS.nox{st:zk}{t:TS}(h:PS X.nox st t):PS X st t:=λ aA s σ H D I hw =>
 wpAny_mono (h aA s σ H D (I.wish _) hw) (λ _ _ q=>q.unwish) λ _ _ z=>False.elim z
theorem PA.nox{es:List qw}{t:TA}(h:PA X.nox es t):PA X es t:=λ pos aA s σ H Q I hw =>
 wpAny_mono (h pos aA s σ H Q (I.wish _) hw) (λ _ _ hPr3=>by obtain⟨v,H',I',r,q⟩:=hPr3;exact⟨v,H',I'.unwish,r,q⟩) λ _ _ z=>False.elim z
noncomputable def xP(f:FS):FX:=λ env S=>(f env S).bind λ p=>qq (.fl p.1,p.2)
theorem aPy{K:FrG}{f:FS}(D:Ends)(σ:L2.St)(H:Hp)(h:tX K W (xP f) D σ H):cG K f D σ H:=by
 obtain⟨F,L,S,env,fx,S',R,E,e,q⟩:=h;obtain⟨⟨fl,S1⟩,e1,e2⟩:=bind_some e;cases e2;exact iL R E e1 q
theorem x_s{st:zk}{f:FS}(h:PS X.nox st (cG X.K f)):PS X st (tX X.K W (xP f)):=PS.weak (PS.nox h) aPy
noncomputable def aFw:FX:=λ env S=>qq (.fl (.nx env),S)
theorem aOS:bO X [] (tX X.K W aFw):=bO.weak aAU λ D σ H h=>by
 obtain⟨F,L,S,env,fx,S',R,E,e,q⟩:=h;cases e;exact q F L H Gr.refl R σ E
noncomputable def aF6(fa fb:FX):FX:=λ env S=>(fa env S).bind λ p=>match p.1 with
 | .fl (.nx e)=>fb e p.2
 | fl=>qq (fl,p.2)
theorem aOe{a:zk}{b:List zk}{fa fb:FX}(ha:PS X a (tX X.K W fa))(hb:bO X b (tX X.K W fb)):bO X (a::b) (tX X.K W (aF6 fa fb)):=bO.weak (aAC ha hb) λ D σ H h=>by
 obtain⟨F,L,S,env,fx,S',R,E,e,q⟩:=h;obtain⟨⟨f1,S1⟩,e1,e2⟩:=bind_some e;cases f1 with
 | ex e' c r=>cases e2;exact⟨F,L,S,env,_,_,R,E,e1,q⟩
 | fl f1 =>
   cases f1 with
   | nx e'=>exact⟨F,L,S,env,_,_,R,E,e1,λ F1 L1 H1 g1 R1 σ1 E1=>⟨F1,L1,S1,e',fx,S',R1,E1,e2,λ F2 L2 H2 g2 R2=>q F2 L2 H2 (g1.trans g2) R2⟩⟩
   | rt w=>cases e2;exact⟨F,L,S,env,_,_,R,E,e1,q⟩
   | bk e'=>cases e2;exact⟨F,L,S,env,_,_,R,E,e1,q⟩
   | ct e'=>cases e2;exact⟨F,L,S,env,_,_,R,E,e1,q⟩
noncomputable def xIf(fc:FT)(fa fb:FX):FX:=λ env S=>(fc env S).bind λ p=>if p.1=true then fa env p.2 else fb env p.2
theorem aPd{c:qw}{a b:List zk}{fc:FT}{fa fb:FX}(hc:PT X.nox c (dQ X.K fc))(ha:bO X a (tX X.K W fa))(hb:bO X b (tX X.K W fb)):PS X (.If c a b pos) (tX X.K W (xIf fc fa fb)):=PS.weak (aFT (PT.nox hc) ha hb) λ D σ H h=>by
 obtain⟨F,L,S,env,fx,S',R,E,e,q⟩:=h;obtain⟨⟨c,S1⟩,e1,e2⟩:=bind_some e;refine⟨F,L,S,env,c,S1,R,E,e1,λ F1 L1 H1 g1 R1=>?_⟩
 cases c with
 | true=>exact nO ⟨F1,L1,S1,env,fx,S',R1,E.mono g1,by simpa using e2,λ F2 L2 H2 g2 R2=>q F2 L2 H2 (g1.trans g2) R2⟩
 | false=>exact nL ⟨F1,L1,S1,env,fx,S',R1,E.mono g1,by simpa using e2,λ F2 L2 H2 g2 R2=>q F2 L2 H2 (g1.trans g2) R2⟩
noncomputable def nH(t:Tg)(fb:FX):List D->FX
 | []=>λ env S=>qq (.fl (.nx env),S)
 | d::ds=>λ env S=>(t.put d env).bind λ e1=>(fb e1 S).bind λ q=>(match q.1 with
    | .fl (.nx e)=>nH t fb ds e q.2
    | .fl (.ct e)=>nH t fb ds e q.2
    | .fl (.bk e)=>qq (.fl (.nx e),q.2)
    | fl=>qq (fl,q.2))
noncomputable def pT(t:Tg)(fi:FL)(fb:FX):FX:=λ env S=>(fi env S).bind λ p=>nH t fb p.1 env p.2
theorem aNZ{tg iter:qw}{b:List zk}{t:Tg}{g:TG}{fi:FL}{fb:FX}(hp:PassesOwn (model X.prog X.w) X.A X.env X.xe)(hc:X.calm=true)(hi:PI X tg iter (iA X.K fi))(hg:PG X tg g)(ga:GA X.K t g)(hb:bO X b (tX X.K W fb))
 (hs:∀ x,jj iter X.env x=pure x):PS X (.For tg iter b [] pos) (tX X.K W (pT t fi fb)):=PS.weak (aEJ hp hc hi hg hb hs) λ D σ H h=>by
 obtain⟨F,L,S,env,fx,S',R,E,e,q⟩:=h;obtain⟨⟨ds,S1⟩,e1,e2⟩:=bind_some e;refine⟨F,L,S,env,ds,S1,R,E,e1,λ F0 L0 H0 J g0 R0 wk=>?_⟩
 dsimp only at e2;refine⟨λ i m σ1 H1=>i+m=ds.length/\∃ F1 L1 S1 env1,Gr F0 L0 F1 L1/\Rel X.K F1 L1 S1 H1/\EnvR X.K F1 L1 env1 σ1/\nH t fb (ds.drop i) env1 S1=qq (fx,S'),
  ⟨ds.length,yFk _,F0,L0,S1,env,Gr.refl,R0,E.mono g0,by rw[yCu];exact e2⟩,?_⟩
 rintro i m σ1 H1 ⟨him,F1,L1,S1',env1,g1,R1,E1,e3⟩;cases m with
 | zero =>
   have hi:i=ds.length:=by omega
   subst hi;rw[yEi] at e3;cases e3;exact .inl ⟨wk.stop H1 (g1.f.trans R1.sub),q F1 L1 H1 (g0.trans g1) R1 σ1 E1⟩
 | succ m =>
   have hi:i<ds.length:=by omega
   refine .inr ⟨wk.go i H1 (g1.f.trans R1.sub) hi,λ σ3 H3=>∃ F3 L3 S3 env3,Gr F0 L0 F3 L3/\Rel X.K F3 L3 S3 H3/\EnvR X.K F3 L3 env3 σ3/\nH t fb (ds.drop (i+1)) env3 S3=qq (fx,S'),
    λ σ3 H3 h3=>⟨m,yDl m,by omega,h3⟩,λ x H2 y=>?_⟩
   rw[yCl hi] at e3;obtain⟨env2,e4,e5⟩:=bind_some e3;obtain⟨⟨f6,S6⟩,e6,e7⟩:=bind_some e5;obtain⟨F2,s2,R2,d2⟩:=wk.yld i H1 F1 L1 S1' x H2 ds[i] g1 R1 (yAd hi) y;have g2:Gr F1 L1 F2 L1:=⟨s2,[],by simp⟩
   refine ga ds[i] x σ1 H2 F2 L1 S1' env1 env2 _ R2 (E1.mono g2) d2 e4 λ σ2 E2=>?_
   refine⟨F2,L1,S1',env2,f6,S6,R2,E2,e6,λ F3 L3 H3 g3 R3=>?_⟩
   have g03:=(g1.trans g2).trans g3;cases f6 with
   | ex e' c r=>cases e7;exact λ σ3 cls dx E3 x3=>q F3 L3 H3 (g0.trans g03) R3 σ3 cls dx E3 x3
   | fl f6 =>
     cases f6 with
     | nx e'=>exact λ σ3 E3=>⟨F3,L3,S6,e',g03,R3,E3,e7⟩
     | ct e'=>exact λ σ3 E3=>⟨F3,L3,S6,e',g03,R3,E3,e7⟩
     | bk e'=>cases e7;exact λ σ3 E3=>q F3 L3 H3 (g0.trans g03) R3 σ3 E3
     | rt w=>cases e7;exact λ v d=>q F3 L3 H3 (g0.trans g03) R3 v d
noncomputable def nF(f:jM):FX:=λ env S=>(f env S).bind λ p=>match p.1 with
 | .ok _=>qq (.fl (.nx env),p.2)
 | .ex c r=>qq (.ex env c r,p.2)
noncomputable def mB(i:Nat)(f:jM):FX:=λ env S=>(f env S).bind λ p=>match p.1 with
 | .ok w=>qq (.fl (.nx (env.set i (qq w))),p.2)
 | .ex c r=>qq (.ex env c r,p.2)
noncomputable def wN(k:Str)(f:jM):jM:=λ env S=>(f env S).bind λ p=>match p.1 with
 | .ok (.d x)=>qq (.ok (.d (.tuple [.str k,x])),p.2)
 | .ok _=>qz
 | .ex c r=>qq (.ex c r,p.2)
noncomputable def aBu(fs:FA)(np:Nat)(call:List EV.W->aC->Option (ResX×aC)):jM:=λ env S=>(fs env S).bind λ p=>if p.1.length=np then call p.1 p.2 else qz
theorem aMV{e:qw}{f:jM}(h:PE X e (oA X.K W f))(hs:swapsWith e qz pos.line X.env=pure false):PS X (.Expr e pos) (tX X.K W (nF f)):=PS.weak (aEv h hs) λ D σ H h=>by
 obtain⟨F,L,S,env,fx,S',R,E,e,q⟩:=h;obtain⟨⟨res,S1⟩,e1,e2⟩:=bind_some e;refine⟨F,L,S,env,res,S1,R,E,e1,?_⟩;cases res with
 | ok w=>cases e2;exact λ F1 L1 H1 v g1 R1 d1=>q F1 L1 H1 g1 R1 σ (E.mono g1)
 | ex c r=>cases e2;exact λ F1 L1 H1 cls dx g1 R1 x1=>q F1 L1 H1 g1 R1 σ cls dx (E.mono g1) x1
theorem aNR{i:Nat}{x:Str}{e:qw}{f:jM}{pos':Pos}(hN:X.N.Nodup)(hi:X.N[i]? = qq x)(hx:Loc X.env.scope x)(h:PE X e (oA X.K W f))(hs:swapsWith e (qq (.Name x pos')) pos.line X.env=pure false)(hf:X.fn x=true\/X.env.scope.names.lookup x=qq .local) :
 PS X (.Assign [.Name x pos'] e pos) (tX X.K W (mB i f)):=PS.weak (aFa hN hi hx h hs hf) λ D σ H h=>by
 obtain⟨F,L,S,env,fx,S',R,E,e,q⟩:=h;obtain⟨⟨res,S1⟩,e1,e2⟩:=bind_some e;refine⟨F,L,S,env,res,S1,R,E,e1,?_⟩;cases res with
 | ok w=>cases e2;exact λ F1 L1 H1 v g1 R1 d1=>q F1 L1 H1 g1 R1 _ ((E.mono g1).set i d1)
 | ex c r=>cases e2;exact λ F1 L1 H1 cls dx g1 R1 x1=>q F1 L1 H1 g1 R1 σ cls dx (E.mono g1) x1
theorem aL9{k:Str}{j:Nat}{p1:Pos}{kk:Nat}{e:qw}{f:jM}(h:PE X e (oA X.K W f))(hp:bS e=true):PE X (.Tuple [.Constant (.str k) j p1,e] kk pos) (oA X.K W (wN k f)):=
 PE.weak (aA2 (jR aFc (jR h oV (cV hp _ _)))) λ σ H Q h=>by
  obtain⟨F,L,S,env,res,S',R,E,e,q⟩:=h;obtain⟨⟨r1,S1⟩,e1,e2⟩:=bind_some e;refine⟨F,L,S,env,r1,S1,R,E,e1,?_⟩;cases r1 with
  | ex c r=>cases e2;exact q
  | ok w =>
    cases w with
    | d x =>
      cases e2;exact λ F1 L1 H1 v g1 R1 d1=>⟨by show 2<=qk;decide,λ p hp=>q _ L1 _ _ (g1.trans (Gr.new (R1.sub.free hp))) (R1.new hp) (Den.tup (bL.of bQ) (.cons (.str k) (.cons (Den.mono (dG (R1.sub.free hp)) d1) .nil)))⟩
    | loc n=>cases e2
    | exc c r=>cases e2
theorem aKw{K:FrG}{fs:FA}{np:Nat}{call:List EV.W->aC->Option (ResX×aC)}(σ:L2.St)(H:Hp)(Q:VK)(h:oA K W (aBu fs np call) σ H Q):aEW (nZ K np call) W (cT K fs) σ H Q:=by
 obtain⟨F,L,S,env,res,S',R,E,e,q⟩:=h;obtain⟨⟨ws,S1⟩,e1,e⟩:=bind_some e
 split at e
 ·rename_i hn;exact⟨F,L,S,env,ws,S1,R,E,e1,λ F1 L1 H1 vs g1 R1 d1=>⟨F1,L1,S1,ws,res,S',hn,R1,d1,e,q.mono g1⟩⟩
 ·cases e
end
noncomputable def fD(fb:FX)(n:Nat)(ws:List W)(S:aC):Option (ResX×aC):=(fb (ws.map qq++yAf (n-ws.length) qz) S).bind λ p=>match p.1 with
 | .fl (.rt w)=>(kF S.length p.2 w).bind λ q=>qq (.ok q.1,q.2)
 | .fl (.nx _)=>qq (.ok (.d .none),p.2.take S.length)
 | .ex _ c r=>qq (.ex c r,p.2.take S.length)
 | _=>qz
theorem aKs{K:FrG}{fb:FX}{N:List Str}{np:Nat}{vs:List V}{H:Hp}{Q:VK}{E:XK}(h:nZ K np (fD fb N.length) vs H Q E):tX K (λ _=>E) fb {nx:=λ _ H'=>Q .non H',rt:=Q } (L2.start N vs) H:=by
 obtain⟨F,L,S,ws,res,S',hn,R,dl,e,q⟩:=h;obtain⟨⟨fx,S1⟩,e1,e2⟩:=bind_some e;refine⟨F,L,S,_,fx,S1,R,aCO dl,e1,λ F1 L1 H1 g1 R1=>?_⟩
 cases fx with
 | ex aO c r =>
   cases e2;intro σ' cls dx E' x';obtain⟨sf,M,rfl⟩:=g1;have R2:=R1.cut;rw[R.len] at R2;exact q F1 L H1 cls dx ⟨sf,[],by simp⟩ R2 x'
 | fl f =>
   cases f with
   | nx aO =>
     cases e2;exact λ σ' E'=>vL (w:=.d .none) R.len g1 R1 Den.non rfl q
   | rt w' =>
     obtain⟨⟨w2,S2⟩,e3,e4⟩:=bind_some e2;cases e4;exact λ v d=>vL R.len g1 R1 d e3 q
   | bk aO=>cases e2
   | ct aO=>cases e2
noncomputable def lR(call:List EV.W->aC->Option (ResX×aC)):List EV.W->aC->Option (W×aC):=λ ws S=>(call ws S).bind λ p=>match p.1 with
 | .ok w=>qq (w,p.2)
 | .ex _ _=>qz
theorem aI9{P:qo}{w:zq}{K:FrG}{mg:Str->Option qx}{base:Heap}{k:Nat}{f:qv}{fd:xu}{ps:List Str}{np:Nat}{call:List EV.W->aC->Option (ResX×aC)}
 (F:FnOk P w K mg base (iY P w) k f fd ps (nZ K np call)):FnOk P w K mg base fH k f fd ps (jL K np (lR call)):=by
 have hsp:∀ vs H Q E,jL K np (lR call) vs H Q E->nZ K np call vs H Q E0:=λ vs H Q E h=>by
  obtain⟨F,L,S,ws,w,S',hn,R,dl,e,q⟩:=h;obtain⟨⟨res,S1⟩,e1,e2⟩:=bind_some e;cases res with
  | ok w1=>cases e2;exact⟨F,L,S,ws,_,_,hn,R,dl,e1,q⟩
  | ex c r=>cases e2
 refine⟨λ vs H Q E h=>F.len vs H Q E0 (hsp vs H Q E h),λ A outer s H args us vs Q E hr he hb hv h=>codeAny_mono (F.run A outer s H args us vs Q E0 hr he hb hv (hsp vs H Q E h)) λ r s' q=>?_⟩
 cases r with
 | ok fl=>cases fl<;>exact q
 | error e =>
   obtain⟨_,_,_,_,_,_,_,_,_,_,z⟩:=q;exact z
end EV
namespace EV
open PySem L2 PySem.Spec PyProof.Rows PySem.W
section
variable {prog : qo}{w : zq}{A : zj}{E : qx -> qj -> Prop}{s : qj}{K : FrG}{x D : qv}{ox : Obj}{odo : Option Obj}{name : Str}{tk : Tok}
theorem aDD{R:Result->qj->Prop}(X:K.In s.heap)(I:yCb s.heap x ox D odo)(hm:mroIn K D (.type "BaseException")=qq true)
 (h:qu (model prog w) A.in1 (Builtin.«object.__getattribute__» ⟨[.ref x,.str name tk],[]⟩) (λ bB s'=>match bB with | .done f=>R (.ok f) s' | .again c'=>c'.quiet=true/\wq (model prog w) A c' R s') (λ e s'=>R (.error e) s') s) :
 wq (model prog w) A (.call (.builtin "BaseException.__getattribute__") ⟨[.ref x,.str name tk],[]⟩) R s:=by
 obtain⟨hh,g,d,t,os⟩:=s;have L0:=I.type (M:=model prog w);have L1:=looks_mroIn (M:=model prog w) X hm;have L2:Looks (model prog w) hh (isInstance (.ref x) (.type "BaseException")) true:=L0.andThen L1;refine codeAny_call_builtin F.attr_ValueError.ga.plain F.entry_bexc_ga ?_;have hk:builtinKind "BaseException.__getattribute__" = qq .slot:=by decide +kernel
 have hsplit:splitId "BaseException.__getattribute__" = qq ("BaseException", "__getattribute__"):=by decide +kernel
 have ha:=F.args_bexc_ga (.ref x) (.str name tk);simp only[checkBuiltinCall,hk,hsplit];refine wB (L2.at ?_)
 repeat (any_goals (first | assumption | wp_step))
theorem aEP{fill expr:Bool}{Q:qx->qj->Prop}(X:K.In s.heap)(I:yCb s.heap x ox D odo)(hga:findIn K (.ref D) "__getattribute__" = qq (qq (.builtin "BaseException.__getattribute__")))(hgt:findIn K (.ref D) "__getattr__" = qq qz)
 (h:wq (model prog w) A (.call (.builtin "BaseException.__getattribute__") ⟨[.ref x,.str name tk],[]⟩) (λ r s'=>match r with | .ok (.ret v)=>qu (model prog w) A (handedOut v) Q E s' | _=>False) s) :
 qu (model prog w) A (getAttrBy (.ref x) (.str name tk) fill expr) Q E s:=by
 obtain⟨hh,g,d,t,os⟩:=s;have L0:=I.type (M:=model prog w);have L1:=looks_findIn (M:=model prog w) X hga;have L2:=looks_findIn (M:=model prog w) X hgt;have f3:=F.attr_ValueError.ga.bind (.ref x);have hx2:(Value.builtin "BaseException.__getattribute__" == Value.builtin "object.__getattribute__")=false:=by decide +kernel
 have hx0:(expr&&onTheHeap (Value.builtin "BaseException.__getattribute__"))=false:=by cases expr<;>rfl
 unfold getAttrBy;refine xq (wB (L0.at (wB (L1.at ?_))));dsimp only;rw[hx2,Bool.and_false,if_neg yAp];unfold getAttrByItsOwn hookBefore;rw[if_pos (show onTheHeap (Value.ref D)=true from rfl)]
 refine wB (L2.at (wB (wu (xq ?_))));unfold callGetattribute boundAndCalled;rw[hx0,if_neg yAp,f3];refine wB (wP (wpAny_call (codeAny_mono h λ r s' q=>?_)))
 rcases r with e | (_ | _ | _ | v)
 all_goals first | exact q.elim | exact q
theorem aHr{a g:qx}(hc:(clsIn K D).isSome=true)(ha:findIn K (.ref D) name=qq (qq a))(hg:specialIn K a "__get__" = qq (qq g))(ht:takesIn K a=qq true):findObj K D odo name=qq (.bind g a):=by
 obtain⟨cd,hc⟩:=Option.isSome_iff_exists.mp hc;unfold findObj;rw[hc,yBb,ha,yBb];simp[hg,ht]
theorem aI2{g a:qx}{Q:Fin->qj->Prop}(X:K.In s.heap)(I:yCb s.heap x ox D odo)(hf:findObj K D odo name=qq (.bind g a))(h:wq (model prog w) A (.call g ⟨[a,.ref x,.ref D],[]⟩) (λ r s'=>match r with | .ok (.ret v)=>qu (model prog w) A (ret v) Q E s' | .ok _=>False | .error e=>E e s') s):qu (model prog w) A (Builtin.«object.__getattribute__» ⟨[.ref x,.str name tk],[]⟩) Q E s:=by
 obtain⟨hh,gg,d,t,os⟩:=s;have L0:=I.type (M:=model prog w);have L1:=looks_find (M:=model prog w) X I hf;unfold Builtin.«object.__getattribute__»
 repeat (any_goals (first | assumption | with_reducible refine L0.at ?_ | with_reducible refine L1.at ?_ | wp_step))
theorem aIC{v:qx}{Q:Fin->qj->Prop}(X:K.In s.heap)(I:yCb s.heap x ox D odo)(hf:findObj K D odo name=qq (.value v))(h:Q (.done (.ret v)) s):qu (model prog w) A (Builtin.«object.__getattribute__» ⟨[.ref x,.str name tk],[]⟩) Q E s:=by
 obtain⟨hh,gg,d,t,os⟩:=s;have L0:=I.type (M:=model prog w);have L1:=looks_find (M:=model prog w) X I hf;unfold Builtin.«object.__getattribute__»
 repeat (any_goals (first | assumption | with_reducible refine L0.at ?_ | with_reducible refine L1.at ?_ | wp_step))
end
structure XcOk(K:FrG)(D:qv):Prop where
 ga:findIn K (.ref D) "__getattribute__" = qq (qq (.builtin "BaseException.__getattribute__"))
 gt:findIn K (.ref D) "__getattr__" = qq qz
 mb:mroIn K D (.type "BaseException")=qq true
 mo:mroIn K D (.type "object")=qq true
 hd:hasDictIn K D=true
 rw:findIn K (.ref D) "row" = qq qz
 ca:findIn K (.ref D) "__class__" = qq (qq (.builtin "object.__class__"))
 cg:specialIn K (.builtin "object.__class__") "__get__" = qq (qq (.builtin "getset_descriptor.__get__"))
 ct:takesIn K (.builtin "object.__class__")=qq true
theorem XcOk.cl{K:FrG}{D:qv}(O:XcOk K D):(clsIn K D).isSome=true:=by
 obtain⟨cd,hc,_⟩:=aIQ O.hd;rw[hc];rfl
theorem aDs{K:FrG}{x D:qv}{ox:Obj}{odo:Option Obj}(O:XcOk K D):KitX K (.ref x) (.ref D) (λ h=>yCb h x ox D odo) where
 ty:=λ _ _ _ I=>I.type
 it:=λ _ _ X _=>by
  obtain⟨cdD,hcD⟩:=Option.isSome_iff_exists.mp O.cl;unfold clsIn at hcD
  split at hcD
  ·rename_i c' d' cd' sl' ho;intro A' Q' E' s' k q;unfold isType loadHead;exact wB (wpAny_loadPart (k _ _ (X _ _ ho)) (wP q))
  ·cases hcD
 ne:=λ h tp dd its n sl X htp=>by
  obtain⟨cdD,hcD⟩:=Option.isSome_iff_exists.mp O.cl;refine Bool.eq_false_iff.mpr λ q=>?_
  have e:D=tp:=Value.ref.inj (beq_iff_eq.mp q);subst e;unfold clsIn at hcD
  split at hcD
  ·rename_i c' d' cd' sl' ho;have z:=(X _ _ ho).symm.trans htp;cases z
  ·cases hcD
 ca:=λ {prog w A E Q s} X I k=>by
  unfold getAttr? getAttrBy?;refine wB (wpAny_mkText (wB (wu ?_)));refine aEP (s:={s with toks:=s.toks+1 }) X I O.ga O.gt (aDD (s:={s with toks:=s.toks+1 }) X I O.mb (aI2 (s:={s with toks:=s.toks+1 }) X I (aHr O.cl O.ca O.cg O.ct) ?_))
  refine class_get (s:={s with toks:=s.toks+1 }) X I O.mo (wP ?_)
  show qu _ _ (handedOut (.ref D)) _ _ _;rw[handedOut_of rfl];exact wP (wP k)
end EV
namespace EV
open PySem L2 PySem.Spec PyProof.Rows PySem.W
theorem uK{P:qo}{w:zq}{H:Hp}{h:Heap}{a:qv}{o:HO}(x:fA P w H h a o):∃ u,h.get? a=qq u:=by
 cases o with
 | lst xs=>obtain⟨_,_,_,_,e⟩:=x;exact⟨_,e⟩
 | tup xs=>obtain⟨_,_,_,o,e,_⟩:=x;exact⟨o,e⟩
 | dK aH=>obtain⟨_,_,_,_,o,_,_,e,_⟩:=x;exact⟨o,e⟩
 | dT aH=>obtain⟨_,_,_,_,o,_,_,e,_⟩:=x;exact⟨o,e⟩
 | set S n=>obtain⟨o,_,_,_,e,_⟩:=x;exact⟨o,e⟩
 | ins C dx fs=>obtain⟨_,_,_,e,_⟩:=x;exact⟨_,e⟩
 | own y=>exact x
 | xd fs=>obtain⟨mA,hn,_⟩:=x;obtain⟨_,_,_,e,_⟩:=hn;exact⟨_,e⟩
 | met f y=>exact⟨_,x⟩
 | rng lo hi=>obtain⟨_,_,_,e⟩:=x;exact⟨_,e⟩
 | frz o u=>exact⟨o,x.1⟩
 | tbl ps=>exact⟨_,x⟩
 | ext φ=>exact x.2.1
noncomputable abbrev jI:List qx:=[.type "ValueError",.type "Exception",.type "BaseException",.type "object"]
theorem aD2{K:FrG}{h:Heap}{C:qv}{bmB:List qx}{newId:String}(X:K.In h)(q:excIn K C bmB newId=true):∃ bm N nm qn bs hd sn sub ab col dd k0 k1 k2 k3 k5 mN,
 h.get? C=qq (excClassObj nm qn C N bs bm hd sn sub ab col dd k0 k1 k2 k3 k5 newId)/\h.Ns N mN/\mN "__init__" = qz/\OwnTail h bmB bm:=by
 unfold excIn at q
 split at q
 ·rename_i dd cd sl ho
  split at q
  ·rename_i C' bm k0 k1 k2 k3 n k5 hm hs;simp only[yBz,beq_iff_eq,Bool.not_eq_true'] at q;obtain⟨⟨⟨⟨⟨rfl,rfl⟩,hdel⟩,ht⟩,hok⟩,hni⟩:=q;obtain⟨nm,bs,mro,ns,qn,hd,sn,sub,ab,col,del⟩:=cd;dsimp only at hm hdel hok hni;subst hm hdel;obtain⟨l⟩:=sl;simp only at hs;subst hs;exact⟨bm,ns,nm,qn,bs,hd,sn,sub,ab,col,dd,k0,k1,k2,k3,k5,_,X _ _ ho,.of_isNs (isNs_of_in X hok),nsMap_none_of_in X hok hni,tail_of_in X ht⟩
  ·cases q
 ·cases q
noncomputable def aEK(c:Str):FX:=λ env S=>qq (.ex env c .none,S)
theorem aI6{X:Cx}{W:XW}{c:Str}{C:qv}{np cpos pos:Pos}(hx:rX X W)(hc:X.calm=true)(hg:Gl X c)(hm:X.mg c=qq (.ref C))(hns:nsIn X.K qy c=qq (qq (.ref C)))(hq:excIn X.K C jI "ValueError.__new__" = true)
 (hd:(c==("__debug__" : Str))=false):PS X (.Raise (qq (.Call (.Name c np) [] [] cpos)) qz pos) (tX X.K W (aEK c)):=by
 rintro aA s σ H D I ⟨F0,L,S,env,fx,S',R,E,e,q⟩;cases e;obtain⟨bm,N,nm,qn,bs,hd',sn,sub,ab,col,dd,k0,k1,k2,k3,k5,mN,hC,hN,hni,T⟩:=aD2 I.kIn hq;refine wpAny_Raise_call_subT (C:=C) yDf (T.hasType PySem.F.excBase_ValueError.hasBase) (I.ok.hd hc) rfl hni (kO I hg hm ⟨rfl,evalArgs_empty ⟨rfl,yEo _,hC,hN,T,λ h' e me=>?_⟩⟩ hd)
 obtain⟨t,he,_,_⟩:=me.there;refine hx _ _ ⟨e,.ref C,qz,qz,s.heap,σ,H,rfl,oJ (I.kept (t':=s.toks) me.keeps),⟨_,_,he,rfl,rfl,rfl,Nat.lt_of_sub_pos (by simp),me.new,?_,.inl ⟨rfl,rfl⟩⟩,.inl rfl,rB (oJ I),λ b hb=>?_,q F0 L H Gr.refl R σ (.ref C) qz E ⟨C,rfl,hns,rfl⟩⟩
 ·cases z:H e with
  | none=>rfl
  | some u =>
    obtain⟨o,ho⟩:=uK (I.hok e u z);rw[me.new] at ho;cases ho
 ·cases z:s.heap.get? b with
  | none=>exact absurd z hb
  | some o=>exact jV (me.keeps b o z)
theorem aAa{X:Cx}{aA:List (qv×Obj)}{σ:L2.St}{H:Hp}{s:qj}{h0:Heap}{a:qv}{o:HO}(I:Inv X aA σ H s)(B:Bel X aA h0)(ha:h0.get? a=qz)(hH:H a=qz)(new:fA X.prog X.w (aT H a o) s.heap a o):Inv X aA σ (aT H a o) s:=by
 have ne:∀ b,h0.get? b≠qz->b≠a:=λ b hb z=>hb (by rw[z];exact ha)
 have nt:∀ b u,H b=qq u->b≠a:=λ b u e z=>by rw[z,hH] at e;cases e
 refine⟨I.ok,I.os,I.bare,⟨I.base.keep,I.base.slot,λ b u e n hx=>?_,I.base.there,λ b xs e=>?_,λ b u v e=>?_,λ b ps e=>?_⟩,I.loc,I.cell,?_,λ x c e=>?_,λ p hp=>?_,λ b u e=>?_,I.len⟩
 ·rw[aW (ne b (B.s0 b u e hx))];exact I.base.free b u e n hx
 ·have q:=I.base.tups b xs e;rw[aW (nt b _ q)];exact q
 ·have q:=I.base.frzs b u v e;rw[aW (nt b _ q)];exact q
 ·obtain⟨m,q⟩:=I.base.tbls b ps e;exact⟨m,by rw[aW (nt b _ q)];exact q⟩
 ·rw[aW (ne _ B.loc)];exact I.free
 ·rw[aW (ne _ (B.cell x c e))];exact I.freeC x c e
 ·obtain⟨e,n,r⟩:=I.pin p hp;exact⟨e,by rw[aW (ne _ (B.pin p hp))];exact n,r⟩
 ·by_cases hb:b=a
  ·subst hb;rw[bQ] at e;cases e;exact new
  ·rw[aW hb] at e;exact(I.hok b u e).stay (λ _ _ _ q=>q) (λ c q=>by rw[aW (nt c _ q)];exact q) λ c xs q=>by rw[aW (nt c _ q)];exact q
theorem aKy{X:Cx}{A:zj}{E:qx->qj->Prop}{aA:List (qv×Obj)}{σ:L2.St}{H:Hp}{s:qj}{i:Nat}{n:Str}{pos:Pos}{Q:Unit->qj->Prop}(I:Inv X aA σ H s)(hN:X.N.Nodup)(hi:X.N[i]? = qq n)(hl:X.env.kindOf n=qq .local)
 (h:∀ s',Inv X aA (σ.set i qz) H s'->Q () s'):qu (model X.prog X.w) A (do bindName X.env n .none;unbindBehindTheSuite X.env n pos) Q E s:=by
 obtain⟨m,hn,hm⟩:=id I.loc;have hk:(X.env.scope.kind==.class||(X.env.scope.kind==.module&&X.env.locals != X.env.globals))=false:=by rw[I.ok.kind];rfl
 refine wpAny_nameGoes_keeps hl hn hk λ h' v hn' hs=>h _ ?_
 have neL:∀ b o,X.s₀.heap.get? b=qq o->b≠X.env.locals:=λ b o e=>xAh (xAc (xAa e) I.ok.above)
 have nt:∀ b u,H b=qq u->b≠X.env.locals:=λ b u e z=>by rw[z,I.free] at e;cases e
 refine⟨I.ok,I.os,I.bare,⟨λ b o e nn hb hx=>?_,λ b o e nn hb hx=>?_,I.base.free,λ b o e hx=>?_,I.base.tups,I.base.frzs,I.base.tbls⟩,⟨_,hn',λ j y v' e1 e2 e3=>?_⟩,λ y c e=>?_,I.free,I.freeC,λ p hp=>?_,λ b u e=>?_,by simpa using I.len⟩
 ·exact(hs.2 b (neL b o e)).trans (I.base.keep b o e nn hb hx)
 ·obtain⟨sl,e1⟩:=I.base.slot b o e nn hb hx;exact⟨sl,(hs.2 b (neL b o e)).trans e1⟩
 ·obtain⟨o',e1⟩:=I.base.there b o e hx;exact⟨o',(hs.2 b (neL b o e)).trans e1⟩
 ·by_cases hj:j=i
  ·subst hj;rcases yEc j σ.length with z | z
   ·rw[yAn z] at e2;cases e2
   ·rw[yCz (by rw[yAq];exact z)] at e2;cases e2
  ·rw[yAm (Ne.symm hj)] at e2;obtain⟨u',r',q⟩:=hm j y v' e1 e2 e3;refine⟨u',r',?_⟩;rcases q with ⟨k,e⟩ | ⟨k,c,e,z⟩
   ·refine .inl ⟨k,?_⟩;have:y≠n:=λ e=>hj (aAr hN e1 (e▸hi))
    simp[this,e]
   ·exact .inr ⟨k,c,e,z.sameBut hs (I.cne y c e)⟩
 ·obtain⟨w',z⟩:=I.cell y c e;exact⟨w',z.sameBut hs (I.cne y c e)⟩
 ·obtain⟨e,n,ne,nf,d⟩:=I.pin p hp;exact⟨(hs.2 p.1 ne).trans e,n,ne,nf,d⟩
 ·refine(I.hok b u e).stay (λ d w' hd q=>(hs.2 d ?_).trans q) (λ _ q=>q) λ _ _ q=>q
  rcases hd with z | z
  ·rw[z];exact nt b u e
  ·exact nt d _ z
noncomputable abbrev dP(X:Cx)(aA:List (qv×Obj)):Cx:={X with pn:=X.pn++aA }
noncomputable abbrev nW(X:Cx)(e:qx):Cx:={X with A:=X.A.mark (qq e),calm:=false,xe:=λ _ _=>False }
theorem okP{X:Cx}{aA:List (qv×Obj)}(ok:X.Ok):(dP X aA).Ok:=⟨ok.mod,ok.kind,ok.glob,ok.blt,ok.above,ok.inj,ok.has,ok.cab,ok.hd,ok.frames,ok.stk,ok.exf,ok.bs,ok.bsz,ok.noex,ok.exfs,ok.funs,ok.frf⟩
theorem aO8{X:Cx}{aA:List (qv×Obj)}(ok:(dP X aA).Ok):X.Ok:=⟨ok.mod,ok.kind,ok.glob,ok.blt,ok.above,ok.inj,ok.has,ok.cab,ok.hd,ok.frames,ok.stk,ok.exf,ok.bs,ok.bsz,ok.noex,ok.exfs,ok.funs,ok.frf⟩
theorem aF4{X:Cx}{aA:List (qv×Obj)}{σ:L2.St}{H:Hp}{s:qj}(I:Inv X aA σ H s):Inv (dP X aA) [] σ H s:=⟨okP I.ok,I.os,I.bare,I.base,I.loc,I.cell,I.free,I.freeC,λ p hp=>I.pin p (by rw[yAs] at hp;exact hp),I.hok,I.len⟩
theorem wJ{X:Cx}{aA:List (qv×Obj)}{σ:L2.St}{H:Hp}{s:qj}(I:Inv (dP X aA) [] σ H s):Inv X aA σ H s:=⟨aO8 I.ok,I.os,I.bare,I.base,I.loc,I.cell,I.free,I.freeC,λ p hp=>I.pin p (by rw[yAs];exact hp),I.hok,I.len⟩
theorem aBL{X:Cx}{e:qx}{aA:List (qv×Obj)}{σ:L2.St}{H:Hp}{s:qj}(I:Inv X aA σ H s):Inv (nW X e) aA σ H s:=
 let ok:=I.ok
 ⟨⟨ok.mod,ok.kind,ok.glob,ok.blt,ok.above,ok.inj,ok.has,ok.cab,λ z=>(nomatch z),ok.frames,ok.stk,ok.exf,ok.bs,ok.bsz,ok.noex,ok.exfs,ok.funs,ok.frf⟩,I.os,I.bare,I.base,I.loc,I.cell,I.free,I.freeC,I.pin,I.hok,I.len⟩
theorem rW{X:Cx}{e:qx}{aA:List (qv×Obj)}{σ:L2.St}{H:Hp}{s:qj}(ok:X.Ok)(I:Inv (nW X e) aA σ H s):Inv X aA σ H s:=⟨ok,I.os,I.bare,I.base,I.loc,I.cell,I.free,I.freeC,I.pin,I.hok,I.len⟩
theorem spP{X:Cx}{aA:List (qv×Obj)}{D:Ends}{f:Flow}{s:qj}(h:SP (dP X aA) [] D f s):SP X aA D f s:=by
 cases f with
 | next=>obtain⟨σ',H',I,q⟩:=h;exact⟨σ',H',wJ I,q⟩
 | brk=>obtain⟨σ',H',I,q⟩:=h;exact⟨σ',H',wJ I,q⟩
 | cont=>obtain⟨σ',H',I,q⟩:=h;exact⟨σ',H',wJ I,q⟩
 | ret u=>obtain⟨v,σ',H',I,r,q⟩:=h;exact⟨v,σ',H',wJ I,r,q⟩
structure Hd where
 d:Str
 sl:Option Nat
 f:FS
noncomputable def xE(i:Nat):Fl×aC->Option (Fl×aC)
 | (.nx e,S)=>qq (.nx (e.set i qz),S)
 | _=>qz
noncomputable def fJ(tb:Str->Str->Option Bool)(c:Str)(r:D):List Hd->FS
 | []=>λ _ _=>qz
 | h::hs=>λ env S=>match tb c h.d with
   | some true=>(match h.sl with
     | none=>h.f env S
     | some i=>(h.f (env.set i (qq (.exc c r))) S).bind (xE i))
   | some false=>fJ tb c r hs env S
   | none=>qz
noncomputable def xH(tb:Str->Str->Option Bool)(fb:FX)(hs:List Hd):FX:=λ env S=>(fb env S).bind λ p=>match p.1 with
 | .fl f=>qq (.fl f,p.2)
 | .ex e c r=>(fJ tb c r hs e p.2).bind λ q=>qq (.fl q.1,q.2)
noncomputable def xF(X:Cx)(h:Hd):ExceptHandler->Prop
 | .ExceptHandler (qq (.Name d _)) nm (b0::suite) _=>d=h.d/\Gl X d/\(d==("__debug__" : Str))=false/\(∃ C,nsIn X.K qy d=qq (qq (.ref C))/\X.mg d=qq (.ref C)) /\
    (match nm,h.sl with
      | none,qz=>True
      | some n,qq i=>X.N[i]? = qq n/\X.env.scope.names.lookup n=qq .local
      | _,_=>False)/\∀ e,bO (nW X e) (b0::suite) (cG X.K h.f)
 | _=>False
inductive HdsOk (X:Cx):List Hd->List ExceptHandler->Prop
 | nil:HdsOk X [] []
 | cons {h:Hd}{hs:List Hd}{a:ExceptHandler}{as:List ExceptHandler}:xF X h a->HdsOk X hs as->HdsOk X (h::hs) (a::as)
def aBV(K:FrG)(tb:Str->Str->Option Bool):Prop:=∀ c d b C C',tb c d=qq b->nsIn K qy c=qq (qq (.ref C))->nsIn K qy d=qq (qq (.ref C'))->exmOne K (.ref C) (.ref C')=qq b
end EV
namespace EV
open PySem L2 PySem.Spec PyProof.Rows PySem.W
noncomputable def xU(K:FrG)(C:qv)(bmB:List qx)(newId:String):Bool:=match K.lookup C with
 | some ⟨.type "type",_,.cls cd,sl⟩=>(match cd.mro,sl.toList with
   | .ref C'::bm,[_,_,_,_,qq (.builtin n),_]=>C'==C&&n==newId && !cd.hasDel&&cd.hasDict&&tailIn K bmB bm&&nsOkIn K cd.ns
   | _,_=>false)
 | _=>false
theorem aAq{K:FrG}{h:Heap}{C:qv}{bmB:List qx}{newId:String}(X:K.In h)(q:xU K C bmB newId=true):∃ bm N nm qn bs sn sub ab col dd k0 k1 k2 k3 k5,
 h.get? C=qq (excClassObj nm qn C N bs bm true sn sub ab col dd k0 k1 k2 k3 k5 newId)/\OwnTail h bmB bm:=by
 unfold xU at q
 split at q
 ·rename_i dd cd sl ho
  split at q
  ·rename_i C' bm k0 k1 k2 k3 n k5 hm hs;simp only[yBz,beq_iff_eq,Bool.not_eq_true'] at q;obtain⟨⟨⟨⟨⟨rfl,rfl⟩,hdel⟩,hdi⟩,ht⟩,hok⟩:=q;obtain⟨nm,bs,mro,ns,qn,hd,sn,sub,ab,col,del⟩:=cd;dsimp only at hm hdel hok hdi;subst hm hdel hdi;obtain⟨l⟩:=sl;simp only at hs;subst hs;exact⟨bm,ns,nm,qn,bs,sn,sub,ab,col,dd,k0,k1,k2,k3,k5,X _ _ ho,tail_of_in X ht⟩
  ·cases q
 ·cases q
section
variable {prog : qo}{w : zq}{A : zj}{E : qx -> qj -> Prop}{h : Heap}{g : Array GenState}{d : Drawn}{t : Nat}{os : OsState}
variable {nm q : Str}{C N : qv}{bs bm : List qx}{sn : List Str}{sub : List qx}{ab : Bool}{col : Option Bool}{dd : Option qv}{k0 k1 k2 k3 k5 : Option qx}
theorem aHV(T:OwnTail h jI bm){bK:List qx}{fI:qv}{oI:Obj}{Q:PySem.Fin->qj->Prop}(hC:h.get? C=qq (excClassObj nm q C N bs bm true sn sub ab col dd k0 k1 k2 k3 k5 "ValueError.__new__"))
 (Li:Looks (model prog w) h (typeLookup (.ref C) "__init__") (qq (.ref fI))) (hfI:h.get? fI=qq oI) (hfc:oI.cls=.type "function")
 (hq:∀ h' e,Heap.MadeExcOf h h' e (.ref C) bK->qu (model prog w) A (call (.ref fI) (.ref e::bK)) (λ r s'=>r=.none/\Q (.done (.ret (.ref e))) s') E ⟨h',g,d,t,os⟩) (hrest:bK.length<=qk) :
 qu (model prog w) A (Builtin.«type.__call__» ⟨.ref C::bK,[]⟩) Q E ⟨h,g,d,t,os⟩:=by
 have F:=yDf
 repeat (first | with_reducible refine wpAny_loadPart_at hC ?_ | with_reducible refine wpAny_madeBy_exc hC ?_ | wp_step)
 refine codeAny_call_builtin_code (Code.quiet_builtin _ F.quiet) (wpAny_check_new_subU F F.hasB T hC ?_);refine codeAny_exc_new_subU F F.hasB F T hC ?_ hrest;show qu _ _ _ _ _ _;have kp:∀ b o,h.get? b=qq o->((h.push {cls:=.type "tuple",data:=.seq bK.toArray }).push {cls:=.ref C,data:=.fields #[.ref h.objs.size,.none,.none,.none,.bool false,.none] }).get? b=qq o:=λ b o e=>hpS _ (hpS _ e)
 have hC₁:=kp _ _ hC;have hfI₁:=kp _ _ hfI;have hget:((h.push {cls:=.type "tuple",data:=.seq bK.toArray }).push
  {cls:=.ref C,data:=.fields #[.ref h.objs.size,.none,.none,.none,.bool false,.none] }).get? (h.objs.size+1)=qq
  {cls:=.ref C,data:=.fields #[.ref h.objs.size,.none,.none,.none,.bool false,.none] }:=by heap_get
 have hcC:(Value.ref C::bm).contains (.ref C)=true:=by simp
 unfold isInstance
 repeat (first | with_reducible refine wpAny_loadPart_at hget ?_ | (with_reducible refine wpAny_isSubtype_exc hC₁ ?_;rw[hcC]) | wp_step)
 show qu _ _ (typeLookup (.ref C) _) _ _ _;refine(Li.keeps kp).at ?_;refine xq (wB ?_);unfold bindSpecial;refine wB (wpAny_typeOf (T:="function") ⟨_,hfI₁,hfc⟩ ?_);rw[if_pos (by decide)]
 refine wP (wB (wpAny_mono (hq _ (h.objs.size+1) ⟨kp,yDg (Nat.le_succ _),h.objs.size,hget,yDg (yAc _),?_⟩) (λ r s' hr=>?_) λ _ _ x=>x))
 ·exact hpS _ (Heap.get?_push_at rfl rfl)
 ·obtain⟨rfl,hQ⟩:=hr
  wp_walk
  exact hQ
theorem aHJ(T:OwnTail h jI bm){bK:List qx}{fI:qv}{oI:Obj}{Q:qx->qj->Prop}(hC:h.get? C=qq (excClassObj nm q C N bs bm true sn sub ab col dd k0 k1 k2 k3 k5 "ValueError.__new__"))
 (Li:Looks (model prog w) h (typeLookup (.ref C) "__init__") (qq (.ref fI))) (hfI:h.get? fI=qq oI) (hfc:oI.cls=.type "function")
 (hq:∀ h' e,Heap.MadeExcOf h h' e (.ref C) bK->qu (model prog w) (A.under (.builtin "type.__call__" ⟨.ref C::bK,[]⟩)) (call (.ref fI) (.ref e::bK)) (λ r s'=>r=.none/\Q (.ref e) s') E ⟨h',g,d,t,os⟩) (hrest:bK.length<=qk) :
 qu (model prog w) A (call (.ref C) bK) Q E ⟨h,g,d,t,os⟩:=by
 have f1:=tc_lookup;have f2:=tc_bind (.ref C);have hT:(⟨h,g,d,t,os⟩:qj).TypeIs (.ref C) "type":=⟨_,hC,rfl⟩;refine wpAny_call (codeAny_of_tree ?_);show qu _ _ (callAny (.ref C) _) _ _ _
 repeat (any_goals (first | assumption | with_reducible refine wpAny_loadPart_at hC ?_ | wp_step))
 refine⟨rfl,?_⟩;refine codeAny_call_builtin_at (Code.quiet_builtin _ (by decide +kernel)) entry_typeCall (wpAny_check_type_call_sub hC (aHV (hrest:=hrest) T hC Li hfI hfc λ h' e hm=>?_))
 exact hq h' e hm
theorem aHp{bm:List qx}(T:OwnTail h jI bm)(self:qx):refuseLoop self "__setattr__" bm=pure ():=by
 induction T with
 | base=>exact PySem.F.store_ValueError.passes self
 | own _ _ _ _ ih=>rw[refuseLoop_ref];exact ih
theorem aII{K:FrG}{x:qv}{ox:Obj}{vs:Array qx}{name:Str}{v:qx}{Q:Unit->qj->Prop}(X:K.In h)(T:OwnTail h jI bm)(hC:h.get? C=qq (excClassObj nm q C N bs bm true sn sub ab col dd k0 k1 k2 k3 k5 "ValueError.__new__"))
 (hs:findIn K (.ref C) "__setattr__" = qq (qq (.builtin "object.__setattr__"))) (hn:findIn K (.ref C) name=qq qz) (hx:h.get? x=qq ox) (hc:ox.cls=.ref C) (hd:ox.dict=qz) (hdat:ox.data=.fields vs)
 (hq:∀ h' tk' d',d'≠x->h.get? d'=qz->h.objs.size<=d'->h'.get? x=qq {ox with dict:=qq d' }->h'.Ns1 d' (λ y=>if y=name then qq v else qz)->(∀ b o,b≠x->h.get? b=qq o->h'.get? b=qq o)->Q () ⟨h',g,d,tk',os⟩) :
 qu (model prog w) A (setAttr (.ref x) name v) Q E ⟨h,g,d,t,os⟩:=by
 have I:yCb h x ox C qz:=⟨hx,hc,by unfold notCls;rw[hdat],by rw[hd];trivial⟩
 have SF:=PySem.F.store_object;have hcO:(Value.ref C::bm).contains (.type "object")=true:=by rw[List.contains_cons,T.hasType (show jI.contains (.type "object")=true by decide),Bool.or_true]
 refine set_plain (s:=⟨h,g,d,t,os⟩) X I hs ?_;have sub:Looks (model prog w) h (isInstance (.ref x) (.type "object")) true:=I.type.andThen (λ A Q E s k z=>by
  obtain⟨hh,g,d,t,os⟩:=s;refine wpAny_isSubtype_exc (k _ _ hC) ?_;rw[hcO];exact z)
 refine codeAny_call_builtin SF.slot.plain SF.entry (@check_slot (model prog w) _ _ ⟨h,g,d,t+1,os⟩ "object.__setattr__" "object" "__setattr__" (.ref x) [.str name t,v] [] _ SF.kind SF.split sub (SF.args (.ref x) (.str name t) v) ?_);have L3:=looks_findIn (M:=model prog w) X hn;rw[osa_eq,refuse_eq];refine wB (wB (I.type.at (wB (wpAny_mroOf_exc hC ?_))));rw[refuseLoop_ref,aHp T];refine wP (wB (I.type.at (wB (L3.at (wB (wP ?_))))));show qu _ _ (Builtin.ObjectAttr.storeInOwnDict _ _ _ _ _ _) _ _ _;have hxs:x≠h.objs.size:=xAh (xAa hx);have hx₁:(h.push {cls:=.type "dict",data:=.dict #[] }).get? x=qq ox:=hpS _ hx;unfold Builtin.ObjectAttr.storeInOwnDict Builtin.ObjectAttr.ownDictForStores instanceDict
 repeat (first | (with_reducible refine wpAny_loadPart_at hx ?_;rw[hc]) | with_reducible refine wpAny_loadPart_at hC ?_ | wp_step)
 rw[hd];dsimp only;rw[if_neg (by simp[typeHasDict]),hdat]
 refine wB (wpAny_alloc' ?_);refine wB (wpAny_update' hx₁ ?_);refine wP ?_;have hgd:((h.push {cls:=.type "dict",data:=.dict #[] }).update x λ o=>{cls:=o.cls,dict:=qq h.objs.size,data:=o.data,slots:=o.slots }).get? h.objs.size=qq {cls:=.type "dict",data:=.dict #[] }:=
  (Heap.get?_update_ne _ _ _ _ hxs.symm).trans (Heap.get?_push_at rfl rfl)
 have hnd:((h.push {cls:=.type "dict",data:=.dict #[] }).update x λ o=>{cls:=o.cls,dict:=qq h.objs.size,data:=o.data,slots:=o.slots }).Ns h.objs.size (λ _=>qz):=
  ⟨_,#[],_,hgd,rfl,λ e he=>absurd he (by simp),λ _=>rfl⟩
 show qu _ _ (Builtin.ObjectAttr.storeInDict h.objs.size (.str name t) name v) _ _ _;unfold Builtin.ObjectAttr.storeInDict Builtin.ObjectAttr.newKeyGuard;refine wB (wP (wB (wpAny_nsSet1 (Heap.Ns1.of_empty hnd) λ h' hn' hs=>?_)))
 obtain⟨oD,esD,epD,hoD,hdD,hcD⟩:=hn'.count (Within.cons name v Within.nil);refine wB (wpAny_lookBehind hoD (by rw[hdD];exact pastItsLine_dict (xAg hcD (by rw[yCh,yDd,zx];omega))) ?_)
 refine wP ?_;show Q () _;refine hq h' _ h.objs.size hxs.symm (yDg (yAc _)) (yAc _) ?_ hn' λ b ob hbx hb=>?_
 ·refine(hs.2 x hxs).trans (yBw _ hx₁ ?_);have hfr:=(Heap.get?_some_iff.mp hx).2;obtain⟨oc,od,odt,osl⟩:=ox;cases odt<;>first | rfl | exact hfr
 ·exact(hs.2 b (xAh (xAa hb))).trans ((Heap.get?_update_ne _ _ _ _ hbx).trans (hpS _ hb))
end
structure XiOk(K:FrG)(C fI:qv):Prop where
 ex:xU K C jI "ValueError.__new__" = true
 it:findIn K (.ref C) "__init__" = qq (qq (.ref fI))
 sa:findIn K (.ref C) "__setattr__" = qq (qq (.builtin "object.__setattr__"))
 rw:findIn K (.ref C) "row" = qq qz
 kp:keepIn K (.ref C)=true
 fn:isFn K (.ref fI)=true
def aPZ(X:Cx)(C:qv):TS:=λ D σ H=>∃ a oe vs i,σ[0]? = qq (qq (.ref a))/\σ[1]? = qq (qq (.int i))/\H a=qq (.ext λ h=>h.get? a=qq oe)/\oe.cls=.ref C/\oe.dict=qz/\oe.data=.fields vs /\
 ∀ dx,H dx=qz->dx≠a->D.nx σ (aT (aT H dx (.xd [("row",.int i)])) a (.ext λ h=>h.get? a=qq {oe with dict:=qq dx }))
theorem aM0{X:Cx}{C fI:qv}(O:XiOk X.K C fI){n0 n1:Str}{p0 p1 pos pos':Pos}(h0:X.N[0]? = qq n0)(h1:X.N[1]? = qq n1)(v0:lJ X.env.scope n0)(v1:lJ X.env.scope n1)(d0:(n0==("__debug__" : Str))=false)(c0:(n0==("__classdict__" : Str))=false)(d1:(n1==("__debug__" : Str))=false)(c1:(n1==("__classdict__" : Str))=false) :
 PS X (.Assign [.Attribute (.Name n0 p0) "row" pos'] (.Name n1 p1) pos) (aPZ X C):=by
 rintro aA s σ H D I ⟨a,oe,vs,i,e0,e1,ea,hc,hd,hdat,q⟩;refine plainObj_wpAny_Assign_Attribute (aX (aA0 (pos:=p1) h1 v1 d1 c1 aA s σ H (λ v H'=>v=.int i/\H'=H) I ⟨_,e1,rfl,rfl⟩) λ u s1 g1=>?_) rfl
 obtain⟨y,H1,I1,ry,ey,eH⟩:=g1;subst ey eH;refine aX (aA0 (pos:=p0) h0 v0 d0 c0 aA s1 σ H1 (λ v H'=>v=.ref a/\H'=H1) I1 ⟨_,e0,rfl,rfl⟩) λ ov s2 g2=>?_
 obtain⟨x,H2,I2,rx,ex,eH⟩:=g2;subst ex eH;obtain rfl:ov=Value.ref a:=rx;obtain⟨bm,N,nm,qn,bs,sn,sub,ab,col,dd,k0,k1,k2,k3,k5,hC,T⟩:=aAq I2.kIn O.ex;have he:=(I2.hok a _ ea).1;obtain⟨h2,g2,d2,t2,o2⟩:=s2;refine aII I2.kIn T hC O.sa O.rw he hc hd hdat λ h' tk' dx nx hnn hsz hx' hns hk=>?_
 have hdx:H2 dx=qz:=I2.hok.fresh hsz;refine⟨σ,_,?_,q dx hdx nx⟩;have hdo:∃ o,h'.get? dx=qq o:=let ⟨o,_,_,e,_⟩:=hns;⟨o,e⟩;have na:∀ b,H2 b=qz->b≠a:=λ b n z=>by rw[z,ea] at n;cases n
 have nd:∀ b u,h2.get? b=qq u->b≠dx:=λ b u e z=>by rw[z,hnn] at e;cases e
 have nd2:∀ b u,H2 b=qq u->b≠dx:=λ b u e z=>by rw[z,hdx] at e;cases e
 have un:Un X.fs [] H2 (aT (aT H2 dx (.xd [("row",.int i)])) a (.ext λ h=>h.get? a=qq {oe with dict:=qq dx })) h2 h':=by
  refine⟨λ b o e n _ _=>hk b o (na b n) e,λ b o e n _ _=>⟨o.slots,hk b o (na b n) e⟩,λ b o e n _=>?_,λ b o e _=>?_,λ b xs e=>?_,λ b o u e=>?_,λ b ps e=>⟨#[],?_⟩⟩
  ·rw[aW (na b n),aW (nd b o e)];exact n
  ·by_cases z:b=a
   ·rw[z];exact⟨_,hx'⟩
   ·exact⟨o,hk b o z e⟩
  ·rw[aW (λ z=>by rw[z,ea] at e;cases e),aW (nd2 b _ e)];exact e
  ·rw[aW (λ z=>by rw[z,ea] at e;cases e),aW (nd2 b _ e)];exact e
  ·rw[aW (λ z=>by rw[z,ea] at e;cases e),aW (nd2 b _ e),e];simp
 have hok:cL X.prog X.w (aT (aT H2 dx (.xd [("row",.int i)])) a (.ext λ h=>h.get? a=qq {oe with dict:=qq dx })) h':=λ b u e=>by
  by_cases z:b=a
  ·subst z;rw[bQ] at e;cases e;exact⟨hx',⟨_,hx'⟩,λ h1 h2 q1 q2=>q2 _ q1⟩
  ·rw[aW z] at e
   by_cases z2:b=dx
   ·subst z2;rw[bQ] at e;cases e;refine⟨_,hns,λ f=>?_⟩
    by_cases hf:f = "row"
    ·subst hf;rw[if_pos rfl];exact ry
    ·rw[if_neg hf,yBa];have:(f==("row" : Str))=false:=by rw[beq_eq_false_iff_ne];exact hf
     rw[this];exact trivial
   ·rw[aW z2] at e;refine(I2.hok b u e).stay (λ c v hcc k=>hk c v (λ y=>?_) k) (λ c k=>?_) λ c xs k=>?_
    ·rcases hcc with y2 | y2
     ·exact z (y2.symm.trans y)
     ·rw[y,ea] at y2;cases y2
    ·rw[aW (λ y=>by rw[y,ea] at k;cases k),aW (nd2 c _ k)];exact k
    ·rw[aW (λ y=>by rw[y,ea] at k;cases k),aW (nd2 c _ k)];exact k
 exact I2.un (t':=tk') un hok
noncomputable def qF(C:qv):Sp:=λ vs H Q _=>∃ a oe fv i,vs=[.ref a,.int i]/\H a=qq (.ext λ h=>h.get? a=qq oe)/\oe.cls=.ref C/\oe.dict=qz/\oe.data=.fields fv /\
 ∀ dx,H dx=qz->dx≠a->Q .non (aT (aT H dx (.xd [("row",.int i)])) a (.ext λ h=>h.get? a=qq {oe with dict:=qq dx }))
noncomputable def aF8(n0 n1:Str):List zk->Bool
 | [.Assign [.Attribute (.Name x _) a _] (.Name y _) _]=>decide (x=n0)&&decide (a = "row")&&decide (y=n1)
 | _=>false
noncomputable def aBi(st:zk)(n0 n1:Str):Bool:=decide ((bH st).kind=.function) && !(bH st).isCoroutine && !(bH st).isGenerator&&decide (n0≠n1)&&loc (bH st) n0&&loc (bH st) n1&&(bH st).names.all (λ y=>!decide (y.2=.free)) &&
 !(n0==("__debug__" : Str)) && !(n0==("__classdict__" : Str)) && !(n1==("__debug__" : Str)) && !(n1==("__classdict__" : Str))&&aF8 n0 n1 (dN st)
theorem aNu{P:qo}{w:zq}{K:FrG}{mg:Str->Option qx}{base:Heap}{x bE:Str}{st:zk}{fI C:qv}{fd:xu}{n0 n1:Str}{k:Nat}(Fu:Fun K x bE st fI fd)(h:aBi st n0 n1=true)(O:XiOk K C fI):FnOk P w K mg base fH (k+1) fI fd [n0,n1] (qF C):=by
 obtain⟨h,h12⟩:=bW h;obtain⟨h,h11⟩:=bW h;obtain⟨h,h10⟩:=bW h;obtain⟨h,h9⟩:=bW h;obtain⟨h,h8⟩:=bW h;obtain⟨h,h7⟩:=bW h;obtain⟨h,h6⟩:=bW h;obtain⟨h,h5⟩:=bW h;obtain⟨h,h4⟩:=bW h;obtain⟨h,h3⟩:=bW h;obtain⟨h1,h2⟩:=bW h;have hne:n0≠n1:=oqT h4;have sc:FnScope [n0,n1] [n0,n1] (bH st):=⟨oqT h1,tH h2,tH h3,by simp[hne],rfl,λ x hx=>by
  rcases List.mem_cons.mp hx with rfl | hx
  ·exact rJ h5
  ·rw[yBk] at hx;subst hx;exact rJ h6,λ y hy z=>by
  have:=List.all_eq_true.mp h7 y hy;rw[dqT z] at this;exact no this⟩
 refine Fu.ok sc (λ vs H Q E hsp=>?_) λ cdv A outer s H vs Q E hr hsp=>?_
 ·obtain⟨a,oe,fv,i,rfl,_⟩:=hsp;rfl
 ·have iU:∀ {y:Str},loc (bH st) y=true->lJ (bH st) y:=λ hy=>by
   rcases rJ hy with z | z
   ·exact .inl z
   ·exact .inr (.inl z)
  unfold aF8 at h12
  split at h12
  ·rename_i x p0 a p' y p1 pos hb;obtain⟨q,q3⟩:=bW h12;obtain⟨q1,q2⟩:=bW q;have q1:=oqT q1;have q2:=oqT q2;have q3:=oqT q3;subst q1 q2 q3;rw[hb];refine⟨_,aAC (aM0 (X:=(hB fH P w K mg base [x,y] bE (bH st) fI cdv A outer s H E).nox) O rfl rfl (iU h5) (iU h6) (dC h8) (dC h9) (dC h10) (dC h11)) aAU,?_⟩;obtain⟨a,oe,fv,i,rfl,e1,e2,e3,e4,e5⟩:=hsp;exact⟨a,oe,fv,i,rfl,rfl,e1,e2,e3,e4,λ dx f1 f2=>e5 dx f1 f2⟩
  ·exact no h12
theorem aHq{X:Cx}{aA:List (qv×Obj)}{σ:L2.St}{H H':Hp}{s:qj}{a:qv}{φ:Heap->Prop}(I:Inv X aA σ H s)(ea:H a=qq (.ext φ))(ha:H' a=qz)(hb:∀ b,b≠a->H' b=H b):Inv X aA σ H' s:=by
 have nt:∀ b u,H' b=qq u->b≠a:=λ b u e z=>by rw[z,ha] at e;cases e
 have ni:∀ b,H b=qz->H' b=qz:=λ b n=>by
  by_cases z:b=a
  ·rw[z];exact ha
  ·rw[hb b z];exact n
 refine⟨I.ok,I.os,I.bare,⟨I.base.keep,I.base.slot,λ b u e n hx=>ni b (I.base.free b u e n hx),I.base.there,λ b xs e=>?_,λ b u v e=>?_,λ b ps e=>?_⟩,I.loc,I.cell,ni _ I.free,λ x c e=>ni _ (I.freeC x c e),λ p hp=>?_,λ b u e=>?_,I.len⟩
 ·have q:=I.base.tups b xs e;rw[hb b (λ z=>by rw[z,ea] at q;cases q)];exact q
 ·have q:=I.base.frzs b u v e;rw[hb b (λ z=>by rw[z,ea] at q;cases q)];exact q
 ·obtain⟨m,q⟩:=I.base.tbls b ps e;exact⟨m,by rw[hb b (λ z=>by rw[z,ea] at q;cases q)];exact q⟩
 ·obtain⟨e,n,r⟩:=I.pin p hp;exact⟨e,ni _ n,r⟩
 ·have e':=e;rw[hb b (nt b u e)] at e';exact(I.hok b u e').stay (λ _ _ _ q=>q) (λ c q=>by rw[hb c (λ z=>by rw[z,ea] at q;cases q)];exact q) λ c xs q=>by rw[hb c (λ z=>by rw[z,ea] at q;cases q)];exact q
section
variable {M : Model}{A : zj}{E : qx -> qj -> Prop}{env : Env}
variable {nm q : Str}{C N : qv}{bs bm : List qx}{hdct : Bool}{sn : List Str}{sub : List qx}{ab : Bool}{col : Option Bool}{dd : Option qv}{k0 k1 k2 k3 k5 : Option qx}{newId : String}
theorem aHR{s:qj}{x:Sem qx}{Q:Flow->qj->Prop}(hh:A.handled=qz)
 (h:qu M A x (λ v s₁=>∃ e dx vs nm q N bs bm hdct sn sub ab col dd k0 k1 k2 k3 k5 newId,v=.ref e/\s₁.heap.get? C=qq (excClassObj nm q C N bs bm hdct sn sub ab col dd k0 k1 k2 k3 k5 newId)/\bm.contains (.type "BaseException")=true /\
   s₁.heap.get? e=qq {cls:=.ref C,dict:=dx,data:=.fields vs }/\vs[1]? = qq .none/\E (.ref e) s₁) E s) :
 qu M A (raiseStmt env (qq x) qz) Q E s:=by
 unfold raiseStmt;refine wB (wpAny_mono h (λ v s₁ h₁=>?_) λ _ _ x=>x)
 obtain⟨e,dx,vs,nm,q,N,bs,bm,hdct,sn,sub,ab,col,dd,k0,k1,k2,k3,k5,newId,rfl,hC,hbase,he,hv1,hE⟩:=h₁;have hcB:(Value.ref C::bm).contains (.type "BaseException")=true:=by rw[List.contains_cons,hbase,Bool.or_true]
 obtain⟨hp,g,d,tk,os⟩:=s₁
 repeat (first | with_reducible refine wpAny_loadPart_at he ?_ | with_reducible refine wpAny_loadPart_at hC ?_ | (with_reducible refine wpAny_isSubtype_exc hC ?_;rw[hcB]) | wp_step)
 rw[hv1];refine wP ?_;rw[if_neg (by decide)]
 exact wP (wpAny_raiseNew_none hh hE)
end
theorem aD9{X:Cx}{C fI:qv}{fd:xu}{n0 n1:Str}{k:Nat}(O:XiOk X.K C fI)(hr:Room (k+1) X.A)(F:FnOk X.prog X.w X.K X.mg X.base fH k fI fd [n0,n1] (qF C))(hbi:dD X.K fd [n0,n1] [])(hf:∃ oI,X.K.lookup fI=qq oI/\oI.cls=.type "function")
 {aA:List (qv×Obj)}{σ:L2.St}{H1:Hp}{s1:qj}{u:qx}{i:Int}{Q:qx->qj->Prop} (I1:Inv X aA σ H1 s1) (ru:aV (.int i) u)
 (hq:∀ s' ea dx ta,H1 ea=qz->H1 dx=qz->dx≠ea->s1.heap.get? ea=qz->Inv X aA σ (aT (aT H1 dx (.xd [("row",.int i)])) ea (.ext λ h=>h.get? ea=qq {cls:=.ref C,dict:=qq dx,data:=.fields #[.ref ta,.none,.none,.none,.bool false,.none] })) s'->(∀ b,s1.heap.get? b≠qz->s'.heap.get? b≠qz)->Q (.ref ea) s') :
 qu (model X.prog X.w) X.A (call (.ref C) [u]) Q X.xe s1:=by
 obtain⟨bm,N,nm,qn,bs,sn,sub,ab,col,dd,k0,k1,k2,k3,k5,hC,T⟩:=aAq I1.kIn O.ex;obtain⟨oI,hoI,hoc⟩:=hf;have Li:=looks_findIn (M:=model X.prog X.w) I1.kIn O.it;have hoI1:=I1.kIn _ _ hoI;obtain⟨h1,gg1,d1,t1,o1⟩:=s1;refine aHJ T hC Li hoI1 hoc (λ h' ea me=>?_) (by show 1<=qk;decide)
 obtain⟨ta,hea,_,_⟩:=me.there;have Ik:=I1.kept (t':=t1) me.keeps;have hHe:H1 ea=qz:=by
  cases z:H1 ea with
  | none=>rfl
  | some u =>
    obtain⟨o,ho⟩:=uK (I1.hok ea u z);rw[me.new] at ho;cases ho
 have It:=aAa (o:=.ext λ h=>h.get? ea=qq {cls:=.ref C,data:=.fields #[.ref ta,.none,.none,.none,.bool false,.none] }) Ik (rB I1) me.new hHe ⟨hea,⟨_,hea⟩,λ h1 h2 q1 q2=>q2 _ q1⟩
 refine wpAny_call (codeAny_mono (F.run _ X.stack _ _ ⟨[.ref ea,u],[]⟩ [.ref ea,u] [.ref ea,.int i] (λ v H2=>v=.non/\∃ dx,H1 dx=qz/\dx≠ea/\H2=aT (aT (aT H1 ea (.ext λ h=>h.get? ea=qq {cls:=.ref C,data:=.fields #[.ref ta,.none,.none,.none,.bool false,.none] })) dx (.xd [("row",.int i)])) ea (.ext λ h=>h.get? ea=qq {cls:=.ref C,dict:=qq dx,data:=.fields #[.ref ta,.none,.none,.none,.bool false,.none] })) E0 (hr.make C [u] []) (It.env0.make C [u] []) (by have:=hbi _ [.ref ea,u] It.kIn rfl;rw[yAs] at this;exact this) (.cons rfl (.cons ru .nil))
  ⟨ea,_,_,i,rfl,bQ,rfl,rfl,rfl,λ dx f1 f2=>⟨rfl,dx,by rw[aW f2] at f1;exact f1,f2,rfl⟩⟩) λ r s' hc=>?_)
 cases r with
 | error x=>exact hc.elim
 | ok fl =>
   cases fl with
   | next=>exact hc.elim
   | brk=>exact hc.elim
   | cont=>exact hc.elim
   | ret u2 =>
     obtain⟨v,H2,os,bare,un,hok,rv,rfl,dx,f1,f2,rfl⟩:=hc;have I3:=It.call' (ch:=[]) os un hok bare λ b z=>absurd z (by simp)
     have eH:aT (aT (aT H1 ea (.ext λ h=>h.get? ea=qq {cls:=.ref C,data:=.fields #[.ref ta,.none,.none,.none,.bool false,.none] })) dx (.xd [("row",.int i)])) ea (.ext λ h=>h.get? ea=qq {cls:=.ref C,dict:=qq dx,data:=.fields #[.ref ta,.none,.none,.none,.bool false,.none] }) =
      aT (aT H1 dx (.xd [("row",.int i)])) ea (.ext λ h=>h.get? ea=qq {cls:=.ref C,dict:=qq dx,data:=.fields #[.ref ta,.none,.none,.none,.bool false,.none] }):=by
      funext b
      by_cases z:b=ea
      ·subst z;rw[bQ,bQ]
      ·rw[aW z,aW z]
       by_cases z2:b=dx
       ·subst z2;rw[bQ,bQ]
       ·rw[aW z2,aW z2,aW z]
     rw[eH] at I3;refine⟨rv,hq s' ea dx ta hHe f1 f2 me.new I3 λ b hb=>?_⟩
     cases z:h1.get? b with
     | none=>exact absurd z hb
     | some o =>
       obtain⟨o',e'⟩:=un.there b o (me.keeps b o z) (by simp)
       exact jV e'
noncomputable def aGc(c:Str)(fe:FE):FE:=λ env S=>(fe env S).bind λ p=>match p.1 with
 | .d (.int i)=>qq (.d (.dict [(.str c,.int i)]),p.2)
 | _=>qz
theorem aNd{X:Cx}{c:Str}{C fI:qv}{fd:xu}{n0 n1:Str}{k:Nat}{np cpos:Pos}{e:qw}{fe:FE}(hg:Gl X c)(hm:X.mg c=qq (.ref C))(hns:nsIn X.K qy c=qq (qq (.ref C)))(O:XiOk X.K C fI)
 (hr:Room (k+1) X.A) (F:FnOk X.prog X.w X.K X.mg X.base fH k fI fd [n0,n1] (qF C)) (hbi:dD X.K fd [n0,n1] []) (hf:∃ oI,X.K.lookup fI=qq oI/\oI.cls=.type "function") (hd:(c==("__debug__" : Str))=false) (he:PE X e (aM X.K fe)) (hp:bS e=true) :
 PE X (.Call (.Name c np) [e] [] cpos) (aM X.K (aGc c fe)):=by
 rintro aA s σ H Q I ⟨F0,L,S,env,w,S',R,E,ef,q⟩;obtain⟨⟨w1,S1⟩,e1,e2⟩:=bind_some ef;cases w1 with
 | loc n=>cases e2
 | exc c r=>cases e2
 | d dd =>
   cases dd with
   | int i =>
     cases e2;have ha:PA X [e] (cT X.K (cH fe eJ)):=lQ he mY (cV hp _ _);refine xy (kO I hg hm ?_ hd);refine yDp (h₀:=X.base) I.ok.mod.kin O.kp (aX (ha cpos aA s σ H (λ vs H1=>vs=[.int i]/\∃ F1 L1,Gr F0 L F1 L1/\Rel X.K F1 L1 S1 H1) I ⟨F0,L,S,env,[.d (.int i)],S1,R,E,by unfold cH;rw[e1];rfl,λ F1 L1 H1 vs g1 R1 d1=>?_⟩) λ us s1 ⟨vs,H1,I1,r,ev,F1,L1,g1,R1⟩=>⟨I1.kIn,?_⟩) (cV hp _ _) rfl
     ·cases d1 with
      | cons d1 d2 =>
        cases d2;cases (show Den X.K F1 (.int i) _ from d1)
        exact⟨rfl,F1,L1,g1,R1⟩
     subst ev;obtain⟨u,rfl,ru⟩:=eZ r;refine aD9 O hr F hbi hf I1 ru λ s' ea dx ta f1 f2 f3 f4 I3 _=>⟨.ref ea,_,I3,rfl,?_⟩
     have h2:aT H1 dx (.xd [("row",.int i)]) ea=qz:=by rw[aW f3.symm];exact f1
     have R2:=(R1.new (o:=.xd [("row",.int i)]) f2).new (o:=.ext λ h=>h.get? ea=qq {cls:=.ref C,dict:=qq dx,data:=.fields #[.ref ta,.none,.none,.none,.bool false,.none] }) h2
     have hF:F1 dx=qz:=R1.sub.free f2;have hF2:aT F1 dx (.xd [("row",.int i)]) ea=qz:=(R1.new (o:=.xd [("row",.int i)]) f2).sub.free h2;exact q _ L1 _ _ ((g1.trans (Gr.new hF)).trans (Gr.new hF2)) R2 (Den.exc ⟨C,_,bQ,rfl,rfl,hns,dx,rfl,by rw[aW f3];exact bQ⟩)
   | _=>cases e2
noncomputable def aBX(c:Str):FE:=λ _ S=>qq (.d (.dict [(.str c,.none)]),S)
theorem aNi{X:Cx}{c:Str}{C:qv}{np pos:Pos}(hg:Gl X c)(hm:X.mg c=qq (.ref C))(hns:nsIn X.K qy c=qq (qq (.ref C)))(hq:excIn X.K C jI "ValueError.__new__" = true)(kp:keepIn X.K (.ref C)=true)(hd:(c==("__debug__" : Str))=false):PE X (.Call (.Name c np) [] [] pos) (aM X.K (aBX c)):=by
 rintro aA s σ H Q I ⟨F0,L,S,env,w,S',R,E,ef,q⟩;cases ef;refine xy (kO I hg hm ?_ hd);refine PySem.W.callWith_K0 I.kIn kp ?_;obtain⟨bm,N,nm,qn,bs,hd',sn,sub,ab,col,dd,k0,k1,k2,k3,k5,mN,hC,hN,hni,T⟩:=aD2 I.kIn hq;have FB:=yDf;obtain⟨h1,gg1,d1,t1,o1⟩:=s;refine wpAny_call_exc_subU (hrest:=yEo _) FB FB.hasB FB T hC hN hni λ h' ea me=>?_
 obtain⟨ta,hea,_,_⟩:=me.there;have hHe:H ea=qz:=by
  cases z:H ea with
  | none=>rfl
  | some u =>
    obtain⟨o,ho⟩:=uK (I.hok ea u z);rw[me.new] at ho;cases ho
 have It:=aAa (o:=.ext λ h=>h.get? ea=qq {cls:=.ref C,data:=.fields #[.ref ta,.none,.none,.none,.bool false,.none] }) (I.kept (t':=t1) me.keeps) (rB I) me.new hHe ⟨hea,⟨_,hea⟩,λ h1 h2 q1 q2=>q2 _ q1⟩
 exact⟨.ref ea,_,It,rfl,q _ L _ _ (Gr.new (R.sub.free hHe)) (R.new hHe) (Den.exc ⟨C,_,bQ,rfl,rfl,hns,rfl⟩)⟩
noncomputable def vB(c:Str)(fe:FE):FX:=λ env S=>(fe env S).bind λ p=>match p.1 with
 | .d (.int i)=>qq (.ex env c (.int i),p.2)
 | _=>qz
theorem aJk{X:Cx}{W:XW}{c:Str}{C fI:qv}{fd:xu}{n0 n1:Str}{k:Nat}{np cpos pos:Pos}{e:qw}{fe:FE}(hx:rX X W)(hc:X.calm=true)(hg:Gl X c)(hm:X.mg c=qq (.ref C))(hns:nsIn X.K qy c=qq (qq (.ref C)))(O:XiOk X.K C fI)
 (hr:Room (k+1) X.A) (F:FnOk X.prog X.w X.K X.mg X.base fH k fI fd [n0,n1] (qF C)) (hbi:dD X.K fd [n0,n1] []) (hf:∃ oI,X.K.lookup fI=qq oI/\oI.cls=.type "function") (hd:(c==("__debug__" : Str))=false) (he:PE X e (aM X.K fe)) (hp:bS e=true) :
 PS X (.Raise (qq (.Call (.Name c np) [e] [] cpos)) qz pos) (tX X.K W (vB c fe)):=by
 rintro aA s σ H D I ⟨F0,L,S,env,fx,S',R,E,ef,q⟩;obtain⟨⟨w1,S1⟩,e1,e2⟩:=bind_some ef;cases w1 with
 | loc n=>cases e2
 | exc c r=>cases e2
 | d dd =>
   cases dd with
   | int i =>
     cases e2;rw[arm_exec_Raise];simp only[evalOpt,Option.map];refine wB (vv (aHR (C:=C) (I.ok.hd hc) (wB (wpAny_mono ?_ (λ v s₃ h₃=>wB (vv (wP h₃))) λ _ _ x=>x))))
     have ha:PA X [e] (cT X.K (cH fe eJ)):=lQ he mY (cV hp _ _);refine xy (kO I hg hm ?_ hd);refine yDp (h₀:=X.base) I.ok.mod.kin O.kp (aX (ha cpos aA s σ H (λ vs H1=>vs=[.int i]/\∃ F1 L1,Gr F0 L F1 L1/\Rel X.K F1 L1 S1 H1) I ⟨F0,L,S,env,[.d (.int i)],S1,R,E,by unfold cH;rw[e1];rfl,λ F1 L1 H1 vs g1 R1 d1=>?_⟩) λ us s1 ⟨vs,H1,I1,r,ev,F1,L1,g1,R1⟩=>⟨I1.kIn,?_⟩) (cV hp _ _) rfl
     ·cases d1 with
      | cons d1 d2 =>
        cases d2;cases (show Den X.K F1 (.int i) _ from d1)
        exact⟨rfl,F1,L1,g1,R1⟩
     subst ev;obtain⟨u,rfl,ru⟩:=eZ r;refine aD9 O hr F hbi hf I1 ru λ s' ea dx ta f1 f2 f3 f4 I3 cZ=>?_
     have hH3:aT H1 dx (.xd [("row",.int i)]) ea=qz:=by rw[aW f3.symm];exact f1
     have I4:=aHq (H':=aT H1 dx (.xd [("row",.int i)])) I3 bQ hH3 λ b z=>(aW z).symm
     have he4:=(I3.hok ea _ bQ).1;obtain⟨bm,N,nm,qn,bs,sn,sub,ab,col,dd,k0,k1,k2,k3,k5,hC,T⟩:=aAq I4.kIn O.ex;refine⟨ea,_,_,nm,qn,N,bs,bm,true,sn,sub,ab,col,dd,k0,k1,k2,k3,k5, "ValueError.__new__",rfl,hC,T.hasType PySem.F.excBase_ValueError.hasBase,he4,rfl,?_⟩;refine hx _ _ ⟨ea,.ref C,qq dx,qz,s1.heap,σ,aT H1 dx (.xd [("row",.int i)]),rfl,oJ I4,⟨_,_,he4,rfl,rfl,rfl,Nat.lt_of_sub_pos (by simp),f4,hH3,.inl ⟨rfl,rfl⟩⟩,.inl rfl,rB (oJ I1),cZ,?_⟩
     have hF:F1 dx=qz:=R1.sub.free f2;exact q (aT F1 dx (.xd [("row",.int i)])) L1 _ (g1.trans (Gr.new hF)) (R1.new f2) σ (.ref C) (qq dx) (E.mono (g1.trans (Gr.new hF))) ⟨C,rfl,hns,dx,rfl,bQ⟩
   | _=>cases e2
end EV
namespace EV
open PySem L2 PySem.Spec PyProof.Rows PySem.W
theorem aIc{K:FrG}{F:Hp}{L:List qv}{env:aU}{σ:St}(h:EnvR K F L env σ)(i:Nat):EnvR K F L (env.set i qz) (σ.set i qz):=by
 refine⟨by rw[yAq,yAq];exact h.len,λ j u e=>?_⟩
 by_cases hj:i=j
 ·subst hj;rcases yEc i env.length with q | q
  ·rw[yAn q] at e;cases e
  ·rw[yCz (by rw[yAq];exact q)] at e;cases e
 ·rw[yAm hj] at e;obtain⟨x,e1,r1⟩:=h.get j u e;exact⟨x,by rw[yAm hj];exact e1,r1⟩
theorem aCU{X:Cx}{tb:Str->Str->Option Bool}(ht:aBV X.K tb)(hN:X.N.Nodup)(hf:∀ x,X.fn x=true){a:qv}{cls:qx}{dx:Option qv}{h0:Heap}{c:Str}{r:D}{D:Ends}{E:qx->qj->Prop} :
 ∀ {hs:List Hd}{as:List ExceptHandler},HdsOk X hs as->∀ {σ:L2.St}{H F:Hp}{L:List qv}{S S':aC}{env:aU}{fl:Fl}{s:qj},Inv X [] σ H s->Trc s.heap h0 H a cls dx (qq .none)->Bel X [] h0->(∀ b,h0.get? b≠qz->s.heap.get? b≠qz) ->
  Rel X.K F L S H->EnvR X.K F L env σ->nR X.K F c r cls dx->fJ tb c r hs env S=qq (fl,S')->(∀ F' L' H',Gr F L F' L'->Rel X.K F' L' S' H'->wT X.K D F' L' H' fl)->qu (model X.prog X.w) X.A (handleBy (.ref a) X.env as) (SP X [] D) E s
 | _,_,.nil,σ,H,F,L,S,S',env,fl,s,I,T,B,hb,R,En,Xk,e,q=>by cases e
 | h::hs,ah::as,.cons hd hr,σ,H,F,L,S,S',env,fl,s,I,T,B,hb,R,En,Xk,e,q=>by
   unfold xF at hd
   split at hd
   ·rename_i d np nm b0 suite pos;obtain⟨rfl,hg,hdb,⟨C',hns',hm'⟩,hnm,hsu⟩:=hd;obtain⟨C,rfl,hns,hx⟩:=id Xk;have Is:Inv (nW X (.ref a)) [] σ H s:=aBL I;obtain⟨oe,vs,he,hc,hdx,hdat,hsz,hnew,hHe,htr⟩:=id T.ex;have LT:Looks (model X.prog X.w) s.heap (typeOf (.ref a)) (.ref C):=hc▸(Looks.ld he).andThen .now;cases hb2:tb c h.d with
    | none =>
      have e':fJ tb c r (h::hs) env S=qz:=by unfold fJ;rw[hb2]
      rw[e'] at e;cases e
    | some b =>
      have hex:=ht c h.d b C C' hb2 hns hns';refine wpAny_handleBy_cons (codeAny_handlers_test (kO (X:=nW X (.ref a)) Is hg hm' ((exm_one I.kIn LT hex).here ?_) hdb)) (by intro z;cases z)
      cases b with
      | false =>
        have e':fJ tb c r hs env S=qq (fl,S'):=by
         have:fJ tb c r (h::hs) env S=fJ tb c r hs env S:=by rw[fJ];rw[hb2]
         rw[<- this];exact e
        exact aCU ht hN hf hr I T B hb R En Xk e' q
      | true =>
        show wq _ _ _ _ _;cases nm with
        | none =>
          cases hsl:h.sl with
          | some i=>rw[hsl] at hnm;exact hnm.elim
          | none =>
            have e':h.f env S=qq (fl,S'):=by
             have:fJ tb c r (h::hs) env S=h.f env S:=by rw[fJ];rw[hb2];dsimp only;rw[hsl]
             rw[<- this];exact e
            refine codeAny_handlers_suite (qT (v:=qz) I T B hb λ s1 I1 T1 hb1=>?_)
            refine wpAny_mono (hsu (.ref a) [] s1 σ H D (aBL I1) (iL R En e' q)) (λ f s2 h2=>?_) λ _ _ z=>z.elim
            cases f with
            | next=>obtain⟨σ',H',I',q'⟩:=h2;exact⟨σ',H',rW I.ok I',q'⟩
            | brk=>obtain⟨σ',H',I',q'⟩:=h2;exact⟨σ',H',rW I.ok I',q'⟩
            | cont=>obtain⟨σ',H',I',q'⟩:=h2;exact⟨σ',H',rW I.ok I',q'⟩
            | ret u=>obtain⟨v,σ',H',I',r',q'⟩:=h2;exact⟨v,σ',H',rW I.ok I',r',q'⟩
        | some n =>
          cases hsl:h.sl with
          | none=>rw[hsl] at hnm;exact hnm.elim
          | some i =>
            rw[hsl] at hnm;have e':(h.f (env.set i (qq (.exc c r))) S).bind (xE i)=qq (fl,S'):=by
             have:fJ tb c r (h::hs) env S=(h.f (env.set i (qq (.exc c r))) S).bind (xE i):=by rw[fJ];rw[hb2];dsimp only;rw[hsl]
             rw[<- this];exact e
            obtain⟨⟨fl1,S1⟩,e1,e2⟩:=bind_some e';cases fl1 with
            | rt w=>cases e2
            | bk e=>cases e2
            | ct e=>cases e2
            | nx e1' =>
              cases e2;refine codeAny_handlers_suite_as (qT (v:=qz) I T B hb λ s1 I1 T1 hb1=>?_)
              obtain⟨oe1,vs1,he1,hc1,hdx1,hdat1,hsz1,hnew1,hHe1,htr1⟩:=id T1.ex;have I2:=aAa (o:=.ext λ h=>h.get? a=qq oe1) I1 B hnew1 hHe1 ⟨he1,⟨_,he1⟩,λ h1 h2 q1 q2=>q2 _ q1⟩
              have g1:Gr F L (aT F a (.ext λ h=>h.get? a=qq oe1)) L:=Gr.new (R.sub.free hHe1)
              have xc:iS X.K (aT F a (.ext λ h=>h.get? a=qq oe1)) a c r:=⟨C,oe1,bQ,hc1,by unfold notCls;rw[hdat1],hns,by rw[hdx1];exact hx.mono g1.f⟩
              refine aAD (X:=nW X (.ref a)) (aBL I2) hN hnm.1 (.inl hnm.2) (v:=.ref a) (u:=.ref a) rfl (λ s2 I3=>?_) (.inl (hf n))
              refine wpAny_mono (hsu (.ref a) [] s2 _ _ {nx:=λ σ' H'=>D.nx (σ'.set i qz) H',rt:=λ _ _=>False } I3 (iL (R.new hHe1) ((En.mono g1).set i (w:=.exc c r) ⟨a,rfl,xc⟩) e1 λ F2 L2 H2 g2 R2 σ2 E2=>q F2 L2 H2 (g1.trans g2) R2 _ (aIc E2 i))) (λ f s3 h3=>?_) λ _ _ z=>z.elim
              cases f with
              | next =>
                obtain⟨σ',H',I',q'⟩:=h3;exact aKy (rW I.ok I') hN hnm.1 hnm.2 λ s4 I4=>⟨_,_,I4,q'⟩
              | brk=>obtain⟨σ',H',I',q'⟩:=h3;exact q'.elim
              | cont=>obtain⟨σ',H',I',q'⟩:=h3;exact q'.elim
              | ret u=>obtain⟨v,σ',H',I',r',q'⟩:=h3;exact q'.elim
   ·exact hd.elim
theorem aOO{X:Cx}{W:XW}{tb:Str->Str->Option Bool}(ht:aBV X.K tb)(hN:X.N.Nodup)(hf:∀ x,X.fn x=true)(Df:Dfb X){body:List zk}{h0:ExceptHandler}{as:List ExceptHandler}{pos:Pos}{fb:FX}{hs:List Hd}
 (hb:∀ aA W',bO ((dP X aA).wish (jG (dP X aA) W')) body (tX X.K W' fb)) (hh:∀ aA,HdsOk (dP X aA) hs (h0::as)):PS X (.Try body (h0::as) [] [] pos) (tX X.K W (xH tb fb hs)):=by
 rintro aA s σ H D I ⟨F,L,S,env,fx,S',R,E,e,q⟩;obtain⟨⟨p,S1⟩,e1,e2⟩:=bind_some e;have nxt:∀ {f:Flow}{s1:qj}{E':qx->qj->Prop},SP ((dP X aA).wish E') [] D f s1->(match f with | .next=>qu (model X.prog X.w) X.A (execs [] X.env) (SP X aA D) X.xe s1 | f=>SP X aA D f s1):=λ {f s1 E'} h=>by
  have h2:=spP h.unwish;cases f with
  | next=>exact wpAny_execs_nil h2
  | brk=>exact h2
  | cont=>exact h2
  | ret u=>exact h2
 cases p with
 | fl f =>
   cases e2;exact wpAny_Try_except (wpAny_mono (hb aA (λ _ _ _ _=>False) [] s σ H D ((aF4 I).wish _) ⟨F,L,S,env,_,_,R,E,e1,q⟩) (λ f s1 h1=>nxt h1) λ e s1 h1=>by
    obtain⟨_,_,_,_,_,_,_,_,_,_,_,_,_,z⟩:=h1;exact z.elim)
 | ex env1 c r =>
   obtain⟨⟨fl,S2⟩,e3,e4⟩:=bind_some e2;cases e4;refine wpAny_Try_except (wpAny_mono (hb aA (λ σ' cls dx H'=>∃ F' L' aO S1,Gr F L F' L'/\Rel X.K F' L' S1 H'/\EnvR X.K F' L' aO σ'/\nR X.K F' c r cls dx/\fJ tb c r hs aO S1=qq (fl,S2)) [] s σ H D ((aF4 I).wish _)
    ⟨F,L,S,env,_,_,R,E,e1,λ F1 L1 H1 g1 R1 σ1 cls dx E1 x1=>⟨F1,L1,env1,S1,g1,R1,E1,x1,e3⟩⟩) (λ f s1 h1=>nxt h1) λ e s1 h1=>?_)
   refine aAp (X:=dP X aA) ⟨Df.stk,Df.frm,Df.ex⟩ rfl h1 λ a cls dx h0 σ1 H1 s2 ea I2 T2 B2 hb2 hw=>?_
   subst ea;obtain⟨F1,L1,aO,S3,g1,R1,E1,x1,e5⟩:=hw;refine qT (X:=dP X aA) (v:=qz) I2 T2 B2 hb2 λ s3 I3 T3 hb3=>?_
   exact aX (aCU (X:=dP X aA) ht hN hf (hh aA) I3 T3 B2 hb3 R1 E1 x1 e5 λ F2 L2 H2 g2 R2=>q F2 L2 H2 (g1.trans g2) R2) λ f s4 h4=>spP h4
section
variable {X : Cx}{pos : Pos}
noncomputable def qE(tb:Str->Str->Option Bool)(c:Str):List Str->Option Bool
 | []=>qq false
 | d::ds=>match tb c d with
   | some true=>qq true
   | some false=>qE tb c ds
   | none=>qz
noncomputable def tK:EV.W->Option (Str×D)
 | .exc c r=>qq (c,r)
 | .d (.dict [(.str c,r)])=>qq (c,r)
 | _=>qz
theorem aAE{K:FrG}{F:Hp}{L:List qv}{w:EV.W}{v:V}{z:Str×D}(h:dU K F L w v)(e:tK w=qq z):∃ a,v=.ref a/\iS K F a z.1 z.2:=by
 unfold tK at e
 split at e
 ·cases e;exact h
 ·cases e;cases (show Den K F _ v from h) with
  | exc x=>exact⟨_,rfl,x⟩
 ·cases e
noncomputable def pX(tb:Str->Str->Option Bool)(fa:FE)(ds:List Str):FE:=λ env S=>(fa env S).bind λ p=>(tK p.1).bind λ z=>(qE tb z.1 ds).bind λ b=>qq (.d (.bool b),p.2)
end
end EV
namespace EV
open PySem L2 PySem.Spec PyProof.Rows PySem.W
def eI(K:FrG)(mg:Str->Option qx)(d:Str)(v:V):Prop:=(∃ C,v=.ref C/\nsIn K qy d=qq (qq (.ref C))/\mg d=qq (.ref C))\/(∃ n,v=.ty n/\mg d=qz/\zu d=qq (.type n)/\d ≠ "__name__")
noncomputable def sO:V->qx
 | .ref a=>.ref a
 | .ty n=>.type n
 | _=>.none
theorem eI.val{K:FrG}{mg:Str->Option qx}{d:Str}{v:V}{u:qx}(h:eI K mg d v)(r:aV v u):u=sO v:=by
 rcases h with ⟨C,rfl,_⟩ | ⟨n,rfl,_⟩<;>exact r
theorem eI.rel{K:FrG}{mg:Str->Option qx}{d:Str}{v:V}(h:eI K mg d v):aV v (sO v):=by
 rcases h with ⟨C,rfl,_⟩ | ⟨n,rfl,_⟩<;>rfl
structure XT(K:FrG)(mg:Str->Option qx)(tb:Str->Str->Option Bool):Prop where
 exm:aBV K tb
 cls:∀ c d b C,tb c d=qq b->nsIn K qy c=qq (qq (.ref C))->XcOk K C
 nm:∀ c d b,tb c d=qq b->∃ v,eI K mg d v/\∀ C,nsIn K qy c=qq (qq (.ref C))->kitOne K (.ref C) (sO v)=qq b
section
variable {X : Cx}{pos : Pos}{tb : Str -> Str -> Option Bool}
theorem aNF{d:Str}{v:V}{p:Pos}(hg:Gl X d)(hd:(d==("__debug__" : Str))=false)(h:eI X.K X.mg d v):PE X (.Name d p) (tC v):=by
 rcases h with ⟨C,rfl,_,hm⟩ | ⟨n,rfl,hm,hv,hn⟩
 ·exact rC hg hm rfl hd
 ·exact aEB hg hm hv rfl hn hd
theorem aEr{aA:List (qv×Obj)}{σ:L2.St}{H F:Hp}{s:qj}{a:qv}{c:Str}{r:D}(I:Inv X aA σ H s)(sb:bN F H)(h:iS X.K F a c r):∃ C oe od,nsIn X.K qy c=qq (qq (.ref C))/\yCb s.heap a oe C od:=by
 obtain⟨C,oe,h1,h2,h3,h4,h5⟩:=h;have e:=(I.hok a _ (sb _ _ h1)).1;cases r with
 | none=>exact⟨C,oe,qz,h4,e,h2,h3,by rw[show oe.dict=qz from h5];trivial⟩
 | int i =>
   obtain⟨dx,q1,q2⟩:=h5;obtain⟨od,ho⟩:=uK (I.hok dx _ (sb _ _ q2));exact⟨C,oe,qq od,h4,e,h2,h3,by rw[q1];exact ho⟩
 | _=>exact h5.elim
theorem aKM(T:XT X.K X.mg tb){d:Str}{v:V}(nv:eI X.K X.mg d v):cF X (.builtin "isinstance") (λ xs H Q=>∃ F L S a c r b,xs=[.ref a,v]/\Rel X.K F L S H/\iS X.K F a c r/\tb c d=qq b/\Q (.bl b) H):=λ aA s σ H xs us Q I r aK=>by
 obtain⟨F,L,S,a,c,rr,b,e,R,xc,hb,q⟩:=aK;subst e;obtain⟨u,u2,rfl,r1,r2⟩:=pG r;cases (show u=Value.ref a from r1)
 obtain rfl:=nv.val r2;obtain⟨C,oe,od,hC,J⟩:=aEr I R.sub xc;obtain⟨v',nv',hk⟩:=T.nm c d b hb;have:v'=v:=by
  rcases nv with ⟨C1,rfl,n1,m1⟩ | ⟨n,rfl,m1,n1,_⟩<;>rcases nv' with ⟨C2,rfl,n2,m2⟩ | ⟨n',rfl,m2,n2,_⟩
  ·rw[m1] at m2;cases m2;rfl
  ·rw[m1] at m2;cases m2
  ·rw[m1] at m2;cases m2
  ·rw[n1] at n2;cases n2;rfl
 subst this;exact kia_one (aDs (T.cls c d b C hb hC)) I.kIn J (hk C hC) (λ z=>nomatch z) λ tk=>⟨.bl b,H,I.tok _,rfl,q⟩
theorem aEg(T:XT X.K X.mg tb){c:Str}{C:qv}(hC:nsIn X.K qy c=qq (qq (.ref C))):∀ {ds:List Str}{vs:List V}{b:Bool},Paired (eI X.K X.mg) ds vs->qE tb c ds=qq b->kitAny X.K (.ref C) (vs.map sO)=qq b
 | _,_,_,.nil,e=>by cases e;rfl
 | d::ds,v::vs,b,.cons nv r,e=>by
   have e':(match tb c d with | some true=>qq true | some false=>qE tb c ds | none=>qz)=qq b:=e
   cases hb:tb c d with
   | none=>rw[hb] at e';cases e'
   | some b1 =>
     rw[hb] at e';obtain⟨v',nv',hk⟩:=T.nm c d b1 hb;have:v'=v:=by
      rcases nv with ⟨C1,rfl,n1,m1⟩ | ⟨n,rfl,m1,n1,_⟩<;>rcases nv' with ⟨C2,rfl,n2,m2⟩ | ⟨n',rfl,m2,n2,_⟩
      ·rw[m1] at m2;cases m2;rfl
      ·rw[m1] at m2;cases m2
      ·rw[m1] at m2;cases m2
      ·rw[n1] at n2;cases n2;rfl
     subst this;have hk:=hk C hC;rw[yAj];unfold kitAny;rw[hk];cases b1 with
     | true=>exact e'
     | false=>exact aEg T hC r e'
theorem aEc:∀ {ds:List Str}{vs:List V}{us:List qx},Paired (eI X.K X.mg) ds vs->aS vs us->us=vs.map sO
 | _,_,_,.nil,.nil=>rfl
 | _,_,_,.cons nv r,.cons rv rs=>by rw[yAj,<- aEc r rs,nv.val rv]
theorem aKq(T:XT X.K X.mg tb){ds:List Str}{vs:List V}(nv:Paired (eI X.K X.mg) ds vs)(hne:ds≠[]):cF X (.builtin "isinstance") (λ xs H Q=>∃ F L S a c r b p,xs=[.ref a,.ref p]/\H p=qq (.tup vs)/\Rel X.K F L S H/\iS X.K F a c r/\qE tb c ds=qq b/\Q (.bl b) H):=λ aA s σ H xs us Q I r aK=>by
 obtain⟨F,L,S,a,c,rr,b,p,e,hp,R,xc,hb,q⟩:=aK;subst e;obtain⟨u,u2,rfl,r1,r2⟩:=pG r;cases (show u=Value.ref a from r1)
 cases (show u2=Value.ref p from r2)
 obtain⟨C,oe,od,hC,J⟩:=aEr I R.sub xc;obtain⟨_,its,rv,o,ho,hc,n,hd⟩:=I.hok p _ hp;obtain rfl:=aEc nv rv;have hX:XcOk X.K C:=by
  cases ds with
  | nil=>exact absurd rfl hne
  | cons d ds =>
    have e':(match tb c d with | some true=>qq true | some false=>qE tb c ds | none=>qz)=qq b:=hb
    cases hb1:tb c d with
    | none=>rw[hb1] at e';cases e'
    | some b1=>exact T.cls c d b1 C hb1 hC
 obtain⟨oc,od',oda,osl⟩:=o;dsimp only at hc hd;subst hc hd;exact kia_tup (aDs hX) I.kIn J ho (aEg T hC nv hb) (λ z=>nomatch z) λ tk=>⟨.bl b,H,I.tok _,rfl,q⟩
end
end EV
namespace EV
open PySem L2 PySem.Spec PyProof.Rows PySem.W
inductive Hx where
 | bl (b:Bool) | str (x:Str) | row (i:Nat) | isi (i:Nat) (d:Str) | isl (i:Nat) (ds:List Str)
inductive Hs where
 | set (j:Nat) (a:Hx) | tup (j:Nat) (as:List Hx) | lst (nw:Bool) (j:Nat) (as:List Hx) | app (j:Nat) (a:Hx) | cat (j:Nat) (as:List Hx)
noncomputable def pR(tb:Str->Str->Option Bool)(fa:FE):FE:=λ env S=>(fa env S).bind λ p=>(tK p.1).bind λ z=>match z.2,tb z.1 z.1 with
 | .int i,qq _=>qq (.d (.int i),p.2)
 | _,_=>qz
section
variable (tb : Str -> Str -> Option Bool)
noncomputable def hv:Hx->FE
 | .bl b=>fC (.bool b)
 | .str x=>fC (.str x)
 | .row i=>pR tb (dW i)
 | .isi i d=>pX tb (dW i) [d]
 | .isl i ds=>pX tb (dW i) ds
noncomputable def mG:List Hx->FA
 | []=>eJ
 | a::as=>cH (hv tb a) (mG as)
noncomputable def cZ:Hs->FS
 | .set j a=>dX j (hv tb a)
 | .tup j as=>dX j (sL (mG tb as))
 | .lst nw j as=>dX j (match nw with | true=>gK (lC (mG tb as)) | false=>fY (lC (mG tb as)))
 | .app j a=>sF (hU (dW j) (hv tb a))
 | .cat j as=>dX j (nM .Add (dW j) (fY (lC (mG tb as))))
noncomputable def nG:List Hs->FS
 | []=>mW
 | a::as=>cY (cZ tb a) (nG as)
end
section
variable (N : List Str)(sc : zy)
noncomputable def tS(i:Nat)(x:qw):Bool:=dY (λ x _=>decide (N[i]? = qq x)&&iU sc x && !(x==("__debug__" : Str)) && !(x==("__classdict__" : Str))) x
noncomputable def tF(d:Str)(x:qw):Bool:=dY (λ z _=>decide (z=d)&&gl sc z && !(z==("__debug__" : Str))) x
noncomputable def aBl:List Str->List qw->Bool
 | [],xs=>xs.isEmpty
 | d::ds,xs=>(match xs with
   | x::xs=>tF sc d x&&bS x&&aBl ds xs
   | []=>false)
noncomputable def sT:Hx->qw->Bool
 | .bl b,x=>kZ (.bool b) x
 | .str k,x=>kZ (.str k) x
 | .row i,x=>yB (λ o m _=>decide (m = "row")&&dY (λ x _=>decide (N[i]? = qq x)&&iU sc x && !(x==("__debug__" : Str)) && !(x==("__classdict__" : Str))) o) x
 | .isi i d,x=>nY "isinstance" sc (λ y=>tS N sc i y) (λ z=>tF sc d z) x
 | .isl i ds,x=>!ds.isEmpty&&decide (ds.length<=100)&&nY "isinstance" sc (λ y=>tS N sc i y) (λ z=>mE (λ xs _ _=>aBl sc ds xs) z) x
noncomputable def sD:List Hx->List qw->Bool
 | [],xs=>xs.isEmpty
 | a::as,xs=>(match xs with
   | x::xs=>sT N sc a x&&bS x&&sD as xs
   | []=>false)
noncomputable def lE(j:Nat)(ts:List qw):Bool:=gL (λ t=>dY (λ x _=>decide (N[j]? = qq x)&&loc sc x) t) ts
noncomputable def aGq:Hs->zk->Bool
 | .set j a,st=>iE (λ ts y _=>sT N sc a y&&eW y&&lE N sc j ts) st
 | .tup j as,st=>iE (λ ts y _=>mE (λ xs _ _=>sD N sc as xs) y&&eW y&&lE N sc j ts) st
 | .lst _ j as,st=>iE (λ ts y _=>qC (λ xs _=>sD N sc as xs) y&&eW y&&lE N sc j ts) st
 | .app j a,st=>tU (λ x _=>tD "append" (λ y=>tS N sc j y) (λ z=>sT N sc a z) x&&eW x) st
 | .cat j as,st=>iE (λ ts y _=>tP (λ x o z _=>decide (o=.Add)&&tS N sc j x&&qC (λ xs _=>sD N sc as xs) z) y&&eW y&&lE N sc j ts) st
noncomputable def aBx:List Hs->List zk->Bool
 | [],l=>l.isEmpty
 | a::as,l=>(match l with
   | st::r=>aGq N sc a st&&aBx as r
   | []=>false)
end
section
variable {X : Cx}{tb : Str -> Str -> Option Bool}
theorem xM{i:Nat}{x:qw}(h:tS X.N X.env.scope i x=true):PE X x (aM X.K (dW i)):=eK (P:=λ x=>PE X x _) h λ x p h=>aBq (dT (aL (aL (aL h)))) (aBf (aR (aL (aL h)))) (dC (aR (aL h))) (dC (aR h))
def xK(K:FrG)(mg:Str->Option qx)(ns:List Str):Prop:=∀ d∈ns,∃ v,eI K mg d v
theorem aBs{d:Str}{v:V}{x:qw}(nv:eI X.K X.mg d v)(h:tF X.env.scope d x=true):PE X x (tC v):=eK (P:=λ x=>PE X x _) h λ x p h=>by
 obtain rfl:=dT (aL (aL h));exact aNF (cS (aR (aL h))) (dC (aR h)) nv
theorem aEO:∀ {ds:List Str}{es:List qw},(∀ d∈ds,∃ v,eI X.K X.mg d v)->aBl X.env.scope ds es=true->∃ vs,Paired (eI X.K X.mg) ds vs/\PA X es (λ _ H Q=>Q vs H)
 | [],es,_,h=>eE (P:=λ es=>∃ vs,Paired (eI X.K X.mg) [] vs/\PA X es (λ _ H Q=>Q vs H)) h ⟨[],.nil,oV⟩
 | d::ds,[],_,h=>no h
 | d::ds,x::es,hn,h=>by
   obtain⟨v,nv⟩:=hn d xAd;obtain⟨vs,p,ha⟩:=aEO (λ d' hd=>hn d' (xAf _ hd)) (aR h)
   exact⟨v::vs,.cons nv p,jR (aBs nv (aL (aL h))) ha (cV (aR (aL h)) _ _)⟩
theorem aFj{d:Str}{v:V}{fa:FE}{y z:qw}{p q:Pos}(T:XT X.K X.mg tb)(nv:eI X.K X.mg d v)(hb:X.mg "isinstance" = qz)(hg:Gl X "isinstance")(hy:PE X y (aM X.K fa))(py:bS y=true)(hz:PE X z (tC v))(pz:bS z=true):PE X (.Call (.Name "isinstance" p) [y,z] [] q) (aM X.K (pX tb fa [d])):=by
 refine PE.weak (jQ (aKM T nv) hg hb (by decide +kernel) (jR hy (jR hz oV (cV pz _ _)) (cV py _ _)) (by decide) (by decide) (cV py _ _) (qW (es:=[z]) (by unfold kN kN;rw[pz];rfl) _ _)) λ σ H Q hPq45=>?_
 obtain⟨F,L,S,env,w,S',R,E,e,q⟩:=hPq45;obtain⟨⟨w1,S1⟩,e1,e2⟩:=bind_some e;obtain⟨⟨c,r⟩,ez,e2⟩:=bind_some e2;obtain⟨b,e3,e4⟩:=bind_some e2;cases e4;refine⟨F,L,S,env,w1,_,R,E,e1,λ F1 L1 H1 v1 g1 R1 d1=>?_⟩
 obtain⟨a,rfl,xc⟩:=aAE d1 ez;have e5:tb c d=qq b:=by
  have e3':(match tb c d with | some true=>qq true | some false=>qq false | none=>qz)=qq b:=e3
  cases hb:tb c d with
  | none=>rw[hb] at e3';cases e3'
  | some b'=>rw[hb] at e3';cases b'<;>exact e3'
 exact⟨F1,L1,_,a,c,r,b,rfl,R1,xc,e5,q F1 L1 H1 _ g1 R1 (Den.bl b)⟩
theorem aNb{ds:List Str}{vs:List V}{fa:FE}{y:qw}{es:List qw}{kk:Nat}{tp p q:Pos}(T:XT X.K X.mg tb)(nv:Paired (eI X.K X.mg) ds vs)(hne:ds≠[])(hl:ds.length<=100)(hb:X.mg "isinstance" = qz)(hg:Gl X "isinstance")(hy:PE X y (aM X.K fa))(py:bS y=true)(hz:PA X es (λ _ H Q=>Q vs H)) :
 PE X (.Call (.Name "isinstance" p) [y,.Tuple es kk tp] [] q) (aM X.K (pX tb fa ds)):=by
 refine PE.weak (jQ (aKq T nv hne) hg hb (by decide +kernel) (jR hy (jR (aA2 hz) oV rfl) (cV py _ _)) (by decide) (by decide) (cV py _ _) rfl) λ σ H Q hPq46=>?_
 obtain⟨F,L,S,env,w,S',R,E,e,q⟩:=hPq46;obtain⟨⟨w1,S1⟩,e1,e2⟩:=bind_some e;obtain⟨⟨c,r⟩,ez,e2⟩:=bind_some e2;obtain⟨b,e3,e4⟩:=bind_some e2;cases e4;refine⟨F,L,S,env,w1,_,R,E,e1,λ F1 L1 H1 v1 g1 R1 d1=>?_⟩
 obtain⟨a,rfl,xc⟩:=aAE d1 ez;refine⟨by rw[<- nv.length];exact xAg hl (by decide),λ p hp=>⟨F1,L1,_,a,c,r,b,p,rfl,bQ,R1.lay hp,xc,e3,q F1 L1 _ _ g1 (R1.lay hp) (Den.bl b)⟩⟩
theorem aLi{aA:List (qv×Obj)}{σ:L2.St}{H F:Hp}{s:qj}{a:qv}{c:Str}{i:Int}(I:Inv X aA σ H s)(sb:bN F H)(h:iS X.K F a c (.int i)):∃ C oe od v,nsIn X.K qy c=qq (qq (.ref C))/\yCb s.heap a oe C (qq od)/\lookIn "row" od=qq (qq v)/\aV (.int i) v:=by
 obtain⟨C,oe,h1,h2,h3,h4,dx,q1,q2⟩:=h;have e:=(I.hok a _ (sb _ _ h1)).1;obtain⟨mA,hn,hr⟩:=I.hok dx _ (sb _ _ q2);obtain⟨od,ho,hl⟩:=aCY hn;have r:=hr "row";have hlk:List.lookup ("row" : Str) [(("row" : Str),V.int i)]=qq (V.int i):=rfl;rw[hlk] at r;obtain⟨v,hv,rv⟩:=sS.some_of r;exact⟨C,oe,od,v,h4,⟨e,h2,h3,by rw[q1];exact ho⟩,by rw[hl,hv],rv⟩
theorem aND{i:Nat}{x:Str}{p pos:Pos}(T:XT X.K X.mg tb)(hN:X.N[i]? = qq x)(hv:lJ X.env.scope x)(hd:(x==("__debug__" : Str))=false)(hcd:(x==("__classdict__" : Str))=false):PE X (.Attribute (.Name x p) "row" pos) (aM X.K (pR tb (dW i))):=by
 rintro aA s σ H Q I ⟨F,L,S,env,w,S',R,E,e,q⟩;obtain⟨⟨w1,S1⟩,e1,e2⟩:=bind_some e;obtain⟨⟨c,r⟩,ez,e2⟩:=bind_some e2;dsimp only at e2 ez
 split at e2
 ·rename_i j b hb;cases e2;refine Attribute_name (aX (aBq (pos:=p) hN hv hd hcd aA s σ H (λ v H1=>∃ a F1 L1,v=.ref a/\Gr F L F1 L1/\Rel X.K F1 L1 S' H1/\iS X.K F1 a c (.int j)) I ⟨F,L,S,env,_,_,R,E,e1,λ F1 L1 H1 v g1 R1 d1=>?_⟩) λ u s1 h1=>?_)
  ·obtain⟨a,rfl,xc⟩:=aAE d1 ez;exact⟨a,F1,L1,rfl,g1,R1,xc⟩
  ·obtain⟨v,H1,I1,rv,a,F1,L1,rfl,g1,R1,xc⟩:=h1;obtain rfl:u=Value.ref a:=rv;obtain⟨C,oe,od,v,hC,J,hl,rv⟩:=aLi I1 R1.sub xc;have O:=T.cls c c b C hb hC;obtain⟨tk,rfl⟩:=rv;unfold getAttr;refine wB (wpAny_mkText (aEP (s:={s1 with toks:=s1.toks+1 }) I1.kIn J O.ga O.gt (aDD (s:={s1 with toks:=s1.toks+1 }) I1.kIn J O.mb (aIC (s:={s1 with toks:=s1.toks+1 }) I1.kIn J (findObj_own O.hd O.rw rfl hl) ?_))))
   show qu _ _ (handedOut (.int j tk)) _ _ _;rw[handedOut_of rfl];exact wP ⟨.int j,H1,I1.tok _,⟨_,rfl⟩,q F1 L1 H1 _ g1 R1 (Den.int j)⟩
 ·cases e2
noncomputable def Hx.nms:Hx->List Str
 | .isi _ d=>[d]
 | .isl _ ds=>ds
 | _=>[]
theorem wO(T:XT X.K X.mg tb)(hb:X.mg "isinstance" = qz){a:Hx}(hn:xK X.K X.mg a.nms){x:qw}(h:sT X.N X.env.scope a x=true):PE X x (aM X.K (hv tb a)):=by
 cases a with
 | bl b=>exact nE (P:=λ x=>PE X x _) h λ _ _=>aGs
 | str k=>exact nE (P:=λ x=>PE X x _) h λ _ _=>aFQ
 | row i =>
   refine aGh (P:=λ x=>PE X x _) h λ o m ap h=>eK (P:=λ o=>PE X (.Attribute o m ap) _) (aR h) λ n p g=>?_
   obtain rfl:=dT (aL h);exact aND T (dT (aL (aL (aL g)))) (aBf (aR (aL (aL g)))) (dC (aR (aL g))) (dC (aR g))
 | isi i d =>
   obtain⟨v,nv⟩:=hn d xAd;exact sY (P:=λ x=>PE X x _) h λ p y z q hg hy py hz pz=>aFj T nv hb (cS hg) (xM hy) py (aBs nv hz) pz
 | isl i ds =>
   refine sY (P:=λ x=>PE X x _) (aR h) λ p y z q hg hy py hz pz=>mC (P:=λ z=>PE X (.Call (.Name "isinstance" p) [y,z] [] q) _) hz λ es kk tp hz=>?_
   obtain⟨vs,nv,ha⟩:=aEO hn hz;refine aNb T nv (λ z=>?_) (dT (aR (aL h))) hb (cS hg) (xM hy) py ha
   have:=aL (aL h);rw[z] at this;exact no this
theorem vT(T:XT X.K X.mg tb)(hb:X.mg "isinstance" = qz):∀ {as:List Hx}{xs:List qw},(∀ a∈as,xK X.K X.mg a.nms)->sD X.N X.env.scope as xs=true->PA X xs (cT X.K (mG tb as))
 | [],xs,_,h=>eE (P:=λ xs=>PA X xs _) h mY
 | a::as,[],_,h=>no h
 | a::as,x::xs,hn,h=>lQ (wO T hb (hn a xAd) (aL (aL h))) (vT T hb (λ b m=>hn b (xAf _ m)) (aR h)) (cV (aR (aL h)) _ _)
noncomputable def Hs.hxs:Hs->List Hx
 | .set _ a=>[a]
 | .tup _ as=>as
 | .lst _ _ as=>as
 | .app _ a=>[a]
 | .cat _ as=>as
theorem aOu(T:XT X.K X.mg tb)(hb:X.mg "isinstance" = qz)(nd:X.N.Nodup)(hf:∀ x,X.fn x=true){a:Hs}(hn:∀ b∈a.hxs,xK X.K X.mg b.nms){st:zk}(h:aGq X.N X.env.scope a st=true):PS X st (cG X.K (cZ tb a)):=by
 have asg:∀ {j:Nat}{ts:List qw}{y:qw}{p:Pos}{fa:FE},lE X.N X.env.scope j ts=true->eW y=true->PE X y (aM X.K fa)->PS X (.Assign ts y p) (cG X.K (dX j fa)):=λ {j ts y p fa} g hy he =>
  fQ (P:=λ ts=>PS X (.Assign ts y p) _) g λ _ g=>eK (P:=λ t=>PS X (.Assign [t] y p) _) g λ x q g=>wH nd (dT (aL g)) (oW (aR g)) he (lM hy _ _ _) (.inl (hf _))
 cases a with
 | set j a=>exact jF (P:=λ st=>PS X st _) h λ ts y p h=>asg (aR h) (aR (aL h)) (wO T hb (hn a xAd) (aL (aL h)))
 | tup j as=>exact jF (P:=λ st=>PS X st _) h λ ts y p h=>asg (aR h) (aR (aL h)) (mC (P:=λ y=>PE X y _) (aL (aL h)) λ xs _ _ h=>aFM (vT T hb hn h))
 | lst nw j as =>
   refine jF (P:=λ st=>PS X st _) h λ ts y p h=>asg (aR h) (aR (aL h)) ?_
   have z:PE X y (gQ X.K (lC (mG tb as))):=wV (P:=λ y=>PE X y _) (aL (aL h)) λ xs _ h=>wR (vT T hb hn h)
   cases nw
   ·exact pV z
   ·exact aFr z
 | app j a =>
   exact aBY (P:=λ st=>PS X st _) h λ x p h=>aE9 (vZ (P:=λ x=>PE X x _) (aL h) λ o ap y cp h4 h3 h2 h5 h6 =>
    PE.weak (wF PySem.F.plainAttrs_list PySem.F.slot_list_append PySem.F.type_list_append zY (xM h2) (lQ (wO T hb (hn a xAd) h5) mY (cV h6 _ _)) (mM h3 _ _) (by rw[st1 h6];rfl) h4 (st1 h6) rfl) aFB) (lM (aR h) _ _ _)
 | cat j as =>
   exact jF (P:=λ st=>PS X st _) h λ ts y p h=>asg (aR h) (aR (aL h)) (aGn (P:=λ y=>PE X y _) (aL (aL h)) λ x o z _ h=>by
    obtain rfl:=dT (aL (aL h));exact aFG (xM (aR (aL h))) (pV (wV (P:=λ y=>PE X y _) (aR h) λ xs _ h=>wR (vT T hb hn h))))
theorem aET(T:XT X.K X.mg tb)(hb:X.mg "isinstance" = qz)(nd:X.N.Nodup)(hf:∀ x,X.fn x=true):∀ {as:List Hs}{l:List zk},(∀ a∈as,∀ b∈a.hxs,xK X.K X.mg b.nms)->aBx X.N X.env.scope as l=true->bO X l (cG X.K (nG tb as))
 | [],l,_,h=>eE (P:=λ l=>bO X l _) h aEZ
 | a::as,[],_,h=>no h
 | a::as,st::l,hn,h=>aFx (aOu T hb nd hf (hn a xAd) (aL h)) (aET T hb nd hf (λ b m=>hn b (xAf _ m)) (aR h))
end
end EV
namespace EV
open PySem L2 PySem.Spec PyProof.Rows PySem.W
inductive Xx where
 | s (a:Sx) | skip | seq (a b:Xx) | ifs (c:E) (a b:Xx) | loop (t:Tg) (it:E) (b:Xx)
 | raise (c:Str) | raise1 (c:Str) (e:E) | cal (f:Nat) (es:E) | set (i f:Nat) (es:E) | pair (i:Nat) (k:Str) (f:Nat) (es:E)
 | tri (b:Xx) (hs:List (Str×Option Nat×List Hs)) | mks (j:Nat) (cs:List Str) (e:E) | hnd (o:Nat) (it b:E) (c d:Str)
abbrev fK:=Nat->Option (Nat×(List W->aC->Option (ResX×aC)))
noncomputable def jE(CX:fK)(f:Nat)(fs:FA):jM:=λ env S=>match CX f with
 | some (np,call)=>aBu fs np call env S
 | none=>qz
noncomputable def aBU(fe:FE):List Str->FA
 | []=>eJ
 | c::cs=>cH (aGc c fe) (aBU fe cs)
section
variable (C : Calls)(CX : fK)(tb : Str -> Str -> Option Bool)
noncomputable def xx:Xx->FX
 | .s a=>xP (xs C a)
 | .skip=>aFw
 | .seq a b=>aF6 (xx a) (xx b)
 | .ifs c a b=>xIf (tv C c) (xx a) (xx b)
 | .loop t it b=>pT t (lv C it) (xx b)
 | .raise c=>aEK c
 | .raise1 c e=>vB c (ev C e)
 | .cal f es=>nF (jE CX f (av C es))
 | .set i f es=>mB i (jE CX f (av C es))
 | .pair i k f es=>mB i (wN k (jE CX f (av C es)))
 | .tri b hs=>xH tb (xx b) (hs.map λ h=>⟨h.1,h.2.1,nG tb h.2.2⟩)
 | .mks j cs e=>xP (dX j (fY (lC (aBU (ev C e) cs))))
 | .hnd o it b c d=>xP (lY (sC (kA .Eq (fY (gI (.one o) (lv C it) nK (pR tb (dW o)))) (ev C b)) (pX tb (aBX c) [d])))
end
noncomputable def yI(k:Option qw->Option qw->Pos->Bool)(x:zk):Bool:=if h:x.ctorIdx=16 then @Stmt.Raise.elim (λ _=>Bool) x h k else false
theorem aGf{P:zk->Prop}{k:Option qw->Option qw->Pos->Bool}{x:zk}(h:yI k x=true)(g:∀ a b c,k a b c=true->P (.Raise a b c)):P x:=@Stmt.Raise.elim (λ e=>yI k e=true->P e) x (dM h) g h
noncomputable def kTr(k:List zk->List ExceptHandler->List zk->List zk->Pos->Bool)(x:zk):Bool:=if h:x.ctorIdx=17 then @Stmt.Try.elim (λ _=>Bool) x h k else false
theorem aPD{P:zk->Prop}{k:List zk->List ExceptHandler->List zk->List zk->Pos->Bool}{x:zk}(h:kTr k x=true)(g:∀ a b c d e,k a b c d e=true->P (.Try a b c d e)):P x:=@Stmt.Try.elim (λ e=>kTr k e=true->P e) x (dM h) g h
structure Xz where
 xo:List Str
 xb:List Str
 rc:List Str
 ri:List (Str×Str×zk)
section
variable (T : Tx)(Z : Xz)(N : List Str)
noncomputable def aPs(sc:zy)(h:Str×Option Nat×List Hs):ExceptHandler->Bool
 | .ExceptHandler t nm body _=>Z.xo.contains h.1&&t.any (λ t=>tF sc h.1 t)&&(match nm,h.2.1 with
    | none,qz=>true
    | some n,qq i=>decide (N[i]? = qq n)&&decide (sc.names.lookup n=qq .local)
    | _,_=>false) && !body.isEmpty&&aBx N sc h.2.2 body&&h.2.2.all λ a=>a.hxs.all λ b=>b.nms.all λ d=>Z.xo.contains d||Z.xb.contains d
noncomputable def aBr(sc:zy):List (Str×Option Nat×List Hs)->List ExceptHandler->Bool
 | [],as=>as.isEmpty
 | h::hs,as=>(match as with
   | a::as=>aPs Z N sc h a&&aBr sc hs as
   | []=>false)
noncomputable def xI(f:Nat)(es:E)(sc:zy)(x:qw):Bool:=iP (λ x xs=>decide ((T.fn[f]?).map (·.1)=qq x)&&gl sc x && !(x==("__debug__" : Str))&&kJ T N es sc xs&&kN xs && !xs.isEmpty) x
noncomputable def aBg(e:E)(sc:zy):List Str->List qw->Bool
 | [],xs=>xs.isEmpty
 | c::cs,xs=>(match xs with
   | x::xs=>iP (λ n ys=>gL (λ y=>aZ T N e sc y&&bS y) ys&&decide (n=c)&&gl sc n && !(n==("__debug__" : Str))&&(Z.ri.map (·.1)).contains c) x&&bS x&&aBg e sc cs xs
   | []=>false)
noncomputable def aFz(o:Nat)(it b:E)(sc:zy)(x:qw):Bool:=nI (λ l op r=>decide (op=.Eq)&&aBG N (.one o) .no sc (λ g y=>tR T N it sc g y) (λ _ _=>false) (λ s y=>sT N s (.row o) y) l&&aZ T N b sc r) x
noncomputable def aFo(c d:Str)(sc:zy)(x:qw):Bool:=(Z.xo.contains d||Z.xb.contains d)&&nY "isinstance" sc (λ y=>iP (λ n xs=>xs.isEmpty&&decide (n=c)&&gl sc n && !(n==("__debug__" : Str))&&Z.rc.contains c) y) (λ z=>tF sc d z) x
mutual
noncomputable def okX:Xx->zy->zk->Bool
 | .s a,sc,st=>okS T N a sc st
 | .ifs c a b,sc,st=>yN (λ x y z _=>jJ T N c sc x&&kD a sc y&&kD b sc z) st
 | .loop t it b,sc,st=>xW (λ tg x y z _=>z.isEmpty&&qA false N sc t tg&&tR T N it sc tg x&&bS x&&kD b sc y) st
 | .raise c,sc,st=>yI (λ e ca _=>sN ca&&e.any λ e=>iP (λ n xs=>xs.isEmpty&&decide (n=c)&&gl sc n && !(n==("__debug__" : Str))&&Z.rc.contains c) e) st
 | .raise1 c e,sc,st=>yI (λ x ca _=>sN ca&&x.any λ x=>iP (λ n xs=>gL (λ y=>aZ T N e sc y&&bS y) xs&&decide (n=c)&&gl sc n && !(n==("__debug__" : Str))&&(Z.ri.map (·.1)).contains c) x) st
 | .cal f es,sc,st=>tU (λ x _=>xI T N f es sc x&&eW x) st
 | .set i f es,sc,st=>iE (λ ts y _=>xI T N f es sc y&&eW y&&lE N sc i ts) st
 | .pair i k f es,sc,st=>iE (λ ts y _=>mE (λ xs _ _=>aBJ (λ u v=>kZ (.str k) u&&xI T N f es sc v&&bS v) xs) y&&eW y&&lE N sc i ts) st
 | .tri b hs,sc,st=>kTr (λ bd hds oe fb _=>oe.isEmpty&&fb.isEmpty && !hs.isEmpty&&kD b sc bd&&aBr Z N sc hs hds) st
 | .mks j cs e,sc,st=>iE (λ ts y _=>qC (λ xs _=>aBg T Z N e sc cs xs) y&&eW y&&lE N sc j ts) st
 | .hnd o it b c d,sc,st=>yF (λ v _=>v.any λ x=>pL .And (λ l r=>aFz T N o it b sc l&&aFo Z c d sc r) x) st
 | _,_,_=>false
noncomputable def kD:Xx->zy->List zk->Bool
 | .skip,_,l=>l.isEmpty
 | .seq a b,sc,l=>(match l with
   | st::r=>okX a sc st&&kD b sc r
   | []=>false)
 | _,_,_=>false
end
end
structure XCtx(T:Tx)(Z:Xz)(C:Calls)(CX:fK)(tb:Str->Str->Option Bool)(X:Cx)(W:XW):Prop where
 ctx:Ctx T C X.nox
 fly:rX X W
 own:PassesOwn (model X.prog X.w) X.A X.env X.xe
 dfb:Dfb X
 fn:∀ x,X.fn x=true
 xt:XT X.K X.mg tb
 cal:∃ k,Room k X.A/\∀ f np call x,CX f=qq (np,call)->(T.fn[f]?).map (·.1)=qq x->∃ fa fd ps,X.mg x=qq (.ref fa)/\keepIn X.K (.ref fa)=true/\dD X.K fd ps []/\FnOk X.prog X.w X.K X.mg X.base (iY X.prog X.w) k fa fd ps (nZ X.K np call)
 xo:∀ d∈Z.xo,∃ C,nsIn X.K qy d=qq (qq (.ref C))/\X.mg d=qq (.ref C)
 xb:∀ d∈Z.xb,∃ n,X.mg d=qz/\zu d=qq (.type n)/\d ≠ "__name__"
 rc:∀ c∈Z.rc,∃ C,nsIn X.K qy c=qq (qq (.ref C))/\X.mg c=qq (.ref C)/\excIn X.K C jI "ValueError.__new__" = true/\keepIn X.K (.ref C)=true
 rm:Room 2 X.A
 ri:∀ c∈Z.ri.map (·.1),∃ C fI fd n0 n1,nsIn X.K qy c=qq (qq (.ref C))/\X.mg c=qq (.ref C)/\XiOk X.K C fI/\FnOk X.prog X.w X.K X.mg X.base fH 1 fI fd [n0,n1] (qF C)/\dD X.K fd [n0,n1] []/\∃ oI,X.K.lookup fI=qq oI/\oI.cls=.type "function"
section
variable {T : Tx}{Z : Xz}{C : Calls}{CX : fK}{tb : Str -> Str -> Option Bool}
theorem XCtx.nms{X:Cx}{W:XW}(h:XCtx T Z C CX tb X W){d:Str}(hd:(Z.xo.contains d||Z.xb.contains d)=true):∃ v,eI X.K X.mg d v:=by
 rcases Bool.or_eq_true_iff.mp hd with z | z
 ·obtain⟨C,h1,h2⟩:=h.xo d (by simpa using z)
  exact⟨.ref C,.inl ⟨C,rfl,h1,h2⟩⟩
 ·obtain⟨n,h1,h2,h3⟩:=h.xb d (by simpa using z)
  exact⟨.ty n,.inr ⟨n,rfl,h1,h2,h3⟩⟩
theorem XCtx.tri{X:Cx}{W:XW}(h:XCtx T Z C CX tb X W)(aA:List (qv×Obj))(W':XW):XCtx T Z C CX tb ((dP X aA).wish (jG (dP X aA) W')) W' where
 ctx:=⟨h.ctx.nd,h.ctx.calm,rfl,h.ctx.kind,h.ctx.room,h.ctx.blt,h.ctx.tbs,h.ctx.cns,h.ctx.sts⟩
 fly:=λ _ _ z=>z.unwish
 own:=aEn (X:=dP X aA) ⟨h.dfb.stk,h.dfb.frm,h.dfb.ex⟩
 dfb:=⟨h.dfb.stk,h.dfb.frm,h.dfb.ex⟩
 fn:=h.fn
 xt:=h.xt
 cal:=h.cal
 xo:=h.xo
 xb:=h.xb
 rc:=h.rc
 rm:=h.rm
 ri:=h.ri
theorem PI.nox{X:Cx}{tg iter:qw}{wi:TI}(h:PI X.nox tg iter wi):PI X tg iter wi:=λ aA s σ H R I hw =>
 wpAny_mono (h aA s σ H R (I.wish _) hw) (λ v s1 h1=>wpAny_mono h1 (λ itv s2 hPr4=>by obtain⟨it,fp,tn,J,H',e,I',t,t0,hf,r⟩:=hPr4;exact⟨it,fp,tn,J,H',e,I'.unwish,t,t0,hf,r⟩) λ _ _ z=>z.elim) λ _ _ z=>z.elim
theorem aAm{X:Cx}{W:XW}(hX:XCtx T Z C CX tb X W){f:Nat}{es:E}{x:qw}(h:xI T X.N f es X.env.scope x=true):PE X x (oA X.K W (jE CX f (av C es))):=by
 refine kS (P:=λ x=>PE X x _) h λ n p xs q h=>?_
 intro aA s σ H Q I t;obtain⟨F,L,S,env,res,S',R,E,e,r⟩:=id t;unfold jE at e;cases hc:CX f with
 | none=>rw[hc] at e;cases e
 | some v =>
   obtain⟨np,call⟩:=v;obtain⟨k,hr,hk⟩:=hX.cal;have h5:=aL (aL h);have h4:=aL h5;have h3:=aL h4;have h2:=aL h3;obtain⟨fa,fd,ps,m1,m2,m3,m4⟩:=hk f np call n hc (dT h2);cases xs with
   | nil=>exact no (aR h)
   | cons y ys =>
     have ha:PA X (y::ys) (cT X.K (av C es)):=PA.nox ((sn (T:=T) (C:=C) es).a X.nox hX.ctx _ (aR h5));have hp:=aR (aL h);obtain⟨p1,p2⟩:=bW hp;rw[hc] at e;exact aJe m4 hr (cS (aR h3)) m1 m2 m3 hX.fly ha (dC (aR h4)) (cV p1 _ _) (qW p2 _ _) aA s σ H Q I (aKw σ H Q ⟨F,L,S,env,res,S',R,E,e,r⟩)
theorem aFh{X:Cx}{W:XW}(hX:XCtx T Z C CX tb X W)(aA:List (qv×Obj)):∀ {hs:List (Str×Option Nat×List Hs)}{as:List ExceptHandler},aBr Z X.N X.env.scope hs as=true->HdsOk (dP X aA) (hs.map λ h=>⟨h.1,h.2.1,nG tb h.2.2⟩) as
 | [],as,h=>eE (P:=λ as=>HdsOk (dP X aA) [] as) h .nil
 | h::hs,[],e=>no e
 | h::hs,a::as,e=>by
   refine .cons ?_ (aFh hX aA (aR e));have e1:=aL e;cases a with
   | ExceptHandler t nm body pos =>
     have e2:=aL e1;have e3:=aL e2;have e4:=aL e3;have e5:=aL e4;have hnm:=aR e4;have hne:=aR e3;have hss:=aR e2;have hall:=aR e1;refine pP (P:=λ t=>xF (dP X aA) _ (.ExceptHandler t nm body pos)) (aR e5) λ t ht=>eK (P:=λ t=>xF (dP X aA) _ (.ExceptHandler (qq t) nm body pos)) ht λ d np hd=>?_
     obtain rfl:=dT (aL (aL hd));cases body with
     | nil=>exact no hne
     | cons b0 suite =>
       refine⟨rfl,cS (aR (aL hd)),dC (aR hd),hX.xo _ (by simpa using aL e5),?_,λ ev=>?_⟩
       ·cases nm with
        | none =>
          cases hsl:h.2.1 with
          | none=>dsimp only;rw[hsl];trivial
          | some i=>rw[hsl] at hnm;exact no hnm
        | some n =>
          cases hsl:h.2.1 with
          | none=>rw[hsl] at hnm;exact no hnm
          | some i=>rw[hsl] at hnm;dsimp only;rw[hsl];exact⟨dT (aL hnm),dT (aR hnm)⟩
       ·refine aET (X:=nW (dP X aA) ev) hX.xt (hX.ctx.blt _ (by decide)) hX.ctx.nd hX.fn (λ a ha b hb d hd'=>hX.nms ?_) hss
        exact List.all_eq_true.mp (List.all_eq_true.mp (List.all_eq_true.mp hall a ha) b hb) d hd'
theorem aEX{X:Cx}{W:XW}(hX:XCtx T Z C CX tb X W){e:E}:∀ {cs:List Str}{xs:List qw},aBg T Z X.N e X.env.scope cs xs=true->PA X.nox xs (cT X.K (aBU (ev C e) cs))
 | [],xs,h=>eE (P:=λ xs=>PA X.nox xs _) h mY
 | c::cs,[],h=>no h
 | c::cs,x::xs,h=>by
   refine lQ ?_ (aEX hX (aR h)) (cV (aR (aL h)) _ _);refine kS (P:=λ x=>PE X.nox x _) (aL (aL h)) λ n np ys q h=>?_
   have h4:=aL h;have h3:=aL h4;have h2:=aL h3;obtain rfl:=dT (aR h2);obtain⟨C,fI,fd,n0,n1,c1,c2,c3,c4,c5,c6⟩:=hX.ri n (by simpa using aR h)
   exact fQ (P:=λ ys=>PE X.nox (.Call (.Name n np) ys [] q) _) (aL h2) λ y hy=>aNd (X:=X.nox) (cS (aR h3)) c2 c1 c3 hX.rm c4 c5 c6 (dC (aR h4)) ((sn e).e X.nox hX.ctx _ (aL hy)) (aR hy)
theorem aEN{X:Cx}{W:XW}(hX:XCtx T Z C CX tb X W){o:Nat}{it b:E}{x:qw}(h:aFz T X.N o it b X.env.scope x=true):PE X.nox x (aM X.K (kA .Eq (fY (gI (.one o) (lv C it) nK (pR tb (dW o)))) (ev C b))):=by
 refine pO (P:=λ x=>PE X.nox x _) h λ l op r p h h4=>?_
 obtain rfl:=dT (aL (aL h));refine aFN hX.ctx.units (pV ?_) ((sn b).e X.nox hX.ctx _ (aR h)) (qU h4 .Eq);refine aBZ (P:=λ l=>PE X.nox l _) (aR (aL h)) λ e tg iter ifs scope p h1 h2 h3 h4 h5 h6 h7=>?_
 have sok:=aAI h1;refine aBc (X:=X.nox) (g:=nX X.K (.one o)) hX.ctx.calm sok (λ i x a1 a2=>vO h2 i (gIm a1).1 x a1 a2) ((sn it).i X.nox hX.ctx tg iter h4) (λ Y hY=>?_) (pM X.K (.one o)) (λ Y hY=>?_) (λ Y hY=>?_) (qO h5 X.nox.env)
 ·obtain⟨c1,c2,c3,c4⟩:=hX.ctx.comp sok.kind hY;have z:=pJ (X:=Y) (.inl rfl) c1.nd c1.calm (t:=.one o) (tg:=tg) (by rw[c2,c3];exact h3)
  rw[c4] at z;exact z
 ·cases ifs with
  | nil=>exact aAd
  | cons y r=>exact no (aR h6)
 ·obtain⟨aA,fp,Ca,s₀,H₀,rfl⟩:=hY;exact wO (X:=iW X.nox aA fp scope Ca s₀ H₀) (a:=.row o) hX.xt (hX.ctx.blt _ (by decide)) (λ _ z=>absurd z (by simp[Hx.nms])) h7
theorem aFg{X:Cx}{W:XW}(hX:XCtx T Z C CX tb X W){c d:Str}{x:qw}(h:aFo Z c d X.env.scope x=true):PE X.nox x (aM X.K (pX tb (aBX c) [d])):=by
 obtain⟨v,nv⟩:=hX.nms (aL h);refine sY (P:=λ x=>PE X.nox x _) (aR h) λ p y z q hg hy py hz pz=>aFj hX.xt nv (hX.ctx.blt _ (by decide)) (cS hg) ?_ py (aBs (X:=X.nox) nv hz) pz
 refine kS (P:=λ y=>PE X.nox y _) hy λ n np ys q h=>?_
 have h4:=aL h;have h3:=aL h4;have h2:=aL h3;obtain rfl:=dT (aR h2);obtain⟨C,c1,c2,c3,c4⟩:=hX.rc n (by simpa using aR h)
 exact eE (P:=λ ys=>PE X.nox (.Call (.Name n np) ys [] q) _) (aL h2) (aNi (X:=X.nox) (cS (aR h3)) c2 c1 c3 c4 (dC (aR h4)))
def SX(T:Tx)(Z:Xz)(C:Calls)(CX:fK)(tb:Str->Str->Option Bool)(c:Xx):Prop:=∀ X W,XCtx T Z C CX tb X W->∀ st,okX T Z X.N c X.env.scope st=true->PS X st (tX X.K W (xx C CX tb c))
def SXs(T:Tx)(Z:Xz)(C:Calls)(CX:fK)(tb:Str->Str->Option Bool)(c:Xx):Prop:=∀ X W,XCtx T Z C CX tb X W->∀ st,kD T Z X.N c X.env.scope st=true->bO X st (tX X.K W (xx C CX tb c))
theorem sx(c:Xx):SX T Z C CX tb c/\SXs T Z C CX tb c:=by
 have N2:∀ {c:Xx},SX T Z C CX tb c->(∀ N sc st,kD T Z N c sc st=false)->SX T Z C CX tb c/\SXs T Z C CX tb c:=λ q hh=>⟨q,λ X W hX st h=>by rw[hh] at h;exact no h⟩
 have asg:∀ {X:Cx}{W:XW},XCtx T Z C CX tb X W->∀ {j:Nat}{ts:List qw}{y:qw}{p:Pos}{f:jM},lE X.N X.env.scope j ts=true->eW y=true->PE X y (oA X.K W f)->PS X (.Assign ts y p) (tX X.K W (mB j f)):=λ {X W} hX {j ts y p f} g hy he =>
  fQ (P:=λ ts=>PS X (.Assign ts y p) _) g λ _ g=>eK (P:=λ t=>PS X (.Assign [t] y p) _) g λ x q g=>aNR hX.ctx.nd (dT (aL g)) (oW (aR g)) he (lM hy _ _ _) (.inl (hX.fn _))
 induction c with
 | s a=>exact N2 (λ X W hX st h=>x_s ((ss a).1 X.nox hX.ctx hX.fn st h)) λ _ _ _=>rfl
 | skip=>exact⟨λ X W hX st h=>no h,λ X W hX st h=>eE (P:=λ st=>bO X st _) h aOS⟩
 | seq a b aP bG=>exact⟨λ X W hX st h=>no h,λ X W hX st h=>by
    cases st with
    | nil=>exact no h
    | cons s r=>exact aOe (aP.1 X W hX _ (aL h)) (bG.2 X W hX _ (aR h))⟩
 | ifs c a b aP bG=>exact N2 (λ X W hX st h=>aFX (P:=λ st=>PS X st _) h λ x y z p h=>aPd ((sn c).t X.nox hX.ctx _ (aL (aL h))).1 (aP.2 X W hX _ (aR (aL h))) (bG.2 X W hX _ (aR h))) λ _ _ _=>rfl
 | loop t it b bG=>exact N2 (λ X W hX st h=>aF1 (P:=λ st=>PS X st _) h λ tg x y z p h=>eE (P:=λ z=>PS X (.For tg x y z p) _) (aL (aL (aL (aL h))))
    (aNZ hX.own hX.ctx.calm (PI.nox ((sn it).i X.nox hX.ctx _ _ (aR (aL (aL h))))) (pJ (X:=X) (.inr hX.fn) hX.ctx.nd hX.ctx.calm (aR (aL (aL (aL h))))) (pM X.K t) (bG.2 X W hX _ (aR h)) (qO (aR (aL h)) X.env))) λ _ _ _=>rfl
 | raise c=>exact N2 (λ X W hX st h=>aGf (P:=λ st=>PS X st _) h λ e ca p h=>wI (P:=λ ca=>PS X (.Raise e ca p) _) (aL h) (pP (P:=λ e=>PS X (.Raise e qz p) _) (aR h) λ e h=>kS (P:=λ e=>PS X (.Raise (qq e) qz p) _) h λ n np xs q h=>by
    have h4:=aL h;have h3:=aL h4;have h2:=aL h3;obtain rfl:=dT (aR h2);obtain⟨C,c1,c2,c3,_⟩:=hX.rc n (by simpa using aR h)
    exact eE (P:=λ xs=>PS X (.Raise (qq (.Call (.Name n np) xs [] q)) qz p) _) (aL h2) (aI6 hX.fly hX.ctx.calm (cS (aR h3)) c2 c1 c3 (dC (aR h4))))) λ _ _ _=>rfl
 | raise1 c e=>exact N2 (λ X W hX st h=>aGf (P:=λ st=>PS X st _) h λ x ca p h=>wI (P:=λ ca=>PS X (.Raise x ca p) _) (aL h) (pP (P:=λ x=>PS X (.Raise x qz p) _) (aR h) λ x h=>kS (P:=λ x=>PS X (.Raise (qq x) qz p) _) h λ n np xs q h=>by
    have h4:=aL h;have h3:=aL h4;have h2:=aL h3;obtain rfl:=dT (aR h2);obtain⟨C,fI,fd,n0,n1,c1,c2,c3,c4,c5,c6⟩:=hX.ri n (by simpa using aR h)
    exact fQ (P:=λ xs=>PS X (.Raise (qq (.Call (.Name n np) xs [] q)) qz p) _) (aL h2) λ y hy=>aJk hX.fly hX.ctx.calm (cS (aR h3)) c2 c1 c3 hX.rm c4 c5 c6 (dC (aR h4)) (PE.nox ((sn e).e X.nox hX.ctx _ (aL hy))) (aR hy))) λ _ _ _=>rfl
 | cal f es=>exact N2 (λ X W hX st h=>aBY (P:=λ st=>PS X st _) h λ x p h=>aMV (aAm hX (aL h)) (lM (aR h) _ _ _)) λ _ _ _=>rfl
 | set i f es=>exact N2 (λ X W hX st h=>jF (P:=λ st=>PS X st _) h λ ts y p h=>asg hX (aR h) (aR (aL h)) (aAm hX (aL (aL h)))) λ _ _ _=>rfl
 | pair i k f es=>exact N2 (λ X W hX st h=>jF (P:=λ st=>PS X st _) h λ ts y p h=>asg hX (aR h) (aR (aL h)) (mC (P:=λ y=>PE X y _) (aL (aL h)) λ xs kk q h=>aFS (P:=λ xs=>PE X (.Tuple xs kk q) _) h λ u v h=>nE (P:=λ u=>PE X (.Tuple [u,v] kk q) _) (aL (aL h)) λ j p1=>aL9 (aAm hX (aR (aL h))) (aR h))) λ _ _ _=>rfl
 | mks j cs e=>exact N2 (λ X W hX st h=>x_s (jF (P:=λ st=>PS X.nox st _) h λ ts y p h=>fQ (P:=λ ts=>PS X.nox (.Assign ts y p) _) (aR h) λ _ g=>eK (P:=λ t=>PS X.nox (.Assign [t] y p) _) g λ x q g=>wH (X:=X.nox) hX.ctx.nd (dT (aL g)) (oW (aR g)) (pV (wV (P:=λ y=>PE X.nox y _) (aL (aL h)) λ xs _ h=>wR (aEX hX h))) (lM (aR (aL h)) _ _ _) (.inl (hX.fn _)))) λ _ _ _=>rfl
 | hnd o it b c d=>exact N2 (λ X W hX st h=>x_s (aF5 (P:=λ st=>PS X.nox st _) h λ _ p h=>pP (P:=λ v=>PS X.nox (.Return v p) _) h λ x h=>aFs (rR (P:=λ x=>PE X.nox x _) h (λ l r p h=>PE.weak (vU (aEN hX (aL h)) (aA1 (aFg hX (aR h)))) vP) λ l b c r p h=>PE.weak (vU (aEN hX (aL h)) (aFg hX (aR h))) vP))) λ _ _ _=>rfl
 | tri b hs bG=>exact N2 (λ X W hX st h=>aPD (P:=λ st=>PS X st _) h λ bd hds oe fb p h=>by
    have h4:=aL h;have h3:=aL h4;have h2:=aL h3;refine eE (P:=λ oe=>PS X (.Try bd hds oe fb p) _) (aL h2) (eE (P:=λ fb=>PS X (.Try bd hds [] fb p) _) (aR h2) ?_)
    have hh:=λ aA=>aFh hX aA (aR h)
    cases hds with
    | nil =>
      cases hs with
      | nil=>exact no (aR h3)
      | cons a b=>exact no (aR h)
    | cons h0 as=>exact aOO hX.xt.exm hX.ctx.nd hX.fn hX.dfb (λ aA W'=>bG.2 _ W' (hX.tri aA W') _ (aR h4)) hh) λ _ _ _=>rfl
end
end EV
namespace EV
open PySem L2 PySem.Spec PyProof.Rows PySem.W
structure FnX where
 name:Str
 np:Nat
 N:List Str
 body:Sx ⊕ Xx
 st:zk
noncomputable def FnX.fn(G:FnX):Fn:={name:=G.name,np:=G.np,N:=G.N,body:=.skip,st:=G.st }
noncomputable def hV(C:Calls)(CX:fK)(tb:Str->Str->Option Bool)(G:FnX):List W->aC->Option (W×aC):=match G.body with
 | .inl b=>cK (xs C b) G.N.length
 | .inr x=>lR (fD (xx C CX tb x) G.N.length)
section
variable (fs : List Fn)(gs : List FnX)(tb : Str -> Str -> Option Bool)
noncomputable def aNO(d:Nat)(C:Calls)(CX:fK):Calls:=λ f=>if f<fs.length then aD fs (d+1) f else (gs[f-fs.length]?).map λ G=>(G.np,hV C CX tb G)
noncomputable def aMR(C:Calls)(CX:fK):fK:=λ f=>if f<fs.length then qz else (gs[f-fs.length]?).bind λ G=>match G.body with
 | .inl _=>qz
 | .inr x=>qq (G.np,fD (xx C CX tb x) G.N.length)
noncomputable def aF:Nat->Calls×fK
 | 0=>(λ _=>qz,λ _=>qz)
 | d+1=>(aNO fs gs tb d (aF d).1 (aF d).2,aMR fs gs tb (aF d).1 (aF d).2)
noncomputable def kC(t:Tbs):Tx:=⟨(fs.map λ F=>(F.name,F.np))++gs.map λ G=>(G.name,G.np),t.tb,t.cn,t.st⟩
noncomputable def wK(t:Tbs)(Z:Xz)(G:FnX):Bool:=
 decide ((bH G.st).kind=.function) && !(bH G.st).isCoroutine && !(bH G.st).isGenerator&&vS G.N&&decide (G.np<=G.N.length)&&(G.N.take G.np).all (loc (bH G.st))&&(bH G.st).names.all (λ y=>!decide (y.2=.free)) &&
  (match G.body with
    | .inl b=>jZ (kC fs gs t) G.N b (bH G.st) (dN G.st)
    | .inr x=>kD (kC fs gs t) Z G.N x (bH G.st) (dN G.st))
end
theorem aC1{fs:List Fn}{gs:List FnX}{t:Tbs}{Z:Xz}{G:FnX}(h:wK fs gs t Z G=true):FnScope G.N (G.N.take G.np) (bH G.st)/\(match G.body with
 | .inl b=>jZ (kC fs gs t) G.N b (bH G.st) (dN G.st)
 | .inr x=>kD (kC fs gs t) Z G.N x (bH G.st) (dN G.st))=true/\(G.N.take G.np).length=G.np:=by
 obtain⟨h,h8⟩:=bW h;obtain⟨h,h7⟩:=bW h;obtain⟨h,h6⟩:=bW h;obtain⟨h,h5⟩:=bW h;obtain⟨h,h4⟩:=bW h;obtain⟨h,h3⟩:=bW h;obtain⟨h1,h2⟩:=bW h;have hl:(G.N.take G.np).length=G.np:=by
  rw[yBs];have:=oqT h5;omega
 refine⟨⟨oqT h1,tH h2,tH h3,aAx h4,by rw[hl],λ x hx=>rJ (List.all_eq_true.mp h6 x hx),λ y hy=>?_⟩,h8,hl⟩
 have:=List.all_eq_true.mp h7 y hy;intro z;rw[dqT z] at this;exact no this
structure XK0(K:FrG)(mg:Str->Option qx)(Z:Xz)(tb:Str->Str->Option Bool):Prop where
 xt:XT K mg tb
 xo:∀ d∈Z.xo,∃ C,nsIn K qy d=qq (qq (.ref C))/\mg d=qq (.ref C)
 xb:∀ d∈Z.xb,∃ n,mg d=qz/\zu d=qq (.type n)/\d ≠ "__name__"
 rc:∀ c∈Z.rc,∃ C,nsIn K qy c=qq (qq (.ref C))/\mg c=qq (.ref C)/\excIn K C jI "ValueError.__new__" = true/\keepIn K (.ref C)=true
 ri:∀ z∈Z.ri,∃ C fI fd,nsIn K qy z.1=qq (qq (.ref C))/\mg z.1=qq (.ref C)/\XiOk K C fI/\Fun K "__init__" z.2.1 z.2.2 fI fd/\aBi z.2.2 "self" "row" = true/\dD K fd ["self", "row"] []/\∃ oI,K.lookup fI=qq oI/\oI.cls=.type "function"
section
variable {P : qo}{w : zq}{K : FrG}{mg : Str -> Option qx}{base : Heap}{fs : List Fn}{gs : List FnX}{tb : Str -> Str -> Option Bool}{t : Tbs}{Z : Xz}
theorem aDr{f:Nat}{x:Str}(h:((kC fs gs t).fn[f]?).map (·.1)=qq x):(∃ F,f<fs.length/\fs[f]? = qq F/\F.name=x)\/(∃ G,¬ f<fs.length/\gs[f-fs.length]? = qq G/\G.name=x):=by
 unfold kC at h;dsimp only at h
 by_cases hf:f<fs.length
 ·rw[xAj (by simpa using hf),xAb] at h
  cases q:fs[f]? with
  | none=>rw[q] at h;cases h
  | some F=>rw[q] at h;exact .inl ⟨F,hf,rfl,Option.some.inj h⟩
 ·rw[yAe (by simpa using hf),xAb,yAg] at h
  cases q:gs[f-fs.length]? with
  | none=>rw[q] at h;cases h
  | some G=>rw[q] at h;exact .inr ⟨G,hf,rfl,Option.some.inj h⟩
theorem aDP(hk:∀ F∈fs,tI fs t F=true)(gk:∀ G∈gs,wK fs gs t Z G=true)(top:∀ F∈fs,∃ fa fd,Fun K F.name F.name F.st fa fd/\mg F.name=qq (.ref fa)/\dD K fd (F.N.take F.np) [])(topX:∀ G∈gs,∃ fa fd,Fun K G.name G.name G.st fa fd/\mg G.name=qq (.ref fa)/\dD K fd (G.N.take G.np) [])
 (hb:∀ x∈bltNames,mg x=qz) (ht:∀ x aH,(x,aH)∈t.tb->∃ a,mg x=qq (.ref a)/\lV K w a aH) (hcn:∀ x ts,(x,ts)∈t.cn->∃ a,mg x=qq (.ref a)/\nB K a ts) (cZ:∀ x y,(x,y)∈t.st->∃ k,mg x=qq (.str y k)) (X0:XK0 K mg Z tb) :
 ∀ d,(∀ f np call x,(aF fs gs tb d).1 f=qq (np,call)->((kC fs gs t).fn[f]?).map (·.1)=qq x->∃ fa fd ps,mg x=qq (.ref fa)/\keepIn K (.ref fa)=true/\dD K fd ps []/\FnOk P w K mg base fH (d+2) fa fd ps (jL K np call)) /\
  (∀ f np call x,(aF fs gs tb d).2 f=qq (np,call)->((kC fs gs t).fn[f]?).map (·.1)=qq x->∃ fa fd ps,mg x=qq (.ref fa)/\keepIn K (.ref fa)=true/\dD K fd ps []/\FnOk P w K mg base (iY P w) (d+2) fa fd ps (nZ K np call)) /\
  (∀ g G np call fa fd,gs[g]? = qq G->(aF fs gs tb d).1 (fs.length+g)=qq (np,call)->Fun K G.name G.name G.st fa fd->FnOk P w K mg base fH (d+2) fa fd (G.N.take G.np) (jL K np call))
 | 0=>⟨λ f np call x e=>(by cases e),λ f np call x e=>(by cases e),λ g G np call fa fd _ e=>(by cases e)⟩
 | d+1=>by
   obtain⟨ih1,ih2,_⟩:=aDP hk gk top topX hb ht hcn cZ X0 d;have raising:∀ (G:FnX) (x:Xx),G∈gs->G.body=.inr x->∀ fa fd,Fun K G.name G.name G.st fa fd->FnOk P w K mg base (iY P w) (d+1+2) fa fd (G.N.take G.np) (nZ K G.np (fD (xx (aF fs gs tb d).1 (aF fs gs tb d).2 tb x) G.N.length)):=λ G x hG hbd fa fd Fu=>by
    obtain⟨sc,hok,hl⟩:=aC1 (gk G hG);rw[hbd] at hok;refine Fun.okX Fu sc (λ vs H Q E h=>?_) λ X A vs H Q E e1 e2 e3 e4 e5 e6 e7 e8 e9 D hr h=>?_
    ·obtain⟨F1,L,S,ws,w1,S',hn,R,dl,_⟩:=h;rw[hl,<- hn];exact dl.length.symm
    ·subst e1 e2 e3 e4 e5;refine⟨_,(sx (T:=kC fs gs t) (Z:=Z) (C:=(aF fs gs tb d).1) (CX:=(aF fs gs tb d).2) (tb:=tb) x).2 (X.wish (jG X λ _=>E)) (λ _=>E) ?_ _ (by show kD _ _ X.N x X.env.scope _=true;rw[e6,e7];exact hok),aKs h⟩
     have hri:∀ c∈Z.ri.map (·.1),∃ C fI fd n0 n1,nsIn X.K qy c=qq (qq (.ref C))/\X.mg c=qq (.ref C)/\XiOk X.K C fI/\FnOk X.prog X.w X.K X.mg X.base fH 1 fI fd [n0,n1] (qF C)/\dD X.K fd [n0,n1] []/\∃ oI,X.K.lookup fI=qq oI/\oI.cls=.type "function":=λ c hc=>by
      obtain⟨z,hz,rfl⟩:=List.mem_map.mp hc;obtain⟨C,fI,fd,r1,r2,r3,r4,r5,r6,r7⟩:=X0.ri z hz;exact⟨C,fI,fd, "self", "row",r1,r2,r3,aNu r4 r5 r3,r6,r7⟩
     exact {ctx:=⟨by show X.N.Nodup;rw[e6];exact sc.nd,e8,rfl,by show X.env.scope.kind=_;rw[e7];exact sc.kind,⟨d+2,hr,ih1⟩,hb,ht,hcn,cZ⟩,fly:=λ _ _ z=>z.unwish,own:=aEn (X:=X) D,dfb:=D.wish _,fn:=e9,xt:=X0.xt,cal:=⟨d+2,hr,ih2⟩,xo:=X0.xo,xb:=X0.xb,rc:=X0.rc,rm:=hr.mono (by omega),ri:=hri }
   have each:∀ G∈gs,∀ fa fd,Fun K G.name G.name G.st fa fd->FnOk P w K mg base fH (d+1+2) fa fd (G.N.take G.np) (jL K G.np (hV (aF fs gs tb d).1 (aF fs gs tb d).2 tb G)):=λ G hGm fa fd Fu=>by
    unfold hV;cases hbd:G.body with
    | inr x=>exact aI9 (raising G x hGm hbd fa fd Fu)
    | inl b =>
      dsimp only;obtain⟨sc,hok,hl⟩:=aC1 (gk G hGm);rw[hbd] at hok;refine Fu.ok sc (λ vs H Q E h=>?_) λ cdv A outer s H vs Q E hr h=>?_
      ·obtain⟨F1,L,S,ws,w1,S',hn,R,dl,_⟩:=h;rw[hl,<- hn];exact dl.length.symm
      ·exact⟨_,(ss (T:=kC fs gs t) (C:=(aF fs gs tb d).1) b).2 _ ⟨sc.nd,rfl,rfl,sc.kind,⟨d+2,hr,λ f' np' call' x' e1 e2=>ih1 f' np' call' x' e1 e2⟩,hb,λ x aH hx=>ht x aH hx,λ x ts hx=>hcn x ts hx,λ x y hx=>cZ x y hx⟩ (λ _=>rfl) _ hok,aE7 h⟩
   refine⟨λ f np call x e q=>?_,λ f np call x e q=>?_,λ g G np call fa fd hG e Fu=>?_⟩
   ·rcases aDr q with ⟨F,hf,hF,rfl⟩ | ⟨G,hf,hG,rfl⟩
    ·have e':aD fs (d+1) f=qq (np,call):=by
      have:(aF fs gs tb (d+1)).1 f=aD fs (d+1) f:=if_pos hf;rw[<- this];exact e
     obtain⟨fa,fd,Fu,hm,hbi⟩:=top F (xAi hF);exact⟨fa,fd,_,hm,Fu.kp,hbi,(aEi fs t hk top hb ht hcn cZ (d+1) f F np call fa fd hF e' Fu).mono (Nat.le_add_right _ _)⟩
    ·have e':(gs[f-fs.length]?).map (λ G=>(G.np,hV (aF fs gs tb d).1 (aF fs gs tb d).2 tb G))=qq (np,call):=by
      have:(aF fs gs tb (d+1)).1 f=(gs[f-fs.length]?).map λ G=>(G.np,hV (aF fs gs tb d).1 (aF fs gs tb d).2 tb G):=if_neg hf
      rw[<- this];exact e
     rw[hG] at e';cases e';have hGm:G∈gs:=xAi hG;obtain⟨fa,fd,Fu,hm,hbi⟩:=topX G hGm;exact⟨fa,fd,_,hm,Fu.kp,hbi,each G hGm fa fd Fu⟩
   ·rcases aDr q with ⟨F,hf,hF,rfl⟩ | ⟨G,hf,hG,rfl⟩
    ·have e':(qz:Option (Nat×(List EV.W->aC->Option (ResX×aC))))=qq (np,call):=by
      have:(aF fs gs tb (d+1)).2 f=qz:=if_pos hf;rw[<- this];exact e
     cases e'
    ·have e':((gs[f-fs.length]?).bind λ G=>match G.body with | .inl _=>qz | .inr x=>qq (G.np,fD (xx (aF fs gs tb d).1 (aF fs gs tb d).2 tb x) G.N.length))=qq (np,call):=by
      have:(aF fs gs tb (d+1)).2 f=(gs[f-fs.length]?).bind λ G=>match G.body with | .inl _=>qz | .inr x=>qq (G.np,fD (xx (aF fs gs tb d).1 (aF fs gs tb d).2 tb x) G.N.length):=if_neg hf
      rw[<- this];exact e
     rw[hG] at e';have hGm:G∈gs:=xAi hG;obtain⟨fa,fd,Fu,hm,hbi⟩:=topX G hGm;cases hbd:G.body with
     | inl b=>rw[yBb,hbd] at e';cases e'
     | inr x =>
       rw[yBb,hbd] at e';cases e';exact⟨fa,fd,_,hm,Fu.kp,hbi,raising G x hGm hbd fa fd Fu⟩
   ·have e':(gs[g]?).map (λ G=>(G.np,hV (aF fs gs tb d).1 (aF fs gs tb d).2 tb G))=qq (np,call):=by
     have:(aF fs gs tb (d+1)).1 (fs.length+g)=(gs[fs.length+g-fs.length]?).map λ G=>(G.np,hV (aF fs gs tb d).1 (aF fs gs tb d).2 tb G):=if_neg (by omega)
     rw[yCs] at this;rw[<- this];exact e
    rw[hG] at e';cases e';exact each G (xAi hG) fa fd Fu
end
noncomputable def nN(l:List (Str×Str×Bool))(c d:Str):Option Bool:=(l.find? λ e=>e.1==c&&e.2.1==d).map (·.2.2)
structure EntTop(K:FrG)(e:Str×Str×Bool):Prop where
 ex:∃ C,nsIn K qy e.1=qq (qq (.ref C))/\XcOk K C/\((∃ C',nsIn K qy e.2.1=qq (qq (.ref C'))/\exmOne K (.ref C) (.ref C')=qq e.2.2/\kitOne K (.ref C) (.ref C')=qq e.2.2) \/
  ∃ n,nsIn K qy e.2.1=qq qz/\zu e.2.1=qq (.type n)/\e.2.1 ≠ "__name__" /\ kitOne K (.ref C) (.type n)=qq e.2.2)
theorem aA6{l:List (Str×Str×Bool)}{c d:Str}{b:Bool}(h:nN l c d=qq b):(c,d,b)∈l:=by
 unfold nN at h;obtain⟨e,h1,h2⟩:=Option.map_eq_some_iff.mp h;have h3:=List.find?_some h1;have h4:=List.mem_of_find?_eq_some h1;obtain⟨c',d',b'⟩:=e;obtain⟨q1,q2⟩:=bW h3;have q1:c'=c:=by simpa using q1
 have q2:d'=d:=by simpa using q2
 have h2:b'=b:=h2;subst q1 q2 h2;exact h4
theorem aNJ{K:FrG}{mg:Str->Option qx}{l:List (Str×Str×Bool)}(hm:∀ x v,nsIn K qy x=qq (qq v)->mg x=qq v)(hn:∀ x,nsIn K qy x=qq qz->mg x=qz)(h:∀ e∈l,EntTop K e):XT K mg (nN l) where
 exm:=λ c d b C C' hb hc hd=>by
  obtain⟨C1,h1,_,h3⟩:=(h _ (aA6 hb)).ex;have h1:nsIn K qy c=qq (qq (.ref C1)):=h1;rw[hc] at h1;cases h1;rcases h3 with ⟨C2,q1,q2,_⟩ | ⟨n,q1,_⟩
  ·have q1:nsIn K qy d=qq (qq (.ref C2)):=q1;rw[hd] at q1;cases q1;exact q2
  ·have q1:nsIn K qy d=qq qz:=q1;rw[hd] at q1;cases q1
 cls:=λ c d b C hb hc=>by
  obtain⟨C1,h1,h2,_⟩:=(h _ (aA6 hb)).ex;have h1:nsIn K qy c=qq (qq (.ref C1)):=h1;rw[hc] at h1;cases h1;exact h2
 nm:=λ c d b hb=>by
  obtain⟨C1,h1,_,h3⟩:=(h _ (aA6 hb)).ex;have h1:nsIn K qy c=qq (qq (.ref C1)):=h1;rcases h3 with ⟨C2,q1,_,q3⟩ | ⟨n,q1,q2,q3,q4⟩
  ·exact⟨.ref C2,.inl ⟨C2,rfl,q1,hm _ _ q1⟩,λ C hc=>by rw[hc] at h1;cases h1;exact q3⟩
  ·exact⟨.ty n,.inr ⟨n,rfl,hn _ q1,q2,q3⟩,λ C hc=>by rw[hc] at h1;cases h1;exact q4⟩
structure RcTop(K:FrG)(c:Str):Prop where
 ex:∃ C,nsIn K qy c=qq (qq (.ref C))/\excIn K C jI "ValueError.__new__" = true/\keepIn K (.ref C)=true
structure RiTop(K:FrG)(z:Str×Str×zk):Prop where
 ex:∃ (C fI:qv) (oc:qx) (od an:Option qv) (sl:Array (Option qx)) (kV dc pm cd ct:qx),nsIn K qy z.1=qq (qq (.ref C))/\XiOk K C fI/\K.lookup fI=qq ⟨oc,od,.func (fnOf "__init__" z.2.1 (gT z.2.2) (dN z.2.2) (bH z.2.2) .none kV dc pm an cd ct),sl⟩ /\
  codeIn K cd z.2.1=true/\keepIn K (.ref fI)=true
noncomputable def aBy(st:zk):Bool:=match gT st with
 | ⟨[],as,qz,[],_,qz,_⟩=>decide ((["self", "row"]:List Str)=as.map (·.arg))
 | _=>false
theorem aIN{x bE:Str}{st:zk}(h:aBy st=true)(kV doc pm:qx)(an:Option qv)(cdv ct:qx)(us:List qx)(hu:us.length=(["self", "row"]:List Str).length):bindArgs (fnOf x bE (gT st) (dN st) (bH st) .none kV doc pm an cdv ct) ⟨us,[]⟩=pure ((["self", "row"]:List Str).zip us):=by
 unfold aBy at h
 split at h
 ·rename_i as kd df e;have h1:=oqT h;rw[e];rw[h1] at hu ⊢;obtain⟨i1,i2⟩:=aAv (ns:=as.map (·.arg)) (us:=us) (by rw[<- h1];decide) hu
  have m:((as.map (·.arg)).take (as.map (·.arg)).length).filter (λ n=>(((as.map (·.arg)).zip us).lookup n).isNone)=[]:=by
   rw[yAh,List.filter_eq_nil_iff];intro n hn;rw[i1 n hn];decide
  unfold bindArgs;have q:seqItems? Value.none=(pure qz:Sem (Option (Array qx))):=rfl;simp only[yBv,q,pure_bind,yCi,yCp,yAs,yEy,yEg,yDd,List.drop_nil,List.zip_nil_right,yFm,hu,gt_iff_lt,yBc,decide_false,yEx,yBd,if_false,m,List.isEmpty_nil,Bool.not_true,i2,Option.isNone_none]
 ·exact no h
structure XoTop(K:FrG)(c:Str):Prop where
 ex:∃ C,nsIn K qy c=qq (qq (.ref C))
structure XbTop(K:FrG)(d:Str):Prop where
 ex:∃ n,nsIn K qy d=qq qz/\zu d=qq (.type n)/\d ≠ "__name__"
theorem law_ofX{l:yFj}{q:qo}{loose:List Str}{XP:(Str->Option qx)->Heap->Prop}{YP:zq->Heap->Prop}{d:DefRec}{K:Params->FrG}(fs:List Fn)(gs:List FnX)(tb:Tbs)(Z:Xz)(xl:List (Str×Str×Bool))(f D:Nat)(L:FnX)(x:Str)
 (hn:l.most=qq 63) (hdf:d.params.defaults=[]) (hr:Room (D+2) callerA) (hY:∀ (w:zq) (h:Heap),YP w h->(K w.params).In h)
 (hk:∀ F∈fs,tI fs tb F=true) (gk:∀ G∈gs,wK fs gs tb Z G=true) (hb:∀ F∈fs,oS F) (gb:∀ G∈gs,oS G.fn) (hL:gs[f]? = qq L) (hname:L.name=d.name) (hps:L.N.take L.np=[x])
 (top:∀ w:zq,∀ h:Heap,(K w.params).In h->∀ F∈fs,TopFn (K w.params) F) (topX:∀ w:zq,∀ h:Heap,(K w.params).In h->∀ G∈gs,TopFn (K w.params) G.fn) (tbl:∀ w:zq,∀ h:Heap,(K w.params).In h->∀ t∈tb.tb,TabTop (K w.params) w t) (cnl:∀ w:zq,∀ h:Heap,(K w.params).In h->∀ t∈tb.cn,ConTop (K w.params) t) (stl:∀ w:zq,∀ h:Heap,(K w.params).In h->∀ t∈tb.st,StTop (K w.params) t) (tbn:∀ w:zq,∀ h:Heap,(K w.params).In h->∀ x∈bltNames,yBx (K w.params) qy x=qq qz)
 (rit:∀ w:zq,∀ h:Heap,(K w.params).In h->∀ z∈Z.ri,RiTop (K w.params) z) (rik:∀ z∈Z.ri,aBi z.2.2 "self" "row" = true/\aBy z.2.2=true) (ent:∀ w:zq,∀ h:Heap,(K w.params).In h->∀ e∈xl,EntTop (K w.params) e) (rct:∀ w:zq,∀ h:Heap,(K w.params).In h->∀ c∈Z.rc,RcTop (K w.params) c) (xot:∀ w:zq,∀ h:Heap,(K w.params).In h->∀ c∈Z.xo,XoTop (K w.params) c) (xbt:∀ w:zq,∀ h:Heap,(K w.params).In h->∀ c∈Z.xb,XbTop (K w.params) c)
 (main:∀ ns:List Int,ns.length<=63->(∀ i∈ns,yAi i<=1048576)->∃ call S',(aF fs gs (nN xl) D).1 (fs.length+f)=qq (1,call)/\call [.d (.list (ns.map yAl))] []=qq (.d (.bool true),S')) :
 PySem.W.WalkO q loose XP YP l.row.toRowW d [] (λ f vs=>PySem.call f vs):=by
 obtain⟨call,S0,hcall,_⟩:=main [] (by simp) (by simp)
 refine aJ3 hn hdf λ w s₀ s₁ mg mb fa a vs ns G Y hmg hobj hints bZ hsm hg=>?_
 have KX:=hY w _ Y;have tops:∀ F:Fn,oS F->TopFn (K w.params) F->∃ fa fd,Fun (K w.params) F.name F.name F.st fa fd/\mg F.name=qq (.ref fa)/\dD (K w.params) fd (F.N.take F.np) []:=λ F hF hT=>by
  obtain⟨f,oc,od,an,sl,kV,dc,pm,cd,ct,a,l,c,k⟩:=hT.ex;have Fu:=aEQ (st:=F.st) l c k;exact⟨f,_,Fu,yFd KX G.T.g a,Fu.binds hF⟩
 have hmv:∀ x v,nsIn (K w.params) qy x=qq (qq v)->mg x=qq v:=λ x v e=>yFd KX G.T.g e
 have hmn:∀ x,nsIn (K w.params) qy x=qq qz->mg x=qz:=λ x e=>PySem.W.mg_none_of KX G.T.g e
 have hblt:∀ x∈bltNames,mg x=qz:=λ y hy=>hmn y (tbn w _ KX y hy)
 have htab:∀ x aH,(x,aH)∈tb.tb->∃ a,mg x=qq (.ref a)/\lV (K w.params) w a aH:=λ x aH hx=>by
  obtain⟨a,es,ep,a1,s1,l1,c1⟩:=(tbl w _ KX (x,aH) hx).ex;exact⟨a,yFd KX G.T.g a1,s1,es,ep,l1,c1⟩
 have hcon:∀ x ts,(x,ts)∈tb.cn->∃ a,mg x=qq (.ref a)/\nB (K w.params) a ts:=λ x ts hx=>by
  obtain⟨a,a1,c1⟩:=(cnl w _ KX (x,ts) hx).ex;exact⟨a,yFd KX G.T.g a1,c1⟩
 have cZ:∀ x y,(x,y)∈tb.st->∃ t,mg x=qq (.str y t):=λ x y hx=>by
  obtain⟨k,a1⟩:=(stl w _ KX (x,y) hx).ex;exact⟨k,hmv _ _ a1⟩
 have X0:XK0 (K w.params) mg Z (nN xl):=⟨aNJ hmv hmn (ent w _ KX),λ d hd=>by
  obtain⟨C,h⟩:=(xot w _ KX d hd).ex;exact⟨C,h,hmv _ _ h⟩,λ d hd=>by
  obtain⟨n,h1,h2,h3⟩:=(xbt w _ KX d hd).ex;exact⟨n,hmn _ h1,h2,h3⟩,λ c hc=>by
  obtain⟨C,h1,h2⟩:=(rct w _ KX c hc).ex;exact⟨C,h1,hmv _ _ h1,h2⟩,λ z hz=>by
  obtain⟨C,fI,oc,od,an,sl,kV,dc,pm,cd,ct,a1,a2,a3,a4,a5⟩:=(rit w _ KX z hz).ex;have Fu:Fun (K w.params) "__init__" z.2.1 z.2.2 fI _:=aEQ (st:=z.2.2) a3 a4 a5;refine⟨C,fI,_,a1,hmv _ _ a1,a2,Fu,(rik z hz).1,Fu.binds λ kV doc pm an cdv ct us hu=>aIN (rik z hz).2 kV doc pm an cdv ct us hu,_,a3,?_⟩
  have q:=a2.fn;unfold isFn at q;have q:=beq_iff_eq.mp q;unfold typeIn at q;simp only[a3] at q;exact Option.some.inj q⟩
 have hLm:L∈gs:=xAi hL;obtain⟨fa1,fd,Fu,hmg1,hbi⟩:=tops L.fn (gb L hLm) (topX w _ KX L hLm);have hmg1:mg L.name=qq (.ref fa1):=hmg1;rw[<- hname,hmg1] at hmg;cases hmg;refine L2.law_call (fd:=fd) (sp:=jL (K w.params) 1 call) (CX:=fH) (x:=x) KX G.T.g G.T.b G.T.builtins G.T.nolimit hg hobj hints (xAg bZ (by decide)) hr (λ base kb nb=>?_) (λ s u=>?_) (λ H hO hS=>?_) λ _ _ _ z=>z
 ·have P1:=(aDP (P:=l.prog) (w:=w) (base:=base) (Z:=Z) hk gk (λ F hF=>tops F (hb F hF) (top w _ KX F hF)) (λ G hG=>tops G.fn (gb G hG) (topX w _ KX G hG)) hblt htab hcon cZ X0 D).2.2 f L 1 call _ _ hL hcall Fu
  rw[hps] at P1;exact P1
 ·obtain⟨oc,od,kV,doc,pm,an,cdv,ct,osl,rfl,lk,hcd⟩:=Fu.ex;have:=gb L hLm kV doc pm an cdv ct [u] (by show [u].length=(L.N.take L.np).length;rw[hps];rfl)
  have e:L.fn.N.take L.fn.np=[x]:=hps;rw[e] at this;exact .of_eq this
 ·obtain⟨call',S',hcall',hrun⟩:=main ns bZ hsm;rw[hcall] at hcall';cases hcall';refine⟨H,[],[],[.d (.list (ns.map yAl))],.d (.bool true),S',rfl,⟨bN.refl _,List.nodup_nil,rfl,λ n a ds e=>by simp at e,λ n a e=>by simp at e⟩,.cons (Den.lst hS (DenL.of_ints ns)) .nil,hrun,λ F' L' H' v g R d=>?_⟩
  cases (show Den (K w.params) F' (.bool true) v from d)
  rfl
end EV
namespace EV
open PySem L2
theorem aEd{α:Type}(S:List α)(a b:α):(S++[a]).set S.length b=S++[b]:=by simp
theorem aAu{α:Type}{t:Tg}{fc:FT}{fe:FE}{env:aU}{S:aC}(enc g:α->D)(p:α->Bool):∀ (l:List α) (aG:List D),aG.length+l.length<=qk ->
 (∀ a∈l,∃ e1,t.put (enc a) env=qq e1/\(∀ S',fc e1 S'=qq (p a,S'))/\(p a=true->∀ S',fe e1 S'=qq (.d (g a),S'))) ->
 jD t fc fe S.length env (l.map enc) (S++[qq aG])=qq (S++[qq (aG++(l.filter p).map g)])
 | [],aG,_,_=>by simp[jD]
 | a::l,aG,hz,h=>by
   obtain⟨e1,h1,h2,h3⟩:=h a xAd;have hlt:aG.length<qk:=by simp at hz;omega
   have bK:=λ x (hx:x∈l)=>h x (xAf _ hx)
   simp only[yAj,jD,h1,yBb,h2];cases hp:p a with
   | false =>
     simp only[yBd,if_false];rw[aAu enc g p l aG (by simp at hz;omega) bK]
     simp[yCt,hp]
   | true =>
     have ea:eG (S++[qq aG]) (.loc S.length) (.d (g a))=qq (.d .none,S++[qq (aG++[g a])]):=by
      unfold eG;simp only[yAe (yAc S.length),yCj,yBj];rw[if_pos hlt,aEd]
     simp only[if_true,h3 hp,yBb,ea];rw[aAu enc g p l (aG++[g a]) (by simp at hz ⊢;omega) bK]
     simp[yCt,hp]
theorem aJc{α:Type}{t:Tg}{fi:FL}{fc:FT}{fe:FE}{env:aU}{S S1:aC}(enc g:α->D)(p:α->Bool)(l:List α)(hi:fi env S=qq (l.map enc,S1))(hz:l.length<=qk)
 (h:∀ a∈l,∃ e1,t.put (enc a) (clr t.slots env)=qq e1/\(∀ S',fc e1 S'=qq (p a,S'))/\(p a=true->∀ S',fe e1 S'=qq (.d (g a),S'))):gI t fi fc fe env S=qq ((l.filter p).map g,S1):=by
 unfold gI;rw[hi];simp only[yBb];rw[aAu enc g p l [] (by simpa using hz) h]
 simp
theorem aAs{α:Type}{t:Tg}{fc:FT}{fe:FE}{env:aU}{S:aC}(enc g:α->D)(p:α->Bool):∀ (l:List α) (aG:List D),aG.length+l.length<=qk ->
 (∀ a∈l,∃ e1,t.put (enc a) env=qq e1/\(∀ aG,fc e1 (S++[qq aG])=qq (p a,S++[qq aG]))/\(p a=true->∀ aG,fe e1 (S++[qq aG])=qq (.d (g a),S++[qq aG]))) ->
 jD t fc fe S.length env (l.map enc) (S++[qq aG])=qq (S++[qq (aG++(l.filter p).map g)])
 | [],aG,_,_=>by simp[jD]
 | a::l,aG,hz,h=>by
   obtain⟨e1,h1,h2,h3⟩:=h a xAd;have hlt:aG.length<qk:=by simp at hz;omega
   have bK:=λ x (hx:x∈l)=>h x (xAf _ hx)
   simp only[yAj,jD,h1,yBb,h2];cases hp:p a with
   | false =>
     simp only[yBd,if_false];rw[aAs enc g p l aG (by simp at hz;omega) bK]
     simp[yCt,hp]
   | true =>
     have ea:eG (S++[qq aG]) (.loc S.length) (.d (g a))=qq (.d .none,S++[qq (aG++[g a])]):=by
      unfold eG;simp only[yAe (yAc S.length),yCj,yBj];rw[if_pos hlt,aEd]
     simp only[if_true,h3 hp,yBb,ea];rw[aAs enc g p l (aG++[g a]) (by simp at hz ⊢;omega) bK]
     simp[yCt,hp]
theorem uX{α:Type}{t:Tg}{fi:FL}{fc:FT}{fe:FE}{env:aU}{S S1:aC}(enc g:α->D)(p:α->Bool)(l:List α)(hi:fi env S=qq (l.map enc,S1))(hz:l.length<=qk)
 (h:∀ a∈l,∃ e1,t.put (enc a) (clr t.slots env)=qq e1/\(∀ aG,fc e1 (S1++[qq aG])=qq (p a,S1++[qq aG]))/\(p a=true->∀ aG,fe e1 (S1++[qq aG])=qq (.d (g a),S1++[qq aG]))):gI t fi fc fe env S=qq ((l.filter p).map g,S1):=by
 unfold gI;rw[hi];simp only[yBb];rw[aAs enc g p l [] (by simpa using hz) h]
 simp
theorem iI{α:Type}{t:Tg}{fi:FL}{fe:FE}{env:aU}{S S1:aC}(enc g:α->D)(l:List α)(hi:fi env S=qq (l.map enc,S1))(hz:l.length<=qk)
 (h:∀ a∈l,∃ e1,t.put (enc a) (clr t.slots env)=qq e1/\∀ S',fe e1 S'=qq (.d (g a),S')):gI t fi nK fe env S=qq (l.map g,S1):=by
 rw[aJc (fc:=nK) enc g (λ _=>true) l hi hz λ a ha=>let ⟨e1,h1,h2⟩:=h a ha;⟨e1,h1,λ _=>rfl,λ _=>h2⟩]
 rw[List.filter_eq_self.mpr (λ _ _=>rfl)]
theorem aJf(n:Nat):∀ lo:Int,jY lo n=(yBe n).map λ k=>yAl (lo+(k:Nat)):=by
 induction n with
 | zero=>intro lo;rfl
 | succ n ih =>
   intro lo;rw[jY,ih,List.range_succ_eq_map,yAj,yBg];congr 1
   ·simp
   ·apply yEp;intro k _;simp only[Function.comp];congr 1
    push_cast
    omega
theorem aDh:∀ (ds:List D) (k:Int),gY k ds=(ds.zipIdx).map λ p=>yAv [.int (k+(p.2:Nat)),p.1]
 | [],_=>rfl
 | d::r,k=>by
   rw[gY,aDh r (k+1),yFg,yAj];congr 1
   ·simp
   ·rw[List.zipIdx_succ,yBg];apply yEp;intro p _;simp only[Function.comp];congr 3
    push_cast
    omega
end EV
namespace BM
theorem uT(n:Nat):0<2^n:=Nat.two_pow_pos n
theorem aHk{n w i:Nat}(h:n<2^w)(hi:w<=i):n.testBit i=false:=Nat.testBit_lt_two_pow (xAc h (yDh (by decide) hi))
noncomputable def bl(n:Nat):Nat:=if n=0 then 0 else n.log2+1
theorem aLy{n:Nat}(h:n≠0):bl n=n.log2+1:=if_neg h
theorem aOw(n:Nat):n<2^bl n:=by
 by_cases h:n=0
 ·subst h;decide
 ·rw[aLy h];exact Nat.lt_log2_self
noncomputable def aP1(l:List Bool):Nat:=(l.takeWhile id).length
noncomputable def hi(l:List Bool):Nat:=l.length-aP1 (l.reverse.map (!·))
theorem aQf{l g i:Nat}(h:bl (l^^^g)<=i):l.testBit i=g.testBit i:=by
 have:=aHk (aOw (l^^^g)) h;rw[Nat.testBit_xor] at this;cases a:l.testBit i<;>cases b:g.testBit i<;>simp[a,b] at this ⊢
end BM
namespace BM
end BM
namespace BM
open PySem
theorem aHY(a:Nat):((a:Int)).natAbs=a:=by omega
theorem aHx(a:Nat):yAi a=if a=0 then 0 else a.log2+1:=by
 unfold yAi
 by_cases h:a=0
 ·subst h;rfl
 ·rw[if_neg h,if_neg (by simp;omega),aHY]
theorem aHX{a n:Nat}(h:a<2^n):yAi a<=n:=by
 rw[aHx]
 split
 ·exact yEo _
 ·rename_i h0;exact(Nat.log2_lt h0).mpr h
theorem aDt(n:Nat):((2^n:Nat):Int)=(2:Int)^n:=by simp
theorem aPU{x y:Int}(h:y.natAbs.log2<9000):yCa x y=false:=by
 unfold yCa;dsimp only;have:¬ ((if (y==0)=true then 0 else y.natAbs.log2/30+1)>300):=by
  split
  ·omega
  ·omega
 rw[dqF this];rfl
end BM
namespace EV
open PySem L2 BM
theorem cU(i j:Int):cA .Add (.int i) (.int j)=qq (.int (i+j)):=rfl
theorem gU(i j:Int):cA .Sub (.int i) (.int j)=qq (.int (i-j)):=rfl
theorem iH{w:Nat}(h1:w<=100000):cA .LShift (.int 1) (.int w)=qq (.int ((2^w:Nat):Int)):=by
 have c:(0:Int)<=w/\(yAi 1:Int)+w<=2^27:=⟨by omega,by(have:(yAi 1:Int)=1:=(by decide);omega)⟩
 simp only[cA,rQ];rw[if_pos c,Int.one_mul,yBi,aDt]
theorem aKT{n a k:Nat}(h:n<2^a)(h2:a+k<=100000):cA .LShift (.int n) (.int k)=qq (.int ((n*2^k:Nat):Int)):=by
 have c:(0:Int)<=(k:Nat)/\((yAi (n:Int):Nat):Int)+(k:Nat)<=2^27:=by
  have:=aHX h;exact⟨by omega,by omega⟩
 simp only[cA,rQ];rw[if_pos c,yBi,<- aDt];congr 2
theorem eU{i j:Int}(h:0<j):cA .Mod (.int i) (.int j)=qq (.int (i%j)):=by
 simp only[cA,rQ];rw[if_pos (by omega),Int.fmod_eq_emod_of_nonneg _ (by omega)]
theorem lO{i j:Int}(h:0<j)(h2:j<2^64):cA .FloorDiv (.int i) (.int j)=qq (.int (i/j)):=by
 simp only[cA,rQ];have h3:j.natAbs.log2<9000:=Nat.lt_trans ((Nat.log2_lt (by omega)).mpr (show j.natAbs<2^64 by omega)) (by decide)
 rw[if_pos ⟨by omega,aPU h3⟩,Int.fdiv_eq_ediv_of_nonneg _ (by omega)]
theorem aHy{i j:Int}(h1 : -(2^64)<j)(h2:j<2^64):lW i j=true:=by
 unfold lW;have:=intBits_le_64 h1 h2;have h:¬ (yAi j>yz):=Nat.not_lt.mpr this;rw[dqF h];simp
theorem aHo{i j:Int}(h1 : -(2^64)<i)(h2:i<2^64):lW i j=true:=by
 unfold lW;have:=intBits_le_64 h1 h2;have h:¬ (yAi i>yz):=Nat.not_lt.mpr this;rw[dqF h];simp
theorem oQ{i j:Int}(h1 : -(2^64)<j)(h2:j<2^64):cA .Mult (.int i) (.int j)=qq (.int (i*j)):=by
 show(if lW i j=true then qq (yAl (i*j)) else qz)=_
 rw[if_pos (aHy h1 h2)]
theorem oN{i j:Int}(h1 : -(2^64)<i)(h2:i<2^64):cA .Mult (.int i) (.int j)=qq (.int (i*j)):=by
 show(if lW i j=true then qq (yAl (i*j)) else qz)=_
 rw[if_pos (aHo h1 h2)]
theorem vA{xs ys:List D}(h:xs.length+ys.length<=1000000):cA .Add (.list xs) (.list ys)=qq (.list (xs++ys)):=by
 show(if xs.length+ys.length<=qk then qq (yBh (xs++ys)) else qz)=_
 rw[if_pos (by rw[zx];omega)]
theorem aJM{i:Int}{k:Nat}(h:k<=1000000)(h2:i.natAbs<2^64):cA .Pow (.int i) (.int k)=qq (.int (i^k)):=by
 have c:0<=((k:Nat):Int)/\((k:Nat):Int)<=1000000/\i.natAbs<2^64:=⟨by omega,by omega,h2⟩
 simp only[cA,rQ];rw[if_pos c,yBi]
theorem cE(i j:Int):bA .Eq (.int i) (.int j)=qq (.bool (i==j)):=rfl
theorem aA7(i j:Int):bA .NotEq (.int i) (.int j)=qq (.bool (!(i==j))):=rfl
theorem dH(i j:Int):bA .Lt (.int i) (.int j)=qq (.bool (decide (i<j))):=rfl
theorem vX(i j:Int):bA .LtE (.int i) (.int j)=qq (.bool (decide (i<=j))):=rfl
theorem iK(i j:Int):bA .Gt (.int i) (.int j)=qq (.bool (decide (j<i))):=rfl
theorem mP(i j:Int):bA .GtE (.int i) (.int j)=qq (.bool (decide (j<=i))):=rfl
end EV
namespace EV
open PySem L2 BM
theorem oB{α β:Type}(a:α)(f:α->Option β):(qq a).bind f=f a:=of_eq_true (eq_self (f a))
theorem oM{α β:Type}(a:α)(f:α->β):(qq a).map f=qq (f a):=of_eq_true (eq_self (qq (f a)))
noncomputable def cl(fs:List Fn)(d f:Nat)(ws:List W)(S:aC):Option (W×aC):=match aD fs d f with
 | some (np,call)=>if ws.length=np then call ws S else qz
 | none=>qz
theorem aIe(fs:List Fn)(d f:Nat)(fa:FA)(env:aU)(S:aC):iM (aD fs d) f fa env S=(fa env S).bind λ p=>cl fs d f p.1 p.2:=by
 unfold iM cl sA;cases aD fs d f with
 | none=>cases fa env S<;>rfl
 | some q=>rfl
theorem cP{fs:List Fn}{f:Nat}{F:Fn}(h:fs[f]? = qq F)(d:Nat)(ws:List W)(S:aC)(hw:ws.length=F.np):cl fs (d+1) f ws S=cK (xs (aD fs d) F.body) F.N.length ws S:=by
 have e:aD fs (d+1) f=qq (F.np,cK (xs (aD fs d) F.body) F.N.length):=by
  show(fs[f]?).map _=_;rw[h];rfl
 unfold cl;rw[e];exact if_pos hw
theorem szT{n:Nat}(h:n<=1000):(n<=qk)=True:=by
 rw[zx];exact eq_true (by omega)
end EV
namespace EV
open PySem L2 BM
theorem aAf(w:Nat):((2^w:Nat):Int)-1=((2^w-1:Nat):Int):=by
 have:=uT w;omega
theorem oF{fa:FE}{env:aU}{S S1:aC}{w:Nat}(h:fa env S=qq (.d (.int w),S1))(hw:w<=1000000):rY fa env S=qq ((yBe w).map (λ k=>yAl (k:Nat)),S1):=by
 have c : -(2^62)<=((w:Nat):Int)/\((w:Nat):Int)<2^62:=⟨by omega,by omega⟩
 unfold rY;rw[h,oB];simp only[];rw[if_pos c,aJf,yBi];congr 2;apply yEp;intro k _;rw[Int.zero_add]
theorem aHs{fa:FE}{env:aU}{S S1:aC}{ds:List D}(h:fa env S=qq (.d (.list ds),S1)):rM fa env S=qq (ds.zipIdx.map (λ p=>yAv [.int (p.2:Nat),p.1]),S1):=by
 simp only[rM,h,oB];rw[aDh];simp
theorem kR{xs:List D}{k:Nat}{x:D}(h:xs[k]? = qq x):bC (.list xs) (.int k)=qq x:=by
 have hl:k<xs.length:=(gIm h).1;show(iV xs.length ((k:Nat):Int)).bind (λ j=>xs[j]?)=qq x
 unfold iV;rw[if_pos (by omega),if_pos (by omega),oB,yBi]
 exact h
theorem oP{xs:List D}{k:Nat}{x:D}(h:xs[k]? = qq x):bC (.tuple xs) (.int k)=qq x:=kR (xs:=xs) h
theorem aBd(xs:List D)(k:Nat):dJ xs qz (qq (k:Nat))=xs.take k:=by
 unfold dJ;rw[HT.sIx_none,HT.sIx_nat,yCu,yFm];rcases Nat.le_total k xs.length with h | h
 ·rw[yEq h]
 ·rw[yFi h,yAh,yBm h]
theorem aEa{t:Tg}{fb:FS}(P:Nat->aU->aC->Prop):∀ (ds:List D) (i:Nat) (env:aU) (S:aC),P i env S->(∀ j d env S,ds[j]? = qq d->P (i+j) env S->∃ e1 aO S',t.put d env=qq e1/\fb e1 S=qq (.nx aO,S')/\P (i+j+1) aO S') ->
 ∃ aO S',iT t fb ds env S=qq (.nx aO,S')/\P (i+ds.length) aO S'
 | [],i,env,S,h0,_=>⟨env,S,rfl,h0⟩
 | d::ds,i,env,S,h0,h=>by
   obtain⟨e1,aO,S',h1,h2,h3⟩:=h 0 d env S rfl h0;obtain⟨env2,S2,h4,h5⟩:=aEa P ds (i+1) aO S' h3 λ j d' env S a b=>by
    have:=h (j+1) d' env S (by simpa using a) (by rw[show i+(j+1)=i+1+j by omega];exact b)
    rw[show i+(j+1)=i+1+j by omega] at this
    exact this
   refine⟨env2,S2,by simp only[iT,h1,oB,h2];exact h4,?_⟩
   have:i+(d::ds).length=i+1+ds.length:=by simp;omega
   rw[this];exact h5
theorem aNs{t:Tg}{fi:FL}{fb:FS}{env:aU}{S S1:aC}{ds:List D}(P:Nat->aU->aC->Prop)(hi:fi env S=qq (ds,S1))(h0:P 0 env S1)(h:∀ j d env S,ds[j]? = qq d->P j env S->∃ e1 aO S',t.put d env=qq e1/\fb e1 S=qq (.nx aO,S')/\P (j+1) aO S') :
 ∃ aO S',jH t fi fb env S=qq (.nx aO,S')/\P ds.length aO S':=by
 obtain⟨aO,S',h1,h2⟩:=aEa (t:=t) (fb:=fb) P ds 0 env S1 h0 λ j d env S a b=>by
  have:=h j d env S a (by simpa using b)
  simpa using this
 exact⟨aO,S',by unfold jH;rw[hi,oB];exact h1,by simpa using h2⟩
theorem cI{xs:List D}:fS [.list xs]=qq (.int xs.length):=rfl
theorem cM{xs:List D}:fS [.tuple xs]=qq (.int xs.length):=rfl
theorem rS{xs:List D}:oZ [.list xs]=qq (.tuple xs):=rfl
theorem rO{xs:List D}:oZ [.tuple xs]=qq (.tuple xs):=rfl
theorem pB{i:Int}:sX [.int i]=qq (.int i):=rfl
theorem oX{k:Bool}:sX [.bool k]=qq (.int (if k then 1 else 0)):=rfl
theorem aMw{α:Type}(a:α):List.take 1 [a]=[a]:=rfl
theorem aMd{α:Type}(a b:α):List.take 1 [a,b]=[a]:=rfl
theorem aL3{α:Type}(a b:α):List.take 2 [a,b]=[a,b]:=rfl
end EV
namespace EV
open PySem L2 PySem.Spec PyProof.Rows PySem.W
theorem aF7{K:FrG}{D:qv}(a2:findIn K (.ref D) "__getattribute__" = qq (qq (.builtin "BaseException.__getattribute__")))(a3:findIn K (.ref D) "__getattr__" = qq qz)(a4:mroIn K D (.type "BaseException")=qq true)(a5:mroIn K D (.type "object")=qq true)(a6:hasDictIn K D=true)
 (a7:findIn K (.ref D) "__class__" = qq (qq (.builtin "object.__class__"))) (a8:specialIn K (.builtin "object.__class__") "__get__" = qq (qq (.builtin "getset_descriptor.__get__"))) (a9:takesIn K (.builtin "object.__class__")=qq true) (a0:findIn K (.ref D) "row" = qq qz):XcOk K D:=⟨a2,a3,a4,a5,a6,a0,a7,a8,a9⟩
theorem ent_own{K:FrG}{c d:Str}{b:Bool}{C C':qv}(a1:nsIn K qy c=qq (qq (.ref C)))(a2:findIn K (.ref C) "__getattribute__" = qq (qq (.builtin "BaseException.__getattribute__")))(a3:findIn K (.ref C) "__getattr__" = qq qz)(a4:mroIn K C (.type "BaseException")=qq true)(a5:mroIn K C (.type "object")=qq true)(a6:hasDictIn K C=true)
 (a7:findIn K (.ref C) "__class__" = qq (qq (.builtin "object.__class__"))) (a8:specialIn K (.builtin "object.__class__") "__get__" = qq (qq (.builtin "getset_descriptor.__get__"))) (a9:takesIn K (.builtin "object.__class__")=qq true) (a0:findIn K (.ref C) "row" = qq qz) (b1:nsIn K qy d=qq (qq (.ref C'))) (b2:exmOne K (.ref C) (.ref C')=qq b) (b3:kitOne K (.ref C) (.ref C')=qq b):EntTop K (c,d,b):=
 ⟨C,a1,aF7 a2 a3 a4 a5 a6 a7 a8 a9 a0,.inl ⟨C',b1,b2,b3⟩⟩
theorem ent_blt{K:FrG}{c d:Str}{b:Bool}{C:qv}{n:String}(a1:nsIn K qy c=qq (qq (.ref C)))(a2:findIn K (.ref C) "__getattribute__" = qq (qq (.builtin "BaseException.__getattribute__")))(a3:findIn K (.ref C) "__getattr__" = qq qz)(a4:mroIn K C (.type "BaseException")=qq true)(a5:mroIn K C (.type "object")=qq true)(a6:hasDictIn K C=true)
 (a7:findIn K (.ref C) "__class__" = qq (qq (.builtin "object.__class__"))) (a8:specialIn K (.builtin "object.__class__") "__get__" = qq (qq (.builtin "getset_descriptor.__get__"))) (a9:takesIn K (.builtin "object.__class__")=qq true) (a0:findIn K (.ref C) "row" = qq qz) (b1:nsIn K qy d=qq qz) (b2:zu d=qq (.type n)) (hn:d ≠ "__name__") (b3:kitOne K (.ref C) (.type n)=qq b):EntTop K (c,d,b):=
 ⟨C,a1,aF7 a2 a3 a4 a5 a6 a7 a8 a9 a0,.inr ⟨n,b1,b2,hn,b3⟩⟩
theorem topX_mk{K:FrG}{name:Str}{np:Nat}{N:List Str}{body:Sx ⊕ Xx}{st:zk}{f:qv}{oc:qx}{od an:Option qv}{sl:Array (Option qx)}{kV dc pm cd ct:qx}(a:yBx K qy name=qq (qq (.ref f)))
 (l:K.lookup f=qq ⟨oc,od,.func (yBv name name (gT st) (dN st) (bH st) .none kV dc pm an cd ct),sl⟩) (c:yDi K cd name=true) (k:yBq K (.ref f)=true):TopFn K (FnX.fn ⟨name,np,N,body,st⟩):=
 ⟨f,oc,od,an,sl,kV,dc,pm,cd,ct,a,l,c,k⟩
theorem ri_mk{K:FrG}{c bE:Str}{st:zk}{C fI:qv}{oc:qx}{od an:Option qv}{sl:Array (Option qx)}{kV dc pm cd ct:qx}(a1:nsIn K qy c=qq (qq (.ref C)))(a3:findIn K (.ref C) "__init__" = qq (qq (.ref fI)))(a2:xU K C [.type "ValueError",.type "Exception",.type "BaseException",.type "object"] "ValueError.__new__" = true)(a4:findIn K (.ref C) "__setattr__" = qq (qq (.builtin "object.__setattr__")))(a5:findIn K (.ref C) "row" = qq qz)
 (a6:keepIn K (.ref C)=true) (a7:isFn K (.ref fI)=true) (a8:K.lookup fI=qq ⟨oc,od,.func (fnOf "__init__" bE (gT st) (dN st) (bH st) .none kV dc pm an cd ct),sl⟩) (a9:codeIn K cd bE=true) (b1:keepIn K (.ref fI)=true):RiTop K (c,bE,st):=
 ⟨C,fI,oc,od,an,sl,kV,dc,pm,cd,ct,a1,⟨a2,a3,a4,a5,a6,a7⟩,a8,a9,b1⟩
theorem xo_mk{K:FrG}{c:Str}{C:qv}(a1:nsIn K qy c=qq (qq (.ref C))):XoTop K c:=⟨C,a1⟩
section
variable {fs : List Fn}{gs : List FnX}{tb : Str -> Str -> Option Bool}
noncomputable def bY(fs:List Fn)(gs:List FnX)(tb:Str->Str->Option Bool)(d f:Nat)(ws:List EV.W)(S:aC):Option (EV.W×aC):=match (aF fs gs tb d).1 f with
 | some (np,call)=>if ws.length=np then call ws S else qz
 | none=>qz
theorem eB(d f:Nat)(fa:FA)(env:aU)(S:aC):iM (aF fs gs tb d).1 f fa env S=(fa env S).bind λ p=>bY fs gs tb d f p.1 p.2:=by
 unfold iM bY sA;cases (aF fs gs tb d).1 f with
 | none=>cases fa env S<;>rfl
 | some q=>rfl
theorem eC(d f:Nat)(ws:List EV.W)(S:aC)(h:f<fs.length):bY fs gs tb (d+1) f ws S=cl fs (d+1) f ws S:=by
 have:(aF fs gs tb (d+1)).1 f=aD fs (d+1) f:=if_pos h;unfold bY cl;rw[this]<;>cases aD fs (d+1) f<;>rfl
theorem vR{g:Nat}{G:FnX}(hG:gs[g]? = qq G)(d:Nat)(ws:List EV.W)(S:aC)(h:ws.length=G.np):bY fs gs tb (d+1) (fs.length+g) ws S=hV (aF fs gs tb d).1 (aF fs gs tb d).2 tb G ws S:=by
 have:(aF fs gs tb (d+1)).1 (fs.length+g)=(gs[fs.length+g-fs.length]?).map λ G=>(G.np,hV (aF fs gs tb d).1 (aF fs gs tb d).2 tb G):=if_neg (by omega)
 rw[yCs,hG] at this;unfold bY;rw[this];exact if_pos h
noncomputable def eO(fs:List Fn)(gs:List FnX)(tb:Str->Str->Option Bool)(d f:Nat)(ws:List EV.W)(S:aC):Option (ResX×aC):=match (aF fs gs tb d).2 f with
 | some (np,call)=>if ws.length=np then call ws S else qz
 | none=>qz
theorem uR(d f:Nat)(fa:FA)(env:aU)(S:aC):jE (aF fs gs tb d).2 f fa env S=(fa env S).bind λ p=>eO fs gs tb d f p.1 p.2:=by
 unfold jE eO aBu;cases (aF fs gs tb d).2 f with
 | none=>cases fa env S<;>rfl
 | some q=>rfl
theorem rN{g:Nat}{G:FnX}{x:Xx}(hG:gs[g]? = qq G)(hx:G.body=.inr x)(d:Nat)(ws:List EV.W)(S:aC)(h:ws.length=G.np):eO fs gs tb (d+1) (fs.length+g) ws S=fD (xx (aF fs gs tb d).1 (aF fs gs tb d).2 tb x) G.N.length ws S:=by
 have:(aF fs gs tb (d+1)).2 (fs.length+g)=(gs[fs.length+g-fs.length]?).bind λ G=>match G.body with | .inl _=>qz | .inr x=>qq (G.np,fD (xx (aF fs gs tb d).1 (aF fs gs tb d).2 tb x) G.N.length):=if_neg (by omega)
 rw[yCs,hG,yBb,hx] at this;unfold eO;rw[this];exact if_pos h
theorem aJE{g d:Nat}{G:FnX}{w r:EV.W}{S:aC}(h:gs[g]? = qq G)(hn:G.np=1)(e:bY fs gs tb (d+1) (fs.length+g) [w] []=qq (r,S)):∃ call S',(aF fs gs tb (d+1)).1 (fs.length+g)=qq (1,call)/\call [w] []=qq (r,S'):=by
 refine⟨hV (aF fs gs tb d).1 (aF fs gs tb d).2 tb G,S,?_,?_⟩
 ·have:(aF fs gs tb (d+1)).1 (fs.length+g)=(gs[fs.length+g-fs.length]?).map λ G=>(G.np,hV (aF fs gs tb d).1 (aF fs gs tb d).2 tb G):=if_neg (by omega)
  rw[yCs,h] at this;rw[this,<- hn];rfl
 ·rw[<- vR h d [w] [] (by rw[hn];rfl)]
  exact e
end
end EV
namespace EV
open PySem L2 BM
section
variable {C : Calls}{env : aU}{S S1 S2 S3 S4 : aC}{a b c e es r : E}
variable {s t u : Sx}{aO : aU}{R : Option (Fl×aC)}{w : W}
end
end EV
namespace K23
open PySem L2 EV BM
local macro_rules
 | `(tactic| omega)=>`(tactic| first | (with_reducible assumption) | (with_reducible exact yAc _) | (with_reducible exact Nat.le_add_right _ _) | (with_reducible exact xAg ‹_› (by decide)) | (with_reducible exact xAc ‹_› (by decide)) | (with_reducible exact yDt ‹_› (by decide)) | (with_reducible exact yDz ‹_›) | (with_reducible exact xAg (yDz ‹_›) (by decide)) | (with_reducible exact xAg (Nat.add_le_add_right ‹_› _) (by decide)) | (with_reducible exact Nat.add_le_add_left (by decide) _) | (with_reducible exact yEh ‹_›) | (with_reducible exact Nat.lt_of_not_le ‹_›) | (with_reducible exact Nat.not_lt_of_le ‹_›) | (with_reducible exact Nat.not_le_of_lt ‹_›) | (with_reducible exact xAc ‹_› ‹_›) | (with_reducible exact xAg ‹_› ‹_›) | (with_reducible exact xAg ‹_› (Nat.add_le_add_left (by decide) _)) | (with_reducible exact xAg ‹_› (xAg (Nat.add_le_add_right ‹_› _) (by decide))) | omega (config:={}))
 | `(tactic| simp only[evs])=>`(tactic| simp only[evs,True])
 | `(tactic| simp only[evs,$ls,*])=>`(tactic| simp only[aNe,aLp,aOV,aLj,aLT,aMs,aL6,aNg,aNM,aLh,aMZ,aL2,aOq,aLq,aLK,aBv,aK6,aNm,aNw,aLb,aNY,aMF,aMN,aM3,aLm,aNK,aKh,aMY,aNl,aLX,aNy,aMP,aOd,aMp,aLH,aMf,aOp,aK7,aMG,aLs,aLo,aN6,aOJ,aLP,aKi,aOC,aJT,aMW,aL8,aKc,sI,rD,pD,rL,aD3,mS,aJL,aER,rK,vN,aAH,aKf,aLc,aKx,cY,dX,lT,mF,lY,aOr,sF,mW,nM,fUn,kA,cJ,f2,f1,gN,dE,dr,xQ,fC,dW,kF,aIe,cH,eJ,sL,lC,fY,pU,qD,wY,yQ,xD,sC,xB,wC,nT,sU,B.g,aOM,aNW,aOx,aOc,aOK,sP,Tg.put,lS,Tg.slots,yAj,yCi,yCh,yDd,Nat.reduceAdd,Nat.reduceSub,yFk,yAt,List.replicate_zero,List.cons_append,yCp,yBj,yCr,yCw,yCx,oB,oM,yAh,Bool.not_false,Bool.not_true,yBd,if_true,if_false,reduceIte,Nat.reduceLeDiff,Nat.reduceEqDiff,szT,List.take_nil,List.take_zero,aLE,xL,tE,aMw,aMd,aL3,$ls,*])
noncomputable def top(i:Nat):zk:=PySem.Challenge.pw_fewbits_k23_both_ways.main.body.getD i (.Pass ⟨0,0,0,0⟩)
noncomputable def lL:List (Str×Tv):=[("in",.int 0),("num",.int 0),("not",.int 1),("and",.int 2),("or",.int 2),("xor",.int 2),("add",.int 2),("sub",.int 2),("mul",.int 2),("left",.int 1),("right",.int 1),("slide",.int 1),("cut",.int 1),("wide",.int 1),("sign",.int 1),("same",.int 2),("less",.int 2),("under",.int 2),("pick",.int 3)]
noncomputable def oK:List Tv:=[.str "left",.str "right",.str "slide"]
noncomputable def zR:List Tv:=[.str "same",.str "less",.str "under"]
noncomputable def zG:List Tv:=[.str "wide",.str "sign"]
noncomputable def tbs:Tbs:=⟨[("OPERAND_COUNTS",lL)],[("SHIFTS",oK),("COMPARES",zR),("WIDENINGS",zG)],[("FIGURES", "0123456789")]⟩
abbrev J0:E:=.int 0
abbrev J1:E:=.int 1
abbrev J2:E:=.int 2
abbrev J3:E:=.int 3
abbrev J4:E:=.int 4
abbrev J5:E:=.int 5
abbrev J7:E:=.int 7
abbrev J8:E:=.int 8
abbrev J9:E:=.int 9
abbrev V0:E:=.var 0
abbrev V1:E:=.var 1
abbrev V2:E:=.var 2
abbrev V3:E:=.var 3
abbrev V4:E:=.var 4
abbrev V5:E:=.var 5
abbrev V6:E:=.var 6
abbrev V7:E:=.var 7
abbrev V8:E:=.var 8
noncomputable def aFF:Sx:=(.seq (.ret (.bin .Sub (.bin .LShift J1 V0) J1))
 .skip)
noncomputable def aI4:Sx:=(.seq (.ret (.intb "OPERAND_COUNTS" lL V0))
 .skip)
noncomputable def aCt:Sx:=(.seq (.set 1 (.ite (.or (.cmp .Eq V0 (.str "num")) (.cmp .In V0 (.con "SHIFTS" oK))) J1 J0))
 (.seq (.ret (.bin .Add (.bin .Add J1 (.tab "OPERAND_COUNTS" lL V0)) V1))
 .skip))
noncomputable def aH5:Sx:=(.seq (.ret (.sl V0 (.cons J2 .nil) (.cons (.bin .Add J2 (.tab "OPERAND_COUNTS" lL (.ix V0 J0))) .nil)))
 .skip)
noncomputable def aCl:E:=(.comp (.ix V1 V2) (.one 2) (.it (.call 3 (.cons V0 .nil))) .no)
noncomputable def aHn:Sx:=(.seq (.ret (.blt .tup (.cons (.fz aCl) .nil)))
 .skip)
noncomputable def aCn:E:=(.comp (.cmp .Eq V4 V3) (.one 4) (.it V1) .no)
noncomputable def aHv:Sx:=(.seq (.set 2 (.ix V0 J0))
 (.seq (.set 3 (.ix V0 J1))
 (.seq (.ifs (.cmp .In V2 (.con "COMPARES" zR)) (.seq (.ret (.and (.cmp .Eq V3 J1) (.cmp .Eq (.ix V1 J0) (.ix V1 J1))))
 .skip) .skip)
 (.seq (.ifs (.cmp .Eq V2 (.str "pick")) (.seq (.ret (.cmp .Eq V1 (.tup (.cons J1 (.cons V3 (.cons V3 .nil))))))
 .skip) .skip)
 (.seq (.ifs (.cmp .Eq V2 (.str "cut")) (.seq (.ret (.cmp .GtE (.ix V1 J0) V3))
 .skip) .skip)
 (.seq (.ifs (.cmp .In V2 (.con "WIDENINGS" zG)) (.seq (.ret (.cmp .LtE (.ix V1 J0) V3))
 .skip) .skip)
 (.seq (.ret (.blt .all (.cons (.fz aCn) .nil)))
 .skip)))))))
noncomputable def aHf:Sx:=(.seq (.ifs (.cmp .Eq (.ix V0 J0) (.str "num")) (.seq (.ret (.cmp .LtE (.ix V0 J2) (.call 0 (.cons (.ix V0 J1) .nil))))
 .skip) .skip)
 (.seq (.ifs (.cmp .In (.ix V0 J0) (.con "SHIFTS" oK)) (.seq (.ret (.cmp .LtE (.ix V0 J3) (.int 63)))
 .skip) .skip)
 (.seq (.ret (.bl true))
 .skip)))
noncomputable def aCr:E:=(.comp (.ins false V1 (.gst "FIGURES" "0123456789")) (.one 1) (.its V0) .no)
noncomputable def aHW:Sx:=(.seq (.ifs (.or (.cmp .Lt (.blt .len (.cons V0 .nil)) J1) (.cmp .Gt (.blt .len (.cons V0 .nil)) (.int 20))) (.seq (.ret (.bl false))
 .skip) .skip)
 (.seq (.ifs (.and (.cmp .Eq (.ix V0 J0) (.str "0")) (.cmp .NotEq V0 (.str "0"))) (.seq (.ret (.bl false))
 .skip) .skip)
 (.seq (.ret (.blt .all (.cons (.fz aCr) .nil)))
 .skip)))
noncomputable def aCm:E:=(.comp (.call 7 (.cons V1 .nil)) (.one 1) (.it V0) .no)
noncomputable def aHe:Sx:=(.seq (.ret (.blt .all (.cons (.fz aCm) .nil)))
 .skip)
noncomputable def aCp:E:=(.comp (.itx V1) (.one 1) (.it V0) .no)
noncomputable def aHw:Sx:=(.seq (.ret (.blt .tup (.cons (.fz aCp) .nil)))
 .skip)
noncomputable def aKj:Sx:=(.seq (.set 1 (.fz (.spl V0 (.str " "))))
 (.seq (.set 2 (.ix V1 J0))
 (.seq (.ifs (.or (.not (.call 1 (.cons V2 .nil))) (.or (.cmp .NotEq (.blt .len (.cons V1 .nil)) (.bin .Add J1 (.call 2 (.cons V2 .nil)))) (.not (.call 8 (.cons (.sl V1 (.cons J1 .nil) .no) .nil))))) (.seq (.ret .non)
 .skip) .skip)
 (.seq (.ret (.bin .Add (.tup (.cons V2 .nil)) (.call 9 (.cons (.sl V1 (.cons J1 .nil) .no) .nil))))
 .skip))))
noncomputable def aJF:Sx:=(.seq (.set 1 (.fz (.spl V0 (.str " "))))
 (.seq (.ifs (.or (.cmp .NotEq (.ix V1 J0) (.str "out")) (.or (.cmp .Lt (.blt .len (.cons V1 .nil)) J2) (.or (.cmp .Gt (.blt .len (.cons V1 .nil)) J9) (.not (.call 8 (.cons (.sl V1 (.cons J1 .nil) .no) .nil)))))) (.seq (.ret .non)
 .skip) .skip)
 (.seq (.ret (.call 9 (.cons (.sl V1 (.cons J1 .nil) .no) .nil)))
 .skip)))
noncomputable def aCC:E:=(.comp (.st1 V1) (.one 1) (.it V0) .no)
noncomputable def aIX:Sx:=(.seq (.ret (.jn (.str " ") (.fz aCC)))
 .skip)
noncomputable def aDf:E:=(.comp (.call 12 (.cons V4 .nil)) (.one 4) (.it V2) .no)
noncomputable def aAY:Sx:=(.seq (.setT (.many [2,3]) V0)
 (.seq (.setC true 1 aDf)
 (.seq (.expr (.app V1 (.call 12 (.cons (.bin .Add (.tup (.cons (.str "out") .nil)) V3) .nil))))
 (.seq (.ret (.jn (.str "\n") V1))
 .skip))))
noncomputable def gR:Sx:=(.seq (.setT (.many [3,4]) (.sl V0 .no (.cons J2 .nil)))
 (.seq (.put V0 J1 (.bin .Add V4 J1))
 (.seq (.ifs (.and (.cmp .Lt (.bin .Add (.bin .FloorDiv V4 (.int 12)) J1) (.blt .len (.cons V3 .nil))) (.cmp .Eq (.bin .Mod (.ix V3 J0) J2) J1)) (.seq (.ifs (.cmp .Eq (.bin .Mod V4 (.int 12)) J0) (.seq (.put V0 J2 (.ix V3 (.bin .Add (.bin .FloorDiv V4 (.int 12)) J1)))
 .skip) .skip)
 (.seq (.set 5 (.bin .Mod (.ix V0 J2) V1))
 (.seq (.put V0 J2 (.bin .FloorDiv (.ix V0 J2) V1))
 (.seq (.ret V5)
 .skip)))) .skip)
 (.seq (.ifs (.cmp .Lt V4 (.blt .len (.cons V3 .nil))) (.seq (.ret (.bin .Mod (.ix V3 V4) V1))
 .skip) .skip)
 (.seq (.set 2 (.bin .Add (.bin .Mult V4 (.int 7919)) J5))
 (.seq (.ifs (.cmp .Gt (.blt .len (.cons (.ix V0 J0) .nil)) J0) (.seq (.set 2 (.bin .Add V2 (.bin .Mult (.ix (.ix V0 J0) (.bin .Mod (.bin .Mult V4 J7) (.blt .len (.cons (.ix V0 J0) .nil)))) (.bin .Add (.int 48271) V4))))
 .skip) .skip)
 (.seq (.set 2 (.bin .Mod (.bin .Mult (.bin .Mod V2 (.int 2147483629)) (.bin .Add V4 J3)) (.int 2147483629)))
 (.seq (.set 2 (.bin .Mod (.bin .Mult V2 V2) (.int 2147483587)))
 (.seq (.ret (.bin .Mod (.bin .Mod (.bin .Mult V2 V2) (.int 1999999973)) V1))
 .skip)))))))))
noncomputable def zE:Sx:=(.seq (.ifs (.cmp .Lt V1 (.int 31)) (.seq (.ret (.call 14 (.cons V0 (.cons (.bin .LShift J1 V1) .nil))))
 .skip) .skip)
 (.seq (.ret (.bin .Add (.call 14 (.cons V0 (.cons (.bin .LShift J1 (.int 30)) .nil))) (.bin .LShift (.call 14 (.cons V0 (.cons (.bin .LShift J1 (.bin .Sub V1 (.int 30))) .nil))) (.int 30))))
 .skip))
noncomputable def aCG:Sx:=(.seq (.ret (.ix (.fz (.lst (.cons J1 (.cons (.int 64) (.cons (.bin .Add J1 (.call 14 (.cons V0 (.cons J8 .nil)))) (.cons (.bin .Add J1 (.call 14 (.cons V0 (.cons (.int 64) .nil)))) .nil)))))) (.call 14 (.cons V0 (.cons J4 .nil)))))
 .skip)
noncomputable def zV:Sx:=(.seq (.set 2 (.call 14 (.cons V0 (.cons J5 .nil))))
 (.seq (.set 3 (.fz (.lst (.cons J0 (.cons (.bin .Sub (.bin .LShift J1 V1) J1) (.cons (.bin .LShift J1 (.call 14 (.cons V0 (.cons V1 .nil)))) (.cons (.bin .Sub (.bin .LShift J1 (.call 14 (.cons V0 (.cons V1 .nil)))) J1) .nil)))))))
 (.seq (.ifs (.cmp .Lt V2 J4) (.seq (.ret (.ix V3 V2))
 .skip) .skip)
 (.seq (.ret (.call 15 (.cons V0 (.cons V1 .nil))))
 .skip))))
noncomputable def qQ:Sx:=(.seq (.ifs (.cmp .Eq (.ix (.ix V1 V2) J1) V3) (.seq (.ret V2)
 .skip) .skip)
 (.seq (.set 4 (.ix (.fz (.lst (.cons (.str "wide") (.cons (.str "sign") .nil)))) (.call 14 (.cons V0 (.cons J2 .nil)))))
 (.seq (.ifs (.cmp .Gt (.ix (.ix V1 V2) J1) V3) (.seq (.set 4 (.str "cut"))
 .skip) .skip)
 (.seq (.expr (.app V1 (.tup (.cons V4 (.cons V3 (.cons V2 .nil))))))
 (.seq (.ret (.bin .Sub (.blt .len (.cons V1 .nil)) J1))
 .skip)))))
noncomputable def aGV:E:=(.comp V4 (.one 4) (.rng1 (.blt .len (.cons V1 .nil))) (.cmp .Eq (.ix (.ix V1 V4) J1) V2))
noncomputable def qJ:Sx:=(.seq (.setC false 3 aGV)
 (.seq (.ifs (.and (.cmp .NotEq V3 (.fz (.lst .nil))) (.cmp .Gt (.call 14 (.cons V0 (.cons J4 .nil))) J0)) (.seq (.ret (.ix V3 (.bin .Sub (.bin .Sub (.blt .len (.cons V3 .nil)) J1) (.call 14 (.cons V0 (.cons (.blt .len (.cons V3 .nil)) .nil))))))
 .skip) .skip)
 (.seq (.ret (.call 18 (.cons V0 (.cons V1 (.cons (.call 14 (.cons V0 (.cons (.blt .len (.cons V1 .nil)) .nil))) (.cons V2 .nil))))))
 .skip)))
noncomputable def yS:Sx:=(.seq (.set 3 (.call 14 (.cons V0 (.cons (.blt .len (.cons V1 .nil)) .nil))))
 (.seq (.set 4 (.ix (.ix V1 V3) J1))
 (.seq (.ifs (.cmp .Eq V2 (.str "cut")) (.seq (.ret (.tup (.cons (.str "cut") (.cons (.bin .Add J1 (.call 14 (.cons V0 (.cons V4 .nil)))) (.cons V3 .nil)))))
 .skip) .skip)
 (.seq (.ret (.tup (.cons V2 (.cons (.bin .Add V4 (.call 14 (.cons V0 (.cons (.bin .Sub (.int 65) V4) .nil)))) (.cons V3 .nil)))))
 .skip))))
noncomputable def zL:Sx:=(.seq (.set 4 (.ix (.fz (.lst (.cons (.call 14 (.cons V0 (.cons V3 .nil))) (.cons (.call 14 (.cons V0 (.cons (.int 64) .nil))) .nil)))) (.bin .FloorDiv (.call 14 (.cons V0 (.cons J4 .nil))) J3)))
 (.seq (.ret (.tup (.cons V2 (.cons V3 (.cons (.call 19 (.cons V0 (.cons V1 (.cons V3 .nil)))) (.cons V4 .nil))))))
 .skip))
noncomputable def zT:Sx:=(.seq (.set 4 (.call 19 (.cons V0 (.cons V1 (.cons V3 .nil)))))
 (.seq (.set 5 (.call 19 (.cons V0 (.cons V1 (.cons V3 .nil)))))
 (.seq (.ifs (.cmp .In V2 (.tup (.cons (.str "same") (.cons (.str "less") (.cons (.str "under") .nil))))) (.seq (.set 3 J1)
 .skip) .skip)
 (.seq (.ret (.tup (.cons V2 (.cons V3 (.cons V4 (.cons V5 .nil))))))
 .skip))))
noncomputable def iZ:Sx:=(.seq (.set 2 (.fz (.lst (.cons (.str "in") (.cons (.str "num") (.cons (.str "num") (.cons (.str "not") (.cons (.str "and") (.cons (.str "or") (.cons (.str "xor") (.cons (.str "add") (.cons (.str "sub") (.cons (.str "mul") (.cons (.str "left") (.cons (.str "right") (.cons (.str "slide") (.cons (.str "cut") .nil)))))))))))))))))
 (.seq (.set 2 (.bin .Add V2 (.fz (.lst (.cons (.str "wide") (.cons (.str "sign") (.cons (.str "same") (.cons (.str "less") (.cons (.str "under") (.cons (.str "pick") .nil))))))))))
 (.seq (.set 3 (.ix V2 (.call 14 (.cons V0 (.cons (.int 20) .nil)))))
 (.seq (.set 4 (.ix (.ix V1 (.call 14 (.cons V0 (.cons (.blt .len (.cons V1 .nil)) .nil)))) J1))
 (.seq (.ifs (.cmp .Eq (.call 14 (.cons V0 (.cons J4 .nil))) J1) (.seq (.set 4 (.call 16 (.cons V0 .nil)))
 .skip) .skip)
 (.seq (.ifs (.cmp .Eq V3 (.str "in")) (.seq (.set 5 (.tup (.cons (.str "in") (.cons V4 .nil))))
 .skip) (.seq (.ifs (.cmp .Eq V3 (.str "num")) (.seq (.set 5 (.tup (.cons (.str "num") (.cons V4 (.cons (.call 17 (.cons V0 (.cons V4 .nil))) .nil)))))
 .skip) (.seq (.ifs (.cmp .Eq V3 (.str "not")) (.seq (.set 5 (.tup (.cons (.str "not") (.cons V4 (.cons (.call 19 (.cons V0 (.cons V1 (.cons V4 .nil)))) .nil)))))
 .skip) (.seq (.ifs (.cmp .In V3 (.tup (.cons (.str "left") (.cons (.str "right") (.cons (.str "slide") .nil))))) (.seq (.set 5 (.call 21 (.cons V0 (.cons V1 (.cons V3 (.cons V4 .nil))))))
 .skip) (.seq (.ifs (.cmp .In V3 (.tup (.cons (.str "cut") (.cons (.str "wide") (.cons (.str "sign") .nil))))) (.seq (.set 5 (.call 20 (.cons V0 (.cons V1 (.cons V3 .nil)))))
 .skip) (.seq (.ifs (.cmp .Eq V3 (.str "pick")) (.seq (.set 6 (.call 19 (.cons V0 (.cons V1 (.cons J1 .nil)))))
 (.seq (.set 5 (.bin .Add (.tup (.cons (.str "pick") (.cons V4 (.cons V6 .nil)))) (.sl (.call 22 (.cons V0 (.cons V1 (.cons V3 (.cons V4 .nil))))) (.cons J2 .nil) .no)))
 .skip)) (.seq (.set 5 (.call 22 (.cons V0 (.cons V1 (.cons V3 (.cons V4 .nil))))))
 .skip))
 .skip))
 .skip))
 .skip))
 .skip))
 .skip))
 (.seq (.expr (.app V1 V5))
 .skip)))))))
noncomputable def yT:E:=(.rng1 (.ix (.fz (.lst (.cons (.call 14 (.cons V0 (.cons J3 .nil))) (.cons J7 .nil)))) (.blt .int (.cons (.cmp .Eq (.call 14 (.cons V0 (.cons J8 .nil))) J1) .nil))))
noncomputable def yU:Sx:=(.seq (.expr (.app V5 (.call 14 (.cons V0 (.cons (.blt .len (.cons V2 .nil)) .nil)))))
 .skip)
noncomputable def uG:E:=(.rng1 V1)
noncomputable def uF:Sx:=(.seq (.ifs (.cmp .Lt (.blt .len (.cons V2 .nil)) (.int 37)) (.seq (.expr (.call 23 (.cons V0 (.cons V2 .nil))))
 .skip) .skip)
 .skip)
noncomputable def kL:Sx:=(.seq (.set 2 (.new (.lst (.cons (.tup (.cons (.str "in") (.cons (.call 16 (.cons V0 .nil)) .nil))) .nil))))
 (.seq (.loop (.one 3) uG uF)
 (.seq (.set 4 (.fz (.lst (.cons (.bin .Sub (.blt .len (.cons V2 .nil)) J1) (.cons (.call 14 (.cons V0 (.cons (.blt .len (.cons V2 .nil)) .nil))) .nil)))))
 (.seq (.set 5 (.new (.lst (.cons (.ix V4 (.blt .int (.cons (.cmp .Eq (.call 14 (.cons V0 (.cons J4 .nil))) J1) .nil))) .nil))))
 (.seq (.loop (.one 3) yT yU)
 (.seq (.ret (.tup (.cons (.blt .tup (.cons V2 .nil)) (.cons (.blt .tup (.cons V5 .nil)) .nil))))
 .skip))))))
noncomputable def aHL:Sx:=(.seq (.ifs (.cmp .In V0 (.tup (.cons (.str "in") (.cons (.str "num") .nil)))) (.seq (.ret J0)
 .skip) .skip)
 (.seq (.ifs (.cmp .In V0 (.tup (.cons (.str "and") (.cons (.str "or") (.cons (.str "xor") (.cons (.str "add") (.cons (.str "sub") (.cons (.str "mul") (.cons (.str "same") (.cons (.str "less") (.cons (.str "under") .nil))))))))))) (.seq (.ret J2)
 .skip) .skip)
 (.seq (.ret (.bin .Add J1 (.bin .Mult J2 (.blt .int (.cons (.cmp .Eq V0 (.str "pick")) .nil)))))
 .skip)))
noncomputable def aCk:E:=(.comp V3 (.one 3) (.it V1) (.cmp .NotEq V3 (.ix V0 J1)))
noncomputable def aHb:Sx:=(.seq (.set 2 (.ix V0 J0))
 (.seq (.ifs (.cmp .In V2 (.tup (.cons (.str "same") (.cons (.str "less") (.cons (.str "under") .nil))))) (.seq (.ret (.and (.cmp .Eq (.ix V0 J1) J1) (.cmp .Eq (.ix V1 J0) (.ix V1 J1))))
 .skip) .skip)
 (.seq (.ifs (.cmp .Eq V2 (.str "cut")) (.seq (.ret (.cmp .GtE (.ix V1 J0) (.ix V0 J1)))
 .skip) .skip)
 (.seq (.ifs (.cmp .In V2 (.tup (.cons (.str "wide") (.cons (.str "sign") .nil)))) (.seq (.ret (.cmp .LtE (.ix V1 J0) (.ix V0 J1)))
 .skip) .skip)
 (.seq (.ifs (.cmp .Eq V2 (.str "pick")) (.seq (.ret (.and (.cmp .Eq (.ix V1 J0) J1) (.and (.cmp .Eq (.ix V1 J1) (.ix V0 J1)) (.cmp .Eq (.ix V1 J2) (.ix V0 J1)))))
 .skip) .skip)
 (.seq (.ret (.cmp .Eq (.fz aCk) (.fz (.lst .nil))))
 .skip))))))
noncomputable def yV:E:=(.comp (.ix (.ix V0 V4) J1) (.one 4) (.it V3) .no)
noncomputable def yY:E:=(.comp V4 (.one 4) (.it V3) (.cmp .GtE V4 V1))
noncomputable def aHc:Sx:=(.seq (.set 2 (.ix V0 V1))
 (.seq (.set 3 (.sl V2 (.cons J2 .nil) (.cons (.bin .Add J2 (.call 25 (.cons (.ix V2 J0) .nil))) .nil)))
 (.seq (.ifs (.or (.cmp .Lt (.ix V2 J1) J1) (.cmp .Gt (.ix V2 J1) (.int 64))) (.seq (.ret (.tup (.cons (.str "width") (.cons V1 .nil))))
 .skip) .skip)
 (.seq (.ifs (.cmp .NotEq (.fz yY) (.fz (.lst .nil))) (.seq (.ret (.tup (.cons (.str "row") (.cons V1 .nil))))
 .skip) .skip)
 (.seq (.ifs (.not (.call 26 (.cons V2 (.cons (.fz yV) .nil)))) (.seq (.ret (.tup (.cons (.str "fit") (.cons V1 .nil))))
 .skip) .skip)
 (.seq (.ifs (.or (.and (.cmp .Eq (.ix V2 J0) (.str "num")) (.cmp .GtE (.ix V2 J2) (.bin .LShift J1 (.ix V2 J1)))) (.and (.cmp .In (.ix V2 J0) (.tup (.cons (.str "left") (.cons (.str "right") (.cons (.str "slide") .nil))))) (.cmp .Gt (.ix V2 J3) (.int 63)))) (.seq (.ret (.tup (.cons (.str "number") (.cons V1 .nil))))
 .skip) .skip)
 (.seq (.ret (.tup (.cons (.str "good") (.cons (.bl true) .nil))))
 .skip)))))))
noncomputable def zD:E:=(.comp V4 (.one 4) (.it V1) (.cmp .GtE V4 (.blt .len (.cons V0 .nil))))
noncomputable def mJ:E:=(.rng1 (.blt .len (.cons V0 .nil)))
noncomputable def jO:Sx:=(.seq (.set 3 (.call 27 (.cons V0 (.cons V2 .nil))))
 (.seq (.ifs (.cmp .NotEq (.ix V3 J0) (.str "good")) (.seq (.ret V3)
 .skip) .skip)
 .skip))
noncomputable def aCX:Sx:=(.seq (.loop (.one 2) mJ jO)
 (.seq (.ifs (.cmp .NotEq (.fz zD) (.fz (.lst .nil))) (.seq (.ret (.tup (.cons (.str "row") (.cons (.blt .len (.cons V0 .nil)) .nil))))
 .skip) .skip)
 (.seq (.ret (.tup (.cons (.str "good") (.cons (.bl true) .nil))))
 .skip)))
noncomputable def aCH:Sx:=(.seq (.set 4 (.bin .Sub (.bin .Pow (.int 10) (.int 20)) J1))
 (.seq (.set 5 (.fz (.lst (.cons J0 (.cons (.int 65) (.cons (.int 64) (.cons (.int 63) (.cons V2 (.cons (.bin .Add V2 J1) (.cons (.blt .mn (.cons V4 (.cons (.bin .Add V1 J1) .nil))) (.cons (.blt .mx (.cons J0 (.cons (.bin .Sub V1 J1) .nil))) (.cons (.bin .LShift J1 V3) (.cons (.call 14 (.cons V0 (.cons (.int 70) .nil))) .nil)))))))))))))
 (.seq (.ret (.ix (.bin .Add V5 (.fz (.lst (.cons (.ix (.fz (.lst (.cons J7 (.cons V4 .nil)))) (.blt .int (.cons (.cmp .Gt V3 (.int 39)) .nil))) .nil)))) (.call 14 (.cons V0 (.cons (.int 11) .nil)))))
 .skip)))
noncomputable def zC:Sx:=(.seq (.set 3 (.ix V1 V2))
 (.seq (.ifs (.cmp .Eq (.call 14 (.cons V0 (.cons J5 .nil))) J1) (.seq (.set 7 (.fz (.lst (.cons (.str "and") (.cons (.str "or") (.cons (.str "mul") (.cons (.str "same") (.cons (.str "less") (.cons (.str "under") (.cons (.str "left") (.cons (.str "slide") .nil)))))))))))
 (.seq (.ifs (.cmp .Lt (.blt .len (.cons V3 .nil)) J4) (.seq (.set 7 (.fz (.lst (.cons (.str "num") (.cons (.str "not") (.cons (.str "cut") (.cons (.str "wide") (.cons (.str "sign") .nil))))))))
 .skip) .skip)
 (.seq (.ifs (.cmp .Eq (.blt .len (.cons V3 .nil)) J4) (.seq (.ret (.bin .Add (.bin .Add (.sl V1 .no (.cons V2 .nil)) (.fz (.lst (.cons (.bin .Add (.tup (.cons (.ix V7 (.call 14 (.cons V0 (.cons J8 .nil)))) .nil)) (.sl V3 (.cons J1 .nil) .no)) .nil)))) (.sl V1 (.cons (.bin .Add V2 J1) .nil) .no)))
 .skip) .skip)
 (.seq (.ifs (.cmp .Eq (.blt .len (.cons V3 .nil)) J3) (.seq (.ret (.bin .Add (.bin .Add (.sl V1 .no (.cons V2 .nil)) (.fz (.lst (.cons (.bin .Add (.tup (.cons (.ix V7 (.call 14 (.cons V0 (.cons J5 .nil)))) .nil)) (.sl V3 (.cons J1 .nil) .no)) .nil)))) (.sl V1 (.cons (.bin .Add V2 J1) .nil) .no)))
 .skip) .skip)
 .skip)))) .skip)
 (.seq (.set 4 (.bin .Add J1 (.call 14 (.cons V0 (.cons (.bin .Sub (.blt .len (.cons V3 .nil)) J1) .nil)))))
 (.seq (.set 5 (.blt .mn (.cons (.ix V3 J1) (.cons (.ix (.fz (.lst (.cons (.int 39) (.cons (.int 64) .nil)))) (.blt .int (.cons (.cmp .Eq (.blt .len (.cons V3 .nil)) J3) .nil))) .nil))))
 (.seq (.set 6 (.call 29 (.cons V0 (.cons (.ix V3 V4) (.cons V2 (.cons V5 .nil))))))
 (.seq (.ret (.bin .Add (.bin .Add (.sl V1 .no (.cons V2 .nil)) (.fz (.lst (.cons (.bin .Add (.bin .Add (.sl V3 .no (.cons V4 .nil)) (.tup (.cons V6 .nil))) (.sl V3 (.cons (.bin .Add V4 J1) .nil) .no)) .nil)))) (.sl V1 (.cons (.bin .Add V2 J1) .nil) .no)))
 .skip))))))
noncomputable def uI:E:=(.it (.sl V2 (.cons J1 .nil) .no))
noncomputable def uH:Sx:=(.seq (.expr (.app V3 (.st1 V4)))
 .skip)
noncomputable def uJ:E:=(.it (.bin .Add (.ix V0 J0) (.tup (.cons (.bin .Add (.tup (.cons (.str "out") .nil)) (.ix V0 J1)) .nil))))
noncomputable def oE:Sx:=(.seq (.set 3 (.new (.lst (.cons (.ix V2 J0) .nil))))
 (.seq (.loop (.one 4) uI uH)
 (.seq (.expr (.app V1 (.jn (.str " ") V3)))
 .skip)))
noncomputable def zO:Sx:=(.seq (.set 1 (.new (.lst .nil)))
 (.seq (.loop (.one 2) uJ oE)
 (.seq (.ret (.jn (.str "\n") V1))
 .skip)))
noncomputable def aCo:E:=(.comp (.call 32 (.cons V2 (.cons V3 .nil))) (.many [2,3]) (.zip V0 V1) .no)
noncomputable def aHB:Sx:=(.seq (.ifs (.isi V1 .tup) (.seq (.ifs (.or (.not (.isi V0 .tup)) (.cmp .NotEq (.blt .len (.cons V0 .nil)) (.blt .len (.cons V1 .nil)))) (.seq (.ret (.bl false))
 .skip) .skip)
 (.seq (.ret (.blt .all (.cons (.fz aCo) .nil)))
 .skip)) .skip)
 (.seq (.ifs (.isi V1 .str) (.seq (.ret (.and (.isi V0 .str) (.cmp .Eq V0 V1)))
 .skip) .skip)
 (.seq (.ret (.and (.isi V0 .int) (.and (.not (.isi V0 .bool)) (.cmp .Eq V0 V1))))
 .skip)))
noncomputable def aHa:Sx:=(.seq (.set 1 (.call 13 (.cons V0 .nil)))
 (.seq (.ret (.and (.isi V1 .str) (.cmp .Eq V1 (.call 31 (.cons V0 .nil)))))
 .skip))
noncomputable def yZ:E:=(.comp (.ix V5 J1) (.one 5) (.it (.call 4 (.cons V2 (.cons V0 .nil)))) .no)
noncomputable def zA:E:=(.comp (.cmp .GtE V4 V1) (.one 4) (.it (.call 3 (.cons V2 .nil))) .no)
noncomputable def aCu:Xx:=(.seq (.s (.set 2 (.ix (.var 0) (.var 1))))
 (.seq (.ifs (.or (.cmp .Lt (.ix (.var 2) (.int 1)) (.int 1)) (.cmp .Gt (.ix (.var 2) (.int 1)) (.int 64))) (.seq (.raise1 "NoWidth" (.var 1))
 .skip) .skip)
 (.seq (.ifs (.blt .any (.cons (.fz zA) .nil)) (.seq (.raise1 "NoRow" (.var 1))
 .skip) .skip)
 (.seq (.s (.set 3 (.blt .tup (.cons (.fz yZ) .nil))))
 (.seq (.ifs (.not (.call 5 (.cons (.var 2) (.cons (.var 3) .nil)))) (.seq (.raise1 "NoFit" (.var 1))
 .skip) .skip)
 (.seq (.ifs (.not (.call 6 (.cons (.var 2) .nil))) (.seq (.raise1 "NoNumber" (.var 1))
 .skip) .skip)
 .skip))))))
noncomputable def aAA:E:=(.comp (.cmp .GtE V4 (.blt .len (.cons V2 .nil))) (.one 4) (.it V3) .no)
noncomputable def qR:E:=(.rng1 (.blt .len (.cons V2 .nil)))
noncomputable def lN:Xx:=(.seq (.cal 34 (.cons (.var 2) (.cons (.var 1) .nil)))
 .skip)
noncomputable def aFH:Xx:=(.seq (.s (.setT (.many [2,3]) (.var 0)))
 (.seq (.loop (.one 1) qR lN)
 (.seq (.ifs (.blt .any (.cons (.fz aAA) .nil)) (.seq (.raise1 "NoRow" (.blt .len (.cons (.var 2) .nil)))
 .skip) .skip)
 (.seq (.s (.ret (.bl true)))
 .skip))))
noncomputable def uL:E:=(.enm V0)
noncomputable def qL:Xx:=(.seq (.s (.set 4 (.call 10 (.cons (.var 3) .nil))))
 (.seq (.ifs (.cmp .Is (.var 4) .non) (.seq (.raise1 "NoLine" (.var 2))
 .skip) .skip)
 (.seq (.s (.expr (.app (.var 1) (.var 4))))
 .skip)))
noncomputable def uY:Xx:=(.seq (.s (.set 1 (.new (.lst .nil))))
 (.seq (.loop (.many [2,3]) uL qL)
 (.seq (.s (.ret (.blt .tup (.cons (.var 1) .nil))))
 .skip)))
noncomputable def aBA:Xx:=(.seq (.ifs (.not (.isi (.var 0) .str)) (.seq (.raise1 "NoLine" (.int 0))
 .skip) .skip)
 (.seq (.s (.set 1 (.fz (.spl (.var 0) (.str "\n")))))
 (.seq (.s (.set 2 (.bin .Sub (.blt .len (.cons (.var 1) .nil)) (.int 1))))
 (.seq (.set 3 36 (.cons (.sl (.var 1) .no (.cons (.var 2) .nil)) .nil))
 (.seq (.s (.set 4 (.call 11 (.cons (.ix (.var 1) (.var 2)) .nil))))
 (.seq (.ifs (.cmp .Is (.var 4) .non) (.seq (.raise1 "NoLine" (.var 2))
 .skip) .skip)
 (.seq (.s (.set 5 (.tup (.cons (.var 3) (.cons (.var 4) .nil)))))
 (.seq (.cal 35 (.cons (.var 5) .nil))
 (.seq (.s (.ret (.var 5)))
 .skip)))))))))
noncomputable def aCL:Xx:=(.seq (.s (.set 1 (.tup (.cons (.str "none") (.cons (.int 0) .nil)))))
 (.seq (.tri (.seq (.pair 1 "good" 37 (.cons (.var 0) .nil))
 .skip) [("NoWidth",qq 2,[.tup 1 [.str "width",.row 2]]),("NoRow",qq 2,[.tup 1 [.str "row",.row 2]]),("NoFit",qq 2,[.tup 1 [.str "fit",.row 2]]),("NoNumber",qq 2,[.tup 1 [.str "number",.row 2]])])
 (.seq (.s (.ret (.var 1)))
 .skip)))
noncomputable def vK:E:=(.rng1 V2)
noncomputable def aAF:Sx:=(.seq (.set 4 (.call 30 (.cons V1 (.cons V4 (.cons V5 .nil)))))
 (.seq (.ifs (.cmp .Eq (.call 14 (.cons V1 (.cons J3 .nil))) J1) (.seq (.set 5 (.call 14 (.cons V1 (.cons (.blt .len (.cons V4 .nil)) .nil))))
 .skip) .skip)
 .skip))
noncomputable def tG:Sx:=(.seq (.set 1 (.new (.lst (.cons V0 (.cons J0 (.cons J0 .nil))))))
 (.seq (.set 2 (.bin .Add J1 (.call 14 (.cons V1 (.cons J3 .nil)))))
 (.seq (.set 3 (.call 24 (.cons V1 (.cons (.bin .Add J1 (.blt .mn (.cons (.blt .len (.cons V0 .nil)) (.cons (.int 24) .nil)))) .nil))))
 (.seq (.set 4 (.fz (.lof (.ix V3 J0))))
 (.seq (.set 5 (.call 14 (.cons V1 (.cons (.blt .len (.cons V4 .nil)) .nil))))
 (.seq (.loop (.one 6) vK aAF)
 (.seq (.set 7 (.tup (.cons (.blt .tup (.cons V4 .nil)) (.cons (.ix V3 J1) .nil))))
 (.seq (.set 8 (.call 28 (.cons V4 (.cons (.ix V3 J1) .nil))))
 (.seq (.ifs (.cmp .Eq (.ix V8 J0) (.str "good")) (.seq (.set 8 (.tup (.cons (.str "good") (.cons V7 .nil))))
 .skip) .skip)
 (.seq (.ifs (.or (.not (.call 33 (.cons V3 .nil))) (.or (.not (.call 33 (.cons V7 .nil))) (.cmp .NotEq (.call 13 (.cons (.tup (.cons (.tup .nil) (.cons (.tup (.cons J0 .nil)) .nil))) .nil)) (.str "out 0")))) (.seq (.ret (.bl false))
 .skip) .skip)
 (.seq (.ifs (.not (.call 32 (.cons (.call 38 (.cons (.call 31 (.cons V3 .nil)) .nil)) (.cons (.tup (.cons (.str "good") (.cons V3 .nil))) .nil)))) (.seq (.ret (.bl false))
 .skip) .skip)
 (.seq (.ret (.and (.call 32 (.cons (.call 38 (.cons (.call 31 (.cons V7 .nil)) .nil)) (.cons V8 .nil))) (.cmp .Eq (.call 37 (.cons (.call 13 (.cons V3 .nil)) .nil)) V3)))
 .skip))))))))))))
noncomputable def fns:List Fn:=[
 {name:="full",np:=1,N:=["width"],body:=aFF,st:=top 8 },
 {name:="is_word",np:=1,N:=["word"],body:=aI4,st:=top 14 },
 {name:="number_count",np:=1,N:=["word", "further"],body:=aCt,st:=top 15 },
 {name:="operands",np:=1,N:=["row"],body:=aH5,st:=top 16 },
 {name:="of_operands",np:=2,N:=["row", "values", "k"],body:=aHn,st:=top 17 },
 {name:="widths_fit",np:=2,N:=["row", "widths", "word", "width", "each"],body:=aHv,st:=top 19 },
 {name:="number_fits",np:=1,N:=["row"],body:=aHf,st:=top 20 },
 {name:="is_number",np:=1,N:=["part", "sign"],body:=aHW,st:=top 25 },
 {name:="are_numbers",np:=1,N:=["parts", "part"],body:=aHe,st:=top 26 },
 {name:="numbers_in",np:=1,N:=["parts", "part"],body:=aHw,st:=top 27 },
 {name:="row_in",np:=1,N:=["line", "parts", "word"],body:=aKj,st:=top 28 },
 {name:="outs_in",np:=1,N:=["line", "parts"],body:=aJF,st:=top 29 },
 {name:="line_of",np:=1,N:=["parts", "part"],body:=aIX,st:=top 33 },
 {name:="write",np:=1,N:=["program", "lines", "rows", "outs", "row"],body:=aAY,st:=top 34 },
 {name:="_law_draw",np:=2,N:=["_law_state", "_law_many_here", "_law_cell", "_law_script", "_law_k", "_law_digit"],body:=gR,st:=top 36 },
 {name:="_law_number",np:=2,N:=["_law_state", "_law_width_here"],body:=zE,st:=top 37 },
 {name:="_law_width",np:=1,N:=["_law_state"],body:=aCG,st:=top 38 },
 {name:="_law_num",np:=2,N:=["_law_state", "_law_width_here", "_law_sort", "_law_some"],body:=zV,st:=top 39 },
 {name:="_law_fit",np:=4,N:=["_law_state", "_law_rows", "_law_a", "_law_width_here", "_law_word"],body:=qQ,st:=top 40 },
 {name:="_law_operand",np:=3,N:=["_law_state", "_law_rows", "_law_width_here", "_law_some", "_law_k"],body:=qJ,st:=top 41 },
 {name:="_law_turned_width",np:=3,N:=["_law_state", "_law_rows", "_law_word", "_law_a", "_law_width_here"],body:=yS,st:=top 42 },
 {name:="_law_shift",np:=4,N:=["_law_state", "_law_rows", "_law_word", "_law_width_here", "_law_k"],body:=zL,st:=top 43 },
 {name:="_law_pair",np:=4,N:=["_law_state", "_law_rows", "_law_word", "_law_width_here", "_law_a", "_law_b"],body:=zT,st:=top 44 },
 {name:="_law_row",np:=2,N:=["_law_state", "_law_rows", "_law_some", "_law_word", "_law_width_here", "_law_row_here", "_law_c"],body:=iZ,st:=top 45 },
 {name:="_law_program",np:=2,N:=["_law_state", "_law_most", "_law_rows", "_law_k", "_law_last", "_law_outs"],body:=kL,st:=top 46 },
 {name:="_law_many",np:=1,N:=["_law_word"],body:=aHL,st:=top 47 },
 {name:="_law_fitting",np:=2,N:=["_law_row_here", "_law_widths", "_law_word", "_law_width_here"],body:=aHb,st:=top 48 },
 {name:="_law_row_due",np:=2,N:=["_law_rows", "_law_k", "_law_row_here", "_law_some", "_law_a"],body:=aHc,st:=top 49 },
 {name:="_law_due",np:=2,N:=["_law_rows", "_law_outs", "_law_k", "_law_due_here", "_law_out"],body:=aCX,st:=top 50 },
 {name:="_law_other",np:=4,N:=["_law_state", "_law_old", "_law_r", "_law_most", "_law_nines", "_law_some"],body:=aCH,st:=top 51 },
 {name:="_law_spoiled",np:=3,N:=["_law_state", "_law_rows", "_law_r", "_law_row_here", "_law_at", "_law_most", "_law_other_here", "_law_some"],body:=zC,st:=top 52 },
 {name:="_law_text",np:=1,N:=["_law_program_here", "_law_lines", "_law_row_here", "_law_words", "_law_number_here"],body:=zO,st:=top 53 },
 {name:="_law_kinds",np:=2,N:=["_law_found", "_law_due_here", "_law_one", "_law_other_here"],body:=aHB,st:=top 55 },
 {name:="_law_written",np:=1,N:=["_law_program_here", "_law_found"],body:=aHa,st:=top 56 }]
noncomputable def gns:List FnX:=[
 {name:="look_at_row",np:=2,N:=["rows", "k", "row", "widths", "operand", "ahead"],body:=.inr aCu,st:=top 21 },
 {name:="look",np:=1,N:=["program", "k", "rows", "outs", "out"],body:=.inr aFH,st:=top 22 },
 {name:="rows_in",np:=1,N:=["lines", "rows", "k", "line", "row"],body:=.inr uY,st:=top 30 },
 {name:="read",np:=1,N:=["text", "lines", "last", "rows", "outs", "program"],body:=.inr aBA,st:=top 31 },
 {name:="_law_told",np:=1,N:=["_law_text_here", "_law_said", "e"],body:=.inr aCL,st:=top 54 },
 {name:="law",np:=1,N:=["_law_script", "_law_state", "_law_many_here", "_law_good", "_law_rows", "_law_r", "_law_k", "_law_other_here", "_law_due_here"],body:=.inl tG,st:=top 57 }]
noncomputable def xz:Xz:=⟨["NoWidth", "NoRow", "NoFit", "NoNumber"],[],[],[("NoNumber", "NoNumber.__init__",rE (top 6) 0),("NoFit", "NoFit.__init__",rE (top 5) 0),("NoRow", "NoRow.__init__",rE (top 4) 0),("NoWidth", "NoWidth.__init__",rE (top 3) 0),("NoLine", "NoLine.__init__",rE (top 2) 0)]⟩
noncomputable def xl:List (Str×Str×Bool):=("NoNumber", "NoWidth",false)::("NoNumber", "NoRow",false)::("NoNumber", "NoFit",false)::("NoNumber", "NoNumber",true)::("NoFit", "NoWidth",false)::("NoFit", "NoRow",false)::("NoFit", "NoFit",true)::("NoFit", "NoNumber",false)::("NoRow", "NoWidth",false)::("NoRow", "NoRow",true)::("NoRow", "NoFit",false)::("NoRow", "NoNumber",false)::("NoWidth", "NoWidth",true)::("NoWidth", "NoRow",false)::("NoWidth", "NoFit",false)::("NoWidth", "NoNumber",false)::("NoLine", "NoWidth",false)::("NoLine", "NoRow",false)::("NoLine", "NoFit",false)::("NoLine", "NoNumber",false)::[]
noncomputable def cN(ns:List Int)(k:Nat)(x:Int):List D:=[.list (ns.map yAl),.int k,.int x]
theorem aJ8{α:Type}{S:List α}{n:Nat}{a v:α}(h:S[n]? = qq a):(S.set n v)[n]? = qq v:=yAn (gIm h).1
theorem zZ{α:Type}(S:List α)(n:Nat)(v:α):(S.set n v).take S.length=S.set n v:=by
 rw[yBm];rw[yAq];exact yAc _
theorem aFe(a b c:D):bC (.list [a,b,c]) (.int 0)=qq a:=rfl
theorem aE5(a b c:D):bC (.list [a,b,c]) (.int 2)=qq c:=rfl
theorem aPJ(a b c:D):dJ [a,b,c] qz (qq 2)=[a,b]:=rfl
theorem oR{ns:List Int}{k:Nat}(h:k<ns.length):bC (.list (ns.map yAl)) (.int k)=qq (.int ns[k]):=kR (by rw[xAb,yAd h];rfl)
theorem rA(i:Int){w:Nat}(hw:0<w):∃ r:Nat,i%(w:Int)=(r:Int)/\r<w:=by
 have h0:=Int.emod_nonneg i (show(w:Int)≠0 by omega)
 have h1:=Int.emod_lt_of_pos i (show(0:Int)<(w:Int) by omega)
 exact⟨(i%(w:Int)).toNat,by omega,by omega⟩
theorem aOn:iV 3 1=qq 1:=rfl
theorem aFm:iV 3 2=qq 2:=rfl
theorem mK(ns:List Int):(ns.map yAl).length=ns.length:=yAg ..
noncomputable def oH:Sx:=match gR with
 | .seq _ (.seq _ (.seq _ r))=>r
 | _=>.skip
theorem oG(i p:Int)(hp:0<p)(hp2:p<=2147483647) : -(2^64)<i%p/\i%p<2^64:=by
 have h0:=Int.emod_nonneg i (show p≠0 by omega)
 have h1:=Int.emod_lt_of_pos i hp;exact⟨by omega,by omega⟩
theorem aIu(C:Calls)(n k m:Nat)(ns:List Int)(x:Int)(S:aC)(e2 e5:Option W)(hS:S[n]? = qq (qq (cN ns (k+1) x)))(hm:0<m)(hk:k<=100000) :
 ∃ r:Nat,r<m/\xs C oH [qq (.loc n),qq (.d (.int m)),e2,qq (.d (.list (ns.map yAl))),qq (.d (.int k)),e5] S=qq (.rt (.d (.int r)),S):=by
 unfold cN at hS;have hm':(0:Int)<(m:Int):=by omega
 by_cases c1:k<ns.length
 ·have d1:decide ((k:Int)<((ns.length:Nat):Int))=true:=dqT (by omega)
  obtain⟨r,er,hr⟩:=rA ns[k] hm;refine⟨r,hr,?_⟩;simp only[evs,oH,gR,cI,cM,mK,dH,d1,oR c1,eU hm',er]
 ·have d1:decide ((k:Int)<((ns.length:Nat):Int))=false:=dqF (by omega)
  have bB:∀ c:Int,∃ r:Nat,r<m/\c%2147483629*((k:Int)+3)%2147483629*(c%2147483629*((k:Int)+3)%2147483629)%2147483587*(c%2147483629*((k:Int)+3)%2147483629*(c%2147483629*((k:Int)+3)%2147483629)%2147483587)%1999999973%(m:Int)=(r:Int):=λ c=>by
   obtain⟨r,er,hr⟩:=rA (c%2147483629*((k:Int)+3)%2147483629*(c%2147483629*((k:Int)+3)%2147483629)%2147483587*(c%2147483629*((k:Int)+3)%2147483629*(c%2147483629*((k:Int)+3)%2147483629)%2147483587)%1999999973) hm;exact⟨r,hr,er⟩
  by_cases c2:0<ns.length
  ·have d2:decide ((0:Int)<((ns.length:Nat):Int))=true:=dqT (by omega)
   obtain⟨q,eq,hq⟩:=rA ((k:Int)*7) c2;obtain⟨r,hr,er⟩:=bB ((k:Int)*7919+5+ns[q]*(48271+(k:Int)));refine⟨r,hr,?_⟩;have s1:=oG ((k:Int)*7919+5+ns[q]*(48271+(k:Int))) 2147483629 (by decide) (by decide)
   have s2:=oG (((k:Int)*7919+5+ns[q]*(48271+(k:Int)))%2147483629*((k:Int)+3)) 2147483629 (by decide) (by decide)
   have s3:=oG (((k:Int)*7919+5+ns[q]*(48271+(k:Int)))%2147483629*((k:Int)+3)%2147483629*(((k:Int)*7919+5+ns[q]*(48271+(k:Int)))%2147483629*((k:Int)+3)%2147483629)) 2147483587 (by decide) (by decide)
   simp only[evs,oH,gR,cI,cM,mK,dH,d1,oQ (i:=(k:Int)) (j:=7919) (by decide) (by decide),cU,hS,aFe,iK,d2,oQ (i:=(k:Int)) (j:=7) (by decide) (by decide),eU (i:=(k:Int)*7) (j:=((ns.length:Nat):Int)) (by omega),eq,oR hq,
    oQ (i:=ns[q]) (j:=48271+(k:Int)) (by omega) (by omega),eU (j:=2147483629) (by decide),oN s1.1 s1.2,oN s2.1 s2.2,eU (j:=2147483587) (by decide),oN s3.1 s3.2,eU (j:=1999999973) (by decide),eU hm',er]
  ·have d2:decide ((0:Int)<((ns.length:Nat):Int))=false:=dqF (by omega)
   obtain⟨r,hr,er⟩:=bB ((k:Int)*7919+5);refine⟨r,hr,?_⟩;have s1:=oG ((k:Int)*7919+5) 2147483629 (by decide) (by decide)
   have s2:=oG (((k:Int)*7919+5)%2147483629*((k:Int)+3)) 2147483629 (by decide) (by decide)
   have s3:=oG (((k:Int)*7919+5)%2147483629*((k:Int)+3)%2147483629*(((k:Int)*7919+5)%2147483629*((k:Int)+3)%2147483629)) 2147483587 (by decide) (by decide)
   simp only[evs,oH,gR,cI,cM,mK,dH,d1,oQ (i:=(k:Int)) (j:=7919) (by decide) (by decide),cU,hS,aFe,iK,d2,eU (j:=2147483629) (by decide),oN s1.1 s1.2,oN s2.1 s2.2,eU (j:=2147483587) (by decide),oN s3.1 s3.2,eU (j:=1999999973) (by decide),eU hm',er]
noncomputable def mR:Sx:=match gR with
 | .seq _ (.seq _ (.seq i _))=>i
 | _=>.skip
noncomputable def aAL:Sx:=match gR with
 | .seq _ (.seq p _)=>p
 | _=>.skip
noncomputable def vG:Sx:=match gR with
 | .seq p _=>p
 | _=>.skip
theorem aKe(d n k m:Nat)(ns:List Int)(x:Int)(S:aC)(hS:S[n]? = qq (qq (cN ns k x)))(hm:0<m)(hm2:m<2^64)(hk:k<=100000) :
 ∃ (r:Nat) (x':Int),r<m/\cl fns (d+1) 14 [.loc n,.d (.int m)] S=qq (.d (.int r),S.set n (qq (cN ns (k+1) x'))):=by
 have hm':(0:Int)<(m:Int):=by omega
 have hm2':(m:Int)<2^64:=by exact_mod_cast hm2
 have e1:(k:Int)/12+1=((k/12+1:Nat):Int):=by omega
 have e2:(k:Int)+1=((k+1:Nat):Int):=by omega
 have gs:=λ v=>aJ8 (v:=v) hS
 have start:(cY (xs (aD fns d) vG) (xs (aD fns d) aAL)) [qq (.loc n),qq (.d (.int m)),qz,qz,qz,qz] S=qq (.nx [qq (.loc n),qq (.d (.int m)),qz,qq (.d (.list (ns.map yAl))),qq (.d (.int k)),qz],S.set n (qq (cN ns (k+1) x))):=by
  unfold cN at hS ⊢;simp only[evs,vG,aAL,gR,fO,eD,gM,hS,aPJ,nP,pN,aOn,cU,e2]
 have dZ:∀ (R:Option (Fl×aC)),cY (xs (aD fns d) mR) (xs (aD fns d) oH) [qq (.loc n),qq (.d (.int m)),qz,qq (.d (.list (ns.map yAl))),qq (.d (.int k)),qz] (S.set n (qq (cN ns (k+1) x)))=R ->
  cl fns (d+1) 14 [.loc n,.d (.int m)] S=R.bind λ p=>match p.1 with
   | .rt w=>kF S.length p.2 w
   | .nx _=>qq (.d .none,p.2.take S.length)
   | _=>qz:=λ R hR=>by
  rw[cP rfl d _ S rfl,<- hR];simp only[cY] at start ⊢;cases q:xs (aD fns d) vG [qq (.loc n),qq (.d (.int m)),qz,qz,qz,qz] S with
  | none=>rw[q] at start;cases start
  | some z =>
    obtain⟨fl,S1⟩:=z;rw[q] at start;simp only[oB] at start;cases fl with
    | nx e =>
      simp only at start;show((cY (xs (aD fns d) vG) (cY (xs (aD fns d) aAL) (cY (xs (aD fns d) mR) (xs (aD fns d) oH)))) [qq (.loc n),qq (.d (.int m)),qz,qz,qz,qz] S).bind _=_;simp only[cY,q,oB,start]
      all_goals rfl
    | rt w=>cases start
    | bk e=>cases start
    | ct e=>cases start
 have hS2:(S.set n (qq (cN ns (k+1) x)))[n]? = qq (qq (cN ns (k+1) x)):=gs _;have skip:xs (aD fns d) mR [qq (.loc n),qq (.d (.int m)),qz,qq (.d (.list (ns.map yAl))),qq (.d (.int k)),qz] (S.set n (qq (cN ns (k+1) x)))=qq (.nx [qq (.loc n),qq (.d (.int m)),qz,qq (.d (.list (ns.map yAl))),qq (.d (.int k)),qz],S.set n (qq (cN ns (k+1) x))) ->
  ∃ (r:Nat) (x':Int),r<m/\cl fns (d+1) 14 [.loc n,.d (.int m)] S=qq (.d (.int r),S.set n (qq (cN ns (k+1) x'))):=λ h=>by
  obtain⟨r,hr,ht⟩:=aIu (aD fns d) n k m ns x _ qz qz hS2 hm hk;refine⟨r,x,hr,?_⟩;rw[dZ _ rfl];simp only[cY,h,oB,ht,kF,zZ]
 by_cases c1:k/12+1<ns.length
 ·have d1:decide (((k/12+1:Nat):Int)<((ns.length:Nat):Int))=true:=dqT (by omega)
  have i0:bC (.list (ns.map yAl)) (.int 0)=qq (.int ns[0]):=oR (k:=0) (by omega)
  rcases yBp (ns[0]%2==1) with c2 | c2
  ·rcases yBp ((k:Int)%12==0) with c3 | c3
   ·obtain⟨r,er,hr⟩:=rA ns[k/12+1] hm;refine⟨r,ns[k/12+1]/(m:Int),hr,?_⟩;rw[dZ _ rfl];unfold cN at hS2 ⊢;simp only[evs,mR,gR,nP,pN,aFm,cU,lO (i:=(k:Int)) (j:=12) (by decide) (by decide),e1,cI,cM,mK,dH,d1,i0,eU (i:=ns[0]) (j:=2) (by decide),cE,c2,eU (i:=(k:Int)) (j:=12) (by decide),c3,hS2,gs,yFn,oR c1,aE5,eU hm',er,lO hm' hm2',zZ]
   ·obtain⟨r,er,hr⟩:=rA x hm;refine⟨r,x/(m:Int),hr,?_⟩;rw[dZ _ rfl];unfold cN at hS2 ⊢;simp only[evs,mR,gR,nP,pN,aFm,cU,lO (i:=(k:Int)) (j:=12) (by decide) (by decide),e1,cI,cM,mK,dH,d1,i0,eU (i:=ns[0]) (j:=2) (by decide),cE,c2,eU (i:=(k:Int)) (j:=12) (by decide),c3,hS2,gs,yFn,aE5,eU hm',er,lO hm' hm2',zZ]
  ·apply skip;simp only[evs,mR,gR,cU,lO (i:=(k:Int)) (j:=12) (by decide) (by decide),e1,cI,cM,mK,dH,d1,i0,eU (i:=ns[0]) (j:=2) (by decide),cE,c2]
 ·have d1:decide (((k/12+1:Nat):Int)<((ns.length:Nat):Int))=false:=dqF (by omega)
  apply skip;simp only[evs,mR,gR,cU,lO (i:=(k:Int)) (j:=12) (by decide) (by decide),e1,cI,cM,mK,dH,d1]
inductive Wd where
 | «in» | num | not | and | or | xor | add | sub | mul | left | right | slide | cut | wide | sign | same | less | under | pick
 deriving DecidableEq
noncomputable def Wd.s:Wd->Str
 | .in => "in" | .num => "num" | .not => "not" | .and => "and" | .or => "or" | .xor => "xor" | .add => "add" | .sub => "sub" | .mul => "mul" | .left => "left" | .right => "right" | .slide => "slide"
 | .cut => "cut" | .wide => "wide" | .sign => "sign" | .same => "same" | .less => "less" | .under => "under" | .pick => "pick"
structure Rw where
 wd:Wd
 w:Nat
 args:List Nat
noncomputable def nD(n:Nat):D:=.int n
noncomputable def Rw.d(r:Rw):D:=.tuple (.str r.wd.s::nD r.w::r.args.map nD)
def gZ(ws:List Nat)(r:Rw):Prop:=1<=r.w/\r.w<=64/\match r.wd,r.args with
 | .in,[]=>True
 | .num,[n]=>n<2^r.w
 | .not,[a]=>ws[a]? = qq r.w
 | .and,[a,b] | .or,[a,b] | .xor,[a,b] | .add,[a,b] | .sub,[a,b] | .mul,[a,b]=>ws[a]? = qq r.w/\ws[b]? = qq r.w
 | .left,[a,k] | .right,[a,k] | .slide,[a,k]=>ws[a]? = qq r.w/\k<64
 | .cut,[a]=>∃ v,ws[a]? = qq v/\r.w<=v
 | .wide,[a] | .sign,[a]=>∃ v,ws[a]? = qq v/\v<=r.w
 | .same,[a,b] | .less,[a,b] | .under,[a,b]=>r.w=1/\∃ v,ws[a]? = qq v/\ws[b]? = qq v
 | .pick,[c,a,b]=>ws[c]? = qq 1/\ws[a]? = qq r.w/\ws[b]? = qq r.w
 | _,_=>False
noncomputable def cW:List Nat->List Rw->Prop
 | _,[]=>True
 | ws,r::rs=>gZ ws r/\cW (ws++[r.w]) rs
theorem zM:∀ {rs:List Rw}{ws:List Nat}{r:Rw},cW ws rs->gZ (ws++rs.map (·.w)) r->cW ws (rs++[r])
 | [],ws,r,_,h=>⟨by simpa using h,True.intro⟩
 | q::rs,ws,r,⟨h1,h2⟩,h=>⟨h1,zM h2 (by simpa using h)⟩
noncomputable def aQ(S:aC)(n p:Nat)(ns:List Int)(k:Nat)(x:Int)(rs:List Rw):aC:=(S.set n (qq (cN ns k x))).set p (qq (rs.map Rw.d))
section
variable {S : aC}{n p : Nat}{ns : List Int}{k : Nat}{x : Int}{rs : List Rw}
structure At0(S:aC)(n p:Nat):Prop where
 hn:n<S.length
 ne:n≠p
structure At(S:aC)(n p:Nat):Prop extends At0 S n p where
 hp:p<S.length
theorem At0.state(h:At0 S n p):(aQ S n p ns k x rs)[n]? = qq (qq (cN ns k x)):=by
 unfold aQ;rw[yAm h.ne.symm,yAn h.hn]
theorem At.rows(h:At S n p):(aQ S n p ns k x rs)[p]? = qq (qq (rs.map Rw.d)):=by
 unfold aQ;rw[yAn (by rw[yAq];exact h.hp)]
theorem At.rowsT(h:At S n p)(T:aC):(aQ S n p ns k x rs++T)[p]? = qq (qq (rs.map Rw.d)):=by
 rw[xAj (by simp[aQ];exact h.hp)]
 exact h.rows
theorem At0.len(h:At0 S n p):(aQ S n p ns k x rs).length=S.length:=by simp[aQ]
theorem At0.take(h:At0 S n p)(k':Nat)(x':Int)(aN:List Rw):(aQ S n p ns k' x' aN).take (aQ S n p ns k x rs).length=aQ S n p ns k' x' aN:=by
 rw[h.len,yBm];rw[h.len];exact yAc _
theorem At0.put(h:At0 S n p)(k':Nat)(x':Int):(aQ S n p ns k x rs).set n (qq (cN ns k' x'))=aQ S n p ns k' x' rs:=by
 unfold aQ;rw[List.set_comm _ _ h.ne.symm,yFn]
theorem At.putR(h:At S n p)(r:Rw):(aQ S n p ns k x rs).set p (qq (rs.map Rw.d++[r.d]))=aQ S n p ns k x (rs++[r]):=by
 unfold aQ;rw[yFn,yAw];rfl
end
section
variable {S : aC}{n p : Nat}{ns : List Int}{k : Nat}{x : Int}{rs : List Rw}
theorem eV(h:At0 S n p)(d m:Nat)(hm:0<m)(hm2:m<2^64)(hk:k<=100000):∃ (r:Nat) (x':Int),r<m/\cl fns (d+1) 14 [.loc n,.d (.int m)] (aQ S n p ns k x rs)=qq (.d (.int r),aQ S n p ns (k+1) x' rs):=by
 obtain⟨r,x',hr,e⟩:=aKe d n k m ns x _ h.state hm hm2 hk;exact⟨r,x',hr,by rw[e,h.put]⟩
theorem gS(h:At0 S n p)(d m:Nat){i:Int}(hi:i=(m:Nat))(hm:0<m)(hm2:m<2^64)(hk:k<=100000):∃ (r:Nat) (x':Int),r<m/\cl fns (d+1) 14 [.loc n,.d (.int i)] (aQ S n p ns k x rs)=qq (.d (.int r),aQ S n p ns (k+1) x' rs):=by
 subst hi;exact eV h d m hm hm2 hk
theorem aDS{w:Nat}(h:w<64):2^w<2^64:=yEl (by decide) h
theorem aIO(h:At0 S n p)(d w:Nat)(hw:w<=64)(hk:k<=99000):∃ (r k':Nat) (x':Int),r<2^w/\k'<=k+2/\cl fns (d+2) 15 [.loc n,.d (.int w)] (aQ S n p ns k x rs)=qq (.d (.int r),aQ S n p ns k' x' rs):=by
 by_cases c:w<31
 ·have d1:decide ((w:Int)<31)=true:=dqT (by omega)
  obtain⟨r,x',hr,e⟩:=eV (ns:=ns) (k:=k) (x:=x) (rs:=rs) h d (2^w) (uT w) (aDS (by omega)) (by omega)
  refine⟨r,k+1,x',hr,by omega,?_⟩
  rw[cP rfl (d+1) _ _ rfl];simp only[evs,cK,zE,dH,d1,iH (show w<=100000 by omega),e,h.take]
 ·have d1:decide ((w:Int)<31)=false:=dqF (by omega)
  have e1:(w:Int)-30=((w-30:Nat):Int):=by omega
  have s30:=iH (w:=30) (by decide)
  rw[show((30:Nat):Int)=30 from rfl] at s30
  obtain⟨r,x',hr,e⟩:=eV (ns:=ns) (k:=k) (x:=x) (rs:=rs) h d (2^30) (by decide) (by decide) (by omega)
  obtain⟨q,x2,hq,e'⟩:=eV (ns:=ns) (k:=k+1) (x:=x') (rs:=rs) h d (2^(w-30)) (uT _) (aDS (by omega)) (by omega)
  have hb:r+q*2^30<2^w:=by
   have e3:(2:Nat)^w=2^(w-30)*2^30:=by rw[<- Nat.pow_add,show w-30+30=w by omega]
   have h3:(q+1)*2^30<=2^(w-30)*2^30:=Nat.mul_le_mul_right _ hq;rw[Nat.add_mul] at h3;omega
  have sh:cA .LShift (.int q) (.int 30)=qq (.int ((q*2^30:Nat):Int)):=aKT (n:=q) (a:=w-30) (k:=30) hq (by omega)
  have ad:(r:Int)+((q*2^30:Nat):Int)=((r+q*2^30:Nat):Int):=(Int.natCast_add _ _).symm;refine⟨r+q*2^30,k+2,x2,hb,by omega,?_⟩
  rw[cP rfl (d+1) _ _ rfl];simp only[evs,cK,zE,dH,d1,s30,e,gU,e1,iH (show w-30<=100000 by omega),e',sh,cU,ad,h.take]
end
theorem at4(a b c e:D){r:Nat}(h1:r<4):∃ x,(x=a\/x=b\/x=c\/x=e)/\bC (.list [a,b,c,e]) (.int r)=qq x:=by
 have:r=0\/r=1\/r=2\/r=3:=by omega
 rcases this with rfl | rfl | rfl | rfl
 ·exact⟨a,.inl rfl,rfl⟩
 ·exact⟨b,.inr (.inl rfl),rfl⟩
 ·exact⟨c,.inr (.inr (.inl rfl)),rfl⟩
 ·exact⟨e,.inr (.inr (.inr rfl)),rfl⟩
section
variable {S : aC}{n p : Nat}{ns : List Int}{k : Nat}{x : Int}{rs : List Rw}
theorem aDG(h:At0 S n p)(d:Nat)(hk:k<=99000):∃ (w:Nat) (x':Int),1<=w/\w<=64/\cl fns (d+2) 16 [.loc n] (aQ S n p ns k x rs)=qq (.d (.int w),aQ S n p ns (k+3) x' rs):=by
 obtain⟨r1,x1,h1,e1⟩:=gS (ns:=ns) (k:=k) (x:=x) (rs:=rs) h d 8 (i:=8) rfl (by decide) (by decide) (by omega)
 obtain⟨r2,x2,h2,e2⟩:=gS (ns:=ns) (k:=k+1) (x:=x1) (rs:=rs) h d 64 (i:=64) rfl (by decide) (by decide) (by omega)
 obtain⟨r3,x3,h3,e3⟩:=gS (ns:=ns) (k:=k+2) (x:=x2) (rs:=rs) h d 4 (i:=4) rfl (by decide) (by decide) (by omega)
 have a1:(1:Int)+(r1:Int)=((1+r1:Nat):Int):=by omega
 have a2:(1:Int)+(r2:Int)=((1+r2:Nat):Int):=by omega
 obtain⟨y,hy,e⟩:=at4 (.int 1) (.int 64) (.int ((1+r1:Nat):Int)) (.int ((1+r2:Nat):Int)) h3;obtain⟨w,qI,cC,rfl⟩:∃ w:Nat,1<=w/\w<=64/\y=.int w:=by
  rcases hy with rfl | rfl | rfl | rfl
  ·exact⟨1,by decide,by decide,rfl⟩
  ·exact⟨64,by decide,by decide,rfl⟩
  ·exact⟨_,by omega,by omega,rfl⟩
  ·exact⟨_,by omega,by omega,rfl⟩
 refine⟨w,x3,qI,cC,?_⟩;rw[cP rfl (d+1) _ _ rfl];simp only[evs,cK,aCG,e1,e2,e3,cU,a1,a2,e,h.take]
end
theorem aBm(a b:D):bC (.list [a,b]) (.int ((0:Nat):Int))=qq a:=rfl
theorem aBz(a b:D):bC (.list [a,b]) (.int ((1:Nat):Int))=qq b:=rfl
theorem aEf{t:Tg}{fb:FS}(P:Nat->aU->aC->Prop):∀ (ds:List D) (i:Nat) (env:aU) (S:aC),P i env S->(∀ j d env S,i<=j->j<i+ds.length->P j env S->∃ e1 aO S',t.put d env=qq e1/\fb e1 S=qq (.nx aO,S')/\P (j+1) aO S') ->
 ∃ aO S',iT t fb ds env S=qq (.nx aO,S')/\P (i+ds.length) aO S'
 | [],i,env,S,h0,_=>⟨env,S,rfl,h0⟩
 | d::ds,i,env,S,h0,h=>by
   obtain⟨e1,aO,S',h1,h2,h3⟩:=h i d env S (yAc _) (by simp) h0
   obtain⟨env2,S2,h4,h5⟩:=aEf P ds (i+1) aO S' h3 λ j d' env S a b=>h j d' env S (by omega) (by simp at b ⊢;omega)
   refine⟨env2,S2,by simp only[iT,h1,oB,h2];exact h4,?_⟩
   have:i+(d::ds).length=i+1+ds.length:=by simp;omega
   rw[this];exact h5
theorem aA3{t:Tg}{fi:FL}{fb:FS}{env:aU}{S S1:aC}{ds:List D}(P:Nat->aU->aC->Prop)(hi:fi env S=qq (ds,S1))(h0:P 0 env S1)(h:∀ j d env S,j<ds.length->P j env S->∃ e1 aO S',t.put d env=qq e1/\fb e1 S=qq (.nx aO,S')/\P (j+1) aO S') :
 ∃ aO S',jH t fi fb env S=qq (.nx aO,S')/\P ds.length aO S':=by
 obtain⟨aO,S',h1,h2⟩:=aEf (t:=t) (fb:=fb) P ds 0 env S1 h0 λ j d env S _ b=>h j d env S (by omega)
 exact⟨aO,S',by unfold jH;rw[hi,oB];exact h1,by simpa using h2⟩
theorem yG(b:Bool):∃ q:Nat,q<2/\(if b then (1:Int) else 0)=(q:Int):=by
 cases b
 ·exact⟨0,by decide,rfl⟩
 ·exact⟨1,by decide,rfl⟩
theorem at2(a b:D){r:Nat}(h1:r<2):∃ x,(x=a\/x=b)/\bC (.list [a,b]) (.int r)=qq x:=by
 have:r=0\/r=1:=by omega
 rcases this with rfl | rfl
 ·exact⟨a,.inl rfl,rfl⟩
 ·exact⟨b,.inr rfl,rfl⟩
theorem jT{C:Calls}{a r:Sx}{env e1:aU}{S S1:aC}(h:xs C a env S=qq (.nx e1,S1)):xs C (.seq a r) env S=xs C r e1 S1:=by simp only[mS,cY,h,oB]
theorem aGu(ns:List Int)(k:Nat)(x:Int):aQ [qz] 0 1 ns k x []=[qq (cN ns k x)]:=rfl
theorem at1:At0 [qz] 0 1:=⟨by decide,by decide⟩
noncomputable abbrev s0(ns:List Int)(k:Nat)(x:Int):aC:=[qq (cN ns k x)]
section
variable {ns : List Int}{k : Nat}{x : Int}
theorem aFA(d m:Nat)(hm:0<m)(hm2:m<2^64)(hk:k<=100000):∃ (r:Nat) (x':Int),r<m/\cl fns (d+1) 14 [.loc 0,.d (.int m)] (s0 ns k x)=qq (.d (.int r),s0 ns (k+1) x'):=by
 obtain⟨r,x',hr,e⟩:=eV (rs:=[]) (ns:=ns) (k:=k) (x:=x) at1 d m hm hm2 hk;exact⟨r,x',hr,e⟩
theorem pH(d m:Nat){i:Int}(hi:i=(m:Nat))(hm:0<m)(hm2:m<2^64)(hk:k<=100000):∃ (r:Nat) (x':Int),r<m/\cl fns (d+1) 14 [.loc 0,.d (.int i)] (s0 ns k x)=qq (.d (.int r),s0 ns (k+1) x'):=by
 subst hi;exact aFA d m hm hm2 hk
end
section
variable {S : aC}{n p : Nat}{ns : List Int}{k : Nat}{x : Int}{rs : List Rw}
theorem aMb(h:At0 S n p)(d w:Nat)(hw:1<=w)(cC:w<=64)(hk:k<=98000):∃ (r k':Nat) (x':Int),r<2^w/\k'<=k+5/\cl fns (d+3) 17 [.loc n,.d (.int w)] (aQ S n p ns k x rs)=qq (.d (.int r),aQ S n p ns k' x' rs):=by
 have hw3:w<2^64:=by omega
 have hp:=uT w;obtain⟨r1,x1,h1,e1⟩:=gS (ns:=ns) (k:=k) (x:=x) (rs:=rs) h (d+1) 5 (i:=5) rfl (by decide) (by decide) (by omega)
 obtain⟨r2,x2,h2,e2⟩:=eV (ns:=ns) (k:=k+1) (x:=x1) (rs:=rs) h (d+1) w (by omega) hw3 (by omega)
 obtain⟨r3,x3,h3,e3⟩:=eV (ns:=ns) (k:=k+2) (x:=x2) (rs:=rs) h (d+1) w (by omega) hw3 (by omega)
 by_cases c:r1<4
 ·have d1:decide ((r1:Int)<4)=true:=dqT (by omega)
  obtain⟨y,hy,e⟩:=at4 (.int 0) (.int ((2^w-1:Nat):Int)) (.int ((2^r2:Nat):Int)) (.int ((2^r3-1:Nat):Int)) c;obtain⟨q,hq,rfl⟩:∃ q:Nat,q<2^w/\y=.int q:=by
   have l2:2^r2<2^w:=yEl (by decide) h2
   have l3:2^r3<2^w:=yEl (by decide) h3
   rcases hy with rfl | rfl | rfl | rfl
   ·exact⟨0,hp,rfl⟩
   ·exact⟨_,by omega,rfl⟩
   ·exact⟨_,l2,rfl⟩
   ·exact⟨_,by omega,rfl⟩
  refine⟨q,k+3,x3,hq,by omega,?_⟩
  rw[cP rfl (d+2) _ _ rfl];simp only[evs,cK,zV,e1,iH (show w<=100000 by omega),gU,aAf,e2,iH (show r2<=100000 by omega),e3,iH (show r3<=100000 by omega),dH,d1,e,h.take]
 ·have d1:decide ((r1:Int)<4)=false:=dqF (by omega)
  obtain⟨r,k',x',hr,hk',e⟩:=aIO (ns:=ns) (k:=k+3) (x:=x3) (rs:=rs) h d w cC (by omega)
  refine⟨r,k',x',hr,by omega,?_⟩
  rw[cP rfl (d+2) _ _ rfl];simp only[evs,cK,zV,e1,iH (show w<=100000 by omega),gU,aAf,e2,iH (show r2<=100000 by omega),e3,iH (show r3<=100000 by omega),dH,d1,e,h.take]
end
theorem aA5:∀ L:List Nat,yCo (L.map nD)=true
 | []=>rfl
 | a::r=>by
   have ih:=aA5 r;simp only[yAj,yCo,ih,Bool.and_true];rfl
theorem aAB:∀ L:List Nat,yCe (L.map nD)=0
 | []=>rfl
 | a::r=>by
   have ih:=aAB r;simp only[yAj,yCe,ih];rfl
theorem aAZ(L:List Nat):bA .NotEq (.list (L.map nD)) (.list [])=qq (.bool (!L.isEmpty)):=by
 have h1:(yBh (L.map nD)).canLay0=true:=aA5 L;have h2:(yBh (L.map nD)).depth<=60:=by
  show yCe (L.map nD)+1<=60;rw[aAB];decide
 unfold bA lA;simp only[];rw[if_pos ⟨h1,rfl,h2⟩];cases L<;>rfl
theorem aMo(L:List Nat):bA .Eq (.list (L.map nD)) (.list [])=qq (.bool L.isEmpty):=by
 have h1:(yBh (L.map nD)).canLay0=true:=aA5 L;have h2:(yBh (L.map nD)).depth<=60:=by
  show yCe (L.map nD)+1<=60;rw[aAB];decide
 unfold bA lA;simp only[];rw[if_pos ⟨h1,rfl,h2⟩];cases L<;>rfl
theorem fB(r:Rw):bC r.d (.int 1)=qq (.int r.w):=oP (xs:=.str r.wd.s::nD r.w::r.args.map nD) (k:=1) rfl
noncomputable def wdE(a b:Wd):Bool:=match bA .Eq (.str a.s) (.str b.s) with
 | some (.bool c)=>c==decide (a=b)
 | _=>false
theorem aMM(a b:Wd):wdE a b=true:=by
 have h:∀ i:Fin 19,∀ j:Fin 19,wdE (Wd.ofNat i) (Wd.ofNat j)=true:=by decide +kernel
 have e:∀ a:Wd,∃ i:Fin 19,Wd.ofNat i=a:=λ a=>⟨⟨a.ctorIdx,by cases a<;>decide⟩,Wd.ofNat_ctorIdx a⟩
 obtain⟨i,rfl⟩:=e a;obtain⟨j,rfl⟩:=e b;exact h i j
theorem gG(a b:Wd):bA .Eq (.str a.s) (.str b.s)=qq (.bool (decide (a=b))):=by
 have h:=aMM a b;unfold wdE at h
 split at h
 ·rename_i c e;rw[e,eq_of_beq h]
 ·cases h
theorem qS(a:Wd):bA .In (.str a.s) (.tuple [.str "left",.str "right",.str "slide"])=qq (.bool (decide (a=.left\/a=.right\/a=.slide))):=by cases a<;>rfl
theorem aMX(a:Wd):bA .In (.str a.s) (.tuple [.str "cut",.str "wide",.str "sign"])=qq (.bool (decide (a=.cut\/a=.wide\/a=.sign))):=by cases a<;>rfl
theorem uZ(a:Wd):bA .In (.str a.s) (.tuple [.str "same",.str "less",.str "under"])=qq (.bool (decide (a=.same\/a=.less\/a=.under))):=by cases a<;>rfl
theorem bT{C:Calls}{c:E}{t bK:Sx}{env:aU}{S S1:aC}{r:Option (Fl×aC)}(h:tv C c env S=qq (false,S1))(k:xs C bK env S1=r):xs C (.seq (.ifs c t .skip) bK) env S=r:=by
 rw[<- k];simp only[mS,rK,aD3,cY,mF,mW,h,oB,yBd,if_false]
theorem cR{C:Calls}{c:E}{t e bK:Sx}{env:aU}{S S1 S2:aC}{w:W}(h:tv C c env S=qq (true,S1))(k:xs C t env S1=qq (.rt w,S2)):xs C (.seq (.ifs c t e) bK) env S=qq (.rt w,S2):=by
 simp only[mS,rK,cY,mF,h,oB,if_true,k]
theorem bM{C:Calls}{e:E}{bK:Sx}{env:aU}{S S1:aC}{w:W}(h:ev C e env S=qq (w,S1)):xs C (.seq (.ret e) bK) env S=qq (.rt w,S1):=by
 simp only[mS,aER,cY,lY,h,oB]
theorem cD{C:Calls}{i:Nat}{e:E}{bK:Sx}{env aO:aU}{S S1:aC}{w:W}{r:Option (Fl×aC)}(h:ev C e env S=qq (w,S1))(he:env.set i (qq w)=aO)(k:xs C bK aO S1=r):xs C (.seq (.set i e) bK) env S=r:=by
 subst he;rw[<- k];simp only[mS,vN,cY,dX,h,oB]
theorem dO{fs:List Fn}{f:Nat}{F:Fn}(h:fs[f]? = qq F)(d:Nat){ws:List W}{env:aU}{S S1:aC}{x:D}(hw:ws.length=F.np)(he:ws.map qq++yAf (F.N.length-ws.length) qz=env)(hS:S1.take S.length=S1)(k:xs (aD fs d) F.body env S=qq (.rt (.d x),S1)):cl fs (d+1) f ws S=qq (.d x,S1):=by
 subst he;rw[cP h d ws S hw];simp only[cK,k,oB,kF,hS]
theorem iJ{C:Calls}{i:Nat}{x:Str}{env:aU}{S:aC}{a:D}{b:Bool}(h:env[i]? = qq (qq (.d a)))(hc:bA .Eq a (.str x)=qq (.bool b)):tv C (.cmp .Eq (.var i) (.str x)) env S=qq (b,S):=by
 simp only[evs,h,hc]
theorem jW{C:Calls}{i:Nat}{e:E}{env:aU}{S:aC}{a t:D}{b:Bool}(h:env[i]? = qq (qq (.d a)))(he:ev C e env S=qq (.d t,S))(hc:bA .In a t=qq (.bool b)):tv C (.cmp .In (.var i) e) env S=qq (b,S):=by
 simp only[evs,h,he,hc]
noncomputable def iB:Sx->Sx
 | .seq _ b=>b
 | x=>x
theorem iR{C:Calls}{c:E}{a b:Sx}{env:aU}{S S1:aC}{r:Option (Fl×aC)}(h:tv C c env S=qq (true,S1))(k:xs C a env S1=r):xs C (.ifs c a b) env S=r:=by
 rw[<- k];simp only[rK,mF,h,oB,if_true]
theorem aBw{C:Calls}{c:E}{a b:Sx}{env:aU}{S S1:aC}{r:Option (Fl×aC)}(h:tv C c env S=qq (false,S1))(k:xs C b env S1=r):xs C (.ifs c a b) env S=r:=by
 rw[<- k];simp only[rK,mF,h,oB,yBd,if_false]
theorem eY{C:Calls}{a b:Sx}{env e1:aU}{S S1:aC}{r:Option (Fl×aC)}(h:xs C a env S=qq (.nx e1,S1))(k:xs C b e1 S1=r):xs C (.seq a b) env S=r:=by
 rw[jT h];exact k
theorem vM{C:Calls}{a:Sx}{env e1:aU}{S S1:aC}(h:xs C a env S=qq (.nx e1,S1)):xs C (.seq a .skip) env S=qq (.nx e1,S1):=eY h rfl
theorem jB{C:Calls}{i:Nat}{e:E}{env:aU}{S S1:aC}{w:W}(h:ev C e env S=qq (w,S1)):xs C (.seq (.set i e) .skip) env S=qq (.nx (env.set i (qq w)),S1):=cD h rfl rfl
theorem sK{C:Calls}{s:Sx}{c:E}{a b:Sx}{env r:aU}{S S1:aC}(hs:s=.ifs c a (.seq b .skip))(h:tv C c env S=qq (false,S))(k:xs C b env S=qq (.nx r,S1)):xs C s env S=qq (.nx r,S1):=by
 rw[hs];exact aBw h (vM k)
section
variable {S : aC}{n p : Nat}{ns : List Int}{k : Nat}{x : Int}{rs : List Rw}
theorem vQ{a:Nat}{r:Rw}(h:rs[a]? = qq r):bC (.list (rs.map Rw.d)) (.int a)=qq r.d:=kR (by rw[xAb,h];rfl)
theorem gD(rs:List Rw):(rs.map Rw.d).length=rs.length:=yAg ..
theorem aDZ(h:At S n p)(hl:rs.length<=1000)(r:Rw):eG (aQ S n p ns k x rs) (.loc p) (.d r.d)=qq (.d .none,aQ S n p ns k x (rs++[r])):=by
 unfold eG;simp only[h.rows];rw[if_pos (by rw[gD,zx];omega),h.putR]
structure Opd(rs aN:List Rw)(a w:Nat):Prop where
 ext:∃ t,aN=rs++t/\t.length<=1
 ok:cW [] aN
 wd:(aN.map (·.w))[a]? = qq w
theorem lZ{a:Nat}{r:Rw}(h:rs[a]? = qq r):(rs.map (·.w))[a]? = qq r.w:=by rw[xAb,h];rfl
theorem aES(h:At S n p)(d a w:Nat)(hr:cW [] rs)(ha:a<rs.length)(hl:rs.length<=100)(hw:1<=w)(cC:w<=64)(hk:k<=99000) :
 ∃ (a' k':Nat) (x':Int) (aN:List Rw),Opd rs aN a' w/\k'<=k+1/\cl fns (d+2) 18 [.loc n,.loc p,.d (.int a),.d (.int w)] (aQ S n p ns k x rs)=qq (.d (.int a'),aQ S n p ns k' x' aN):=by
 obtain⟨r,hra⟩:∃ r,rs[a]? = qq r:=⟨rs[a],yAd ha⟩;have ga:=vQ hra
 by_cases c:r.w=w
 ·refine⟨a,k,x,rs,⟨⟨[],by simp,by simp⟩,hr,by rw[lZ hra,c]⟩,by omega,?_⟩
  rw[cP rfl (d+1) _ _ rfl];simp only[evs,cK,qQ,h.rows,ga,fB,cE,c,beq_self_eq_true,h.take]
 ·have c':(((r.w:Nat):Int)==((w:Nat):Int))=false:=by
   rw[beq_eq_false_iff_ne];intro z;exact c (by exact_mod_cast z)
  obtain⟨q,x',hq,e⟩:=gS (ns:=ns) (k:=k) (x:=x) (rs:=rs) h.toAt0 d 2 (i:=2) rfl (by decide) (by decide) (by omega)
  have bB:∀ wd:Wd,gZ ([]++rs.map (·.w)) ⟨wd,w,[a]⟩->Opd rs (rs++[⟨wd,w,[a]⟩]) rs.length w:=λ wd ok=>⟨⟨_,rfl,yAc _⟩,zM hr ok,by simp⟩
  have len1:∀ r:Rw,((rs++[r]).length:Int)-1=((rs.length:Nat):Int):=λ r=>by simp
  have ap:∀ wd:Wd,eG (aQ S n p ns (k+1) x' rs) (.loc p) (.d (.tuple [.str wd.s,.int w,.int a]))=qq (.d .none,aQ S n p ns (k+1) x' (rs++[⟨wd,w,[a]⟩])):=λ wd=>aDZ h (by omega) ⟨wd,w,[a]⟩
  by_cases c2:w<r.w
  ·have d2:decide (((w:Nat):Int)<((r.w:Nat):Int))=true:=dqT (by omega)
   refine⟨rs.length,k+1,x',_,bB .cut ⟨hw,cC,r.w,by simpa using lZ hra,yDz c2⟩,by omega,?_⟩
   have ap':=ap .cut;simp only[Wd.s] at ap';have:q=0\/q=1:=by omega
   rw[cP rfl (d+1) _ _ rfl];rcases this with rfl | rfl
   all_goals simp only[evs,cK,qQ,h.rows,ga,fB,cE,c',e,aBm,aBz,iK,d2,hU,ap',cI,cM,gD,gU,len1,h.take]
  ·have d2:decide (((w:Nat):Int)<((r.w:Nat):Int))=false:=dqF (by omega)
   have:q=0\/q=1:=by omega
   rcases this with rfl | rfl
   ·refine⟨rs.length,k+1,x',_,bB .wide ⟨hw,cC,r.w,by simpa using lZ hra,yEh c2⟩,by omega,?_⟩
    have ap':=ap .wide;simp only[Wd.s] at ap';rw[cP rfl (d+1) _ _ rfl];simp only[evs,cK,qQ,h.rows,ga,fB,cE,c',e,aBm,iK,d2,hU,ap',cI,cM,gD,gU,len1,h.take]
   ·refine⟨rs.length,k+1,x',_,bB .sign ⟨hw,cC,r.w,by simpa using lZ hra,yEh c2⟩,by omega,?_⟩
    have ap':=ap .sign;simp only[Wd.s] at ap';rw[cP rfl (d+1) _ _ rfl];simp only[evs,cK,qQ,h.rows,ga,fB,cE,c',e,aBz,iK,d2,hU,ap',cI,cM,gD,gU,len1,h.take]
end
section
variable {S : aC}{n p : Nat}{ns : List Int}{k : Nat}{x : Int}{rs : List Rw}
theorem zS:∀ {rs:List Rw}{ws:List Nat}{a:Nat}{r:Rw},cW ws rs->rs[a]? = qq r->1<=r.w/\r.w<=64
 | q::rs,ws,0,r,⟨h1,_⟩,e=>by
   have e':q=r:=by simpa using e
   subst e';exact⟨h1.1,h1.2.1⟩
 | q::rs,ws,a+1,r,⟨_,h2⟩,e=>zS h2 (by simpa using e)
 | [],_,_,_,_,e=>by simp at e
noncomputable def qX:Sx:=match qJ with
 | .seq _ r=>r
 | _=>.skip
theorem qN(h:At S n p)(d w:Nat)(hr:cW [] rs)(h0:0<rs.length)(hl:rs.length<=100)(hw:1<=w)(cC:w<=64)(hk:k<=98000) :
 ∃ (a k':Nat) (x':Int) (aN:List Rw),Opd rs aN a w/\k'<=k+3/\cl fns (d+3) 19 [.loc n,.loc p,.d (.int w)] (aQ S n p ns k x rs)=qq (.d (.int a),aQ S n p ns k' x' aN):=by
 have hc:gI (.one 4) (lv (aD fns (d+2)) (.rng1 (.blt .len (.cons (.var 1) .nil)))) (tv (aD fns (d+2)) (.cmp .Eq (.ix (.ix (.var 1) (.var 4)) (.int 1)) (.var 2))) (ev (aD fns (d+2)) (.var 4)) [qq (.loc n),qq (.loc p),qq (.d (.int w)),qz,qz] (aQ S n p ns k x rs)
  = qq (((yBe rs.length).filter λ j=>(rs.map (·.w))[j]?==qq w).map nD,aQ S n p ns k x rs):=by
  refine uX nD nD (λ j=>(rs.map (·.w))[j]?==qq w) (yBe rs.length) ?_ (by rw[List.length_range,zx];omega) (λ j hj=>?_)
  ·simp only[sI,rD,pD,rL];refine oF ?_ (by omega)
   simp only[evs,h.rows,cI,cM,gD]
  ·have hj':j<rs.length:=by simpa using hj
   obtain⟨r,hrj⟩:∃ r,rs[j]? = qq r:=⟨rs[j],yAd hj'⟩;have hb:((rs.map (·.w))[j]?==qq w)=(((r.w:Nat):Int)==((w:Nat):Int)):=by
    rw[lZ hrj,Bool.eq_iff_iff];simp;omega
   refine⟨_,rfl,λ aG=>?_,λ _ aG=>?_⟩
   ·rw[hb];simp only[evs,clr,yAk,yAo,nD,h.rowsT,vQ hrj,fB,cE]
   ·simp only[evs,clr,yAk,yAo,nD]
 generalize hL:(yBe rs.length).filter (λ j=>(rs.map (·.w))[j]?==qq w)=L at hc
 have hmem:∀ a∈L,(rs.map (·.w))[a]? = qq w:=λ a ha=>by
  rw[<- hL] at ha;simpa using (List.mem_filter.mp ha).2
 have bZ:L.length<=rs.length:=by
  rw[<- hL];have:=List.length_filter_le (λ j=>(rs.map (·.w))[j]?==qq w) (yBe rs.length)
  simpa using this
 have set:xs (aD fns (d+2)) (.setC false 3 (.comp (.var 4) (.one 4) (.rng1 (.blt .len (.cons (.var 1) .nil))) (.cmp .Eq (.ix (.ix (.var 1) (.var 4)) (.int 1)) (.var 2)))) [qq (.loc n),qq (.loc p),qq (.d (.int w)),qz,qz] (aQ S n p ns k x rs)=qq (.nx [qq (.loc n),qq (.loc p),qq (.d (.int w)),qq (.d (.list (L.map nD))),qz],aQ S n p ns k x rs):=by
  simp only[aAH,dX,fY];show((gI _ _ _ _ _ _).bind _).bind _=_;rw[hc];simp only[evs]
 have dZ:∀ R,xs (aD fns (d+2)) qX [qq (.loc n),qq (.loc p),qq (.d (.int w)),qq (.d (.list (L.map nD))),qz] (aQ S n p ns k x rs)=R->cl fns (d+3) 19 [.loc n,.loc p,.d (.int w)] (aQ S n p ns k x rs)=R.bind λ q=>match q.1 with
  | .rt w=>kF (aQ S n p ns k x rs).length q.2 w
  | .nx _=>qq (.d .none,q.2.take (aQ S n p ns k x rs).length)
  | _=>qz:=λ R hR=>by
  rw[cP rfl (d+2) _ _ rfl,<- hR];show((cY (xs (aD fns (d+2)) (.setC false 3 (.comp (.var 4) (.one 4) (.rng1 (.blt .len (.cons (.var 1) .nil))) (.cmp .Eq (.ix (.ix (.var 1) (.var 4)) (.int 1)) (.var 2))))) (xs (aD fns (d+2)) qX)) [qq (.loc n),qq (.loc p),qq (.d (.int w)),qz,qz] (aQ S n p ns k x rs)).bind _=_;simp only[cY,set,oB]
  all_goals rfl
 rw[dZ _ rfl];clear dZ set hc;have hr64:rs.length<2^64:=by omega
 have nn:=aAZ L;have ll:(L.map nD).length=L.length:=yAg ..;rcases yBp L.isEmpty with hE | hE
 ·rw[hE] at nn;obtain⟨q,x1,hq,e1⟩:=eV (ns:=ns) (k:=k) (x:=x) (rs:=rs) h.toAt0 (d+1) rs.length h0 hr64 (by omega)
  obtain⟨a,k',x',aN,ho,hk',e2⟩:=aES (ns:=ns) (k:=k+1) (x:=x1) h d q w hr hq hl hw cC (by omega)
  refine⟨a,k',x',aN,ho,by omega,?_⟩
  simp only[evs,qX,qJ,nn,h.rows,cI,cM,gD,e1,e2,h.take]
 ·rw[hE] at nn;have hL0:0<L.length:=by
   cases L with
   | nil=>cases hE
   | cons b r=>simp
  obtain⟨q4,x1,hq4,e1⟩:=gS (ns:=ns) (k:=k) (x:=x) (rs:=rs) h.toAt0 (d+1) 4 (i:=4) rfl (by decide) (by decide) (by omega)
  by_cases c:0<q4
  ·have d1:decide ((0:Int)<(q4:Int))=true:=dqT (by omega)
   obtain⟨q,x2,hq,e2⟩:=eV (ns:=ns) (k:=k+1) (x:=x1) (rs:=rs) h.toAt0 (d+1) L.length hL0 (by omega) (by omega)
   have e3:((L.length:Nat):Int)-1-(q:Int)=((L.length-1-q:Nat):Int):=by omega
   obtain⟨a,ha⟩:∃ a,L[L.length-1-q]? = qq a:=⟨L[L.length-1-q],yAd (by omega)⟩
   have ga:bC (.list (L.map nD)) (.int ((L.length-1-q:Nat):Int))=qq (.int a):=kR (by rw[xAb,ha];rfl)
   refine⟨a,k+2,x2,rs,⟨⟨[],by simp,by simp⟩,hr,hmem a (xAi ha)⟩,by omega,?_⟩
   simp only[evs,qX,qJ,nn,e1,iK,d1,cI,cM,ll,gU,e2,e3,ga,h.take]
  ·have d1:decide ((0:Int)<(q4:Int))=false:=dqF (by omega)
   obtain⟨q,x2,hq,e2⟩:=eV (ns:=ns) (k:=k+1) (x:=x1) (rs:=rs) h.toAt0 (d+1) rs.length h0 hr64 (by omega)
   obtain⟨a,k',x',aN,ho,hk',e3⟩:=aES (ns:=ns) (k:=k+2) (x:=x2) h d q w hr hq hl hw cC (by omega)
   refine⟨a,k',x',aN,ho,by omega,?_⟩
   simp only[evs,qX,qJ,nn,e1,iK,d1,h.rows,cI,cM,gD,e2,e3,h.take]
end
section
variable {S : aC}{n p : Nat}{ns : List Int}{k : Nat}{x : Int}{rs : List Rw}
theorem aIr(h:At S n p)(d:Nat)(wd:Wd)(uE:wd=.cut\/wd=.wide\/wd=.sign)(hr:cW [] rs)(h0:0<rs.length)(hl:rs.length<=100)(hk:k<=98000) :
 ∃ (r:Rw) (x':Int),gZ (rs.map (·.w)) r/\cl fns (d+2) 20 [.loc n,.loc p,.d (.str wd.s)] (aQ S n p ns k x rs)=qq (.d r.d,aQ S n p ns (k+2) x' rs):=by
 obtain⟨a,x1,ha,e1⟩:=eV (ns:=ns) (k:=k) (x:=x) (rs:=rs) h.toAt0 d rs.length h0 (by omega) (by omega)
 obtain⟨r,hra⟩:∃ r,rs[a]? = qq r:=⟨rs[a],yAd ha⟩;obtain⟨qI,cC⟩:=zS hr hra;have ga:=vQ hra;have cw:=gG wd .cut;rw[show Wd.cut.s=("cut" : Str) from rfl] at cw
 have e65:(65:Int)-(r.w:Int)=((65-r.w:Nat):Int):=by omega
 by_cases c:wd=.cut
 ·subst c;obtain⟨q,x2,hq,e2⟩:=eV (ns:=ns) (k:=k+1) (x:=x1) (rs:=rs) h.toAt0 d r.w (by omega) (by omega) (by omega)
  have a1:(1:Int)+(q:Int)=((1+q:Nat):Int):=by omega
  refine⟨⟨.cut,1+q,[a]⟩,x2,⟨by show 1<=1+q;omega,by show 1+q<=64;omega,r.w,lZ hra,by show 1+q<=r.w;omega⟩,?_⟩
  rw[cP rfl (d+1) _ _ rfl];simp only[evs,cK,yS,h.rows,cI,cM,gD,e1,ga,fB,cw,decide_true,e2,cU,a1,h.take];rfl
 ·obtain⟨q,x2,hq,e2⟩:=eV (ns:=ns) (k:=k+1) (x:=x1) (rs:=rs) h.toAt0 d (65-r.w) (by omega) (by omega) (by omega)
  have a1:(r.w:Int)+(q:Int)=((r.w+q:Nat):Int):=by omega
  rw[dqF c] at cw;have ok:gZ (rs.map (·.w)) ⟨wd,r.w+q,[a]⟩:=by
   refine⟨by show 1<=r.w+q;omega,by show r.w+q<=64;omega,?_⟩
   rcases uE with rfl | rfl | rfl
   ·exact absurd rfl c
   ·exact⟨r.w,lZ hra,by show r.w<=r.w+q;omega⟩
   ·exact⟨r.w,lZ hra,by show r.w<=r.w+q;omega⟩
  refine⟨⟨wd,r.w+q,[a]⟩,x2,ok,?_⟩;rw[cP rfl (d+1) _ _ rfl];simp only[evs,cK,yS,h.rows,cI,cM,gD,e1,ga,fB,cw,gU,e65,e2,cU,a1,h.take];rfl
theorem Opd.len{rs aN:List Rw}{a w:Nat}(o:Opd rs aN a w):rs.length<=aN.length/\aN.length<=rs.length+1:=by
 obtain⟨t,rfl,h⟩:=o.ext;simp;omega
theorem Opd.keep{rs aN:List Rw}{a w b v:Nat}(o:Opd rs aN a w)(h:(rs.map (·.w))[b]? = qq v):(aN.map (·.w))[b]? = qq v:=by
 obtain⟨t,rfl,_⟩:=o.ext;rw[yAw,xAj (gIm h).1];exact h
theorem aJB(h:At S n p)(d w:Nat)(wd:Wd)(uE:wd=.left\/wd=.right\/wd=.slide)(hr:cW [] rs)(h0:0<rs.length)(hl:rs.length<=90)(hw:1<=w)(cC:w<=64)(hk:k<=97000) :
 ∃ (r:Rw) (k':Nat) (x':Int) (aN:List Rw),cW [] aN/\rs.length<=aN.length/\aN.length<=rs.length+1/\gZ (aN.map (·.w)) r/\k'<=k+6/\cl fns (d+4) 21 [.loc n,.loc p,.d (.str wd.s),.d (.int w)] (aQ S n p ns k x rs)=qq (.d r.d,aQ S n p ns k' x' aN):=by
 obtain⟨q1,x1,h1,e1⟩:=eV (ns:=ns) (k:=k) (x:=x) (rs:=rs) h.toAt0 (d+2) w (by omega) (by omega) (by omega)
 obtain⟨q2,x2,h2,e2⟩:=gS (ns:=ns) (k:=k+1) (x:=x1) (rs:=rs) h.toAt0 (d+2) 64 (i:=64) rfl (by decide) (by decide) (by omega)
 obtain⟨q3,x3,h3,e3⟩:=gS (ns:=ns) (k:=k+2) (x:=x2) (rs:=rs) h.toAt0 (d+2) 4 (i:=4) rfl (by decide) (by decide) (by omega)
 obtain⟨a,k',x',aN,ho,hk',e4⟩:=qN (ns:=ns) (k:=k+3) (x:=x3) h d w hr h0 (by omega) hw cC (by omega)
 have bB:∀ kk:Nat,kk<64->gZ (aN.map (·.w)) ⟨wd,w,[a,kk]⟩:=λ kk hkk=>by
  refine⟨hw,cC,?_⟩;rcases uE with rfl | rfl | rfl<;>exact⟨ho.wd,hkk⟩
 have hq:(q3:Int)/3=((0:Nat):Int)\/(q3:Int)/3=((1:Nat):Int):=by omega
 rcases hq with hq | hq
 ·refine⟨⟨wd,w,[a,q1]⟩,k',x',aN,ho.ok,ho.len.1,ho.len.2,bB q1 (by omega),by omega,?_⟩
  rw[cP rfl (d+3) _ _ rfl];simp only[evs,cK,zL,e1,e2,e3,lO (i:=(q3:Int)) (j:=3) (by decide) (by decide),hq,aBm,e4,h.take]
  rfl
 ·refine⟨⟨wd,w,[a,q2]⟩,k',x',aN,ho.ok,ho.len.1,ho.len.2,bB q2 (by omega),by omega,?_⟩
  rw[cP rfl (d+3) _ _ rfl];simp only[evs,cK,zL,e1,e2,e3,lO (i:=(q3:Int)) (j:=3) (by decide) (by decide),hq,aBz,e4,h.take]
  rfl
noncomputable def sE(wd:Wd)(w:Nat):Nat:=if (wd=.same\/wd=.less\/wd=.under) then 1 else w
theorem aDV(h:At S n p)(d w:Nat)(wd:Wd)(hr:cW [] rs)(h0:0<rs.length)(hl:rs.length<=90)(hw:1<=w)(cC:w<=64)(hk:k<=97000) :
 ∃ (a b k':Nat) (x':Int) (aN:List Rw),cW [] aN/\(∃ t,aN=rs++t/\t.length<=2)/\(aN.map (·.w))[a]? = qq w/\(aN.map (·.w))[b]? = qq w/\k'<=k+6 /\
  cl fns (d+4) 22 [.loc n,.loc p,.d (.str wd.s),.d (.int w)] (aQ S n p ns k x rs)=qq (.d (.tuple [.str wd.s,.int (sE wd w:Nat),.int a,.int b]),aQ S n p ns k' x' aN):=by
 obtain⟨a,k1,x1,rs1,o1,hk1,e1⟩:=qN (ns:=ns) (k:=k) (x:=x) h d w hr h0 (by omega) hw cC (by omega)
 have l1:=o1.len;obtain⟨b,k2,x2,rs2,o2,hk2,e2⟩:=qN (ns:=ns) (k:=k1) (x:=x1) h d w o1.ok (by omega) (by omega) hw cC (by omega)
 refine⟨a,b,k2,x2,rs2,o2.ok,?_,o2.keep o1.wd,o2.wd,by omega,?_⟩
 ·obtain⟨t1,rfl,ht1⟩:=o1.ext;obtain⟨t2,rfl,ht2⟩:=o2.ext;exact⟨t1++t2,by simp,by simp;omega⟩
 ·rw[cP rfl (d+3) _ _ rfl]
  by_cases c:wd=.same\/wd=.less\/wd=.under
  ·have is:=uZ wd;rw[dqT c] at is;have pw:sE wd w=1:=if_pos c;simp only[evs,cK,zT,e1,e2,is,pw,h.take];rfl
  ·have is:=uZ wd;rw[dqF c] at is;have pw:sE wd w=w:=if_neg c;simp only[evs,cK,zT,e1,e2,is,pw,h.take]
end
noncomputable def cX(k:Nat):Sx:=match iZ with
 | .seq a1 (.seq a2 (.seq a3 (.seq a4 (.seq a5 (.seq a6 (.seq a7 _))))))=>[a1,a2,a3,a4,a5,a6,a7].getD k .skip
 | _=>.skip
theorem aIh:iZ=.seq (cX 0) (.seq (cX 1) (.seq (cX 2) (.seq (cX 3) (.seq (cX 4) (.seq (cX 5) (.seq (cX 6) .skip)))))):=rfl
theorem aOt(a b c e f:D):cA .Add (.tuple [a,b,c]) (.tuple [e,f])=qq (.tuple [a,b,c,e,f]):=by
 show(if [a,b,c].isEmpty=false/\[a,b,c].length+[e,f].length<=qk then qq (yAv ([a,b,c]++[e,f])) else qz)=_
 rw[if_pos ⟨rfl,by rw[zx];show 3+2<=16777216;decide⟩]
 rfl
theorem aOz(a b c e:D):dJ [a,b,c,e] (qq 2) qz=[c,e]:=rfl
theorem aOL:(HT.sIx 4 0 (qq 2)=0/\HT.sIx 4 4 qz=4)=False:=by simp[HT.sIx]
section
variable {S : aC}{n p : Nat}{ns : List Int}{k : Nat}{x : Int}{rs : List Rw}
theorem aKK(h:At S n p)(d w:Nat)(wd:Wd)(l2 e5 e6:Option W)(hr:cW [] rs)(h0:0<rs.length)(hl:rs.length<=80)(hw:1<=w)(cC:w<=64)(hk:k<=96000) :
 ∃ (r:Rw) (k':Nat) (x':Int) (aN:List Rw) (e6':Option W),cW [] aN/\rs.length<=aN.length/\aN.length<=rs.length+3/\gZ (aN.map (·.w)) r/\k'<=k+12 /\
  xs (aD fns (d+4)) (cX 5) [qq (.loc n),qq (.loc p),l2,qq (.d (.str wd.s)),qq (.d (.int w)),e5,e6] (aQ S n p ns k x rs)=qq (.nx [qq (.loc n),qq (.loc p),l2,qq (.d (.str wd.s)),qq (.d (.int w)),qq (.d r.d),e6'],aQ S n p ns k' x' aN):=by
 have c1:bA .Eq (.str wd.s) (.str "in")=qq (.bool (decide (wd=.in))):=gG wd .in
 by_cases k1:wd=.in
 ·subst k1;refine⟨⟨.in,w,[]⟩,k,x,rs,e6,hr,by omega,by omega,⟨hw,cC,True.intro⟩,by omega,?_⟩
  exact iR (iJ rfl c1) (jB rfl)
 rw[dqF k1] at c1;have q1:=λ {r S1}=>sK (C:=aD fns (d+4)) (s:=cX 5) (env:=[qq (.loc n),qq (.loc p),l2,qq (.d (.str wd.s)),qq (.d (.int w)),e5,e6]) (S:=aQ S n p ns k x rs) (r:=r) (S1:=S1) rfl (iJ rfl c1)
 clear c1;have c2:bA .Eq (.str wd.s) (.str "num")=qq (.bool (decide (wd=.num))):=gG wd .num
 by_cases k2:wd=.num
 ·subst k2;obtain⟨q,k',x',hq,hk',e⟩:=aMb (ns:=ns) (k:=k) (x:=x) (rs:=rs) h.toAt0 (d+1) w hw cC (by omega)
  refine⟨⟨.num,w,[q]⟩,k',x',rs,e6,hr,by omega,by omega,⟨hw,cC,hq⟩,by omega,q1 (iR (iJ rfl c2) (jB ?_))⟩
  simp only[evs,e];rfl
 rw[dqF k2] at c2;have q2:=λ {r S1} h=>q1 (sK (r:=r) (S1:=S1) rfl (iJ rfl c2) h)
 clear c2;have c3:bA .Eq (.str wd.s) (.str "not")=qq (.bool (decide (wd=.not))):=gG wd .not
 by_cases k3:wd=.not
 ·subst k3;obtain⟨a,k',x',aN,o,hk',e⟩:=qN (ns:=ns) (k:=k) (x:=x) h (d+1) w hr h0 (by omega) hw cC (by omega)
  have l:=o.len;refine⟨⟨.not,w,[a]⟩,k',x',aN,e6,o.ok,by omega,by omega,⟨hw,cC,o.wd⟩,by omega,q2 (iR (iJ rfl c3) (jB ?_))⟩
  simp only[evs,e];rfl
 rw[dqF k3] at c3;have q3:=λ {r S1} h=>q2 (sK (r:=r) (S1:=S1) rfl (iJ rfl c3) h)
 clear c3;have c4:=qS wd
 by_cases k4:wd=.left\/wd=.right\/wd=.slide
 ·rw[dqT k4] at c4;obtain⟨r,k',x',aN,ok,l1,l2,okr,hk',e⟩:=aJB (ns:=ns) (k:=k) (x:=x) h d w wd k4 hr h0 (by omega) hw cC (by omega)
  refine⟨r,k',x',aN,e6,ok,by omega,by omega,okr,by omega,q3 (iR (jW rfl rfl c4) (jB ?_))⟩
  simp only[evs,e]
 rw[dqF k4] at c4;have q4:=λ {r S1} h=>q3 (sK (r:=r) (S1:=S1) rfl (jW rfl rfl c4) h)
 clear c4;have c5:=aMX wd
 by_cases k5:wd=.cut\/wd=.wide\/wd=.sign
 ·rw[dqT k5] at c5;obtain⟨r,x',okr,e⟩:=aIr (ns:=ns) (k:=k) (x:=x) h (d+2) wd k5 hr h0 (by omega) (by omega)
  refine⟨r,k+2,x',rs,e6,hr,by omega,by omega,okr,by omega,q4 (iR (jW rfl rfl c5) (jB ?_))⟩
  simp only[evs,e]
 rw[dqF k5] at c5;have q5:=λ {r S1} h=>q4 (sK (r:=r) (S1:=S1) rfl (jW rfl rfl c5) h)
 clear c5;have c6:bA .Eq (.str wd.s) (.str "pick")=qq (.bool (decide (wd=.pick))):=gG wd .pick
 by_cases k6:wd=.pick
 ·subst k6;obtain⟨c,k1',x1,rs1,o1,hk1,e1⟩:=qN (ns:=ns) (k:=k) (x:=x) h (d+1) 1 hr h0 (by omega) (by decide) (by decide) (by omega)
  have l1:=o1.len;obtain⟨a,b,k',x',aN,ok,⟨t,rfl,ht⟩,wa,wb,hk',e2⟩:=aDV (ns:=ns) (k:=k1') (x:=x1) h d w .pick o1.ok (by omega) (by omega) hw cC (by omega)
  have wc:((rs1++t).map (·.w))[c]? = qq 1:=by
   rw[yAw,xAj (gIm o1.wd).1];exact o1.wd
  rw[show((1:Nat):Int)=1 from rfl] at e1
  refine⟨⟨.pick,w,[c,a,b]⟩,k',x',rs1++t,qq (.d (.int c)),ok,by simp;omega,by simp;omega,⟨hw,cC,wc,wa,wb⟩,by omega,q5 (iR (iJ rfl c6) (cD (S1:=aQ S n p ns k1' x1 rs1) (w:=.d (.int c)) ?_ rfl (jB ?_)))⟩
  ·simp only[evs,e1]
  ·simp only[evs,e2,fO,eD,gM,aOL,aOz,aOt];rfl
 rw[dqF k6] at c6;obtain⟨a,b,k',x',aN,ok,⟨t,rfl,ht⟩,wa,wb,hk',e2⟩:=aDV (ns:=ns) (k:=k) (x:=x) h d w wd hr h0 (by omega) hw cC (by omega)
 have okr:gZ ((rs++t).map (·.w)) ⟨wd,sE wd w,[a,b]⟩:=by
  clear q1 q2 q3 q4 q5 c6 e2;cases wd
  all_goals first | exact⟨hw,cC,wa,wb⟩ | exact⟨yAc 1,oqT rfl,rfl,w,wa,wb⟩ | exact absurd rfl k1 | exact absurd rfl k2 | exact absurd rfl k3 | exact absurd rfl k6 | exact absurd (.inl rfl) k4 | exact absurd (.inr (.inl rfl)) k4 | exact absurd (.inr (.inr rfl)) k4 | exact absurd (.inl rfl) k5 | exact absurd (.inr (.inl rfl)) k5 | exact absurd (.inr (.inr rfl)) k5
 refine⟨⟨wd,sE wd w,[a,b]⟩,k',x',rs++t,e6,ok,by simp,by simp;omega,okr,by omega,q5 (aBw (iJ rfl c6) (jB ?_))⟩
 simp only[evs,e2];rfl
end
noncomputable def xT:List Wd:=[.in,.num,.num,.not,.and,.or,.xor,.add,.sub,.mul,.left,.right,.slide,.cut,.wide,.sign,.same,.less,.under,.pick]
noncomputable def jK:D:=.list (xT.map λ w=>yAa w.s)
section
variable {S : aC}{n p : Nat}{ns : List Int}{k : Nat}{x : Int}{rs : List Rw}
theorem aLz(h:At S n p)(d:Nat)(hr:cW [] rs)(h0:0<rs.length)(hl:rs.length<=80)(hk:k<=95000) :
 ∃ (k':Nat) (x':Int) (aN:List Rw),cW [] aN/\rs.length<=aN.length/\aN.length<=rs.length+4/\k'<=k+20/\cl fns (d+5) 23 [.loc n,.loc p] (aQ S n p ns k x rs)=qq (.d .none,aQ S n p ns k' x' aN):=by
 have s01:xs (aD fns (d+4)) (.seq (cX 0) (cX 1)) [qq (.loc n),qq (.loc p),qz,qz,qz,qz,qz] (aQ S n p ns k x rs)=qq (.nx [qq (.loc n),qq (.loc p),qq (.d jK),qz,qz,qz,qz],aQ S n p ns k x rs):=by
  simp only[evs,cX,iZ,yAy,yAz];rw[vA (by simp)]
  simp only[evs];rfl
 obtain⟨q1,x1,h1,e1⟩:=gS (ns:=ns) (k:=k) (x:=x) (rs:=rs) h.toAt0 (d+3) 20 (i:=20) rfl (by decide) (by decide) (by omega)
 obtain⟨wd,uE⟩:∃ wd,xT[q1]? = qq wd:=⟨xT[q1],yAd (by simpa [xT] using h1)⟩
 have gw:bC jK (.int q1)=qq (.str wd.s):=kR (by rw[xAb,uE];rfl)
 have s2:xs (aD fns (d+4)) (cX 2) [qq (.loc n),qq (.loc p),qq (.d jK),qz,qz,qz,qz] (aQ S n p ns k x rs)=qq (.nx [qq (.loc n),qq (.loc p),qq (.d jK),qq (.d (.str wd.s)),qz,qz,qz],aQ S n p ns (k+1) x1 rs):=by
  simp only[evs,cX,iZ,yAy,yAz,e1,gw]
 obtain⟨a,x2,ha,e2⟩:=eV (ns:=ns) (k:=k+1) (x:=x1) (rs:=rs) h.toAt0 (d+3) rs.length h0 (by omega) (by omega)
 obtain⟨r,hra⟩:∃ r,rs[a]? = qq r:=⟨rs[a],yAd ha⟩;obtain⟨qI,cC⟩:=zS hr hra;have s3:xs (aD fns (d+4)) (cX 3) [qq (.loc n),qq (.loc p),qq (.d jK),qq (.d (.str wd.s)),qz,qz,qz] (aQ S n p ns (k+1) x1 rs)=qq (.nx [qq (.loc n),qq (.loc p),qq (.d jK),qq (.d (.str wd.s)),qq (.d (.int r.w)),qz,qz],aQ S n p ns (k+2) x2 rs):=by
  simp only[evs,cX,iZ,yAy,yAz,h.rows,cI,cM,gD,e2,vQ hra,fB]
 obtain⟨q3,x3,h3,e3⟩:=gS (ns:=ns) (k:=k+2) (x:=x2) (rs:=rs) h.toAt0 (d+3) 4 (i:=4) rfl (by decide) (by decide) (by omega)
 obtain⟨w,k4,x4,hw3,hw4,hk4,s4⟩:∃ (w k4:Nat) (x4:Int),1<=w/\w<=64/\k4<=k+6/\xs (aD fns (d+4)) (cX 4) [qq (.loc n),qq (.loc p),qq (.d jK),qq (.d (.str wd.s)),qq (.d (.int r.w)),qz,qz] (aQ S n p ns (k+2) x2 rs)=qq (.nx [qq (.loc n),qq (.loc p),qq (.d jK),qq (.d (.str wd.s)),qq (.d (.int w)),qz,qz],aQ S n p ns k4 x4 rs):=by
  rcases yBp ((q3:Int)==1) with c | c
  ·obtain⟨w,x4,g1,g2,e4⟩:=aDG (ns:=ns) (k:=k+3) (x:=x3) (rs:=rs) h.toAt0 (d+2) (by omega)
   refine⟨w,k+6,x4,g1,g2,by omega,?_⟩
   simp only[evs,cX,iZ,yAy,yAz,e3,cE,c,e4]
  ·refine⟨r.w,k+3,x3,qI,cC,by omega,?_⟩
   simp only[evs,cX,iZ,yAy,yAz,e3,cE,c]
 obtain⟨rr,k',x',aN,e6',ok,l1,l2,okr,hk',s5⟩:=aKK (ns:=ns) (k:=k4) (x:=x4) h d w wd (qq (.d jK)) qz qz hr h0 hl hw3 hw4 (by omega)
 refine⟨k',x',aN++[rr],zM ok (by simpa using okr),by simp;omega,by simp;omega,by omega,?_⟩
 rw[cP rfl (d+4) _ _ rfl];have full:xs (aD fns (d+4)) iZ [qq (.loc n),qq (.loc p),qz,qz,qz,qz,qz] (aQ S n p ns k x rs)=qq (.nx [qq (.loc n),qq (.loc p),qq (.d jK),qq (.d (.str wd.s)),qq (.d (.int w)),qq (.d rr.d),e6'],aQ S n p ns k' x' (aN++[rr])):=by
  have s01':∀ r:Sx,xs (aD fns (d+4)) (.seq (cX 0) (.seq (cX 1) r)) [qq (.loc n),qq (.loc p),qz,qz,qz,qz,qz] (aQ S n p ns k x rs)=xs (aD fns (d+4)) r [qq (.loc n),qq (.loc p),qq (.d jK),qz,qz,qz,qz] (aQ S n p ns k x rs):=λ r=>by
   simp only[mS,cY] at s01 ⊢;cases q:xs (aD fns (d+4)) (cX 0) [qq (.loc n),qq (.loc p),qz,qz,qz,qz,qz] (aQ S n p ns k x rs) with
   | none=>rw[q] at s01;cases s01
   | some z =>
     obtain⟨fl,S1⟩:=z;rw[q] at s01;cases fl with
     | nx e =>
       simp only[oB] at s01 ⊢;rw[s01];simp only[oB]
     | rt w=>cases s01
     | bk e=>cases s01
     | ct e=>cases s01
  rw[aIh,s01',jT s2,jT s3,jT s4,jT s5];simp only[evs,cX,iZ,yAy,yAz,hU,aDZ h (show aN.length<=1000 by omega)]
 show((xs (aD fns (d+4)) iZ [qq (.loc n),qq (.loc p),qz,qz,qz,qz,qz] (aQ S n p ns k x rs)).bind _)=_;rw[full];simp only[oB,h.take]
end
noncomputable def fR(k:Nat):Sx:=match kL with
 | .seq a1 (.seq a2 (.seq a3 (.seq a4 (.seq a5 (.seq a6 _)))))=>[a1,a2,a3,a4,a5,a6].getD k .skip
 | _=>.skip
theorem aHN:kL=.seq (fR 0) (.seq (fR 1) (.seq (fR 2) (.seq (fR 3) (.seq (fR 4) (.seq (fR 5) .skip))))):=rfl
theorem aGi(ns:List Int)(k:Nat)(x:Int)(rs:List Rw)(o:List D):aQ [qz,qz,qq o] 0 1 ns k x rs=[qq (cN ns k x),qq (rs.map Rw.d),qq o]:=rfl
theorem pW:At [qz,qz] 0 1:=⟨⟨by decide,by decide⟩,by decide⟩
theorem tT(o:List D):At [qz,qz,qq o] 0 1:=⟨⟨by show 0<3;decide,by decide⟩,by show 1<3;decide⟩
theorem aHF(d most:Nat)(ns:List Int)(hm:most<=30)(kk:Nat)(xx:Int)(hkk:kk<=40000):∃ (rs:List Rw) (aB:List Nat) (k:Nat) (x:Int),cW [] rs/\0<rs.length/\rs.length<=40/\(∀ o∈aB,o<rs.length)/\0<aB.length/\aB.length<=8/\k<=kk+1000 /\
 cl fns (d+6) 24 [.loc 0,.d (.int most)] [qq (cN ns kk xx)]=qq (.d (.tuple [.tuple (rs.map Rw.d),.tuple (aB.map nD)]),[qq (cN ns k x)]):=by
 obtain⟨w,x0,qI,cC,e0⟩:=aDG (ns:=ns) (k:=kk) (x:=xx) (rs:=[]) at1 (d+3) (by omega)
 rw[aGu,aGu] at e0;have p0:xs (aD fns (d+5)) (fR 0) [qq (.loc 0),qq (.d (.int most)),qz,qz,qz,qz] [qq (cN ns kk xx)]=qq (.nx [qq (.loc 0),qq (.d (.int most)),qq (.loc 1),qz,qz,qz],aQ [qz,qz] 0 1 ns (kk+3) x0 [⟨.in,w,[]⟩]):=by
  simp only[evs,fR,kL,yAy,yAz,gK,e0];rfl
 obtain⟨env1,S1,p1,a3,rs,k1,x1,ok1,l0,l1,hk1,rfl,rfl⟩:=aA3 (t:=.one 3) (fi:=lv (aD fns (d+5)) uG) (fb:=xs (aD fns (d+5)) uF) (env:=[qq (.loc 0),qq (.d (.int most)),qq (.loc 1),qz,qz,qz]) (S:=aQ [qz,qz] 0 1 ns (kk+3) x0 [⟨.in,w,[]⟩])
  (λ j env S=>∃ (a3:Option W) (rs:List Rw) (k:Nat) (x:Int),cW [] rs/\0<rs.length/\rs.length<=40/\k<=kk+3+20*j/\env=[qq (.loc 0),qq (.d (.int most)),qq (.loc 1),a3,qz,qz]/\S=aQ [qz,qz] 0 1 ns k x rs)
  (show lv (aD fns (d+5)) uG _ _=qq ((yBe most).map (λ k=>yAl (k:Nat)),_) by
    simp only[uG,sI,rD,pD,rL];exact oF (by simp only[evs]) (by omega))
  ⟨qz,[⟨.in,w,[]⟩],kk+3,x0,⟨⟨qI,cC,True.intro⟩,True.intro⟩,by simp,by simp,by omega,rfl,rfl⟩ (by
   rintro j dd env S hj ⟨a3,rs,k,x,ok,l0,l1,hk,rfl,rfl⟩;have hj':j<most:=by simpa using hj
   refine⟨[qq (.loc 0),qq (.d (.int most)),qq (.loc 1),qq (.d dd),qz,qz],[qq (.loc 0),qq (.d (.int most)),qq (.loc 1),qq (.d dd),qz,qz],?_⟩
   by_cases c:rs.length<37
   ·have d1:decide (((rs.length:Nat):Int)<37)=true:=dqT (by omega)
    obtain⟨k',x',aN,ok',g1,g2,hk',e⟩:=aLz (ns:=ns) (k:=k) (x:=x) pW d ok l0 (by omega) (by omega)
    refine⟨_,rfl,?_,qq (.d dd),aN,k',x',ok',by omega,by omega,by omega,rfl,rfl⟩
    simp only[evs,uF,pW.rows,cI,cM,gD,dH,d1,e]
   ·have d1:decide (((rs.length:Nat):Int)<37)=false:=dqF (by omega)
    refine⟨_,rfl,?_,qq (.d dd),rs,k,x,ok,l0,l1,by omega,rfl,rfl⟩
    simp only[evs,uF,pW.rows,cI,cM,gD,dH,d1])
 have hk2:k1<=kk+700:=by simp at hk1;omega
 obtain⟨q,x2,hq,e2⟩:=eV (ns:=ns) (k:=k1) (x:=x1) (rs:=rs) pW.toAt0 (d+4) rs.length l0 (by omega) (by omega)
 have len1:((rs.length:Nat):Int)-1=((rs.length-1:Nat):Int):=by omega
 have p2:xs (aD fns (d+5)) (fR 2) [qq (.loc 0),qq (.d (.int most)),qq (.loc 1),a3,qz,qz] (aQ [qz,qz] 0 1 ns k1 x1 rs)=qq (.nx [qq (.loc 0),qq (.d (.int most)),qq (.loc 1),a3,qq (.d (.list [.int ((rs.length-1:Nat):Int),.int q])),qz],aQ [qz,qz] 0 1 ns (k1+1) x2 rs):=by
  simp only[evs,fR,kL,yAy,yAz,pW.rows,cI,cM,gD,gU,len1,e2]
 obtain⟨q3,x3,hq3,e3⟩:=gS (ns:=ns) (k:=k1+1) (x:=x2) (rs:=rs) pW.toAt0 (d+4) 4 (i:=4) rfl (by decide) (by decide) (by omega)
 obtain⟨b3,hb3,eb3⟩:=yG ((q3:Int)==1);obtain⟨y,hy,ey⟩:=at2 (.int ((rs.length-1:Nat):Int)) (.int q) hb3;obtain⟨o1,ho1,rfl⟩:∃ o:Nat,o<rs.length/\y=.int o:=by
  rcases hy with rfl | rfl
  ·exact⟨_,by omega,rfl⟩
  ·exact⟨_,hq,rfl⟩
 have p3:xs (aD fns (d+5)) (fR 3) [qq (.loc 0),qq (.d (.int most)),qq (.loc 1),a3,qq (.d (.list [.int ((rs.length-1:Nat):Int),.int q])),qz] (aQ [qz,qz] 0 1 ns (k1+1) x2 rs)=qq (.nx [qq (.loc 0),qq (.d (.int most)),qq (.loc 1),a3,qq (.d (.list [.int ((rs.length-1:Nat):Int),.int q])),qq (.loc 2)],aQ [qz,qz,qq ([o1].map nD)] 0 1 ns (k1+2) x3 rs):=by
  simp only[evs,fR,kL,yAy,yAz,gK,e3,cE,pB,oX,eb3,ey];rfl
 obtain⟨q4,x4,hq4,e4⟩:=gS (ns:=ns) (k:=k1+2) (x:=x3) (rs:=rs) (tT ([o1].map nD)).toAt0 (d+4) 3 (i:=3) rfl (by decide) (by decide) (by omega)
 obtain⟨q5,x5,hq5,e5⟩:=gS (ns:=ns) (k:=k1+3) (x:=x4) (rs:=rs) (tT ([o1].map nD)).toAt0 (d+4) 8 (i:=8) rfl (by decide) (by decide) (by omega)
 obtain⟨b5,hb5,eb5⟩:=yG ((q5:Int)==1);obtain⟨z,hz,ez⟩:=at2 (.int q4) (.int 7) hb5;obtain⟨m,hm7,rfl⟩:∃ m:Nat,m<=7/\z=.int m:=by
  rcases hz with rfl | rfl
  ·exact⟨_,by omega,rfl⟩
  ·exact⟨7,by decide,rfl⟩
 obtain⟨env2,S2,p4,a3',aB,k6,x6,ho,ol,hk6,rfl,rfl⟩:=aA3 (t:=.one 3) (fi:=lv (aD fns (d+5)) yT) (fb:=xs (aD fns (d+5)) yU) (env:=[qq (.loc 0),qq (.d (.int most)),qq (.loc 1),a3,qq (.d (.list [.int ((rs.length-1:Nat):Int),.int q])),qq (.loc 2)]) (S:=aQ [qz,qz,qq ([o1].map nD)] 0 1 ns (k1+2) x3 rs) (S1:=aQ [qz,qz,qq ([o1].map nD)] 0 1 ns (k1+4) x5 rs) (ds:=(yBe m).map (λ k=>yAl (k:Nat)))
  (λ j env S=>∃ (a3:Option W) (aB:List Nat) (k:Nat) (x:Int),(∀ o∈aB,o<rs.length)/\aB.length=j+1/\k<=k1+4+j/\env=[qq (.loc 0),qq (.d (.int most)),qq (.loc 1),a3,qq (.d (.list [.int ((rs.length-1:Nat):Int),.int q])),qq (.loc 2)]/\S=aQ [qz,qz,qq (aB.map nD)] 0 1 ns k x rs)
  (by
    simp only[yT,sI,rD,pD,rL];refine oF ?_ (by omega)
    simp only[yAj,yCi] at e4 e5;simp only[evs,e4,e5,cE,pB,oX,eb5,ez])
  ⟨a3,[o1],k1+4,x5,by simpa using ho1,rfl,by omega,rfl,rfl⟩ (by
   rintro j dd env S hj ⟨a3,aB,k,x,ho,ol,hk,rfl,rfl⟩;have hj':j<m:=by simpa using hj
   obtain⟨q6,x6,hq6,e6⟩:=eV (ns:=ns) (k:=k) (x:=x) (rs:=rs) (tT (aB.map nD)).toAt0 (d+4) rs.length l0 (by omega) (by omega)
   refine⟨[qq (.loc 0),qq (.d (.int most)),qq (.loc 1),qq (.d dd),qq (.d (.list [.int ((rs.length-1:Nat):Int),.int q])),qq (.loc 2)],[qq (.loc 0),qq (.d (.int most)),qq (.loc 1),qq (.d dd),qq (.d (.list [.int ((rs.length-1:Nat):Int),.int q])),qq (.loc 2)],aQ [qz,qz,qq ((aB++[q6]).map nD)] 0 1 ns (k+1) x6 rs,rfl,?_,qq (.d dd),aB++[q6],k+1,x6,?_,by simp;omega,by omega,rfl,rfl⟩
   ·have ap:eG (aQ [qz,qz,qq (aB.map nD)] 0 1 ns (k+1) x6 rs) (.loc 2) (.d (.int q6))=qq (.d .none,aQ [qz,qz,qq ((aB++[q6]).map nD)] 0 1 ns (k+1) x6 rs):=by
     rw[aGi,aGi];unfold eG;simp only[yCr,yBj];rw[if_pos (by rw[yAg,zx];omega),yAw]
     rfl
    simp only[evs,yU,(tT (aB.map nD)).rows,cI,cM,gD,e6,hU,ap]
   ·intro o h;rcases List.mem_append.mp h with z | z
    ·exact ho o z
    ·rw[List.mem_singleton.mp z];exact hq6)
 have ol':aB.length=m+1:=by simpa using ol
 have hk7:k6<=k1+4+m:=by simpa using hk6
 refine⟨rs,aB,k6,x6,ok1,l0,l1,ho,by omega,by omega,by omega,?_⟩
 rw[cP rfl (d+5) _ _ rfl];have full:xs (aD fns (d+5)) kL [qq (.loc 0),qq (.d (.int most)),qz,qz,qz,qz] [qq (cN ns kk xx)]=qq (.rt (.d (.tuple [.tuple (rs.map Rw.d),.tuple (aB.map nD)])),aQ [qz,qz,qq (aB.map nD)] 0 1 ns k6 x6 rs):=by
  have p1':xs (aD fns (d+5)) (fR 1) [qq (.loc 0),qq (.d (.int most)),qq (.loc 1),qz,qz,qz] (aQ [qz,qz] 0 1 ns (kk+3) x0 [⟨.in,w,[]⟩])=qq (.nx [qq (.loc 0),qq (.d (.int most)),qq (.loc 1),a3,qz,qz],aQ [qz,qz] 0 1 ns k1 x1 rs):=p1;have p4':xs (aD fns (d+5)) (fR 4) [qq (.loc 0),qq (.d (.int most)),qq (.loc 1),a3,qq (.d (.list [.int ((rs.length-1:Nat):Int),.int q])),qq (.loc 2)] (aQ [qz,qz,qq ([o1].map nD)] 0 1 ns (k1+2) x3 rs)=qq (.nx [qq (.loc 0),qq (.d (.int most)),qq (.loc 1),a3',qq (.d (.list [.int ((rs.length-1:Nat):Int),.int q])),qq (.loc 2)],aQ [qz,qz,qq (aB.map nD)] 0 1 ns k6 x6 rs):=p4;rw[aHN,jT p0,jT p1',jT p2,jT p3,jT p4'];have g2:(aQ [qz,qz,qq (aB.map nD)] 0 1 ns k6 x6 rs)[2]? = qq (qq (aB.map nD)):=rfl;simp only[evs,fR,kL,yAy,yAz,(tT (aB.map nD)).rows,g2,rS,rO]
 show((xs (aD fns (d+5)) kL [qq (.loc 0),qq (.d (.int most)),qz,qz,qz,qz] [qq (cN ns kk xx)]).bind _)=_;rw[full];simp only[oB,kF];rfl
noncomputable def dA:Wd->Nat
 | .in | .num=>0
 | .not | .left | .right | .slide | .cut | .wide | .sign=>1
 | .pick=>3
 | _=>2
theorem aEm(wd:Wd):wS lL (.str wd.s)=qq (.int (dA wd:Nat)):=by cases wd<;>kernel_rfl
theorem mX(r:Rw):bC r.d (.int 0)=qq (.str r.wd.s):=oP (xs:=.str r.wd.s::nD r.w::r.args.map nD) (k:=0) rfl
theorem aEl{fa:FE}{fl fh:FO}{env:aU}{S:aC}(r:Rw)(c:Nat)(h1:fa env S=qq (.d r.d,S))(h2:fl env S=qq (qq 2,S))(h3:fh env S=qq (qq ((2+c:Nat):Int),S)):fO fa fl fh env S=qq (.d (.tuple ((r.args.take c).map nD)),S):=by
 have i2:HT.sIx (yAa r.wd.s::nD r.w::r.args.map nD).length 0 (qq 2)=2:=by
  rw[show(2:Int)=((2:Nat):Int) from rfl,HT.sIx_nat]
  simp
 have e:dJ (yAa r.wd.s::nD r.w::r.args.map nD) (qq 2) (qq ((2+c:Nat):Int))=(r.args.take c).map nD:=by
  unfold dJ;rw[i2,HT.sIx_nat];simp only[List.drop_succ_cons,yCu,yCh,yAg];rw[List.map_take];rcases Nat.le_total c r.args.length with z | z
  ·rw[yEq (by omega),show 2+c-2=c by omega]
  ·rw[yFi (by omega),yBm (by simp),yBm (by simpa using z)]
 unfold fO;rw[h1,oB];simp only[];rw[h2,oB];simp only[];rw[h3,oB];simp only[dr,oB,Rw.d];rw[e]
theorem aCA(d:Nat)(r:Rw)(S:aC):cl fns (d+1) 3 [.d r.d] S=qq (.d (.tuple ((r.args.take (dA r.wd)).map nD)),S):=by
 have e2:(2:Int)+((dA r.wd:Nat):Int)=((2+dA r.wd:Nat):Int):=by omega
 have sl:ev (aD fns d) (.sl (.var 0) (.cons (.int 2) .nil) (.cons (.bin .Add (.int 2) (.tab "OPERAND_COUNTS" lL (.ix (.var 0) (.int 0)))) .nil)) [qq (.d r.d)] S=qq (.d (.tuple ((r.args.take (dA r.wd)).map nD)),S):=by
  simp only[aBv];refine aEl r (dA r.wd) (by simp only[evs]) (by simp only[evs,eD]) ?_
  simp only[evs,eD,mX,aEm,cU,e2]
 rw[cP rfl d _ S rfl];show((cY (lY (ev (aD fns d) (.sl (.var 0) (.cons (.int 2) .nil) (.cons (.bin .Add (.int 2) (.tab "OPERAND_COUNTS" lL (.ix (.var 0) (.int 0)))) .nil)))) mW) [qq (.d r.d)] S).bind _=_;simp only[cY,lY,sl,oB,kF,yAh]
theorem aJR(d w:Nat)(h:w<=100000)(S:aC):cl fns (d+1) 0 [.d (.int w)] S=qq (.d (.int ((2^w-1:Nat):Int)),S):=by
 rw[cP rfl d _ S rfl];simp only[evs,cK,aFF,iH h,gU,aAf]
section
variable {C : Calls}{CX : fK}{tb : Str -> Str -> Option Bool}
theorem xk{a b:Xx}{env e1:aU}{S S1:aC}{r:Option (FlX×aC)}(h:xx C CX tb a env S=qq (.fl (.nx e1),S1))(k:xx C CX tb b e1 S1=r):xx C CX tb (.seq a b) env S=r:=by
 show(xx C CX tb a env S).bind _=r;rw[h];exact k
theorem wE{a b:Xx}{env:aU}{S S1:aC}{w:W}(h:xx C CX tb a env S=qq (.fl (.rt w),S1)):xx C CX tb (.seq a b) env S=qq (.fl (.rt w),S1):=by
 show(xx C CX tb a env S).bind _=_;rw[h];rfl
theorem gH{a b:Xx}{env e:aU}{S S1:aC}{c:Str}{r:D}(h:xx C CX tb a env S=qq (.ex e c r,S1)):xx C CX tb (.seq a b) env S=qq (.ex e c r,S1):=by
 show(xx C CX tb a env S).bind _=_;rw[h];rfl
theorem fF{a:Sx}{env:aU}{S S1:aC}{fl:Fl}(h:xs C a env S=qq (fl,S1)):xx C CX tb (.s a) env S=qq (.fl fl,S1):=by
 show(xs C a env S).bind _=_;rw[h];rfl
theorem tO{c:E}{a b:Xx}{env:aU}{S S1:aC}{r:Option (FlX×aC)}(h:tv C c env S=qq (true,S1))(k:xx C CX tb a env S1=r):xx C CX tb (.ifs c a b) env S=r:=by
 show(tv C c env S).bind _=r;rw[h];exact k
theorem gP{c:E}{a b:Xx}{env:aU}{S S1:aC}{r:Option (FlX×aC)}(h:tv C c env S=qq (false,S1))(k:xx C CX tb b env S1=r):xx C CX tb (.ifs c a b) env S=r:=by
 show(tv C c env S).bind _=r;rw[h];exact k
end
noncomputable def aE:Str->Str->Option Bool:=nN xl
inductive Ft4 where
 | width | row | fit | number
noncomputable def Ft4.c:Ft4->Str
 | .width => "NoWidth" | .row => "NoRow" | .fit => "NoFit" | .number => "NoNumber"
noncomputable def Ft4.s:Ft4->Str
 | .width => "width" | .row => "row" | .fit => "fit" | .number => "number"
noncomputable def gO:Wd->Nat
 | .in=>0
 | .num | .not | .cut | .wide | .sign=>1
 | .pick=>3
 | _=>2
def Ar(r:Rw):Prop:=r.args.length=gO r.wd
noncomputable def bP(a b:Nat):Bool:=((a:Nat):Int)==((b:Nat):Int)
noncomputable def aI(rs:List Rw)(a:Nat):Rw:=rs.getD a ⟨.in,0,[]⟩
noncomputable def dS(wd:Wd)(w:Nat)(vs:List Nat):Bool:=match wd with
 | .same | .less | .under=>bP w 1&&bP (vs.getD 0 0) (vs.getD 1 0)
 | .pick=>bP (vs.getD 0 0) 1&&(bP (vs.getD 1 0) w&&bP (vs.getD 2 0) w)
 | .cut=>decide (((w:Nat):Int)<=((vs.getD 0 0:Nat):Int))
 | .wide | .sign=>decide (((vs.getD 0 0:Nat):Int)<=((w:Nat):Int))
 | _=>vs.all λ v=>bP v w
noncomputable def fM(r:Rw):Bool:=match r.wd with
 | .num=>decide (r.args.getD 0 0<2^r.w)
 | .left | .right | .slide=>decide (r.args.getD 1 0<=63)
 | _=>true
noncomputable def bI(r:Rw):List Nat:=r.args.take (dA r.wd)
noncomputable def fP(rs:List Rw)(k:Nat)(r:Rw):Option Ft4:=
 if r.w<1\/64<r.w then qq .width
 else if (bI r).any (λ a=>decide (((k:Nat):Int)<=((a:Nat):Int)))=true then qq .row
 else if dS r.wd r.w ((bI r).map λ a=>(aI rs a).w)=false then qq .fit
 else if fM r=false then qq .number else qz
theorem aJO(wd:Wd):dA wd<=gO wd:=by cases wd<;>decide
theorem aAM{r:Rw}(h:Ar r):(bI r).length=dA r.wd:=by
 unfold bI;rw[yBs,h];exact yEq (aJO r.wd)
theorem aBe{r:Rw}(h:Ar r):(bI r).length<=3:=by
 rw[aAM h];cases r.wd<;>decide
theorem aEq(a:Wd):bA .In (.str a.s) (.tuple [.str "wide",.str "sign"])=qq (.bool (decide (a=.wide\/a=.sign))):=by cases a<;>rfl
theorem sG{vs:List Nat}{k:Nat}(h:k<vs.length):bC (.tuple (vs.map nD)) (.int k)=qq (.int ((vs.getD k 0:Nat):Int)):=by
 refine oP ?_;rw[xAb,yAd h,yCf,yAd h];rfl
theorem jU{vs:List Nat}{k:Nat}(h:k<vs.length):bC (.list (vs.map nD)) (.int k)=qq (.int ((vs.getD k 0:Nat):Int)):=sG h
theorem aPX(a b c x y z:Int):bA .Eq (.tuple [.int a,.int b,.int c]) (.tuple [.int x,.int y,.int z])=qq (.bool ((a==x)&&((b==y)&&(c==z)))):=by
 unfold bA lA;simp only[PyData.canLay0,yCo,yEv,yCe,yCg,yFe,Bool.and_true,Bool.true_and];rfl
theorem aNS{vs:List Nat}(h:vs.length=3):vs.map nD=[.int ((vs.getD 0 0:Nat):Int),.int ((vs.getD 1 0:Nat):Int),.int ((vs.getD 2 0:Nat):Int)]:=by
 match vs,h with
 | [a,b,c],_=>rfl
theorem all_map{α:Type}(g:α->Bool)(l:List α):wX [.list (l.map λ x=>yBf (g x))]=qq (.bool (l.all g)):=by
 have:jS (l.map λ x=>yBf (g x))=qq (l.map g):=by
  induction l with
  | nil=>rfl
  | cons a l ih=>simp only[yAj,jS,ih,oB]
 show(jS _).bind _=_;rw[this,oB];simp[List.all_map]
theorem any_map{α:Type}(g:α->Bool)(l:List α):xC [.list (l.map λ x=>yBf (g x))]=qq (.bool (l.any g)):=by
 have:jS (l.map λ x=>yBf (g x))=qq (l.map g):=by
  induction l with
  | nil=>rfl
  | cons a l ih=>simp only[yAj,jS,ih,oB]
 show(jS _).bind _=_;rw[this,oB];simp[List.any_map]
theorem aD7{wd:Wd}(h1:¬(wd=.same\/wd=.less\/wd=.under))(h2:¬ wd=.pick)(h3:¬ wd=.cut)(h4:¬(wd=.wide\/wd=.sign))(w:Nat)(vs:List Nat):dS wd w vs=vs.all λ v=>bP v w:=by
 cases wd<;>first | rfl | (exact absurd rfl h2) | (exact absurd rfl h3) | (exact absurd (.inl rfl) h1) | (exact absurd (.inr (.inl rfl)) h1) | (exact absurd (.inr (.inr rfl)) h1) | (exact absurd (.inl rfl) h4) | (exact absurd (.inr rfl) h4)
theorem aKS(d:Nat)(r:Rw)(vs:List Nat)(hv:vs.length=dA r.wd)(S:aC):cl fns (d+1) 5 [.d r.d,.d (.tuple (vs.map nD))] S=qq (.d (.bool (dS r.wd r.w vs)),S):=by
 have r0:=mX r;have r1:=fB r;have t1:=jW (C:=aD fns d) (i:=2) (S:=S) (e:=.con "COMPARES" zR) (env:=[qq (.d r.d),qq (.d (.tuple (vs.map nD))),qq (.d (.str r.wd.s)),qq (.d (.int r.w)),qz]) rfl rfl (uZ r.wd);have t2:=iJ (C:=aD fns d) (i:=2) (S:=S) (x:="pick") (env:=[qq (.d r.d),qq (.d (.tuple (vs.map nD))),qq (.d (.str r.wd.s)),qq (.d (.int r.w)),qz]) rfl (gG r.wd .pick);have t3:=iJ (C:=aD fns d) (i:=2) (S:=S) (x:="cut") (env:=[qq (.d r.d),qq (.d (.tuple (vs.map nD))),qq (.d (.str r.wd.s)),qq (.d (.int r.w)),qz]) rfl (gG r.wd .cut);have t4:=jW (C:=aD fns d) (i:=2) (S:=S) (e:=.con "WIDENINGS" zG) (env:=[qq (.d r.d),qq (.d (.tuple (vs.map nD))),qq (.d (.str r.wd.s)),qq (.d (.int r.w)),qz]) rfl rfl (aEq r.wd);refine dO rfl d rfl rfl yAh (cD (w:=.d (.str r.wd.s)) (S1:=S) (by simp only[evs,r0]) rfl (cD (w:=.d (.int r.w)) (S1:=S) (by simp only[evs,r1]) rfl ?_))
 show xs (aD fns d) _ [qq (.d r.d),qq (.d (.tuple (vs.map nD))),qq (.d (.str r.wd.s)),qq (.d (.int r.w)),qz] S=_
 by_cases c1:r.wd=.same\/r.wd=.less\/r.wd=.under
 ·rw[dqT c1] at t1;have hn:vs.length=2:=by rcases c1 with c | c | c<;>rw[hv,c]<;>rfl
  have g0:bC (.tuple (vs.map nD)) (.int 0)=qq (.int ((vs.getD 0 0:Nat):Int)):=sG (k:=0) (by omega)
  have g1:bC (.tuple (vs.map nD)) (.int 1)=qq (.int ((vs.getD 1 0:Nat):Int)):=sG (k:=1) (by omega)
  have ef:dS r.wd r.w vs=(bP r.w 1&&bP (vs.getD 0 0) (vs.getD 1 0)):=by rcases c1 with c | c | c<;>rw[c]<;>rfl
  rw[ef];refine cR t1 (bM ?_);unfold bP;generalize yAv (vs.map nD)=T at *;rcases yBp (((r.w:Nat):Int)==1) with z | z
  ·simp only[evs,cE,z,g0,g1];rw[show(((r.w:Nat):Int)==((1:Nat):Int))=true from z]
   rfl
  ·simp only[evs,cE,z];rw[show(((r.w:Nat):Int)==((1:Nat):Int))=false from z]
   rfl
 rw[dqF c1] at t1;refine bT t1 ?_
 by_cases c2:r.wd=.pick
 ·rw[dqT c2] at t2;have hn:vs.length=3:=by rw[hv,c2];rfl
  have ef:dS r.wd r.w vs=(bP (vs.getD 0 0) 1&&(bP (vs.getD 1 0) r.w&&bP (vs.getD 2 0) r.w)):=by rw[c2];rfl
  rw[ef];refine cR t2 (bM ?_);have e:=aPX ((vs.getD 0 0:Nat):Int) ((vs.getD 1 0:Nat):Int) ((vs.getD 2 0:Nat):Int) 1 (r.w:Nat) (r.w:Nat);rw[<- aNS hn] at e;simp only[evs,e];rfl
 rw[dqF c2] at t2;refine bT t2 ?_
 by_cases c3:r.wd=.cut
 ·rw[dqT c3] at t3;have hn:vs.length=1:=by rw[hv,c3];rfl
  have ef:dS r.wd r.w vs=decide (((r.w:Nat):Int)<=((vs.getD 0 0:Nat):Int)):=by rw[c3];rfl
  have g0:bC (.tuple (vs.map nD)) (.int 0)=qq (.int ((vs.getD 0 0:Nat):Int)):=sG (k:=0) (by omega)
  rw[ef];exact cR t3 (bM (by simp only[evs,g0,mP]))
 rw[dqF c3] at t3;refine bT t3 ?_
 by_cases c4:r.wd=.wide\/r.wd=.sign
 ·rw[dqT c4] at t4;have hn:vs.length=1:=by rcases c4 with c | c<;>rw[hv,c]<;>rfl
  have ef:dS r.wd r.w vs=decide (((vs.getD 0 0:Nat):Int)<=((r.w:Nat):Int)):=by rcases c4 with c | c<;>rw[c]<;>rfl
  have g0:bC (.tuple (vs.map nD)) (.int 0)=qq (.int ((vs.getD 0 0:Nat):Int)):=sG (k:=0) (by omega)
  rw[ef];exact cR t4 (bM (by simp only[evs,g0,vX]))
 rw[dqF c4] at t4;refine bT t4 (bM ?_);rw[aD7 c1 c2 c3 c4];have hc:lv (aD fns d) aCn [qq (.d r.d),qq (.d (.tuple (vs.map nD))),qq (.d (.str r.wd.s)),qq (.d (.int r.w)),qz] S=qq (vs.map (λ v=>yBf (bP v r.w)),S):=by
  refine iI (fi:=lv (aD fns d) (.it (.var 1))) (fe:=ev (aD fns d) (.cmp .Eq (.var 4) (.var 3))) nD (λ v=>yBf (bP v r.w)) vs ?_ (by rw[zx,hv];cases r.wd<;>decide) λ v _=>?_
  ·simp only[evs,eN]
  ·refine⟨_,rfl,λ S'=>?_⟩
   simp only[evs,clr,yAk,yAo,nD,cE];rfl
 simp only[evs,hc,all_map]
theorem ar1{r:Rw}(h:r.args.length=1):bC r.d (.int 2)=qq (.int ((r.args.getD 0 0:Nat):Int)):=by
 obtain⟨wd,w,args⟩:=r
 match args,h with
 | [a],_=>rfl
theorem ar2{r:Rw}(h:r.args.length=2):bC r.d (.int 3)=qq (.int ((r.args.getD 1 0:Nat):Int)):=by
 obtain⟨wd,w,args⟩:=r
 match args,h with
 | [a,b],_=>rfl
theorem aKR(a w:Nat):decide (((a:Nat):Int)<=((2^w-1:Nat):Int))=decide (a<2^w):=by
 have:=Nat.two_pow_pos w;rw[decide_eq_decide];omega
theorem aEz{r:Rw}(h1:¬ r.wd=.num)(h2:¬(r.wd=.left\/r.wd=.right\/r.wd=.slide)):fM r=true:=by
 obtain⟨wd,w,args⟩:=r;cases wd<;>first | rfl | (exact absurd rfl h1) | (exact absurd (.inl rfl) h2) | (exact absurd (.inr (.inl rfl)) h2) | (exact absurd (.inr (.inr rfl)) h2)
theorem aKH(d:Nat)(r:Rw)(ar:Ar r)(hw:r.w<=64)(S:aC):cl fns (d+2) 6 [.d r.d] S=qq (.d (.bool (fM r)),S):=by
 have r0:=mX r;have r1:=fB r;refine dO rfl (d+1) rfl rfl yAh ?_;show xs (aD fns (d+1)) _ [qq (.d r.d)] S=_
 by_cases c1:r.wd=.num
 ·have e1:bA .Eq (.str r.wd.s) (.str "num")=qq (.bool true):=by have:=gG r.wd .num;rw[dqT c1] at this;exact this
  have a1:=ar1 (r:=r) (by rw[ar,c1];rfl)
  have fu:=aJR d r.w (by omega) S
  have ef:fM r=decide (r.args.getD 0 0<2^r.w):=by unfold fM;rw[c1]
  rw[ef,<- aKR];generalize r.d=R at *;exact cR (S1:=S) (by simp only[evs,r0,e1]) (bM (by simp only[evs,a1,r1,fu,vX]))
 have e1:bA .Eq (.str r.wd.s) (.str "num")=qq (.bool false):=by have:=gG r.wd .num;rw[dqF c1] at this;exact this
 refine bT (S1:=S) (by simp only[evs,r0,e1]) ?_
 by_cases c2:r.wd=.left\/r.wd=.right\/r.wd=.slide
 ·have e2:bA .In (.str r.wd.s) (.tuple (oK.map Tv.d))=qq (.bool true):=by have:=qS r.wd;rw[dqT c2] at this;exact this
  have a2:=ar2 (r:=r) (by rw[ar];rcases c2 with c | c | c<;>rw[c]<;>rfl)
  have ef:fM r=decide (r.args.getD 1 0<=63):=by unfold fM;rcases c2 with c | c | c<;>rw[c]
  have ee:decide (((r.args.getD 1 0:Nat):Int)<=63)=decide (r.args.getD 1 0<=63):=by rw[decide_eq_decide];omega
  rw[ef,<- ee];generalize r.d=R at *;exact cR (S1:=S) (by simp only[evs,r0,e2]) (bM (by simp only[evs,a2,vX]))
 have e2:bA .In (.str r.wd.s) (.tuple (oK.map Tv.d))=qq (.bool false):=by have:=qS r.wd;rw[dqF c2] at this;exact this
 rw[aEz c1 c2];exact bT (S1:=S) (by simp only[evs,r0,e2]) (bM (by simp only[evs]))
theorem aAS{rs:List Rw}{a:Nat}(h:a<rs.length):bC (.tuple (rs.map Rw.d)) (.int a)=qq (aI rs a).d:=by
 refine oP ?_;unfold aI;rw[xAb,yAd h,yCf,yAd h];rfl
theorem aJp(d:Nat)(rs:List Rw)(r:Rw)(ar:Ar r)(h:∀ a∈bI r,a<rs.length)(S:aC):cl fns (d+2) 4 [.d r.d,.d (.tuple (rs.map Rw.d))] S=qq (.d (.tuple ((bI r).map λ a=>(aI rs a).d)),S):=by
 have op:=aCA d r S;refine dO rfl (d+1) rfl rfl yAh ?_;show xs (aD fns (d+1)) _ [qq (.d r.d),qq (.d (.tuple (rs.map Rw.d))),qz] S=_;have hc:lv (aD fns (d+1)) aCl [qq (.d r.d),qq (.d (.tuple (rs.map Rw.d))),qz] S=qq ((bI r).map (λ a=>(aI rs a).d),S):=by
  refine iI (fi:=lv (aD fns (d+1)) (.it (.call 3 (.cons (.var 0) .nil)))) (fe:=ev (aD fns (d+1)) (.ix (.var 1) (.var 2))) nD (λ a=>(aI rs a).d) (bI r) ?_ (by rw[zx];have:=aBe ar;omega) λ a ha=>?_
  ·simp only[evs,op,eN];rfl
  ·refine⟨_,rfl,λ S'=>?_⟩
   have g:=aAS (h a ha);simp only[evs,clr,yAk,yAo,nD,g]
 exact bM (by simp only[evs,hc,rS,rO])
noncomputable def kX(rs:List Rw):Nat->Nat->Option (Ft4×Nat)
 | 0,_=>qz
 | n+1,k=>match fP rs k (aI rs k) with
   | some f=>qq (f,k)
   | none=>kX rs n (k+1)
noncomputable def eX(rs:List Rw)(aB:List Nat):Option (Ft4×Nat):=match kX rs rs.length 0 with
 | some z=>qq z
 | none=>if aB.any (λ o=>decide (((rs.length:Nat):Int)<=((o:Nat):Int)))=true then qq (.row,rs.length) else qz
noncomputable def aF9(k:Nat):Option Ft4->ResX
 | none=>.ok (.d .none)
 | some f=>.ex f.c (.int k)
noncomputable def aPC:Option (Ft4×Nat)->ResX
 | none=>.ok (.d (.bool true))
 | some z=>.ex z.1.c (.int (z.2:Nat))
theorem aBR{rs:List Rw}{k:Nat}(h:k<rs.length):rs[k]? = qq (aI rs k):=by
 unfold aI;rw[yCf,yAd h];rfl
theorem kW{rs:List Rw}{k:Nat}(h:k<rs.length):aI rs k∈rs:=xAi (aBR h)
theorem mL{C:Calls}{CX:fK}{x:Xx}{n:Nat}{ws:List W}{env e:aU}{S:aC}{c:Str}{r:D}(he:ws.map qq++yAf (n-ws.length) qz=env)(k:xx C CX aE x env S=qq (.ex e c r,S)):fD (xx C CX aE x) n ws S=qq (.ex c r,S):=by
 unfold fD;rw[he,k,oB];show qq (ResX.ex c r,S.take S.length)=_;rw[yAh]
theorem aJN{C:Calls}{CX:fK}{x:Xx}{n:Nat}{ws:List W}{env e:aU}{S:aC}(he:ws.map qq++yAf (n-ws.length) qz=env)(k:xx C CX aE x env S=qq (.fl (.nx e),S)):fD (xx C CX aE x) n ws S=qq (.ok (.d .none),S):=by
 unfold fD;rw[he,k,oB];show qq (ResX.ok (.d .none),S.take S.length)=_;rw[yAh]
theorem aAP{C:Calls}{CX:fK}{x:Xx}{n:Nat}{ws:List W}{env:aU}{S:aC}{y:D}(he:ws.map qq++yAf (n-ws.length) qz=env)(k:xx C CX aE x env S=qq (.fl (.rt (.d y)),S)):fD (xx C CX aE x) n ws S=qq (.ok (.d y),S):=by
 unfold fD;rw[he,k,oB];show qq (ResX.ok (.d y),S.take S.length)=_;rw[yAh]
theorem aBn{C:Calls}{i:Nat}{env:aU}{S:aC}{R:D}{w:Nat}(h:env[i]? = qq (qq (.d R)))(h1:bC R (.int 1)=qq (.int w)):tv C (.or (.cmp .Lt (.ix (.var i) (.int 1)) (.int 1)) (.cmp .Gt (.ix (.var i) (.int 1)) (.int 64))) env S=qq (decide (w<1\/64<w),S):=by
 by_cases c1:w<1
 ·have d1:decide (((w:Nat):Int)<1)=true:=dqT (by omega)
  rw[dqT (Or.inl c1)];simp only[evs,h,h1,dH,d1]
 ·have d1:decide (((w:Nat):Int)<1)=false:=dqF (by omega)
  have d2:decide ((64:Int)<((w:Nat):Int))=decide (w<1\/64<w):=by rw[decide_eq_decide];omega
  rw[<- d2];simp only[evs,h,h1,dH,iK,d1]
theorem aMH(d:Nat)(rs:List Rw)(k:Nat)(hk:k<rs.length)(ar:Ar (aI rs k))(S:aC):eO fns gns aE (d+3) 34 [.d (.tuple (rs.map Rw.d)),.d (.int k)] S=qq (aF9 k (fP rs k (aI rs k)),S):=by
 rw[show eO fns gns aE (d+3) 34=eO fns gns aE (d+3) (fns.length+0) from rfl,rN (x:=aCu) rfl rfl (d+2) _ S rfl]
 have rk:=aAS hk;generalize aI rs k=r at *;have r1:=fB r;have op:bY fns gns aE (d+2) 3 [.d r.d] S=qq (.d (.tuple ((bI r).map nD)),S):=(eC (d+1) 3 _ _ (by decide)).trans (aCA (d+1) r S)
 have of':(∀ a∈bI r,a<rs.length)->bY fns gns aE (d+2) 4 [.d r.d,.d (.tuple (rs.map Rw.d))] S=qq (.d (.tuple ((bI r).map λ a=>(aI rs a).d)),S):=λ h=>(eC (d+1) 4 _ _ (by decide)).trans (aJp d rs r ar h S)
 have wf:∀ vs:List Nat,vs.length=dA r.wd->bY fns gns aE (d+2) 5 [.d r.d,.d (.tuple (vs.map nD))] S=qq (.d (.bool (dS r.wd r.w vs)),S):=λ vs hv=>(eC (d+1) 5 _ _ (by decide)).trans (aKS (d+1) r vs hv S)
 have nf:r.w<=64->bY fns gns aE (d+2) 6 [.d r.d] S=qq (.d (.bool (fM r)),S):=λ h=>(eC (d+1) 6 _ _ (by decide)).trans (aKH d r ar h S)
 have ol:=aAM ar;have o3:=aBe ar;unfold fP;generalize fM r=bn at *;generalize (aF fns gns aE (d+2)).2=CX at *;have ha:lv (aF fns gns aE (d+2)).1 zA [qq (.d (.tuple (rs.map Rw.d))),qq (.d (.int k)),qq (.d r.d),qz,qz,qz] S=qq ((bI r).map (λ a=>yBf (decide (((k:Nat):Int)<=((a:Nat):Int)))),S):=by
  refine iI (fi:=lv (aF fns gns aE (d+2)).1 (.it (.call 3 (.cons (.var 2) .nil)))) (fe:=ev (aF fns gns aE (d+2)).1 (.cmp .GtE (.var 4) (.var 1))) nD (λ a=>yBf (decide (((k:Nat):Int)<=((a:Nat):Int)))) (bI r) ?_ (by rw[zx];omega) λ a _=>?_
  ·simp only[evs,eB,op,eN]
  ·refine⟨_,rfl,λ S'=>?_⟩
   simp only[evs,clr,yAk,yAo,nD,mP]
 have hb:(∀ a∈bI r,a<rs.length)->lv (aF fns gns aE (d+2)).1 yZ [qq (.d (.tuple (rs.map Rw.d))),qq (.d (.int k)),qq (.d r.d),qz,qz,qz] S=qq (((bI r).map λ a=>(aI rs a).w).map nD,S):=λ h=>by
  have of':=of' h;rw[yBg];refine iI (fi:=lv (aF fns gns aE (d+2)).1 (.it (.call 4 (.cons (.var 2) (.cons (.var 0) .nil))))) (fe:=ev (aF fns gns aE (d+2)).1 (.ix (.var 5) (.int 1))) (λ a=>(aI rs a).d) (nD ∘ λ a=>(aI rs a).w) (bI r) ?_ (by rw[zx];omega) λ a _=>?_
  ·simp only[evs,eB,of',eN]
  ·refine⟨_,rfl,λ S'=>?_⟩
   simp only[evs,clr,yAk,yAo,fB];rfl
 have q1:∀ bK,xx (aF fns gns aE (d+2)).1 CX aE (.seq (.s (.set 2 (.ix (.var 0) (.var 1)))) bK) [qq (.d (.tuple (rs.map Rw.d))),qq (.d (.int k)),qz,qz,qz,qz] S=xx (aF fns gns aE (d+2)).1 CX aE bK [qq (.d (.tuple (rs.map Rw.d))),qq (.d (.int k)),qq (.d r.d),qz,qz,qz] S:=λ bK=>xk (fF (by simp only[evs,rk])) rfl
 by_cases c1:r.w<1\/64<r.w
 ·rw[if_pos c1];refine mL rfl ((q1 _).trans (gH (tO (S1:=S) ?_ (gH rfl))));rw[aBn rfl r1,dqT c1]
 rw[if_neg c1];have t1:=aBn (C:=(aF fns gns aE (d+2)).1) (i:=2) (env:=[qq (.d (.tuple (rs.map Rw.d))),qq (.d (.int k)),qq (.d r.d),qz,qz,qz]) (S:=S) rfl r1;rw[dqF c1] at t1;have t2:tv (aF fns gns aE (d+2)).1 (.blt .any (.cons (.fz zA) .nil)) [qq (.d (.tuple (rs.map Rw.d))),qq (.d (.int k)),qq (.d r.d),qz,qz,qz] S=qq ((bI r).any λ a=>decide (((k:Nat):Int)<=((a:Nat):Int)),S):=by
  simp only[evs,ha,any_map]
 by_cases c2:((bI r).any λ a=>decide (((k:Nat):Int)<=((a:Nat):Int)))=true
 ·rw[if_pos c2];rw[c2] at t2;exact mL rfl ((q1 _).trans (xk (gP t1 rfl) (gH (tO t2 (gH rfl)))))
 rw[if_neg c2];have lt:∀ a∈bI r,a<rs.length:=λ a m=>by
  have z:=c2;rw[yEj] at z;rcases yEc a k with q | q
  ·omega
  ·exact absurd ⟨a,m,dqT (by omega)⟩ z
 rw[Bool.eq_false_iff.mpr c2] at t2;have hb:=hb lt;have wf:=wf ((bI r).map λ a=>(aI rs a).w) (by rw[yAg];exact ol)
 have t3:xs (aF fns gns aE (d+2)).1 (.set 3 (.blt .tup (.cons (.fz yZ) .nil))) [qq (.d (.tuple (rs.map Rw.d))),qq (.d (.int k)),qq (.d r.d),qz,qz,qz] S=qq (.nx [qq (.d (.tuple (rs.map Rw.d))),qq (.d (.int k)),qq (.d r.d),qq (.d (.tuple (((bI r).map λ a=>(aI rs a).w).map nD))),qz,qz],S):=by
  simp only[evs,hb,rS,rO]
 have t4:tv (aF fns gns aE (d+2)).1 (.not (.call 5 (.cons (.var 2) (.cons (.var 3) .nil)))) [qq (.d (.tuple (rs.map Rw.d))),qq (.d (.int k)),qq (.d r.d),qq (.d (.tuple (((bI r).map λ a=>(aI rs a).w).map nD))),qz,qz] S=qq (!dS r.wd r.w ((bI r).map λ a=>(aI rs a).w),S):=by
  simp only[evs,eB,wf]
 have t5:tv (aF fns gns aE (d+2)).1 (.not (.call 6 (.cons (.var 2) .nil))) [qq (.d (.tuple (rs.map Rw.d))),qq (.d (.int k)),qq (.d r.d),qq (.d (.tuple (((bI r).map λ a=>(aI rs a).w).map nD))),qz,qz] S=qq (!bn,S):=by
  have nf:=nf (by omega)
  simp only[evs,eB,nf]
 generalize dS r.wd r.w ((bI r).map λ a=>(aI rs a).w)=bf at *
 cases bf with
 | false=>exact mL rfl ((q1 _).trans (xk (gP t1 rfl) (xk (gP t2 rfl) (xk (fF t3) (gH (tO t4 (gH rfl)))))))
 | true =>
   cases bn with
   | false=>exact mL rfl ((q1 _).trans (xk (gP t1 rfl) (xk (gP t2 rfl) (xk (fF t3) (xk (gP t4 rfl) (gH (tO t5 (gH rfl))))))))
   | true=>exact aJN rfl ((q1 _).trans (xk (gP t1 rfl) (xk (gP t2 rfl) (xk (fF t3) (xk (gP t4 rfl) (xk (gP t5 rfl) rfl))))))
theorem zP{rs:List Rw}{n k:Nat}:kX rs (n+1) k=(match fP rs k (aI rs k) with
 | some f=>qq (f,k)
 | none=>kX rs n (k+1)):=rfl
noncomputable def flL(e:aU):Option (Ft4×Nat)->FlX
 | none=>.fl (.nx e)
 | some z=>.ex e z.1.c (.int (z.2:Nat))
theorem aDq(d:Nat)(rs:List Rw)(ar:∀ r∈rs,Ar r)(S:aC)(p o:D):∀ (n j:Nat) (a1:Option W),j+n=rs.length ->
 ∃ a1':Option W,nH (.one 1) (xx (aF fns gns aE (d+3)).1 (aF fns gns aE (d+3)).2 aE lN) ((List.range' j n).map nD) [qq (.d p),a1,qq (.d (.tuple (rs.map Rw.d))),qq (.d o),qz] S=qq (flL [qq (.d p),a1',qq (.d (.tuple (rs.map Rw.d))),qq (.d o),qz] (kX rs n j),S)
 | 0,j,a1,_=>⟨a1,rfl⟩
 | n+1,j,a1,h=>by
   have la:=aMH d rs j (by omega) (ar _ (kW (by omega))) S
   obtain⟨a1',ih⟩:=aDq d rs ar S p o n (j+1) (qq (.d (nD j))) (by omega)
   rw[zP];have eb:xx (aF fns gns aE (d+3)).1 (aF fns gns aE (d+3)).2 aE (.cal 34 (.cons (.var 2) (.cons (.var 1) .nil))) [qq (.d p),qq (.d (nD j)),qq (.d (.tuple (rs.map Rw.d))),qq (.d o),qz] S=nF (λ _ S'=>qq (aF9 j (fP rs j (aI rs j)),S')) [qq (.d p),qq (.d (nD j)),qq (.d (.tuple (rs.map Rw.d))),qq (.d o),qz] S:=by
    show nF (jE (aF fns gns aE (d+3)).2 34 (av (aF fns gns aE (d+3)).1 (.cons (.var 2) (.cons (.var 1) .nil)))) _ S=_;have e:av (aF fns gns aE (d+3)).1 (.cons (.var 2) (.cons (.var 1) .nil)) [qq (.d p),qq (.d (nD j)),qq (.d (.tuple (rs.map Rw.d))),qq (.d o),qz] S=qq ([.d (.tuple (rs.map Rw.d)),.d (nD j)],S):=by simp only[evs]
    unfold nF;rw[uR,e,oB];show yDb (eO fns gns aE (d+3) 34 [.d (.tuple (rs.map Rw.d)),.d (.int j)] S) _=_;rw[la]
   generalize (aF fns gns aE (d+3)).1=C at *;generalize (aF fns gns aE (d+3)).2=CX at *;show ∃ a1',((xx C CX aE lN [qq (.d p),qq (.d (nD j)),qq (.d (.tuple (rs.map Rw.d))),qq (.d o),qz] S).bind λ q=>_)=_
   cases hf:fP rs j (aI rs j) with
   | none =>
     rw[hf] at eb;refine⟨a1',?_⟩;rw[show xx C CX aE lN [qq (.d p),qq (.d (nD j)),qq (.d (.tuple (rs.map Rw.d))),qq (.d o),qz] S=qq (.fl (.nx [qq (.d p),qq (.d (nD j)),qq (.d (.tuple (rs.map Rw.d))),qq (.d o),qz]),S) from xk eb rfl,oB]
     exact ih
   | some f =>
     rw[hf] at eb;refine⟨qq (.d (nD j)),?_⟩;rw[show xx C CX aE lN [qq (.d p),qq (.d (nD j)),qq (.d (.tuple (rs.map Rw.d))),qq (.d o),qz] S=qq (.ex [qq (.d p),qq (.d (nD j)),qq (.d (.tuple (rs.map Rw.d))),qq (.d o),qz] f.c (.int j),S) from gH eb,oB]
     rfl
noncomputable def aY(rs:List Rw)(aB:List Nat):D:=.tuple [.tuple (rs.map Rw.d),.tuple (aB.map nD)]
theorem aJ1(d:Nat)(rs:List Rw)(aB:List Nat)(ar:∀ r∈rs,Ar r)(hl:rs.length<=1000)(ho:aB.length<=1000)(S:aC):eO fns gns aE (d+4) 35 [.d (aY rs aB)] S=qq (aPC (eX rs aB),S):=by
 rw[show eO fns gns aE (d+4) 35=eO fns gns aE (d+4) (fns.length+1) from rfl,rN (x:=aFH) rfl rfl (d+3) _ S rfl]
 obtain⟨a1,lo⟩:=aDq d rs ar S (aY rs aB) (.tuple (aB.map nD)) rs.length 0 qz (by omega)
 rw[<- List.range_eq_range'] at lo;unfold eX;generalize kX rs rs.length 0=z at *;have ll:fS [.tuple (rs.map Rw.d)]=qq (.int rs.length):=by rw[cM,yAg]
 have pu:Tg.put (.many [2,3]) (aY rs aB) [qq (.d (aY rs aB)),qz,qz,qz,qz]=qq [qq (.d (aY rs aB)),qz,qq (.d (.tuple (rs.map Rw.d))),qq (.d (.tuple (aB.map nD))),qz]:=rfl;generalize aY rs aB=P at *;generalize (aF fns gns aE (d+3)).1=C at *;generalize (aF fns gns aE (d+3)).2=CX at *;have i0:lv C qR [qq (.d P),qz,qq (.d (.tuple (rs.map Rw.d))),qq (.d (.tuple (aB.map nD))),qz] S=qq ((yBe rs.length).map nD,S):=by
  refine oF ?_ (by omega)
  generalize yAv (rs.map Rw.d)=R at *;simp only[evs,ll]
 have hc:lv C aAA [qq (.d P),a1,qq (.d (.tuple (rs.map Rw.d))),qq (.d (.tuple (aB.map nD))),qz] S=qq (aB.map (λ o=>yBf (decide (((rs.length:Nat):Int)<=((o:Nat):Int)))),S):=by
  refine iI (fi:=lv C (.it (.var 3))) (fe:=ev C (.cmp .GtE (.var 4) (.blt .len (.cons (.var 2) .nil)))) nD (λ o=>yBf (decide (((rs.length:Nat):Int)<=((o:Nat):Int)))) aB ?_ (by rw[zx];omega) λ a _=>?_
  ·simp only[evs,eN]
  ·refine⟨_,rfl,λ S'=>?_⟩
   generalize yAv (rs.map Rw.d)=R at *;simp only[evs,clr,yAk,yAo,ll,nD,mP]
 have ta:tv C (.blt .any (.cons (.fz aAA) .nil)) [qq (.d P),a1,qq (.d (.tuple (rs.map Rw.d))),qq (.d (.tuple (aB.map nD))),qz] S=qq (aB.any λ o=>decide (((rs.length:Nat):Int)<=((o:Nat):Int)),S):=by
  simp only[evs,hc,any_map]
 have s1:xx C CX aE (.s (.setT (.many [2,3]) (.var 0))) [qq (.d P),qz,qz,qz,qz] S=qq (.fl (.nx [qq (.d P),qz,qq (.d (.tuple (rs.map Rw.d))),qq (.d (.tuple (aB.map nD))),qz]),S):=by
  refine fF ?_;show lT _ _ _ _=_;unfold lT;rw[show ev C (.var 0) [qq (.d P),qz,qz,qz,qz] S=qq (.d P,S) from rfl,oB]
  show(Tg.put _ _ _).bind _=_;rw[pu];rfl
 have s2:xx C CX aE (.loop (.one 1) qR lN) [qq (.d P),qz,qq (.d (.tuple (rs.map Rw.d))),qq (.d (.tuple (aB.map nD))),qz] S=qq (flL [qq (.d P),a1,qq (.d (.tuple (rs.map Rw.d))),qq (.d (.tuple (aB.map nD))),qz] z,S):=by
  show pT (.one 1) (lv C qR) (xx C CX aE lN) _ _=_;unfold pT;rw[i0,oB];exact lo
 cases z with
 | some z=>exact mL rfl (xk s1 (gH s2))
 | none =>
   have s2:xx C CX aE (.loop (.one 1) qR lN) [qq (.d P),qz,qq (.d (.tuple (rs.map Rw.d))),qq (.d (.tuple (aB.map nD))),qz] S=qq (.fl (.nx [qq (.d P),a1,qq (.d (.tuple (rs.map Rw.d))),qq (.d (.tuple (aB.map nD))),qz]),S):=s2;dsimp only
   by_cases c:(aB.any λ o=>decide (((rs.length:Nat):Int)<=((o:Nat):Int)))=true
   ·rw[c] at ta;rw[if_pos c];have ra:xx C CX aE (.raise1 "NoRow" (.blt .len (.cons (.var 2) .nil))) [qq (.d P),a1,qq (.d (.tuple (rs.map Rw.d))),qq (.d (.tuple (aB.map nD))),qz] S=qq (.ex [qq (.d P),a1,qq (.d (.tuple (rs.map Rw.d))),qq (.d (.tuple (aB.map nD))),qz] "NoRow" (.int rs.length),S):=by
     show vB "NoRow" _ _ _=_;unfold vB;generalize yAv (rs.map Rw.d)=R at *;simp only[evs,ll]
    exact mL rfl (xk s1 (xk s2 (gH (tO ta (gH ra)))))
   ·rw[Bool.eq_false_iff.mpr c] at ta;rw[if_neg c];exact aAP rfl (xk s1 (xk s2 (xk (gP ta rfl) (wE (fF (by simp only[evs]))))))
theorem aKV(a:Wd):bA .In (.str a.s) (.tuple [.str "in",.str "num"])=qq (.bool (decide (a=.in\/a=.num))):=by cases a<;>rfl
theorem aMD(a:Wd):bA .In (.str a.s) (.tuple [.str "and",.str "or",.str "xor",.str "add",.str "sub",.str "mul",.str "same",.str "less",.str "under"])=qq (.bool (decide (dA a=2))):=by cases a<;>kernel_rfl
theorem aJ0(d:Nat)(a:Wd)(S:aC):cl fns (d+1) 25 [.d (.str a.s)] S=qq (.d (.int (dA a:Nat)),S):=by
 have t1:=jW (C:=aD fns d) (i:=0) (S:=S) (e:=.tup (.cons (.str "in") (.cons (.str "num") .nil))) (env:=[qq (.d (.str a.s))]) rfl rfl (aKV a);have t2:=jW (C:=aD fns d) (i:=0) (S:=S) (e:=.tup (.cons (.str "and") (.cons (.str "or") (.cons (.str "xor") (.cons (.str "add") (.cons (.str "sub") (.cons (.str "mul") (.cons (.str "same") (.cons (.str "less") (.cons (.str "under") .nil)))))))))) (env:=[qq (.d (.str a.s))]) rfl rfl (aMD a);refine dO rfl d rfl rfl yAh ?_;show xs (aD fns d) _ [qq (.d (.str a.s))] S=_
 by_cases c1:a=.in\/a=.num
 ·rw[dqT c1] at t1;rw[show dA a=0 by rcases c1 with c | c<;>rw[c]<;>rfl]
  exact cR t1 (bM rfl)
 rw[dqF c1] at t1;refine bT t1 ?_
 by_cases c2:dA a=2
 ·rw[dqT c2] at t2;rw[c2];exact cR t2 (bM rfl)
 rw[dqF c2] at t2;refine bT t2 (bM ?_);have e:=gG a .pick
 by_cases c3:a=.pick
 ·rw[dqT c3] at e;have e:bA .Eq (.str a.s) (.str "pick")=qq (.bool true):=e;rw[show dA a=3 by rw[c3];rfl]
  simp only[evs,e,pB,oX,oQ (i:=2) (j:=1) (by decide) (by decide),cU]
  rfl
 ·rw[dqF c3] at e;have e:bA .Eq (.str a.s) (.str "pick")=qq (.bool false):=e;have h1:dA a=1:=by
   cases a<;>first | rfl | (exact absurd rfl c3) | (exact absurd rfl c2) | (exact absurd (.inl rfl) c1) | (exact absurd (.inr rfl) c1)
  rw[h1];simp only[evs,e,pB,oX,oQ (i:=2) (j:=0) (by decide) (by decide),cU]
  rfl
theorem aKN(vs:List Nat)(w:Nat):(vs.filter λ v=>!(((v:Nat):Int)==((w:Nat):Int))).isEmpty=vs.all λ v=>bP v w:=by
 induction vs with
 | nil=>rfl
 | cons a l ih =>
   rw[yCt,yDr,<- ih];unfold bP;cases ((a:Nat):Int)==((w:Nat):Int)<;>rfl
theorem aH1(d:Nat)(r:Rw)(vs:List Nat)(hv:vs.length=dA r.wd)(S:aC):cl fns (d+1) 26 [.d r.d,.d (.list (vs.map nD))] S=qq (.d (.bool (dS r.wd r.w vs)),S):=by
 have r0:=mX r;have r1:=fB r;have t1:=jW (C:=aD fns d) (i:=2) (S:=S) (e:=.tup (.cons (.str "same") (.cons (.str "less") (.cons (.str "under") .nil)))) (env:=[qq (.d r.d),qq (.d (.list (vs.map nD))),qq (.d (.str r.wd.s)),qz]) rfl rfl (uZ r.wd);have t2:=iJ (C:=aD fns d) (i:=2) (S:=S) (x:="pick") (env:=[qq (.d r.d),qq (.d (.list (vs.map nD))),qq (.d (.str r.wd.s)),qz]) rfl (gG r.wd .pick);have t3:=iJ (C:=aD fns d) (i:=2) (S:=S) (x:="cut") (env:=[qq (.d r.d),qq (.d (.list (vs.map nD))),qq (.d (.str r.wd.s)),qz]) rfl (gG r.wd .cut);have t4:=jW (C:=aD fns d) (i:=2) (S:=S) (e:=.tup (.cons (.str "wide") (.cons (.str "sign") .nil))) (env:=[qq (.d r.d),qq (.d (.list (vs.map nD))),qq (.d (.str r.wd.s)),qz]) rfl rfl (aEq r.wd);refine dO rfl d rfl rfl yAh (cD (w:=.d (.str r.wd.s)) (S1:=S) (by simp only[evs,r0]) rfl ?_)
 show xs (aD fns d) _ [qq (.d r.d),qq (.d (.list (vs.map nD))),qq (.d (.str r.wd.s)),qz] S=_
 by_cases c1:r.wd=.same\/r.wd=.less\/r.wd=.under
 ·rw[dqT c1] at t1;have hn:vs.length=2:=by rcases c1 with c | c | c<;>rw[hv,c]<;>rfl
  have g0:bC (.list (vs.map nD)) (.int 0)=qq (.int ((vs.getD 0 0:Nat):Int)):=jU (k:=0) (by omega)
  have g1:bC (.list (vs.map nD)) (.int 1)=qq (.int ((vs.getD 1 0:Nat):Int)):=jU (k:=1) (by omega)
  have ef:dS r.wd r.w vs=(bP r.w 1&&bP (vs.getD 0 0) (vs.getD 1 0)):=by rcases c1 with c | c | c<;>rw[c]<;>rfl
  rw[ef];refine cR t1 (bM ?_);unfold bP;generalize yBh (vs.map nD)=T at *;rcases yBp (((r.w:Nat):Int)==1) with z | z
  ·simp only[evs,r1,cE,z,g0,g1];rw[show(((r.w:Nat):Int)==((1:Nat):Int))=true from z]
   rfl
  ·simp only[evs,r1,cE,z];rw[show(((r.w:Nat):Int)==((1:Nat):Int))=false from z]
   rfl
 rw[dqF c1] at t1;refine bT t1 ?_
 by_cases c3:r.wd=.cut
 ·rw[dqT c3] at t3;have hn:vs.length=1:=by rw[hv,c3];rfl
  have ef:dS r.wd r.w vs=decide (((r.w:Nat):Int)<=((vs.getD 0 0:Nat):Int)):=by rw[c3];rfl
  have g0:bC (.list (vs.map nD)) (.int 0)=qq (.int ((vs.getD 0 0:Nat):Int)):=jU (k:=0) (by omega)
  rw[ef];exact cR t3 (bM (by simp only[evs,g0,r1,mP]))
 rw[dqF c3] at t3;refine bT t3 ?_
 by_cases c4:r.wd=.wide\/r.wd=.sign
 ·rw[dqT c4] at t4;have hn:vs.length=1:=by rcases c4 with c | c<;>rw[hv,c]<;>rfl
  have ef:dS r.wd r.w vs=decide (((vs.getD 0 0:Nat):Int)<=((r.w:Nat):Int)):=by rcases c4 with c | c<;>rw[c]<;>rfl
  have g0:bC (.list (vs.map nD)) (.int 0)=qq (.int ((vs.getD 0 0:Nat):Int)):=jU (k:=0) (by omega)
  rw[ef];exact cR t4 (bM (by simp only[evs,g0,r1,vX]))
 rw[dqF c4] at t4;refine bT t4 ?_
 by_cases c2:r.wd=.pick
 ·rw[dqT c2] at t2;have hn:vs.length=3:=by rw[hv,c2];rfl
  have ef:dS r.wd r.w vs=(bP (vs.getD 0 0) 1&&(bP (vs.getD 1 0) r.w&&bP (vs.getD 2 0) r.w)):=by rw[c2];rfl
  have g0:bC (.list (vs.map nD)) (.int 0)=qq (.int ((vs.getD 0 0:Nat):Int)):=jU (k:=0) (by omega)
  have g1:bC (.list (vs.map nD)) (.int 1)=qq (.int ((vs.getD 1 0:Nat):Int)):=jU (k:=1) (by omega)
  have g2:bC (.list (vs.map nD)) (.int 2)=qq (.int ((vs.getD 2 0:Nat):Int)):=jU (k:=2) (by omega)
  rw[ef];refine cR t2 (bM ?_);have u1:(((vs.getD 0 0:Nat):Int)==1)=bP (vs.getD 0 0) 1:=rfl;have u2:(((vs.getD 1 0:Nat):Int)==((r.w:Nat):Int))=bP (vs.getD 1 0) r.w:=rfl;have u3:(((vs.getD 2 0:Nat):Int)==((r.w:Nat):Int))=bP (vs.getD 2 0) r.w:=rfl;generalize yBh (vs.map nD)=T at *;generalize bP (vs.getD 0 0) 1=b1 at *;generalize bP (vs.getD 1 0) r.w=b2 at *;generalize bP (vs.getD 2 0) r.w=b3 at *;cases b1<;>cases b2<;>simp only[evs,g0,g1,g2,r1,cE,u1,u2,u3,yEx,Bool.true_and]
 rw[dqF c2] at t2;refine bT t2 (bM ?_);rw[aD7 c1 c2 c3 c4,<- aKN];have hc:lv (aD fns d) aCk [qq (.d r.d),qq (.d (.list (vs.map nD))),qq (.d (.str r.wd.s)),qz] S=qq ((vs.filter λ v=>!(((v:Nat):Int)==((r.w:Nat):Int))).map nD,S):=by
  refine uX (fi:=lv (aD fns d) (.it (.var 1))) (fc:=tv (aD fns d) (.cmp .NotEq (.var 3) (.ix (.var 0) (.int 1)))) (fe:=ev (aD fns d) (.var 3)) nD nD (λ v=>!(((v:Nat):Int)==((r.w:Nat):Int))) vs ?_ (by rw[zx,hv];cases r.wd<;>decide) λ v _=>?_
  ·simp only[evs,eN]
  ·refine⟨_,rfl,λ aG=>?_,λ _ aG=>?_⟩
   ·simp only[evs,clr,yAk,yAo,nD,r1,aA7]
   ·simp only[evs,clr,yAk,yAo]
 simp only[evs,hc,aMo]
noncomputable def kY(k:Nat):Option Ft4->D
 | none=>.tuple [.str "good",.bool true]
 | some f=>.tuple [.str f.s,.int k]
noncomputable def kB:Option (Ft4×Nat)->D
 | none=>.tuple [.str "good",.bool true]
 | some z=>.tuple [.str z.1.s,.int (z.2:Nat)]
theorem aAi{rs:List Rw}{a:Nat}(h:a<rs.length):bC (.list (rs.map Rw.d)) (.int a)=qq (aI rs a).d:=aAS h
theorem aEE(l:List Nat)(k:Nat):(!(l.filter λ a=>decide (((k:Nat):Int)<=((a:Nat):Int))).isEmpty)=l.any λ a=>decide (((k:Nat):Int)<=((a:Nat):Int)):=by
 induction l with
 | nil=>rfl
 | cons a l ih =>
   rw[yCt,yFc,<- ih];cases decide (((k:Nat):Int)<=((a:Nat):Int))<;>rfl
theorem aNn{C:Calls}{i:Nat}{env:aU}{S:aC}{r:Rw}(h:env[i]? = qq (qq (.d r.d)))(ar:Ar r)(hw:r.w<=64):tv C (.or (.and (.cmp .Eq (.ix (.var i) (.int 0)) (.str "num")) (.cmp .GtE (.ix (.var i) (.int 2)) (.bin .LShift (.int 1) (.ix (.var i) (.int 1))))) (.and (.cmp .In (.ix (.var i) (.int 0)) (.tup (.cons (.str "left") (.cons (.str "right") (.cons (.str "slide") .nil))))) (.cmp .Gt (.ix (.var i) (.int 3)) (.int 63)))) env S=qq (!fM r,S):=by
 have r0:=mX r;have r1:=fB r;have is:=qS r.wd;have en:=gG r.wd .num;have en:bA .Eq (.str r.wd.s) (.str "num")=qq (.bool (decide (r.wd=.num))):=en
 by_cases c1:r.wd=.num
 ·rw[dqT c1] at en;rw[dqF (by rw[c1];decide)] at is
  have a1:=ar1 (r:=r) (by rw[ar,c1];rfl)
  have sh:=iH (w:=r.w) (by omega)
  have ef:fM r=decide (r.args.getD 0 0<2^r.w):=by unfold fM;rw[c1]
  have eg:decide (((2^r.w:Nat):Int)<=((r.args.getD 0 0:Nat):Int)) = !decide (r.args.getD 0 0<2^r.w):=by rw[<- decide_not,decide_eq_decide];omega
  rw[ef,<- eg];generalize r.d=R at *;cases hd:decide (((2^r.w:Nat):Int)<=((r.args.getD 0 0:Nat):Int))<;>simp only[evs,h,r0,r1,en,a1,sh,mP,hd,is]
 rw[dqF c1] at en
 by_cases c2:r.wd=.left\/r.wd=.right\/r.wd=.slide
 ·rw[dqT c2] at is;have a2:=ar2 (r:=r) (by rw[ar];rcases c2 with c | c | c<;>rw[c]<;>rfl)
  have ef:fM r=decide (r.args.getD 1 0<=63):=by unfold fM;rcases c2 with c | c | c<;>rw[c]
  have eg:decide ((63:Int)<((r.args.getD 1 0:Nat):Int)) = !decide (r.args.getD 1 0<=63):=by rw[<- decide_not,decide_eq_decide];omega
  rw[ef,<- eg];generalize r.d=R at *;simp only[evs,h,r0,en,a2,iK,is]
 rw[dqF c2] at is;rw[aEz c1 c2];generalize r.d=R at *;simp only[evs,h,r0,en,is]
theorem aIp(d:Nat)(rs:List Rw)(k:Nat)(hk:k<rs.length)(ar:Ar (aI rs k))(S:aC):cl fns (d+2) 27 [.d (.list (rs.map Rw.d)),.d (.int k)] S=qq (.d (kY k (fP rs k (aI rs k))),S):=by
 have rk:=aAi hk;generalize aI rs k=r at *;have r0:=mX r;have r1:=fB r;have mn:=aJ0 d r.wd S;have ol:=aAM ar;have o3:=aBe ar;have e2:(2:Int)+((dA r.wd:Nat):Int)=((2+dA r.wd:Nat):Int):=by omega
 have sl:ev (aD fns (d+1)) (.sl (.var 2) (.cons (.int 2) .nil) (.cons (.bin .Add (.int 2) (.call 25 (.cons (.ix (.var 2) (.int 0)) .nil))) .nil)) [qq (.d (.list (rs.map Rw.d))),qq (.d (.int k)),qq (.d r.d),qz,qz] S=qq (.d (.tuple ((bI r).map nD)),S):=by
  simp only[aBv];refine aEl r (dA r.wd) (by simp only[evs]) (by simp only[evs,eD]) ?_
  simp only[evs,eD,mX,mn,cU,e2]
 refine dO rfl (d+1) rfl rfl yAh (cD (w:=.d r.d) (S1:=S) (by simp only[evs,rk]) rfl (cD sl rfl ?_))
 show xs (aD fns (d+1)) _ [qq (.d (.list (rs.map Rw.d))),qq (.d (.int k)),qq (.d r.d),qq (.d (.tuple ((bI r).map nD))),qz] S=_;have t1:=aBn (C:=aD fns (d+1)) (i:=2) (env:=[qq (.d (.list (rs.map Rw.d))),qq (.d (.int k)),qq (.d r.d),qq (.d (.tuple ((bI r).map nD))),qz]) (S:=S) rfl r1;unfold fP
 by_cases c1:r.w<1\/64<r.w
 ·rw[if_pos c1];rw[dqT c1] at t1;exact cR t1 (bM rfl)
 rw[if_neg c1];rw[dqF c1] at t1;refine bT t1 ?_;have hc:lv (aD fns (d+1)) yY [qq (.d (.list (rs.map Rw.d))),qq (.d (.int k)),qq (.d r.d),qq (.d (.tuple ((bI r).map nD))),qz] S=qq (((bI r).filter λ a=>decide (((k:Nat):Int)<=((a:Nat):Int))).map nD,S):=by
  refine uX (fi:=lv (aD fns (d+1)) (.it (.var 3))) (fc:=tv (aD fns (d+1)) (.cmp .GtE (.var 4) (.var 1))) (fe:=ev (aD fns (d+1)) (.var 4)) nD nD (λ a=>decide (((k:Nat):Int)<=((a:Nat):Int))) (bI r) ?_ (by rw[zx];omega) λ v _=>?_
  ·simp only[evs,eN]
  ·refine⟨_,rfl,λ aG=>?_,λ _ aG=>?_⟩
   ·simp only[evs,clr,yAk,yAo,nD,mP]
   ·simp only[evs,clr,yAk,yAo]
 have t2:tv (aD fns (d+1)) (.cmp .NotEq (.fz yY) (.fz (.lst .nil))) [qq (.d (.list (rs.map Rw.d))),qq (.d (.int k)),qq (.d r.d),qq (.d (.tuple ((bI r).map nD))),qz] S=qq ((bI r).any λ a=>decide (((k:Nat):Int)<=((a:Nat):Int)),S):=by
  rw[<- aEE];simp only[evs,hc,aAZ]
 by_cases c2:((bI r).any λ a=>decide (((k:Nat):Int)<=((a:Nat):Int)))=true
 ·rw[if_pos c2];rw[c2] at t2;exact cR t2 (bM rfl)
 rw[if_neg c2];have lt:∀ a∈bI r,a<rs.length:=λ a m=>by
  have z:=c2;rw[yEj] at z;rcases yEc a k with q | q
  ·omega
  ·exact absurd ⟨a,m,dqT (by omega)⟩ z
 rw[Bool.eq_false_iff.mpr c2] at t2;refine bT t2 ?_;have hb:lv (aD fns (d+1)) yV [qq (.d (.list (rs.map Rw.d))),qq (.d (.int k)),qq (.d r.d),qq (.d (.tuple ((bI r).map nD))),qz] S=qq (((bI r).map λ a=>(aI rs a).w).map nD,S):=by
  rw[yBg];refine iI (fi:=lv (aD fns (d+1)) (.it (.var 3))) (fe:=ev (aD fns (d+1)) (.ix (.ix (.var 0) (.var 4)) (.int 1))) nD (nD ∘ λ a=>(aI rs a).w) (bI r) ?_ (by rw[zx];omega) λ a ha=>?_
  ·simp only[evs,eN]
  ·refine⟨_,rfl,λ S'=>?_⟩
   have g:=aAi (lt a ha);simp only[evs,clr,yAk,yAo,nD,g,fB];rfl
 have ft:=aH1 d r ((bI r).map λ a=>(aI rs a).w) (by rw[yAg];exact ol) S
 have t4:tv (aD fns (d+1)) (.not (.call 26 (.cons (.var 2) (.cons (.fz yV) .nil)))) [qq (.d (.list (rs.map Rw.d))),qq (.d (.int k)),qq (.d r.d),qq (.d (.tuple ((bI r).map nD))),qz] S=qq (!dS r.wd r.w ((bI r).map λ a=>(aI rs a).w),S):=by
  simp only[evs,hb,ft]
 have t5:=aNn (C:=aD fns (d+1)) (i:=2) (env:=[qq (.d (.list (rs.map Rw.d))),qq (.d (.int k)),qq (.d r.d),qq (.d (.tuple ((bI r).map nD))),qz]) (S:=S) rfl ar (by omega)
 generalize dS r.wd r.w ((bI r).map λ a=>(aI rs a).w)=bf at *
 generalize fM r=bn at *;cases bf with
 | false=>exact cR t4 (bM rfl)
 | true =>
   refine bT t4 ?_;cases bn with
   | false=>exact cR t5 (bM rfl)
   | true=>exact bT t5 (bM rfl)
theorem aJP(f:Ft4):bA .NotEq (.str f.s) (.str "good")=qq (.bool true):=by cases f<;>kernel_rfl
theorem aI7:bA .NotEq (.str "good") (.str "good")=qq (.bool false):=by kernel_rfl
noncomputable def flD(e:aU):Option (Ft4×Nat)->Fl
 | none=>.nx e
 | some z=>.rt (.d (kB (qq z)))
theorem aDp(d:Nat)(rs:List Rw)(ar:∀ r∈rs,Ar r)(S:aC)(o:D):∀ (n j:Nat) (a2 a3:Option W),j+n=rs.length ->
 ∃ a2' a3':Option W,iT (.one 2) (xs (aD fns (d+2)) jO) ((List.range' j n).map nD) [qq (.d (.list (rs.map Rw.d))),qq (.d o),a2,a3,qz] S=qq (flD [qq (.d (.list (rs.map Rw.d))),qq (.d o),a2',a3',qz] (kX rs n j),S)
 | 0,j,a2,a3,_=>⟨a2,a3,rfl⟩
 | n+1,j,a2,a3,h=>by
   have la:=aIp d rs j (by omega) (ar _ (kW (by omega))) S
   obtain⟨a2',a3',ih⟩:=aDp d rs ar S o n (j+1) (qq (.d (nD j))) (qq (.d (kY j (fP rs j (aI rs j))))) (by omega)
   rw[zP];have s1:xs (aD fns (d+2)) (.set 3 (.call 27 (.cons (.var 0) (.cons (.var 2) .nil)))) [qq (.d (.list (rs.map Rw.d))),qq (.d o),qq (.d (nD j)),a3,qz] S=qq (.nx [qq (.d (.list (rs.map Rw.d))),qq (.d o),qq (.d (nD j)),qq (.d (kY j (fP rs j (aI rs j)))),qz],S):=by
    simp only[evs,nD,la]
   show ∃ a2' a3',((xs (aD fns (d+2)) jO [qq (.d (.list (rs.map Rw.d))),qq (.d o),qq (.d (nD j)),a3,qz] S).bind λ q=>_)=_
   generalize aD fns (d+2)=C at *;generalize yBh (rs.map Rw.d)=R at *;cases hf:fP rs j (aI rs j) with
   | none =>
     rw[hf] at s1 ih;refine⟨a2',a3',?_⟩;have e:xs C jO [qq (.d R),qq (.d o),qq (.d (nD j)),a3,qz] S=qq (.nx [qq (.d R),qq (.d o),qq (.d (nD j)),qq (.d (kY j qz)),qz],S):=by
      refine eY s1 (bT (S1:=S) ?_ rfl);have i0:bC (kY j qz) (.int 0)=qq (.str "good"):=rfl;generalize kY j qz=T at *;simp only[evs,i0,aI7]
     rw[e,oB];exact ih
   | some f =>
     rw[hf] at s1;refine⟨qq (.d (nD j)),qz,?_⟩;have e:xs C jO [qq (.d R),qq (.d o),qq (.d (nD j)),a3,qz] S=qq (.rt (.d (kY j (qq f))),S):=by
      refine eY s1 (cR (S1:=S) ?_ (bM rfl));have i0:bC (kY j (qq f)) (.int 0)=qq (.str f.s):=rfl;generalize kY j (qq f)=T at *;simp only[evs,i0,aJP f]
     rw[e,oB];rfl
theorem aLt(d:Nat)(rs:List Rw)(aB:List Nat)(ar:∀ r∈rs,Ar r)(hl:rs.length<=1000)(ho:aB.length<=1000)(S:aC):cl fns (d+3) 28 [.d (.list (rs.map Rw.d)),.d (.tuple (aB.map nD))] S=qq (.d (kB (eX rs aB)),S):=by
 obtain⟨a2,a3,lo⟩:=aDp d rs ar S (.tuple (aB.map nD)) rs.length 0 qz qz (by omega)
 rw[<- List.range_eq_range'] at lo;unfold eX;generalize kX rs rs.length 0=z at *;have ll:fS [.list (rs.map Rw.d)]=qq (.int rs.length):=by rw[cI,yAg]
 refine dO rfl (d+2) rfl rfl yAh ?_;show xs (aD fns (d+2)) aCX [qq (.d (.list (rs.map Rw.d))),qq (.d (.tuple (aB.map nD))),qz,qz,qz] S=_;generalize aD fns (d+2)=C at *;generalize yBh (rs.map Rw.d)=R at *;have i0:lv C mJ [qq (.d R),qq (.d (.tuple (aB.map nD))),qz,qz,qz] S=qq ((yBe rs.length).map nD,S):=by
  refine oF ?_ (by omega)
  simp only[evs,ll]
 have s1:xs C (.loop (.one 2) mJ jO) [qq (.d R),qq (.d (.tuple (aB.map nD))),qz,qz,qz] S=qq (flD [qq (.d R),qq (.d (.tuple (aB.map nD))),a2,a3,qz] z,S):=by
  show jH (.one 2) (lv C mJ) (xs C jO) _ _=_;unfold jH;rw[i0,oB];exact lo
 have hc:lv C zD [qq (.d R),qq (.d (.tuple (aB.map nD))),a2,a3,qz] S=qq ((aB.filter λ o=>decide (((rs.length:Nat):Int)<=((o:Nat):Int))).map nD,S):=by
  refine uX (fi:=lv C (.it (.var 1))) (fc:=tv C (.cmp .GtE (.var 4) (.blt .len (.cons (.var 0) .nil)))) (fe:=ev C (.var 4)) nD nD (λ o=>decide (((rs.length:Nat):Int)<=((o:Nat):Int))) aB ?_ (by rw[zx];omega) λ v _=>?_
  ·simp only[evs,eN]
  ·refine⟨_,rfl,λ aG=>?_,λ _ aG=>?_⟩
   ·simp only[evs,clr,yAk,yAo,nD,ll,mP]
   ·simp only[evs,clr,yAk,yAo]
 have t2:tv C (.cmp .NotEq (.fz zD) (.fz (.lst .nil))) [qq (.d R),qq (.d (.tuple (aB.map nD))),a2,a3,qz] S=qq (aB.any λ o=>decide (((rs.length:Nat):Int)<=((o:Nat):Int)),S):=by
  rw[<- aEE];simp only[evs,hc,aAZ]
 cases z with
 | some z =>
   have s1:xs C (.loop (.one 2) mJ jO) [qq (.d R),qq (.d (.tuple (aB.map nD))),qz,qz,qz] S=qq (.rt (.d (kB (qq z))),S):=s1;show(xs C (.loop (.one 2) mJ jO) [qq (.d R),qq (.d (.tuple (aB.map nD))),qz,qz,qz] S).bind _=_;rw[s1];rfl
 | none =>
   have s1:xs C (.loop (.one 2) mJ jO) [qq (.d R),qq (.d (.tuple (aB.map nD))),qz,qz,qz] S=qq (.nx [qq (.d R),qq (.d (.tuple (aB.map nD))),a2,a3,qz],S):=s1;refine eY s1 ?_;dsimp only
   by_cases c:(aB.any λ o=>decide (((rs.length:Nat):Int)<=((o:Nat):Int)))=true
   ·rw[c] at t2;rw[if_pos c];refine cR t2 (bM ?_);simp only[evs,ll];rfl
   ·rw[Bool.eq_false_iff.mpr c] at t2;rw[if_neg c];exact bT t2 (bM rfl)
noncomputable def jl(c:Nat):List (List Nat)->List Nat
 | []=>[]
 | [a]=>a
 | a::b::r=>a++c::jl c (b::r)
theorem vI(c:Nat):∀ ps:List Str,(Txt.join ⟨#[c]⟩ ps).cps.toList=jl c (ps.map λ p=>p.cps.toList):=by
 intro ps;rw[show Txt.join ⟨#[c]⟩ ps=Str.join ⟨#[c]⟩ ps from StrLaws.glued_eq_join _ ps]
 induction ps with
 | nil=>rfl
 | cons a r ih =>
   cases r with
   | nil=>rfl
   | cons b r =>
     show(a++⟨#[c]⟩++Str.join ⟨#[c]⟩ (b::r)).cps.toList=_;rw[Str.cps_append,Str.cps_append,Array.toList_append,Array.toList_append,ih];show a.cps.toList++[c]++_=_;rw[yDe];rfl
theorem aED{c:Nat}:∀ {a b r s:List Nat},c ∉ a->c ∉ b->a++c::r=b++c::s->a=b/\r=s
 | [],[],r,s,_,_,h=>⟨rfl,(List.cons.inj h).2⟩
 | [],y::b,r,s,_,hb,h=>absurd (by rw[(List.cons.inj h).1];exact xAd) hb
 | x::a,[],r,s,ha,_,h=>absurd (by rw[<- (List.cons.inj h).1];exact xAd) ha
 | x::a,y::b,r,s,ha,hb,h=>by
   obtain⟨h1,h2⟩:=List.cons.inj h;obtain⟨i1,i2⟩:=aED (λ z=>ha (xAf _ z)) (λ z=>hb (xAf _ z)) h2
   exact⟨by rw[h1,i1],i2⟩
theorem aFd{c:Nat}:∀ {as bs:List (List Nat)},as≠[]->bs≠[]->(∀ a∈as,c ∉ a)->(∀ b∈bs,c ∉ b)->jl c as=jl c bs->as=bs
 | [],_,h,_,_,_,_=>absurd rfl h
 | _::_,[],_,h,_,_,_=>absurd rfl h
 | [a],[b],_,_,_,_,h=>by
   have h:a=b:=h;rw[h]
 | [a],b::b'::r,_,_,ha,_,h=>absurd (by
    have h:a=b++c::jl c (b'::r):=h;rw[h];simp) (ha a xAd)
 | a::a'::r,[b],_,_,_,hb,h=>absurd (by
    have h:a++c::jl c (a'::r)=b:=h;rw[<- h];simp) (hb b xAd)
 | a::a'::r,b::b'::s,_,_,ha,hb,h=>by
   obtain⟨h1,h2⟩:=aED (ha a xAd) (hb b xAd) h;rw[h1,aFd (by simp) (by simp) (λ x m=>ha x (xAf _ m)) (λ x m=>hb x (xAf _ m)) h2]
theorem aCD:∀ {ps qs:List Str},(ps.map λ p=>p.cps.toList)=(qs.map λ p=>p.cps.toList)->ps=qs
 | [],[],_=>rfl
 | [],_::_,h=>by cases h
 | _::_,[],h=>by cases h
 | p::ps,q::qs,h=>by
   obtain⟨h1,h2⟩:=List.cons.inj h;rw[aCD h2,Str.ext' (Array.toList_inj.mp h1)]
theorem aIV(x:Str)(c:Nat):Txt.split x ⟨#[c]⟩≠[]:=by
 unfold Txt.split
 split
 ·simp
 ·split
  ·simp
  ·intro h;have:=congrArg List.length h;rw[length_partsBetween] at this;simp at this
theorem aHU{c:Nat}{ps:List Str}(hne:ps≠[])(hf:∀ p∈ps,c ∉ p.cps.toList):Txt.split (Txt.join ⟨#[c]⟩ ps) ⟨#[c]⟩=ps:=by
 have e:Str.join ⟨#[c]⟩ (Txt.split (Txt.join ⟨#[c]⟩ ps) ⟨#[c]⟩)=Txt.join ⟨#[c]⟩ ps:=StrLaws.join_split _ _;have e2:jl c ((Txt.split (Txt.join ⟨#[c]⟩ ps) ⟨#[c]⟩).map λ p=>p.cps.toList)=jl c (ps.map λ p=>p.cps.toList):=by
  rw[<- vI,<- vI,show Txt.join ⟨#[c]⟩ (Txt.split (Txt.join ⟨#[c]⟩ ps) ⟨#[c]⟩)=Str.join ⟨#[c]⟩ (Txt.split (Txt.join ⟨#[c]⟩ ps) ⟨#[c]⟩) from StrLaws.glued_eq_join _ _,e]
 refine aCD (aFd (λ z=>aIV _ c (List.map_eq_nil_iff.mp z)) (λ z=>hne (List.map_eq_nil_iff.mp z)) (λ a m=>?_) (λ a m=>?_) e2)
 ·obtain⟨p,mp,rfl⟩:=List.mem_map.mp m;exact StrLaws.split_free _ c p mp
 ·obtain⟨p,mp,rfl⟩:=List.mem_map.mp m;exact hf p mp
noncomputable def bD(n:Nat):Str:=Str.ofString (toString ((n:Nat):Int))
theorem vD(m:Nat):(bD m).cps.toList=(yEe 10 m).map Char.toNat:=PySem.W.KIN.signs_num m
theorem qZ(m:Nat):∀ c∈(bD m).cps.toList,48<=c/\c<=57:=λ c hc=>by
 rw[vD] at hc;obtain⟨ch,hch,e⟩:=List.mem_map.mp hc;have r:=PyProof.Rows.digit_range (Nat.isDigit_of_mem_toDigits (by decide) (by decide) hch)
 rw[<- e];exact r
theorem aA9(m:Nat):(bD m).cps.toList≠[]:=by
 rw[vD];intro e;have h:=toDigits_len_ge 10 m;rw[List.map_eq_nil_iff.mp e] at h;exact absurd h (by decide)
theorem oU{m:Nat}(h:m<10^20):(bD m).length<=20:=PyProof.Rows.toString_length_le (by omega) (by decide) (by exact_mod_cast h)
theorem aJr(m:Nat):1<=(bD m).length:=by
 have:=aA9 m;have e:(bD m).cps.toList.length=(bD m).length:=yBn;cases h:(bD m).cps.toList with
 | nil=>exact absurd h this
 | cons a r=>rw[h] at e;simp at e;omega
theorem aKr{m:Nat}(h:m<10^20):PySem.intText? (bD m)=qq ((m:Nat):Int):=by
 have e:=intText_digits (x:=bD m) (qZ m) (aA9 m) (xAg (oU h) (by decide))
 rw[vD,PySem.W.KIN.val_back] at e;exact e
theorem aPl:∀ m:Nat,m≠0->(yEe 10 m).head?≠qq '0':=by
 intro m
 induction m using Nat.strongRecOn with
 | _ m ih =>
   intro h0
   by_cases h:m<10
   ·rw[Nat.toDigits_of_lt_base h];have:∀ d:Nat,d<10->d≠0->([Nat.digitChar d].head?≠qq '0'):=by decide
    exact this m h h0
   ·have hm:m%10<10:=Nat.mod_lt m (by decide)
    have t:yEe 10 (m/10)++yEe 10 (m%10)=yEe 10 (10*(m/10)+m%10):=Nat.toDigits_append_toDigits (by decide) (by omega) hm
    rw[Nat.div_add_mod] at t;have i:=ih (m/10) (by omega) (by omega)
    rw[<- t];cases e:yEe 10 (m/10) with
    | nil =>
      have h:=toDigits_len_ge 10 (m/10);rw[e] at h;exact absurd h (by decide)
    | cons a r =>
      rw[e] at i;exact i
theorem aIJ{m:Nat}(h:m≠0){c:Nat}(hc:(bD m).cps.toList.head? = qq c):c≠48:=by
 rw[vD,List.head?_map] at hc;obtain⟨ch,e1,e2⟩:=Option.map_eq_some_iff.mp hc;intro z;subst z;have:ch = '0':=Char.toNat_inj.mp e2;rw[this] at e1;exact aPl m h e1
theorem aJm:bD 0 = "0":=by decide
theorem aDk{ws:List Nat}{r:Rw}(h:gZ ws r):Ar r:=by
 obtain⟨wd,w,args⟩:=r;rcases args with _ | ⟨a,_ | ⟨b,_ | ⟨c,_ | ⟨e,t⟩⟩⟩⟩<;>cases wd<;>first | rfl | exact h.2.2.elim
theorem aAb:∀ {rs:List Rw}{ws:List Nat},cW ws rs->∀ r∈rs,Ar r
 | [],_,_,r,h=>by cases h
 | q::rs,ws,⟨h1,h2⟩,r,h=>by
   rcases List.mem_cons.mp h with rfl | h
   ·exact aDk h1
   ·exact aAb h2 r h
theorem aC8:∀ (rs:List Rw) (ws:List Nat),cW ws rs->∀ (j:Nat) (r:Rw),rs[j]? = qq r->gZ (ws++(rs.take j).map (·.w)) r
 | [],_,_,j,r,h=>by simp at h
 | q::rs,ws,⟨h1,h2⟩,0,r,h=>by
   cases h;simpa using h1
 | q::rs,ws,⟨h1,h2⟩,j+1,r,h=>by
   have:=aC8 rs (ws++[q.w]) h2 j r (by simpa using h)
   simpa using this
theorem jP{rs:List Rw}{k:Nat}{r:Rw}(h1:1<=r.w)(h2:r.w<=64)(h3:∀ a∈bI r,a<k)(h4:dS r.wd r.w ((bI r).map λ a=>(aI rs a).w)=true)(h5:fM r=true):fP rs k r=qz:=by
 unfold fP;have c2:¬ ((bI r).any λ a=>decide (((k:Nat):Int)<=((a:Nat):Int)))=true:=λ z=>by
  rw[yEj] at z;obtain⟨a,m,q⟩:=z;have:=h3 a m;have:=oqT q;omega
 rw[if_neg (by omega),if_neg c2,h4,if_neg (by decide),h5,if_neg (by decide)]
theorem pF{a b:Nat}(h:a=b):bP a b=true:=by
 subst h;unfold bP;exact beq_self_eq_true _
theorem aJb{rs:List Rw}{k:Nat}{ws:List Nat}{r:Rw}(hw:∀ a v,ws[a]? = qq v->a<k/\(aI rs a).w=v)(h:gZ ws r):fP rs k r=qz:=by
 have ha:=aDk h;obtain⟨wd,w,args⟩:=r;have e1:∀ {a v:Nat},ws[a]? = qq v->(∀ x∈[a],x<k):=λ q x m=>by
  rw[yBk] at m;subst m;exact(hw _ _ q).1
 have e2:∀ {a b v u:Nat},ws[a]? = qq v->ws[b]? = qq u->(∀ x∈[a,b],x<k):=λ q q' x m=>by
  rcases List.mem_cons.mp m with rfl | m
  ·exact(hw _ _ q).1
  ·exact e1 q' x m
 have a1:∀ {a v:Nat},ws[a]? = qq v->([a].map λ a=>(aI rs a).w)=[v]:=λ q=>by
  rw[yAj,(hw _ _ q).2,yCi]
 have a2:∀ {a b v u:Nat},ws[a]? = qq v->ws[b]? = qq u->([a,b].map λ a=>(aI rs a).w)=[v,u]:=λ q q'=>by
  rw[yAj,(hw _ _ q).2,a1 q']
 have i1:∀ v:Nat,([v].all λ x=>bP x v)=true:=λ v=>by rw[yDr,pF rfl];rfl
 have i2:∀ v:Nat,([v,v].all λ x=>bP x v)=true:=λ v=>by rw[yDr,pF rfl];exact i1 v
 have cm:∀ {a b v:Nat},ws[a]? = qq v->ws[b]? = qq v->(bP 1 1&&bP (([a,b].map λ a=>(aI rs a).w).getD 0 0) (([a,b].map λ a=>(aI rs a).w).getD 1 0))=true:=λ {a b v} q q'=>by
  rw[a2 q q'];show(bP 1 1&&bP v v)=true;rw[pF rfl,pF rfl];rfl
 rcases args with _ | ⟨a,_ | ⟨b,_ | ⟨c,_ | ⟨e,t⟩⟩⟩⟩
 ·cases wd<;>first | exact h.2.2.elim | exact jP h.1 h.2.1 (λ x m=>by cases m) rfl rfl
 ·cases wd
  case num=>exact jP h.1 h.2.1 (λ x m=>by cases m) rfl (dqT h.2.2)
  case not=>exact jP h.1 h.2.1 (e1 h.2.2) (by show((([a].map λ a=>(aI rs a).w)).all λ v=>bP v w)=true;rw[a1 h.2.2];exact i1 w) rfl
  case cut =>
   obtain⟨v,q1,q2⟩:=h.2.2;have q2:w<=v:=q2;exact jP h.1 h.2.1 (e1 q1) (by show decide (((w:Nat):Int)<=(((([a].map λ a=>(aI rs a).w)).getD 0 0:Nat):Int))=true;rw[a1 q1];exact dqT (by show((w:Nat):Int)<=((v:Nat):Int);omega)) rfl
  case wide =>
   obtain⟨v,q1,q2⟩:=h.2.2;have q2:v<=w:=q2;exact jP h.1 h.2.1 (e1 q1) (by show decide ((((([a].map λ a=>(aI rs a).w)).getD 0 0:Nat):Int)<=((w:Nat):Int))=true;rw[a1 q1];exact dqT (by show((v:Nat):Int)<=((w:Nat):Int);omega)) rfl
  case sign =>
   obtain⟨v,q1,q2⟩:=h.2.2;have q2:v<=w:=q2;exact jP h.1 h.2.1 (e1 q1) (by show decide ((((([a].map λ a=>(aI rs a).w)).getD 0 0:Nat):Int)<=((w:Nat):Int))=true;rw[a1 q1];exact dqT (by show((v:Nat):Int)<=((w:Nat):Int);omega)) rfl
  all_goals exact h.2.2.elim
 ·cases wd
  case left | right | slide =>
   have q2:b<64:=h.2.2.2;exact jP h.1 h.2.1 (e1 h.2.2.1) (by show((([a].map λ a=>(aI rs a).w)).all λ v=>bP v w)=true;rw[a1 h.2.2.1];exact i1 w) (dqT (by show b<=63;omega))
  case and | or | xor | add | sub | mul=>exact jP h.1 h.2.1 (e2 h.2.2.1 h.2.2.2) (by show((([a,b].map λ a=>(aI rs a).w)).all λ v=>bP v w)=true;rw[a2 h.2.2.1 h.2.2.2];exact i2 w) rfl
  case same | less | under =>
   obtain⟨q0,v,q1,q2⟩:=h.2.2;have q0:w=1:=q0;subst q0;exact jP h.1 h.2.1 (e2 q1 q2) (cm q1 q2) rfl
  all_goals exact h.2.2.elim
 ·cases wd
  case pick =>
   obtain⟨q1,q2,q3⟩:=h.2.2;refine jP h.1 h.2.1 (λ x m=>?_) ?_ rfl
   ·rcases List.mem_cons.mp m with rfl | m
    ·exact(hw _ _ q1).1
    ·exact e2 q2 q3 x m
   ·have e:([a,b,c].map λ a=>(aI rs a).w)=[1,w,w]:=by rw[yAj,(hw _ _ q1).2,a2 q2 q3]
    show dS .pick w ([a,b,c].map λ a=>(aI rs a).w)=true
    rw[e];show(bP 1 1&&(bP w w&&bP w w))=true;rw[pF rfl,pF rfl];rfl
  all_goals exact h.2.2.elim
 ·cases wd<;>exact h.2.2.elim
theorem aCN{rs:List Rw}:∀ (n k:Nat),(∀ j,k<=j->j<k+n->fP rs j (aI rs j)=qz)->kX rs n k=qz
 | 0,_,_=>rfl
 | n+1,k,h=>by
   rw[zP,h k (yAc _) (by omega)]
   exact aCN n (k+1) λ j h1 h2=>h j (by omega) (by omega)
theorem aIM{rs:List Rw}{aB:List Nat}(ok:cW [] rs)(ho:∀ o∈aB,o<rs.length):eX rs aB=qz:=by
 unfold eX;rw[aCN rs.length 0 λ j _ hj=>?_]
 ·dsimp only;refine if_neg λ z=>?_
  rw[yEj] at z;obtain⟨a,m,q⟩:=z;have:=ho a m;have:=oqT q;omega
 ·have hj:j<rs.length:=by omega
  have h:=aC8 rs [] ok j (aI rs j) (aBR hj);refine aJb (λ a v q=>?_) h
  rw[yCp,xAb] at q;obtain⟨r,q1,q2⟩:=Option.map_eq_some_iff.mp q;rw[List.getElem?_take] at q1
  by_cases c:a<j
  ·rw[if_pos c] at q1;refine⟨c,?_⟩;rw[aBR (show a<rs.length by omega)] at q1
   cases q1;exact q2
  ·rw[if_neg c] at q1;cases q1
theorem oO(xs:List D)(k:Nat):dJ xs (qq (k:Nat)) qz=xs.drop k:=by
 unfold dJ;rw[HT.sIx_nat,HT.sIx_none];rcases Nat.le_total k xs.length with h | h
 ·rw[yEq h];exact yBm (by rw[yEf];exact yAc _)
 ·rw[yFi h,List.drop_of_length_le h,yEi,List.take_nil]
theorem nJ{xs ys:List D}(h:xs≠[])(h2:xs.length+ys.length<=1000):cA .Add (.tuple xs) (.tuple ys)=qq (.tuple (xs++ys)):=by
 cases xs with
 | nil=>exact absurd rfl h
 | cons a xs =>
   show(if _ then _ else _)=_
   rw[if_pos ⟨rfl,by rw[zx];omega⟩]
noncomputable def Rw.l(r:Rw):List D:=.str r.wd.s::nD r.w::r.args.map nD
theorem rV(r:Rw):r.d=.tuple r.l:=rfl
theorem aBk(r:Rw):r.l.length=2+r.args.length:=by
 unfold Rw.l;simp;omega
theorem pE(wd:Wd):gO wd<=3:=by cases wd<;>decide
theorem pK:(" " : Str)=⟨#[32]⟩:=by decide
theorem aBo:("\n" : Str)=⟨#[10]⟩:=by decide
theorem aE2(c:Nat):∀ as:List (List Nat),(jl c as).length<=(as.map (·.length)).sum+as.length
 | []=>yEo _
 | [a]=>by simp[jl]
 | a::b::r=>by
   have:=aE2 c (b::r);simp[jl] at this ⊢;omega
theorem uW(c:Nat)(ps:List Str):(Txt.join ⟨#[c]⟩ ps).length<=(ps.map (·.length)).sum+ps.length:=by
 have h:=aE2 c (ps.map λ p=>p.cps.toList)
 have e:(Txt.join ⟨#[c]⟩ ps).cps.toList.length=(Txt.join ⟨#[c]⟩ ps).length:=yBn;rw[<- vI,e,yBg,yAg] at h;exact h
theorem rG{α:Type}(f:α->Nat)(b:Nat):∀ l:List α,(∀ a∈l,f a<=b)->(l.map f).sum<=l.length*b
 | [],_=>by simp
 | a::l,h=>by
   have h1:=h a xAd;have h2:=rG f b l λ x m=>h x (xAf _ m)
   simp only[yAj,List.sum_cons,yCh,Nat.succ_mul];omega
theorem aE8{c x:Nat}:∀ {as:List (List Nat)},x∈jl c as->x=c\/∃ a∈as,x∈a
 | [],h=>by cases h
 | [a],h=>.inr ⟨a,xAd,h⟩
 | a::b::r,h=>by
   have h:x∈a++c::jl c (b::r):=h;rcases List.mem_append.mp h with h | h
   ·exact .inr ⟨a,xAd,h⟩
   ·rcases List.mem_cons.mp h with h | h
    ·exact .inl h
    ·rcases aE8 h with h | ⟨a',m,h⟩
     ·exact .inl h
     ·exact .inr ⟨a',xAf _ m,h⟩
theorem aDC{c x:Nat}{ps:List Str}(h:x∈(Txt.join ⟨#[c]⟩ ps).cps.toList):x=c\/∃ p∈ps,x∈p.cps.toList:=by
 rw[vI] at h;rcases aE8 h with h | ⟨a,m,h⟩
 ·exact .inl h
 ·obtain⟨p,mp,rfl⟩:=List.mem_map.mp m;exact .inr ⟨p,mp,h⟩
theorem aKL{x:Str}(h:∀ c∈x.cps.toList,c<1114112):yEw x=true:=by
 show x.cps.all (· < 0x110000)=true;rw[<- Array.all_toList,List.all_eq_true];intro c m;exact dqT (h c m)
theorem aDu{x:Str}(h:yEw x=true):bA .Eq (.str x) (.str x)=qq (.bool true):=by
 unfold bA lA;simp[PyData.canLay0,yEv,yCg,h]
theorem aBb{C:Calls}{env:aU}{S:aC}{i c:Nat}{sep:Str}(hs:sep=⟨#[c]⟩){ps:List Str}(h:env[i]? = qq (qq (.d (.str (Txt.join sep ps)))))(hne:ps≠[])(hf:∀ p∈ps,c ∉ p.cps.toList)(hl:(Txt.join sep ps).length<=1000000) :
 ev C (.fz (.spl (.var i) (.str sep))) env S=qq (.d (.list (ps.map yAa)),S):=by
 have y0:(sep.length==0)=false:=by rw[hs];rfl
 have e:Txt.split (Txt.join sep ps) sep=ps:=by rw[hs];exact aHU hne hf
 have hz:(Txt.join sep ps).length+2<=qk:=by rw[zx];omega
 simp only[evs,h,xJ,wZ,y0,hz,and_self,e]
theorem aLk(c:Nat)(h1:48<=c)(h2:c<=57):mD ⟨#[c]⟩ "0123456789" = true:=
 (by decide +kernel:∀ c,c<58->48<=c->mD ⟨#[c]⟩ "0123456789" = true) c (by omega) h1
theorem aKI{z:Str}{c:Nat}{r:List Nat}(h:z.cps.toList=c::r)(hz:z.length<=100):bC (.str z) (.int 0)=qq (.str ⟨#[c]⟩):=by
 show(if z.length<=qk then (iD z.cps.toList 0).bind λ c=>qq (yAa ⟨#[c]⟩) else qz)=_
 rw[if_pos (by rw[zx];omega),h]
 unfold iD iV;simp
theorem aKQ{c:Nat}(h1:48<=c)(h2:c<=57)(h3:c≠48):bA .Eq (.str ⟨#[c]⟩) (.str "0")=qq (.bool false):=by
 have:c=49\/c=50\/c=51\/c=52\/c=53\/c=54\/c=55\/c=56\/c=57:=by omega
 rcases this with rfl | rfl | rfl | rfl | rfl | rfl | rfl | rfl | rfl<;>kernel_rfl
theorem aJ7:bA .Eq (.str ⟨#[48]⟩) (.str "0")=qq (.bool true):=by kernel_rfl
theorem aKD:bA .NotEq (.str "0") (.str "0")=qq (.bool false):=by kernel_rfl
theorem aIU(d n:Nat)(h:n<10^20)(S:aC):cl fns (d+1) 7 [.d (.str (bD n))] S=qq (.d (.bool true),S):=by
 have l1:=aJr n;have l2:=oU h;have dg:=qZ n;have ll:fS [.str (bD n)]=qq (.int ((bD n).length:Nat)):=if_pos (by rw[zx];omega)
 have d1:decide ((((bD n).length:Nat):Int)<1)=false:=dqF (by omega)
 have d2:decide ((20:Int)<(((bD n).length:Nat):Int))=false:=dqF (by omega)
 obtain⟨c,r,ec⟩:∃ c r,(bD n).cps.toList=c::r:=by
  cases e:(bD n).cps.toList with
  | nil=>exact absurd e (aA9 n)
  | cons c r=>exact⟨c,r,rfl⟩
 have i0:=aKI ec (by omega)
 have c1:=dg c (by rw[ec];exact xAd)
 refine dO rfl d rfl rfl yAh ?_;show xs (aD fns d) _ [qq (.d (.str (bD n))),qz] S=_;have t2:tv (aD fns d) (.and (.cmp .Eq (.ix (.var 0) (.int 0)) (.str "0")) (.cmp .NotEq (.var 0) (.str "0"))) [qq (.d (.str (bD n))),qz] S=qq (false,S):=by
  by_cases z:n=0
  ·subst z;rw[aJm] at i0 ec ⊢;have:c=48:=(List.cons.inj ec).1.symm;subst this;simp only[evs,i0,aJ7,aKD]
  ·have e0:=aKQ c1.1 c1.2 (aIJ z (by rw[ec];rfl))
   simp only[evs,i0,e0]
 have hc:lv (aD fns d) aCr [qq (.d (.str (bD n))),qz] S=qq ((bD n).cps.toList.map (λ c=>yBf (mD ⟨#[c]⟩ "0123456789")),S):=by
  refine iI (fi:=lv (aD fns d) (.its (.var 0))) (fe:=ev (aD fns d) (.ins false (.var 1) (.gst "FIGURES" "0123456789"))) tL (λ c=>yBf (mD ⟨#[c]⟩ "0123456789")) (bD n).cps.toList ?_ (by rw[zx,yBn];show(bD n).length<=_;omega) λ a _=>?_
  ·simp only[evs,wW]
  ·refine⟨_,rfl,λ S'=>?_⟩
   simp only[evs,clr,yAk,yAo,tL,nQ,pQ]
 have al:((bD n).cps.toList.all λ c=>mD ⟨#[c]⟩ "0123456789")=true:=List.all_eq_true.mpr λ c m=>aLk c (dg c m).1 (dg c m).2
 have am:=all_map (λ c=>mD ⟨#[c]⟩ "0123456789") (bD n).cps.toList
 rw[al] at am;generalize bD n=z at *;refine bT (S1:=S) (by simp only[evs,ll,dH,iK,d1,d2]) (bT t2 (bM ?_))
 simp only[evs,hc,am]
theorem aC4(d:Nat)(L:List Nat)(h:∀ n∈L,n<10^20)(hl:L.length<=100)(S:aC):cl fns (d+2) 8 [.d (.list (L.map λ n=>.str (bD n)))] S=qq (.d (.bool true),S):=by
 refine dO rfl (d+1) rfl rfl yAh ?_;show xs (aD fns (d+1)) _ [qq (.d (.list (L.map λ n=>.str (bD n)))),qz] S=_
 have hc:lv (aD fns (d+1)) aCm [qq (.d (.list (L.map λ n=>.str (bD n)))),qz] S=qq (L.map (λ _=>yBf true),S):=by
  refine iI (fi:=lv (aD fns (d+1)) (.it (.var 0))) (fe:=ev (aD fns (d+1)) (.call 7 (.cons (.var 1) .nil))) (λ n=>.str (bD n)) (λ _=>yBf true) L ?_ (by rw[zx];omega) λ a ha=>?_
  ·simp only[evs,eN]
  ·refine⟨_,rfl,λ S'=>?_⟩
   have:=aIU d a (h a ha) S';simp only[evs,clr,yAk,yAo,this]
 have am:=all_map (λ _:Nat=>true) L
 have:(L.all λ _=>true)=true:=by simp
 rw[this] at am;exact bM (by simp only[evs,hc,am])
theorem aDx(d:Nat)(L:List Nat)(h:∀ n∈L,n<10^20)(hl:L.length<=100)(S:aC):cl fns (d+1) 9 [.d (.list (L.map λ n=>.str (bD n)))] S=qq (.d (.tuple (L.map nD)),S):=by
 refine dO rfl d rfl rfl yAh ?_;show xs (aD fns d) _ [qq (.d (.list (L.map λ n=>.str (bD n)))),qz] S=_
 have hc:lv (aD fns d) aCp [qq (.d (.list (L.map λ n=>.str (bD n)))),qz] S=qq (L.map nD,S):=by
  refine iI (fi:=lv (aD fns d) (.it (.var 0))) (fe:=ev (aD fns d) (.itx (.var 1))) (λ n=>.str (bD n)) nD L ?_ (by rw[zx];omega) λ a ha=>?_
  ·simp only[evs,eN]
  ·refine⟨_,rfl,λ S'=>?_⟩
   have hi:=aKr (h a ha);have hz:(bD a).length<=640:=xAg (oU (h a ha)) (by decide)
   simp only[evs,clr,yAk,yAo,sV,hz,hi];rfl
 exact bM (by simp only[evs,hc,rS,rO])
theorem aJs(wd:Wd):(lL.lookup wd.s).isSome=true:=by cases wd<;>kernel_rfl
theorem aIx(d:Nat)(wd:Wd)(S:aC):cl fns (d+1) 1 [.d (.str wd.s)] S=qq (.d (.bool true),S):=by
 have h:=aJs wd;refine dO rfl d rfl rfl yAh (bM ?_);show ev (aD fns d) _ [qq (.d (.str wd.s))] S=_;simp only[evs,wA,h]
theorem aIl(d:Nat)(wd:Wd)(S:aC):cl fns (d+1) 2 [.d (.str wd.s)] S=qq (.d (.int ((1+gO wd:Nat):Int)),S):=by
 have tc:=aEm wd;have e1:=gG wd .num;have e1:bA .Eq (.str wd.s) (.str "num")=qq (.bool (decide (wd=.num))):=e1;have e2:bA .In (.str wd.s) (.tuple (oK.map Tv.d))=qq (.bool (decide (wd=.left\/wd=.right\/wd=.slide))):=qS wd;refine dO rfl d rfl rfl yAh ?_;show xs (aD fns d) _ [qq (.d (.str wd.s)),qz] S=_;have bB:∀ f:Nat,dA wd+f=gO wd->xs (aD fns d) (iB aCt) [qq (.d (.str wd.s)),qq (.d (.int f))] S=qq (.rt (.d (.int ((1+gO wd:Nat):Int))),S):=λ f hf=>by
  have:(1:Int)+((dA wd:Nat):Int)+((f:Nat):Int)=((1+gO wd:Nat):Int):=by omega
  exact bM (by simp only[evs,tc,cU,this])
 by_cases c1:wd=.num
 ·rw[dqT c1] at e1;exact cD (w:=.d (.int ((1:Nat):Int))) (S1:=S) (by simp only[evs,nT,e1];rfl) rfl (bB 1 (by rw[c1];rfl))
 rw[dqF c1] at e1
 by_cases c2:wd=.left\/wd=.right\/wd=.slide
 ·rw[dqT c2] at e2;exact cD (w:=.d (.int ((1:Nat):Int))) (S1:=S) (by simp only[evs,nT,e1,e2];rfl) rfl (bB 1 (by rcases c2 with c | c | c<;>rw[c]<;>rfl))
 ·rw[dqF c2] at e2;refine cD (w:=.d (.int ((0:Nat):Int))) (S1:=S) (by simp only[evs,nT,e1,e2];rfl) rfl (bB 0 ?_)
  cases wd<;>first | rfl | (exact absurd rfl c1) | (exact absurd (.inl rfl) c2) | (exact absurd (.inr (.inl rfl)) c2) | (exact absurd (.inr (.inr rfl)) c2)
def Bd(r:Rw):Prop:=r.w<10^20/\∀ a∈r.args,a<10^20
noncomputable def fN(r:Rw):List Str:=r.wd.s::(r.w::r.args).map bD
noncomputable def bV(r:Rw):Str:=Txt.join " " (fN r)
theorem aDj(wd:Wd):∀ c∈wd.s.cps.toList,97<=c/\c<=122:=by cases wd<;>decide +kernel
theorem aDB(wd:Wd):wd.s.length<=20:=by cases wd<;>decide
theorem aH8{r:Rw}{c:Nat}(hc:c<48):∀ p∈fN r,c ∉ p.cps.toList:=λ p m z=>by
 rcases List.mem_cons.mp m with rfl | m
 ·have:=aDj _ c z;omega
 ·obtain⟨n,_,rfl⟩:=List.mem_map.mp m;have:=qZ n c z;omega
theorem aJy{r:Rw}(b:Bd r):∀ p∈fN r,p.length<=20:=λ p m=>by
 rcases List.mem_cons.mp m with rfl | m
 ·exact aDB _
 ·obtain⟨n,mn,rfl⟩:=List.mem_map.mp m;refine oU ?_;rcases List.mem_cons.mp mn with rfl | mn
  ·exact b.1
  ·exact b.2 n mn
theorem aIT{r:Rw}(ar:Ar r)(b:Bd r):(bV r).length<=200:=by
 have h:=uW 32 (fN r);have s:=rG (λ p:Str=>p.length) 20 (fN r) (aJy b)
 have l:(fN r).length<=5:=by
  have:=pE r.wd;rw[<- ar] at this;unfold fN;simp;omega
 unfold bV;rw[pK];omega
theorem aJi(d:Nat)(r:Rw)(ar:Ar r)(b:Bd r)(S:aC):cl fns (d+3) 10 [.d (.str (bV r))] S=qq (.d r.d,S):=by
 have hl:=aIT ar b;have a3:=pE r.wd;rw[<- ar] at a3;have bn:∀ n∈r.w::r.args,n<10^20:=λ n m=>by
  rcases List.mem_cons.mp m with rfl | m
  ·exact b.1
  ·exact b.2 n m
 have sp:∀ e,ev (aD fns (d+2)) (.fz (.spl (.var 0) (.str " "))) (qq (.d (.str (bV r)))::e) S=qq (.d (.list ((fN r).map yAa)),S):=λ e=>aBb pK rfl (by unfold fN;simp) (aH8 (by decide)) (by show(bV r).length<=_;omega)
 have i0:bC (.list ((fN r).map yAa)) (.int 0)=qq (.str r.wd.s):=kR (k:=0) rfl;have iw:=aIx (d+1) r.wd S;have nc:=aIl (d+1) r.wd S;have ll:fS [.list ((fN r).map yAa)]=qq (.int ((1+(1+gO r.wd):Nat):Int)):=by
  rw[cI,yAg];unfold fN;rw[<- ar];simp;omega
 have cf:dJ ((fN r).map yAa) (qq 1) qz=(r.w::r.args).map λ n=>yAa (bD n):=by
  rw[show(qq (1:Int))=qq ((1:Nat):Int) from rfl,oO]
  unfold fN;rw[yAj,yBg];rfl
 have an:=aC4 d (r.w::r.args) bn (by simp;omega) S
 have ni:=aDx (d+1) (r.w::r.args) bn (by simp;omega) S
 have e1:(1:Int)+((1+gO r.wd:Nat):Int)=((1+(1+gO r.wd):Nat):Int):=by omega
 have ct:cA .Add (.tuple [.str r.wd.s]) (.tuple ((r.w::r.args).map nD))=qq r.d:=by
  rw[nJ (by simp) (by simp;omega)]
  rfl
 refine dO rfl (d+2) rfl rfl yAh (cD (sp _) rfl ?_);show xs (aD fns (d+2)) _ [qq (.d (.str (bV r))),qq (.d (.list ((fN r).map yAa))),qz] S=_;generalize (fN r).map yAa=P at *;generalize List.map (λ n=>yAa (bD n)) (r.w::r.args)=NL at *
 generalize List.map nD (r.w::r.args)=TL at *;generalize bV r=Z at *;refine cD (w:=.d (.str r.wd.s)) (S1:=S) (by simp only[evs,i0]) rfl ?_
 show xs (aD fns (d+2)) _ [qq (.d (.str Z)),qq (.d (.list P)),qq (.d (.str r.wd.s))] S=_;refine bT (S1:=S) ?_ (bM ?_)
 ·simp only[evs,iw,ll,nc,cU,e1,aA7,beq_self_eq_true,fO,eD,gM,cf,an]
 ·simp only[evs,fO,eD,gM,cf,ni,ct]
noncomputable def fU(aB:List Nat):List Str:="out" :: aB.map bD
noncomputable def fV(aB:List Nat):Str:=Txt.join " " (fU aB)
theorem aId{aB:List Nat}{c:Nat}(hc:c<48):∀ p∈fU aB,c ∉ p.cps.toList:=λ p m z=>by
 rcases List.mem_cons.mp m with rfl | m
 ·have z:c∈([111,117,116]:List Nat):=z;simp at z;omega
 ·obtain⟨n,_,rfl⟩:=List.mem_map.mp m;have:=qZ n c z;omega
theorem aJC{aB:List Nat}(b:∀ o∈aB,o<10^20):∀ p∈fU aB,p.length<=20:=λ p m=>by
 rcases List.mem_cons.mp m with rfl | m
 ·decide
 ·obtain⟨n,mn,rfl⟩:=List.mem_map.mp m;exact oU (b n mn)
theorem aI3{aB:List Nat}(b:∀ o∈aB,o<10^20)(l:aB.length<=8):(fV aB).length<=200:=by
 have h:=uW 32 (fU aB);have s:=rG (λ p:Str=>p.length) 20 (fU aB) (aJC b)
 have l:(fU aB).length<=9:=by
  unfold fU;simp;omega
 unfold fV;rw[pK];omega
theorem aM5:bA .NotEq (.str "out") (.str "out")=qq (.bool false):=by kernel_rfl
theorem aIm(d:Nat)(aB:List Nat)(b:∀ o∈aB,o<10^20)(l1:1<=aB.length)(l2:aB.length<=8)(S:aC):cl fns (d+3) 11 [.d (.str (fV aB))] S=qq (.d (.tuple (aB.map nD)),S):=by
 have hl:=aI3 b l2;have sp:∀ e,ev (aD fns (d+2)) (.fz (.spl (.var 0) (.str " "))) (qq (.d (.str (fV aB)))::e) S=qq (.d (.list ((fU aB).map yAa)),S):=λ e=>aBb pK rfl (by unfold fU;simp) (aId (by decide)) (by show(fV aB).length<=_;omega)
 have i0:bC (.list ((fU aB).map yAa)) (.int 0)=qq (.str "out"):=kR (k:=0) rfl;have ll:fS [.list ((fU aB).map yAa)]=qq (.int ((1+aB.length:Nat):Int)):=by
  rw[cI,yAg];unfold fU;simp;omega
 have d1:decide (((1+aB.length:Nat):Int)<2)=false:=dqF (by omega)
 have d2:decide ((9:Int)<((1+aB.length:Nat):Int))=false:=dqF (by omega)
 have cf:dJ ((fU aB).map yAa) (qq 1) qz=aB.map λ n=>yAa (bD n):=by
  rw[show(qq (1:Int))=qq ((1:Nat):Int) from rfl,oO]
  unfold fU;rw[yAj,yBg];rfl
 have an:=aC4 d aB b (by omega) S
 have ni:=aDx (d+1) aB b (by omega) S
 refine dO rfl (d+2) rfl rfl yAh (cD (sp _) rfl ?_);generalize (fU aB).map yAa=P at *;generalize List.map (λ n=>yAa (bD n)) aB=NL at *
 generalize List.map nD aB=TL at *;generalize fV aB=Z at *;show xs (aD fns (d+2)) _ [qq (.d (.str Z)),qq (.d (.list P))] S=_;refine bT (S1:=S) ?_ (bM ?_)
 ·simp only[evs,i0,aM5,ll,dH,iK,d1,d2,fO,eD,gM,cf,an]
 ·simp only[evs,fO,eD,gM,cf,ni]
noncomputable def cB(p:Str×List Nat):D:=.tuple (.str p.1::p.2.map nD)
noncomputable def cO(p:Str×List Nat):List Str:=p.1::p.2.map bD
noncomputable def bR(p:Str×List Nat):Str:=Txt.join " " (cO p)
noncomputable def tN(r:Rw):Str×List Nat:=(r.wd.s,r.w::r.args)
theorem aLf(r:Rw):r.d=cB (tN r):=rfl
theorem aMl(r:Rw):bV r=bR (tN r):=rfl
structure LnOk(p:Str×List Nat):Prop where
 w:p.1.length<=20
 c:∀ c∈p.1.cps.toList,97<=c/\c<=122
 n:∀ n∈p.2,n<10^20
 l:p.2.length<=8
theorem aEY{r:Rw}(ar:Ar r)(b:Bd r):LnOk (tN r):=⟨aDB _,aDj _,λ n m=>by
 rcases List.mem_cons.mp m with rfl | m
 ·exact b.1
 ·exact b.2 n m,by
 have:=pE r.wd;rw[<- ar] at this;show(r.w::r.args).length<=8;simp;omega⟩
theorem aFi{aB:List Nat}(b:∀ o∈aB,o<10^20)(l:aB.length<=8):LnOk (("out" : Str),aB):=⟨show("out" : Str).length<=20 by decide,show ∀ c∈("out" : Str).cps.toList,97<=c/\c<=122 by decide +kernel,b,l⟩
theorem aK8{p:Str×List Nat}(h:LnOk p):∀ x∈cO p,x.length<=20:=λ x m=>by
 rcases List.mem_cons.mp m with rfl | m
 ·exact h.w
 ·obtain⟨n,mn,rfl⟩:=List.mem_map.mp m;exact oU (h.n n mn)
theorem aAJ{p:Str×List Nat}(h:LnOk p):((cO p).map (·.length)).sum+(cO p).length<=200:=by
 have s:=rG (λ p:Str=>p.length) 20 (cO p) (aK8 h)
 have l:(cO p).length<=9:=by
  have:=h.l;unfold cO;simp;omega
 omega
theorem aJQ{p:Str×List Nat}(h:LnOk p):(bR p).length<=200:=by
 have j:=uW 32 (cO p);have:=aAJ h;unfold bR;rw[pK];omega
theorem aD5{p:Str×List Nat}(h:LnOk p){c:Nat}(m:c∈(bR p).cps.toList):c=32\/(48<=c/\c<=122):=by
 unfold bR at m;rw[pK] at m;rcases aDC m with z | ⟨x,mx,z⟩
 ·exact .inl z
 ·right
  rcases List.mem_cons.mp mx with rfl | mx
  ·have:=h.c c z;omega
  ·obtain⟨n,_,rfl⟩:=List.mem_map.mp mx;have:=qZ n c z;omega
theorem aDU:∀ ps:List Str,pA (ps.map yAa)=qq ps
 | []=>rfl
 | a::l=>by
   show(pA (l.map yAa)).bind _=_;rw[aDU l];rfl
theorem vF{sep:Str}{ps:List Str}(h1:sep.length=1)(h:(ps.map (·.length)).sum+ps.length<=1000000):wG (.str sep) (.list (ps.map yAa))=qq (.str (Txt.join sep ps)):=by
 show(pA (ps.map yAa)).bind _=_;rw[aDU,oB,if_pos (by rw[h1];omega)]
theorem aDX{n:Nat}(h:n<10^20):pS (.int n)=qq (.str (bD n)):=by
 refine if_pos ?_;show(Int.natAbs ((n:Nat):Int)).log2<1920;rw[Int.natAbs_natCast]
 by_cases z:n=0
 ·subst z;decide
 ·exact(Nat.log2_lt z).mpr (xAc h (xAg (by decide:10^20<=2^70) (yDh (by decide) (by decide))))
theorem sp1:(" " : Str).length=1:=by decide
theorem nl1:("\n" : Str).length=1:=by decide
noncomputable def aB0(p:Str ⊕ Nat):D:=match p with
 | .inl s=>.str s
 | .inr n=>nD n
noncomputable def aBH(p:Str ⊕ Nat):Str:=match p with
 | .inl s=>s
 | .inr n=>bD n
theorem aCS(d:Nat)(p:Str×List Nat)(h:LnOk p)(S:aC):cl fns (d+1) 12 [.d (cB p)] S=qq (.d (.str (bR p)),S):=by
 have e1:cB p=.tuple ((Sum.inl p.1::p.2.map Sum.inr).map aB0):=by unfold cB;rw[yAj,yBg];rfl
 have e2:cO p=(Sum.inl p.1::p.2.map Sum.inr).map aBH:=by unfold cO;rw[yAj,yBg];rfl
 have js:=vF sp1 (ps:=cO p) (xAg (aAJ h) (by decide))
 refine dO rfl d rfl rfl yAh ?_;show xs (aD fns d) _ [qq (.d (cB p)),qz] S=_;have hc:lv (aD fns d) aCC [qq (.d (cB p)),qz] S=qq ((cO p).map yAa,S):=by
  rw[e1,e2,yBg];refine iI (fi:=lv (aD fns d) (.it (.var 0))) (fe:=ev (aD fns d) (.st1 (.var 1))) aB0 (yAa ∘ aBH) (Sum.inl p.1::p.2.map Sum.inr) ?_ (by rw[zx];have:=h.l;simp;omega) λ a ha=>?_
  ·simp only[evs,eN]
  ·refine⟨_,rfl,λ S'=>?_⟩
   have hs:pS (aB0 a)=qq (.str (aBH a)):=by
    cases a with
    | inl s=>rfl
    | inr n =>
      refine aDX (h.n n ?_);rcases List.mem_cons.mp ha with z | z
      ·cases z
      ·obtain⟨m,mm,z⟩:=List.mem_map.mp z;cases z;exact mm
   simp only[evs,clr,yAk,yAo,hs];rfl
 generalize cB p=Z at *;exact bM (by simp only[evs,hc,nV,js];rfl)
noncomputable def cQ(rs:List Rw)(aB:List Nat):List (Str×List Nat):=rs.map tN++[(("out" : Str),aB)]
noncomputable def dI(rs:List Rw)(aB:List Nat):Str:=Txt.join "\n" ((cQ rs aB).map bR)
theorem uU{rs:List Rw}{aB:List Nat}(ar:∀ r∈rs,Ar r)(bd:∀ r∈rs,Bd r)(bo:∀ o∈aB,o<10^20)(lo:aB.length<=8):∀ p∈cQ rs aB,LnOk p:=λ p m=>by
 rcases List.mem_append.mp m with m | m
 ·obtain⟨r,mr,rfl⟩:=List.mem_map.mp m;exact aEY (ar r mr) (bd r mr)
 ·rw[List.mem_singleton.mp m];exact aFi bo lo
theorem zW{ps:List (Str×List Nat)}(h:∀ p∈ps,LnOk p)(hl:ps.length<=200):((ps.map bR).map (·.length)).sum+(ps.map bR).length<=50000:=by
 have s:=rG (λ p:Str=>p.length) 200 (ps.map bR) λ x m=>by
  obtain⟨p,mp,rfl⟩:=List.mem_map.mp m;exact aJQ (h p mp)
 rw[yAg] at s ⊢;omega
theorem aIZ{ps:List (Str×List Nat)}(h:∀ p∈ps,LnOk p)(hl:ps.length<=200):(Txt.join "\n" (ps.map bR)).length<=50000:=by
 have j:=uW 10 (ps.map bR);have:=zW h hl;rw[aBo];omega
theorem aH4{ps:List (Str×List Nat)}(h:∀ p∈ps,LnOk p):∀ x∈ps.map bR,10 ∉ x.cps.toList:=λ x m z=>by
 obtain⟨p,mp,rfl⟩:=List.mem_map.mp m;have:=aD5 (h p mp) z;omega
theorem aIR{ps:List (Str×List Nat)}(h:∀ p∈ps,LnOk p):yEw (Txt.join "\n" (ps.map bR))=true:=aKL λ c m=>by
 rw[aBo] at m;rcases aDC m with z | ⟨x,mx,z⟩
 ·omega
 ·obtain⟨p,mp,rfl⟩:=List.mem_map.mp mx;have:=aD5 (h p mp) z;omega
theorem aAo(S0:aC)(l:List D)(x:D)(h:l.length<=1000):eG (S0++[qq l]) (.loc S0.length) (.d x)=qq (.d .none,S0++[qq (l++[x])]):=by
 unfold eG;simp only[yAe (yAc S0.length),yCj,yBj];rw[if_pos (by rw[zx];omega)]
 rw[List.set_append_right _ _ (yAc _),yCj];rfl
theorem aAh(S0:aC)(l:List D):(S0++[qq l])[S0.length]? = qq (qq l):=by
 rw[yAe (yAc _),yCj];rfl
theorem aKl(S0 T:aC)(l:List D)(x:D)(h:l.length<=1000):eG (S0++qq l::T) (.loc S0.length) (.d x)=qq (.d .none,S0++qq (l++[x])::T):=by
 unfold eG;simp only[yAe (yAc S0.length),yCj,yBj];rw[if_pos (by rw[zx];omega)]
 rw[List.set_append_right _ _ (yAc _),yCj];rfl
theorem aJY(S0 T:aC)(l:List D):(S0++qq l::T)[S0.length]? = qq (qq l):=by
 rw[yAe (yAc _),yCj];rfl
theorem aAt(d:Nat)(rs:List Rw)(aB:List Nat)(ar:∀ r∈rs,Ar r)(bd:∀ r∈rs,Bd r)(bo:∀ o∈aB,o<10^20)(lr:rs.length<=100)(lo:aB.length<=8)(S:aC):cl fns (d+2) 13 [.d (aY rs aB)] S=qq (.d (.str (dI rs aB)),S):=by
 have lk:=uU ar bd bo lo;have ll:(cQ rs aB).length<=200:=by unfold cQ;simp;omega
 have js:=vF nl1 (ps:=(cQ rs aB).map bR) (xAg (zW lk ll) (by decide))
 have el:((cQ rs aB).map bR).map yAa=(rs.map λ r=>yAa (bV r))++[.str (bR ("out",aB))]:=by
  unfold cQ;rw[yAw,yAw,yBg,yBg];rfl
 rw[el] at js;have lo1:=λ S=>aCS d ("out",aB) (aFi bo lo) S
 have ct:cA .Add (.tuple [.str "out"]) (.tuple (aB.map nD))=qq (cB ("out",aB)):=by
  rw[nJ (by simp) (by simp;omega)]
  rfl
 have pu:Tg.put (.many [2,3]) (aY rs aB) [qq (.d (aY rs aB)),qz,qz,qz,qz]=qq [qq (.d (aY rs aB)),qz,qq (.d (.tuple (rs.map Rw.d))),qq (.d (.tuple (aB.map nD))),qz]:=rfl;have hc:lv (aD fns (d+1)) aDf [qq (.d (aY rs aB)),qz,qq (.d (.tuple (rs.map Rw.d))),qq (.d (.tuple (aB.map nD))),qz] S=qq (rs.map (λ r=>yAa (bV r)),S):=by
  refine iI (fi:=lv (aD fns (d+1)) (.it (.var 2))) (fe:=ev (aD fns (d+1)) (.call 12 (.cons (.var 4) .nil))) Rw.d (λ r=>yAa (bV r)) rs ?_ (by rw[zx];omega) λ r hr=>?_
  ·simp only[evs,eN]
  ·refine⟨_,rfl,λ S'=>?_⟩
   have:=aCS d (tN r) (aEY (ar r hr) (bd r hr)) S';rw[<- aLf,<- aMl] at this;generalize aY rs aB=P at *;simp only[evs,clr,yAk,yAo,this]
 have ap:=aAo S (rs.map λ r=>yAa (bV r)) (.str (bR ("out",aB))) (by simp;omega)
 have gl:=aAh S ((rs.map λ r=>yAa (bV r))++[.str (bR ("out",aB))])
 unfold dI;generalize Txt.join "\n" ((cQ rs aB).map bR)=TX at *;generalize (rs.map λ r=>yAa (bV r))++[.str (bR ("out",aB))]=L2 at *
 rw[cP rfl (d+1) _ S rfl]
 suffices H:xs (aD fns (d+1)) aAY [qq (.d (aY rs aB)),qz,qz,qz,qz] S=qq (.rt (.d (.str TX)),S++[qq L2]) by
  show((xs (aD fns (d+1)) aAY [qq (.d (aY rs aB)),qz,qz,qz,qz] S).bind _)=_;rw[H,oB];show qq (W.d (.str TX),(S++_).take S.length)=_;rw[List.take_left]
 generalize aY rs aB=P at *;generalize yAv (rs.map Rw.d)=RT at *;generalize yAv (aB.map nD)=OT at *;refine eY (e1:=[qq (.d P),qz,qq (.d RT),qq (.d OT),qz]) (S1:=S) ?_ ?_
 ·show lT _ _ _ _=_;unfold lT;rw[show ev (aD fns (d+1)) (.var 0) [qq (.d P),qz,qz,qz,qz] S=qq (.d P,S) from rfl,oB]
  show(Tg.put _ _ _).bind _=_;rw[pu];rfl
 refine eY (e1:=[qq (.d P),qq (.loc S.length),qq (.d RT),qq (.d OT),qz]) (S1:=S++[qq (rs.map λ r=>yAa (bV r))]) ?_ ?_
 ·simp only[aAH,dX,gK,hc,oB];rfl
 have lo2:=lo1 (S++[qq (rs.map λ r=>yAa (bV r))])
 generalize cB ("out",aB)=OD at *;generalize bR ("out",aB)=OS at *;generalize (rs.map λ r=>yAa (bV r))=RL at *
 refine eY (e1:=[qq (.d P),qq (.loc S.length),qq (.d RT),qq (.d OT),qz]) (S1:=S++[qq L2]) ?_ (bM ?_)
 ·simp only[evs,ct,lo2,hU,ap]
 ·simp only[evs,nV,gl,js]
theorem aJz(C:Calls)(S0:aC)(P:D)(a:W)(p:Str×List Nat)(h:LnOk p)(a4:Option W):∃ a4':Option W,
 xs C (.loop (.one 4) uI uH) [qq (.d P),qq a,qq (.d (cB p)),qq (.loc S0.length),a4] (S0++[qq [.str p.1]])=qq (.nx [qq (.d P),qq a,qq (.d (cB p)),qq (.loc S0.length),a4'],S0++[qq ((cO p).map yAa)]):=by
 have hl:=h.l;have it:lv C uI [qq (.d P),qq a,qq (.d (cB p)),qq (.loc S0.length),a4] (S0++[qq [.str p.1]])=qq (p.2.map nD,S0++[qq [.str p.1]]):=by
  have cf:dJ (yAa p.1::p.2.map nD) (qq 1) qz=p.2.map nD:=oO _ 1;unfold cB;generalize p.2.map nD=NL at *;simp only[evs,uI,eN,fO,eD,gM,cf]
 obtain⟨aO,S',p1,a4',rfl,rfl⟩:=aNs (t:=.one 4) (fb:=xs C uH)
  (λ j env S'=>∃ a4:Option W,env=[qq (.d P),qq a,qq (.d (cB p)),qq (.loc S0.length),a4]/\S'=S0++[qq (yAa p.1::(p.2.take j).map λ n=>yAa (bD n))]) it ⟨a4,rfl,rfl⟩ (by
    rintro j dd env S' hd ⟨a4,rfl,rfl⟩;rw[xAb] at hd;obtain⟨n,hn,rfl⟩:=Option.map_eq_some_iff.mp hd;have sn:=aDX (h.n n (xAi hn));have hj:=(gIm hn).1;have ap:=aAo S0 (yAa p.1::(p.2.take j).map λ n=>yAa (bD n)) (.str (bD n)) (by simp;omega)
    have et:p.2.take (j+1)=p.2.take j++[n]:=by rw[List.take_add_one,hn];rfl
    refine⟨[qq (.d P),qq a,qq (.d (cB p)),qq (.loc S0.length),qq (.d (nD n))],[qq (.d P),qq a,qq (.d (cB p)),qq (.loc S0.length),qq (.d (nD n))],S0++[qq ((yAa p.1::(p.2.take j).map λ n=>yAa (bD n))++[.str (bD n)])],rfl,?_,qq (.d (nD n)),rfl,?_⟩
    ·generalize (yAa p.1::(p.2.take j).map λ n=>yAa (bD n))=WL at *
     generalize cB p=Z at *;simp only[evs,uH,nD,sn,hU,ap]
    ·rw[et,yAw];rfl)
 refine⟨a4',?_⟩;have e:p.2.take (p.2.map nD).length=p.2:=by rw[yAg];exact yAh
 rw[e] at p1;have e2:(yAa p.1::p.2.map λ n=>yAa (bD n))=(cO p).map yAa:=by unfold cO;rw[yAj,yBg];rfl
 rw[e2] at p1;exact p1
theorem aDm(C:Calls)(S:aC)(P:D):∀ (ps:List (Str×List Nat)) (aG:List Str) (T:aC) (a2 a3 a4:Option W),(∀ p∈ps,LnOk p)->aG.length+ps.length<=500->∃ (T':aC) (a2' a3' a4':Option W),
 iT (.one 2) (xs C oE) (ps.map cB) [qq (.d P),qq (.loc S.length),a2,a3,a4] (S++qq (aG.map yAa)::T)=qq (.nx [qq (.d P),qq (.loc S.length),a2',a3',a4'],S++qq ((aG++ps.map bR).map yAa)::T')
 | [],aG,T,a2,a3,a4,_,_=>⟨T,a2,a3,a4,by rw[yCi,yCi,yAs];rfl⟩
 | p::ps,aG,T,a2,a3,a4,h,hl=>by
   have hp:=h p xAd;have hll:aG.length+(ps.length+1)<=500:=hl;obtain⟨a4',inn⟩:=aJz C (S++qq (aG.map yAa)::T) P (.loc S.length) p hp a4;obtain⟨T',b2,b3,b4,ih⟩:=aDm C S P ps (aG++[bR p]) (T++[qq ((cO p).map yAa)]) (qq (.d (cB p))) (qq (.loc (S++qq (aG.map yAa)::T).length)) a4' (λ q m=>h q (xAf _ m)) (by simp;omega)
   refine⟨T',b2,b3,b4,?_⟩;have js:=vF sp1 (ps:=cO p) (xAg (aAJ hp) (by decide))
   have ap:=aKl S (T++[qq ((cO p).map yAa)]) (aG.map yAa) (.str (bR p)) (by simp;omega)
   have gl:=aAh (S++qq (aG.map yAa)::T) ((cO p).map yAa);have i0:bC (cB p) (.int 0)=qq (.str p.1):=oP (k:=0) rfl;have eS:(S++qq (aG.map yAa)::T)++[qq ((cO p).map yAa)]=S++qq (aG.map yAa)::(T++[qq ((cO p).map yAa)]):=by simp
   have ea:aG.map yAa++[yAa (bR p)]=(aG++[bR p]).map yAa:=by rw[yAw];rfl
   rw[ea] at ap;have el:aG++bR p::ps.map bR=(aG++[bR p])++ps.map bR:=by simp
   show((xs C oE [qq (.d P),qq (.loc S.length),qq (.d (cB p)),a3,a4] (S++qq (aG.map yAa)::T)).bind _)=_;have e:xs C oE [qq (.d P),qq (.loc S.length),qq (.d (cB p)),a3,a4] (S++qq (aG.map yAa)::T)=qq (.nx [qq (.d P),qq (.loc S.length),qq (.d (cB p)),qq (.loc (S++qq (aG.map yAa)::T).length),a4'],S++qq ((aG++[bR p]).map yAa)::(T++[qq ((cO p).map yAa)])):=by
    refine cD (w:=.loc (S++qq (aG.map yAa)::T).length) (S1:=(S++qq (aG.map yAa)::T)++[qq [.str p.1]]) ?_ rfl ?_
    ·generalize S++qq (aG.map yAa)::T=SS at *;generalize cB p=Z at *;simp only[evs,gK,i0]
    refine eY inn (vM ?_);rw[eS] at gl ⊢;generalize (S++qq (aG.map yAa)::T).length=n0 at *;generalize S++qq (aG.map yAa)::(T++[qq ((cO p).map yAa)])=S1 at *;generalize S++qq ((aG++[bR p]).map yAa)::(T++[qq ((cO p).map yAa)])=S2 at *;generalize (cO p).map yAa=PL at *;generalize cB p=Z at *;have js:wG (.str " ") (.list PL)=qq (.str (bR p)):=js;simp only[evs,nV,gl,js,hU,ap]
   rw[e,oB];show iT (.one 2) (xs C oE) (ps.map cB) _ _=_;rw[ih,yAj,el]
theorem aAk(d:Nat)(rs:List Rw)(aB:List Nat)(ar:∀ r∈rs,Ar r)(bd:∀ r∈rs,Bd r)(bo:∀ o∈aB,o<10^20)(lr:rs.length<=100)(lo:aB.length<=8)(S:aC):cl fns (d+1) 31 [.d (aY rs aB)] S=qq (.d (.str (dI rs aB)),S):=by
 have lk:=uU ar bd bo lo;have ll:(cQ rs aB).length<=200:=by unfold cQ;simp;omega
 have js:=vF nl1 (ps:=(cQ rs aB).map bR) (xAg (zW lk ll) (by decide))
 obtain⟨T',a2,a3,a4,lp⟩:=aDm (aD fns d) S (aY rs aB) (cQ rs aB) [] [] qz qz qz lk (by simp;omega)
 have ct:cA .Add (.tuple [.str "out"]) (.tuple (aB.map nD))=qq (cB ("out",aB)):=by
  rw[nJ (by simp) (by simp;omega)]
  rfl
 have el:(cQ rs aB).map cB=rs.map Rw.d++[cB ("out",aB)]:=by
  unfold cQ;rw[yAw,yBg];rfl
 have ct2:cA .Add (.tuple (rs.map Rw.d)) (.tuple [cB ("out",aB)])=qq (.tuple ((cQ rs aB).map cB)):=by
  rw[el]
  by_cases z:rs=[]
  ·subst z;rfl
  ·exact nJ (λ q=>z (List.map_eq_nil_iff.mp q)) (by simp;omega)
 have i0:bC (aY rs aB) (.int 0)=qq (.tuple (rs.map Rw.d)):=rfl;have i1:bC (aY rs aB) (.int 1)=qq (.tuple (aB.map nD)):=rfl;have gl:=aJY S T' (([]++(cQ rs aB).map bR).map yAa);rw[yCp] at gl lp;unfold dI;generalize Txt.join "\n" ((cQ rs aB).map bR)=TX at *;generalize ((cQ rs aB).map bR).map yAa=L2 at *;generalize (cQ rs aB).map cB=LD at *;generalize cB ("out",aB)=OD at *;generalize aY rs aB=P at *;rw[cP rfl d _ S rfl]
 suffices H:xs (aD fns d) zO [qq (.d P),qz,qz,qz,qz] S=qq (.rt (.d (.str TX)),S++qq L2::T') by
  show((xs (aD fns d) zO [qq (.d P),qz,qz,qz,qz] S).bind _)=_;rw[H,oB];show qq (W.d (.str TX),(S++_).take S.length)=_;rw[List.take_left]
 refine cD (w:=.loc S.length) (S1:=S++[qq []]) (by simp only[evs,gK]) rfl (eY (e1:=[qq (.d P),qq (.loc S.length),a2,a3,a4]) (S1:=S++qq L2::T') ?_ (bM ?_))
 ·show jH (.one 2) (lv (aD fns d) uJ) (xs (aD fns d) oE) [qq (.d P),qq (.loc S.length),qz,qz,qz] (S++[qq []])=_;have it:lv (aD fns d) uJ [qq (.d P),qq (.loc S.length),qz,qz,qz] (S++[qq []])=qq (LD,S++[qq []]):=by
   simp only[evs,uJ,eN,i0,i1,ct,ct2]
  unfold jH;rw[it,oB];exact lp
 ·simp only[evs,nV,gl,js]
noncomputable def Ft4.i:Ft4->Nat
 | .width=>0 | .row=>1 | .fit=>2 | .number=>3
theorem rZ(f g:Ft4):aE f.c g.c=qq (f.i==g.i):=by cases f<;>cases g<;>kernel_rfl
theorem aMU{C:Calls}{CX:fK}{x:Xx}{n:Nat}{ws:List W}{env:aU}{S:aC}{y:D}(he:ws.map qq++yAf (n-ws.length) qz=env)(k:xx C CX aE x env S=qq (.fl (.rt (.d y)),S)):lR (fD (xx C CX aE x) n) ws S=qq (.d y,S):=by
 unfold lR;rw[aAP he k,oB]
noncomputable def tHs:List (Str×Option Nat×List Hs):=[("NoWidth",qq 2,[.tup 1 [.str "width",.row 2]]),("NoRow",qq 2,[.tup 1 [.str "row",.row 2]]),("NoFit",qq 2,[.tup 1 [.str "fit",.row 2]]),("NoNumber",qq 2,[.tup 1 [.str "number",.row 2]])]
theorem aKO(f:Ft4)(k:Int)(P:D)(a:Option W)(S:aC):fJ aE f.c (.int k) (tHs.map λ h=>⟨h.1,h.2.1,nG aE h.2.2⟩) [qq (.d P),a,qz] S=qq (.nx [qq (.d P),qq (.d (.tuple [.str f.s,.int k])),qz],S):=by
 have t1:aE f.c "NoWidth" = qq (f.i==0):=rZ f .width;have t2:aE f.c "NoRow" = qq (f.i==1):=rZ f .row;have t3:aE f.c "NoFit" = qq (f.i==2):=rZ f .fit;have t4:aE f.c "NoNumber" = qq (f.i==3):=rZ f .number;have t5:∃ b,aE f.c f.c=qq b:=⟨_,rZ f f⟩;obtain⟨b,t5⟩:=t5;have ff:∀ n,f.i=n->∀ S,pR aE (dW 2) [qq (.d P),a,qq (.exc f.c (.int k))] S=qq (.d (.int k),S):=λ n _ S=>by
  simp only[pR,dW,tK,oB,yBj,yCr,t5]
 cases f<;>simp only[evs,tHs,yAj,yCi,fJ,t1,t2,t3,t4,Ft4.i,beq_self_eq_true,Nat.reduceBEq,nG,cZ,hv,mG,ff _ rfl,xE,Ft4.s]
noncomputable def dL(S:aC)(rs:List Rw):aC:=S++[qq (rs.map Rw.d)]
theorem aMv(r:Rw):bA .Is r.d .none=qq (.bool false):=rfl
theorem aKz(l:List D):bA .Is (.tuple l) .none=qq (.bool false):=rfl
theorem aCE(d:Nat)(S:aC)(L:D):∀ (l aG:List Rw) (k:Nat) (a2 a3 a4:Option W),(∀ r∈l,Ar r)->(∀ r∈l,Bd r)->aG.length+l.length<=500->∃ a2' a3' a4':Option W,
 nH (.many [2,3]) (xx (aF fns gns aE (d+3)).1 (aF fns gns aE (d+3)).2 aE qL) (((l.map λ r=>yAa (bV r)).zipIdx k).map λ p=>yAv [.int (p.2:Nat),p.1]) [qq (.d L),qq (.loc S.length),a2,a3,a4] (dL S aG)=qq (.fl (.nx [qq (.d L),qq (.loc S.length),a2',a3',a4']),dL S (aG++l))
 | [],aG,k,a2,a3,a4,_,_,_=>⟨a2,a3,a4,by rw[yAs];rfl⟩
 | r::l,aG,k,a2,a3,a4,ar,bd,hl=>by
   have hll:aG.length+(l.length+1)<=500:=hl;obtain⟨b2,b3,b4,ih⟩:=aCE d S L l (aG++[r]) (k+1) (qq (.d (.int k))) (qq (.d (.str (bV r)))) (qq (.d r.d)) (λ q m=>ar q (xAf _ m)) (λ q m=>bd q (xAf _ m)) (by simp;omega)
   refine⟨b2,b3,b4,?_⟩;have ri:bY fns gns aE (d+3) 10 [.d (.str (bV r))] (dL S aG)=qq (.d r.d,dL S aG):=(eC (d+2) 10 _ _ (by decide)).trans (aJi d r (ar r xAd) (bd r xAd) _)
   have ap:eG (dL S aG) (.loc S.length) (.d r.d)=qq (.d .none,dL S (aG++[r])):=by
    unfold dL;rw[yAw];exact aAo S (aG.map Rw.d) r.d (by simp;omega)
   have nn:=aMv r;have el:aG++r::l=(aG++[r])++l:=by simp
   rw[el];show((xx (aF fns gns aE (d+3)).1 (aF fns gns aE (d+3)).2 aE qL [qq (.d L),qq (.loc S.length),qq (.d (.int k)),qq (.d (.str (bV r))),a4] (dL S aG)).bind λ q=>_)=_
   have e:xx (aF fns gns aE (d+3)).1 (aF fns gns aE (d+3)).2 aE qL [qq (.d L),qq (.loc S.length),qq (.d (.int k)),qq (.d (.str (bV r))),a4] (dL S aG)=qq (.fl (.nx [qq (.d L),qq (.loc S.length),qq (.d (.int k)),qq (.d (.str (bV r))),qq (.d r.d)]),dL S (aG++[r])):=by
    generalize r.d=R at *;generalize bV r=Z at *;refine xk (fF (fl:=.nx [qq (.d L),qq (.loc S.length),qq (.d (.int k)),qq (.d (.str Z)),qq (.d R)]) (S1:=dL S aG) (by simp only[evs,eB,ri])) ?_
    refine xk (gP (S1:=dL S aG) (by simp only[evs,nn]) rfl) (xk (fF (fl:=.nx [qq (.d L),qq (.loc S.length),qq (.d (.int k)),qq (.d (.str Z)),qq (.d R)]) (S1:=dL S (aG++[r])) (by simp only[evs,hU,ap])) rfl)
   rw[e,oB];exact ih
theorem aIL(d:Nat)(rs:List Rw)(ar:∀ r∈rs,Ar r)(bd:∀ r∈rs,Bd r)(lr:rs.length<=100)(S:aC):eO fns gns aE (d+4) 36 [.d (.list (rs.map λ r=>yAa (bV r)))] S=qq (.ok (.d (.tuple (rs.map Rw.d))),S):=by
 rw[show eO fns gns aE (d+4) 36=eO fns gns aE (d+4) (fns.length+2) from rfl,rN (x:=uY) rfl rfl (d+3) _ S rfl]
 obtain⟨a2,a3,a4,lp⟩:=aCE d S (.list (rs.map λ r=>yAa (bV r))) rs [] 0 qz qz qz ar bd (by simp;omega)
 rw[yCp] at lp;have it:lv (aF fns gns aE (d+3)).1 uL [qq (.d (.list (rs.map λ r=>yAa (bV r)))),qq (.loc S.length),qz,qz,qz] (dL S [])=qq (((rs.map λ r=>yAa (bV r)).zipIdx).map (λ p=>yAv [.int (p.2:Nat),p.1]),dL S []):=by
  simp only[uL,pD];exact aHs (by simp only[evs])
 have gl:(dL S rs)[S.length]? = qq (qq (rs.map Rw.d)):=aAh S _;have tk:(dL S rs).take S.length=S:=List.take_left;generalize (aF fns gns aE (d+3)).1=C at *;generalize (aF fns gns aE (d+3)).2=CX at *;generalize yBh (rs.map λ r=>yAa (bV r))=L at *
 unfold fD;show((xx C CX aE uY [qq (.d L),qz,qz,qz,qz] S).bind _)=_;have e:xx C CX aE uY [qq (.d L),qz,qz,qz,qz] S=qq (.fl (.rt (.d (.tuple (rs.map Rw.d)))),dL S rs):=by
  refine xk (fF (fl:=.nx [qq (.d L),qq (.loc S.length),qz,qz,qz]) (S1:=dL S []) (by simp only[evs,gK];rfl)) ?_
  refine xk (e1:=[qq (.d L),qq (.loc S.length),a2,a3,a4]) (S1:=dL S rs) ?_ (wE (fF (by simp only[evs,gl,rS,rO])))
  show pT (.many [2,3]) (lv C uL) (xx C CX aE qL) _ _=_;unfold pT;rw[it,oB];exact lp
 rw[e,oB];show qq (ResX.ok (.d (.tuple (rs.map Rw.d))),(dL S rs).take S.length)=_;rw[tk]
noncomputable def aBE(rs:List Rw)(aB:List Nat):Option (Ft4×Nat)->ResX
 | none=>.ok (.d (aY rs aB))
 | some z=>.ex z.1.c (.int (z.2:Nat))
theorem aEt(d:Nat)(rs:List Rw)(aB:List Nat)(ar:∀ r∈rs,Ar r)(bd:∀ r∈rs,Bd r)(bo:∀ o∈aB,o<10^20)(lr:rs.length<=100)(l1:1<=aB.length)(lo:aB.length<=8)(S:aC):eO fns gns aE (d+5) 37 [.d (.str (dI rs aB))] S=qq (aBE rs aB (eX rs aB),S):=by
 rw[show eO fns gns aE (d+5) 37=eO fns gns aE (d+5) (fns.length+3) from rfl,rN (x:=aBA) rfl rfl (d+4) _ S rfl]
 have lk:=uU ar bd bo lo;have ll:(cQ rs aB).length<=200:=by unfold cQ;simp;omega
 have el:((cQ rs aB).map bR).map yAa=(rs.map λ r=>yAa (bV r))++[.str (fV aB)]:=by
  unfold cQ;rw[yAw,yAw,yBg,yBg];rfl
 have sp:∀ (C:Calls) e,ev C (.fz (.spl (.var 0) (.str "\n"))) (qq (.d (.str (dI rs aB)))::e) S=qq (.d (.list ((rs.map λ r=>yAa (bV r))++[.str (fV aB)])),S):=λ C e=>by
  rw[<- el];exact aBb aBo rfl (by unfold cQ;simp) (aH4 lk) (xAg (aIZ lk ll) (by decide))
 have ln:fS [.list ((rs.map λ r=>yAa (bV r))++[.str (fV aB)])]=qq (.int ((rs.length+1:Nat):Int)):=by
  rw[cI];simp
 have e1:((rs.length+1:Nat):Int)-1=((rs.length:Nat):Int):=by omega
 have cf:dJ ((rs.map λ r=>yAa (bV r))++[.str (fV aB)]) qz (qq ((rs.length:Nat):Int))=rs.map λ r=>yAa (bV r):=by
  rw[aBd];exact List.take_left' (by rw[yAg])
 have il:bC (.list ((rs.map λ r=>yAa (bV r))++[.str (fV aB)])) (.int ((rs.length:Nat):Int))=qq (.str (fV aB)):=kR (by rw[yAe (by simp)];simp)
 have ri:=aIL d rs ar bd lr S;have oi:bY fns gns aE (d+4) 11 [.d (.str (fV aB))] S=qq (.d (.tuple (aB.map nD)),S):=(eC (d+3) 11 _ _ (by decide)).trans (aIm (d+1) aB bo l1 lo S)
 have lo':=aJ1 d rs aB ar (by omega) (by omega) S
 have nn:=aKz (aB.map nD);have is:∀ z:Str,fL .str (.str z)=qq (.bool true):=λ _=>rfl
 generalize eX rs aB=z at *;have ep:aY rs aB=.tuple [.tuple (rs.map Rw.d),.tuple (aB.map nD)]:=rfl;unfold aBE;rw[ep] at lo' ⊢;generalize (rs.map λ r=>yAa (bV r))++[.str (fV aB)]=LL at *
 generalize (rs.map λ r=>yAa (bV r))=RL at *
 generalize yAv (rs.map Rw.d)=RT at *;generalize yAv (aB.map nD)=OT at *;generalize dI rs aB=TX at *;generalize fV aB=OS at *;have s1:xx (aF fns gns aE (d+4)).1 (aF fns gns aE (d+4)).2 aE (.set 3 36 (.cons (.sl (.var 1) .no (.cons (.var 2) .nil)) .nil)) [qq (.d (.str TX)),qq (.d (.list LL)),qq (.d (.int rs.length)),qz,qz,qz] S=qq (.fl (.nx [qq (.d (.str TX)),qq (.d (.list LL)),qq (.d (.int rs.length)),qq (.d RT),qz,qz]),S):=by
  show mB 3 (jE (aF fns gns aE (d+4)).2 36 (av (aF fns gns aE (d+4)).1 (.cons (.sl (.var 1) .no (.cons (.var 2) .nil)) .nil))) _ S=_;have e:av (aF fns gns aE (d+4)).1 (.cons (.sl (.var 1) .no (.cons (.var 2) .nil)) .nil) [qq (.d (.str TX)),qq (.d (.list LL)),qq (.d (.int rs.length)),qz,qz,qz] S=qq ([.d (.list RL)],S):=by simp only[evs,fO,eD,gM,cf]
  unfold mB;rw[uR,e,oB,ri];rfl
 have s2:xx (aF fns gns aE (d+4)).1 (aF fns gns aE (d+4)).2 aE (.cal 35 (.cons (.var 5) .nil)) [qq (.d (.str TX)),qq (.d (.list LL)),qq (.d (.int rs.length)),qq (.d RT),qq (.d OT),qq (.d (.tuple [RT,OT]))] S=qq (flL [qq (.d (.str TX)),qq (.d (.list LL)),qq (.d (.int rs.length)),qq (.d RT),qq (.d OT),qq (.d (.tuple [RT,OT]))] z,S):=by
  show nF (jE (aF fns gns aE (d+4)).2 35 (av (aF fns gns aE (d+4)).1 (.cons (.var 5) .nil))) _ S=_;have e:av (aF fns gns aE (d+4)).1 (.cons (.var 5) .nil) [qq (.d (.str TX)),qq (.d (.list LL)),qq (.d (.int rs.length)),qq (.d RT),qq (.d OT),qq (.d (.tuple [RT,OT]))] S=qq ([.d (.tuple [RT,OT])],S):=by simp only[evs]
  unfold nF;rw[uR,e,oB,lo'];cases z<;>rfl
 have s3:∀ e,ev (aF fns gns aE (d+4)).1 (.call 11 (.cons (.ix (.var 1) (.var 2)) .nil)) (qq (.d (.str TX))::qq (.d (.list LL))::qq (.d (.int rs.length))::e) S=qq (.d OT,S):=λ e=>by simp only[evs,eB,il,oi]
 have sp:=λ e=>sp (aF fns gns aE (d+4)).1 e
 generalize (aF fns gns aE (d+4)).1=C at *;generalize (aF fns gns aE (d+4)).2=CX at *;have pre:∀ {fx:FlX},xx C CX aE (.seq (.cal 35 (.cons (.var 5) .nil)) (.seq (.s (.ret (.var 5))) .skip)) [qq (.d (.str TX)),qq (.d (.list LL)),qq (.d (.int rs.length)),qq (.d RT),qq (.d OT),qq (.d (.tuple [RT,OT]))] S=qq (fx,S)->xx C CX aE aBA [qq (.d (.str TX)),qz,qz,qz,qz,qz] S=qq (fx,S):=λ {fx} h=>by
  refine xk (gP (S1:=S) (by simp only[evs,is]) rfl) ?_
  refine xk (fF (fl:=.nx [qq (.d (.str TX)),qq (.d (.list LL)),qz,qz,qz,qz]) (S1:=S) (by simp only[vN,dX,sp,oB];rfl)) ?_
  refine xk (fF (fl:=.nx [qq (.d (.str TX)),qq (.d (.list LL)),qq (.d (.int rs.length)),qz,qz,qz]) (S1:=S) (by simp only[evs,ln,gU,e1])) ?_
  refine xk s1 ?_;refine xk (fF (fl:=.nx [qq (.d (.str TX)),qq (.d (.list LL)),qq (.d (.int rs.length)),qq (.d RT),qq (.d OT),qz]) (S1:=S) (by simp only[vN,dX,s3,oB];rfl)) ?_
  refine xk (gP (S1:=S) (by simp only[evs,nn]) rfl) ?_
  refine xk (fF (fl:=.nx [qq (.d (.str TX)),qq (.d (.list LL)),qq (.d (.int rs.length)),qq (.d RT),qq (.d OT),qq (.d (.tuple [RT,OT]))]) (S1:=S) (by simp only[evs])) h
 cases z with
 | none =>
   have s2:xx C CX aE (.cal 35 (.cons (.var 5) .nil)) [qq (.d (.str TX)),qq (.d (.list LL)),qq (.d (.int rs.length)),qq (.d RT),qq (.d OT),qq (.d (.tuple [RT,OT]))] S=qq (.fl (.nx [qq (.d (.str TX)),qq (.d (.list LL)),qq (.d (.int rs.length)),qq (.d RT),qq (.d OT),qq (.d (.tuple [RT,OT]))]),S):=s2;exact aAP rfl (pre (xk s2 (wE (fF (by simp only[evs])))))
 | some z=>exact mL rfl (pre (gH s2))
noncomputable def aGw(G:D):Option (Ft4×Nat)->D
 | none=>.tuple [.str "good",G]
 | some z=>.tuple [.str z.1.s,.int (z.2:Nat)]
noncomputable def lF(rs:List Rw)(aB:List Nat)(z:Option (Ft4×Nat)):D:=aGw (aY rs aB) z
noncomputable def flU(P G:D)(a:Option W):Option (Ft4×Nat)->FlX
 | none=>.fl (.nx [qq (.d P),qq (.d (.tuple [.str "good",G])),qz])
 | some z=>.ex [qq (.d P),a,qz] z.1.c (.int (z.2:Nat))
theorem aEp(d:Nat)(rs:List Rw)(aB:List Nat)(ar:∀ r∈rs,Ar r)(bd:∀ r∈rs,Bd r)(bo:∀ o∈aB,o<10^20)(lr:rs.length<=100)(l1:1<=aB.length)(lo:aB.length<=8)(S:aC):bY fns gns aE (d+6) 38 [.d (.str (dI rs aB))] S=qq (.d (lF rs aB (eX rs aB)),S):=by
 have lo:=aEt d rs aB ar bd bo lr l1 lo S;rw[show bY fns gns aE (d+6) 38=bY fns gns aE (d+6) (fns.length+4) from rfl,vR rfl (d+5) _ S rfl]
 generalize eX rs aB=z at *;unfold aBE at lo;unfold lF;generalize aY rs aB=G at *;generalize yAa (dI rs aB)=P at *;have cx:∀ a,xx (aF fns gns aE (d+5)).1 (aF fns gns aE (d+5)).2 aE (.seq (.pair 1 "good" 37 (.cons (.var 0) .nil)) .skip) [qq (.d P),a,qz] S=qq (flU P G a z,S):=λ a=>by
  have e:xx (aF fns gns aE (d+5)).1 (aF fns gns aE (d+5)).2 aE (.pair 1 "good" 37 (.cons (.var 0) .nil)) [qq (.d P),a,qz] S=qq (flU P G a z,S):=by
   show mB 1 (wN "good" (jE (aF fns gns aE (d+5)).2 37 (av (aF fns gns aE (d+5)).1 (.cons (.var 0) .nil)))) _ S=_;have:av (aF fns gns aE (d+5)).1 (.cons (.var 0) .nil) [qq (.d P),a,qz] S=qq ([.d P],S):=by simp only[evs]
   unfold mB wN;rw[uR,this,oB,lo];cases z<;>rfl
  cases z with
  | none=>exact xk e rfl
  | some z=>exact gH e
 unfold hV;show lR (fD (xx (aF fns gns aE (d+5)).1 (aF fns gns aE (d+5)).2 aE aCL) 3) [.d P] S=_;generalize (aF fns gns aE (d+5)).1=C at *;generalize (aF fns gns aE (d+5)).2=CX at *;refine aMU rfl (xk (fF (fl:=.nx [qq (.d P),qq (.d (.tuple [.str "none",.int 0])),qz]) (S1:=S) (by simp only[evs])) ?_)
 refine xk (e1:=[qq (.d P),qq (.d (aGw G z)),qz]) (S1:=S) ?_ (wE (fF (by simp only[evs])))
 show xH aE (xx C CX aE (.seq (.pair 1 "good" 37 (.cons (.var 0) .nil)) .skip)) (tHs.map λ h=>⟨h.1,h.2.1,nG aE h.2.2⟩) _ S=_
 unfold xH;rw[cx,oB];cases z with
 | none=>rfl
 | some z =>
   show(fJ aE z.1.c (.int (z.2:Nat)) _ _ S).bind _=_;rw[aKO];rfl
inductive Pl:Nat->D->Prop
 | int {d:Nat}{i:Int}:Pl d (.int i)
 | str {d:Nat}{x:Str} (h:yEw x=true):Pl d (.str x)
 | tup {d:Nat}{ts:List D} (h:∀ t∈ts,Pl d t) (hl:ts.length<=1000):Pl (d+1) (.tuple ts)
theorem aEH:∀ {ts:List D},(∀ t∈ts,t.canLay0=true)->yCo ts=true
 | [],_=>rfl
 | t::ts,h=>by
   show(t.canLay0&&yCo ts)=true;rw[h t xAd,aEH λ x m=>h x (xAf _ m)]
   rfl
theorem aEC:∀ {ts:List D},(∀ t∈ts,yCg t t=true)->yFe ts ts=true
 | [],_=>by simp[yFe]
 | t::ts,h=>by
   have h1:=h t xAd;have h2:=aEC λ x m=>h x (xAf _ m)
   simp[yFe,h1,h2]
theorem aD6{n:Nat}:∀ {ts:List D},(∀ t∈ts,t.depth<=n)->yCe ts<=n
 | [],_=>by simp[yCe]
 | t::ts,h=>by
   have h1:=h t xAd;have h2:=aD6 λ x m=>h x (xAf _ m)
   simp only[yCe];omega
theorem Pl.lay{d:Nat}{t:D}(h:Pl d t):t.canLay0=true:=by
 induction h with
 | int=>rfl
 | str h=>exact h
 | tup h hl ih=>exact aEH ih
theorem Pl.eqv{d:Nat}{t:D}(h:Pl d t):yCg t t=true:=by
 induction h with
 | int=>simp[yCg]
 | str h=>simp[yCg]
 | tup h hl ih =>
   have:=aEC ih;simp[yCg,this]
theorem Pl.dep{d:Nat}{t:D}(h:Pl d t):t.depth<=d:=by
 induction h with
 | int=>simp[yEv]
 | str h=>simp[yEv]
 | tup h hl ih =>
   have:=aD6 ih;simp only[yEv];omega
theorem Pl.cmp{d:Nat}{t:D}(h:Pl d t)(hd:d<=50):bA .Eq t t=qq (.bool true):=by
 have h1:=h.lay;have h2:=h.eqv;have h3:=h.dep;unfold bA lA;simp only[];rw[if_pos ⟨h1,h1,by omega⟩,h2]
 rfl
theorem aDM:∀ ts:List D,gJ ts ts=ts.map λ t=>yAv [t,t]
 | []=>rfl
 | t::ts=>by
   show yAv [t,t]::gJ ts ts=_;rw[aDM ts];rfl
theorem aDA{d:Nat}{t:D}(h:Pl d t):∀ (e:Nat) (S:aC),cl fns (e+d+1) 32 [.d t,.d t] S=qq (.d (.bool true),S):=by
 induction h with
 | int =>
   rename_i d i;intro e S;have t1:fL .tup (.int i)=qq (.bool false):=rfl;have t2:fL .str (.int i)=qq (.bool false):=rfl;refine dO rfl (e+d) rfl rfl yAh ?_;show xs (aD fns (e+d)) _ [qq (.d (.int i)),qq (.d (.int i)),qz,qz] S=_;exact bT (S1:=S) (by simp only[evs,t1]) (bT (S1:=S) (by simp only[evs,t2]) (bM (by simp only[evs,cE,beq_self_eq_true])))
 | str h =>
   rename_i d x;intro e S;have t1:fL .tup (.str x)=qq (.bool false):=rfl;have t2:fL .str (.str x)=qq (.bool true):=rfl;have ce:=aDu h;refine dO rfl (e+d) rfl rfl yAh ?_;show xs (aD fns (e+d)) _ [qq (.d (.str x)),qq (.d (.str x)),qz,qz] S=_;exact bT (S1:=S) (by simp only[evs,t1]) (cR (S1:=S) (by simp only[evs,t2]) (bM (by simp only[evs,t2,ce])))
 | tup h hl ih =>
   rename_i d ts;intro e S;refine dO rfl (e+(d+1)) rfl rfl yAh ?_;show xs (aD fns (e+(d+1))) _ [qq (.d (.tuple ts)),qq (.d (.tuple ts)),qz,qz] S=_;have hc:lv (aD fns (e+(d+1))) aCo [qq (.d (.tuple ts)),qq (.d (.tuple ts)),qz,qz] S=qq (ts.map (λ _=>yBf true),S):=by
    refine iI (fi:=lv (aD fns (e+(d+1))) (.zip (.var 0) (.var 1))) (fe:=ev (aD fns (e+(d+1))) (.call 32 (.cons (.var 2) (.cons (.var 3) .nil)))) (λ t=>yAv [t,t]) (λ _=>yBf true) ts ?_ (by rw[zx];omega) λ t ht=>?_
    ·rw[<- aDM];simp only[evs]
    ·refine⟨_,rfl,λ S'=>?_⟩
     have:=ih t ht e S';simp only[evs,clr,yAk,yAo];rw[show e+(d+1)=e+d+1 from rfl,this]
   have am:=all_map (λ _:D=>true) ts
   have:(ts.all λ _=>true)=true:=by simp
   rw[this] at am;have nn:∀ n:Nat,(!(((n:Nat):Int)==((n:Nat):Int)))=false:=λ n=>by rw[beq_self_eq_true];rfl
   refine cR (S1:=S) (by simp only[evs]) (bT (S1:=S) (by simp only[evs,cI,cM,aA7,nn]) (bM (by simp only[evs,hc,am])))
theorem aJK(wd:Wd):yEw wd.s=true:=by cases wd<;>kernel_rfl
theorem aMz{r:Rw}(ar:Ar r):Pl 1 r.d:=.tup (λ t m=>by
 rcases List.mem_cons.mp m with rfl | m
 ·exact .str (aJK _)
 ·rcases List.mem_cons.mp m with rfl | m
  ·exact .int
  ·obtain⟨n,_,rfl⟩:=List.mem_map.mp m;exact .int) (by
 have:=pE r.wd;rw[<- ar] at this;simp;omega)
theorem aFI{rs:List Rw}{aB:List Nat}(ar:∀ r∈rs,Ar r)(lr:rs.length<=100)(lo:aB.length<=8):Pl 3 (aY rs aB):=.tup (λ t m=>by
 rcases List.mem_cons.mp m with rfl | m
 ·exact .tup (λ t m=>by
   obtain⟨r,mr,rfl⟩:=List.mem_map.mp m;exact aMz (ar r mr)) (by simp;omega)
 ·rcases List.mem_cons.mp m with rfl | m
  ·exact .tup (λ t m=>by
    obtain⟨n,_,rfl⟩:=List.mem_map.mp m;exact .int) (by simp;omega)
  ·cases m) (by simp)
theorem aFf{rs:List Rw}{aB:List Nat}(ar:∀ r∈rs,Ar r)(lr:rs.length<=100)(lo:aB.length<=8)(z:Option (Ft4×Nat)):Pl 4 (lF rs aB z):=by
 cases z with
 | none=>exact .tup (λ t m=>by
    rcases List.mem_cons.mp m with rfl | m
    ·exact .str (by kernel_rfl)
    ·rcases List.mem_cons.mp m with rfl | m
     ·exact aFI ar lr lo
     ·cases m) (by simp)
 | some z=>exact .tup (λ t m=>by
    rcases List.mem_cons.mp m with rfl | m
    ·exact .str (by cases z.1<;>kernel_rfl)
    ·rcases List.mem_cons.mp m with rfl | m
     ·exact .int
     ·cases m) (by simp)
theorem aCM(d:Nat)(rs:List Rw)(aB:List Nat)(ar:∀ r∈rs,Ar r)(bd:∀ r∈rs,Bd r)(bo:∀ o∈aB,o<10^20)(lr:rs.length<=100)(lo:aB.length<=8)(S:aC):cl fns (d+3) 33 [.d (aY rs aB)] S=qq (.d (.bool true),S):=by
 have wr:=aAt d rs aB ar bd bo lr lo S;have lt:=aAk (d+1) rs aB ar bd bo lr lo S;have ce:bA .Eq (.str (dI rs aB)) (.str (dI rs aB))=qq (.bool true):=aDu (aIR (uU ar bd bo lo));have t2:fL .str (.str (dI rs aB))=qq (.bool true):=rfl;generalize dI rs aB=TX at *;generalize aY rs aB=P at *;refine dO rfl (d+2) rfl rfl yAh ?_;show xs (aD fns (d+2)) _ [qq (.d P),qz] S=_;exact cD (w:=.d (.str TX)) (S1:=S) (by simp only[evs,wr]) rfl (bM (by simp only[evs,t2,lt,ce]))
theorem aDE(r:Rw)(bd:Bd r)(p v:Nat)(hv:v<10^20)(h1:1<=p)(h2:p<2+r.args.length):∃ (r':Rw) (o:Nat),r'.wd=r.wd/\r'.args.length=r.args.length/\Bd r'/\o<10^20/\(r.l.take p++[nD v])++r.l.drop (p+1)=r'.l/\r.l[p]? = qq (nD o):=by
 obtain⟨wd,w,args⟩:=r;dsimp only at h2
 match p,h1 with
 | 1,_=>exact⟨⟨wd,v,args⟩,w,rfl,rfl,⟨hv,bd.2⟩,bd.1,rfl,rfl⟩
 | i+2,_ =>
   have hi:i<args.length:=by omega
   refine⟨⟨wd,w,args.take i++[v]++args.drop (i+1)⟩,args[i],rfl,?_,⟨bd.1,λ a m=>?_⟩,bd.2 _ (List.getElem_mem hi),?_,?_⟩
   ·simp;omega
   ·rcases List.mem_append.mp m with m | m
    ·rcases List.mem_append.mp m with m | m
     ·exact bd.2 a (yEm m)
     ·rw[List.mem_singleton.mp m];exact hv
    ·exact bd.2 a (yEn m)
   ·unfold Rw.l;simp[List.map_take,List.map_drop]
   ·show(args.map nD)[i]? = _;rw[xAb,yAd hi];rfl
noncomputable def nA:Nat:=99999999999999999999
theorem aJn:cA .Sub (.int ((10:Int)^20)) (.int 1)=qq (.int nA):=by kernel_rfl
theorem aF3(a b:Nat):∃ m:Nat,m<=a/\m<=b/\sM [.int a,.int b]=qq (.int m):=by
 show ∃ m:Nat,_/\_/\qq (yAl (if ((b:Nat):Int)<((a:Nat):Int) then ((b:Nat):Int) else ((a:Nat):Int)))=_
 by_cases c:((b:Nat):Int)<((a:Nat):Int)
 ·rw[if_pos c];exact⟨b,by omega,by omega,rfl⟩
 ·rw[if_neg c];exact⟨a,by omega,by omega,rfl⟩
theorem aPp(a:Nat):∃ m:Nat,m<=a/\xG [.int 0,.int (((a:Nat):Int)-1)]=qq (.int m):=by
 show ∃ m:Nat,m<=a/\qq (yAl (if ((a:Nat):Int)-1>0 then ((a:Nat):Int)-1 else 0))=_
 by_cases c:((a:Nat):Int)-1>0
 ·rw[if_pos c];exact⟨a-1,by omega,by congr 2;omega⟩
 ·rw[if_neg c];exact⟨0,by omega,rfl⟩
theorem aEe{L:List Nat}{b q:Nat}(h:∀ x∈L,x<b)(hb:0<b):L.getD q 0<b:=by
 rw[yCf];cases e:L[q]? with
 | none=>exact hb
 | some x=>exact h x (xAi e)
theorem aJG(d:Nat)(ns:List Int)(k:Nat)(x:Int)(old r most:Nat)(hm:most<=64)(hk:k<=90000)(hold:old<10^20)(hrr:r<=1000):∃ (v:Nat) (x':Int),v<10^20/\cl fns (d+2) 29 [.loc 0,.d (.int old),.d (.int r),.d (.int most)] (s0 ns k x)=qq (.d (.int v),s0 ns (k+2) x'):=by
 have pw:cA .Pow (.int 10) (.int 20)=qq (.int ((10:Int)^20)):=aJM (k:=20) (by decide) (by decide)
 have nn:=aJn;have eo:((old:Nat):Int)+1=((old+1:Nat):Int):=by omega
 have er:((r:Nat):Int)+1=((r+1:Nat):Int):=by omega
 obtain⟨m1,hm1,_,e1⟩:=aF3 nA (old+1);obtain⟨m2,hm2,e2⟩:=aPp old;have sh:=iH (w:=most) (by omega)
 obtain⟨q1,x1,hq1,d1⟩:=pH (ns:=ns) (k:=k) (x:=x) d 70 (i:=70) rfl (by decide) (by decide) (by omega)
 obtain⟨q2,x2,hq2,d2⟩:=pH (ns:=ns) (k:=k+1) (x:=x1) d 11 (i:=11) rfl (by decide) (by decide) (by omega)
 obtain⟨b,hb,eb⟩:=yG (decide ((39:Int)<((most:Nat):Int)));have n9:nA<10^20:=by decide
 have s7:∃ y:Nat,y<10^20/\bC (.list [.int 7,.int nA]) (.int b)=qq (.int y):=⟨_,aEe (L:=[7,nA]) (λ x m=>by simp at m;rcases m with rfl | rfl<;>first | exact n9 | decide) (by decide),jU (vs:=[7,nA]) (k:=b) (by simpa using hb)⟩
 obtain⟨y,hy,ey⟩:=s7;have hl:cA .Add (.list [.int 0,.int 65,.int 64,.int 63,.int r,.int ((r+1:Nat):Int),.int m1,.int m2,.int ((2^most:Nat):Int),.int q1]) (.list [.int y])=qq (.list ([0,65,64,63,r,r+1,m1,m2,2^most,q1,y].map nD)):=vA (by simp)
 have gx:=jU (vs:=[0,65,64,63,r,r+1,m1,m2,2^most,q1,y]) (k:=q2) (by simpa using hq2)
 have p64:2^most<10^20:=yDt (yDh (by decide) hm) (by decide)
 have hv:[0,65,64,63,r,r+1,m1,m2,2^most,q1,y].getD q2 0<10^20:=aEe (λ x m=>by
  simp only[yAx,yAr,or_false] at m;rcases m with rfl | rfl | rfl | rfl | rfl | rfl | rfl | rfl | rfl | rfl | rfl<;>first | exact p64 | exact hy | omega) (by decide)
 generalize List.map nD [0,65,64,63,r,r+1,m1,m2,2^most,q1,y]=LL at *;generalize [0,65,64,63,r,r+1,m1,m2,2^most,q1,y].getD q2 0=v at *;generalize nA=N9 at *;generalize ((2^most:Nat):Int)=P2 at *;refine⟨v,x2,hv,?_⟩;rw[cP rfl (d+1) _ _ rfl];simp only[evs,cK,aCH,pw,nn,er,eo,cU,gU,e1,e2,sh,d1,d2,iK,pB,oX,eb,ey,hl,gx]
theorem aAV{C:Calls}{env:aU}{S S1:aC}{X:E}{rs:List Rw}{r:Nat}{r':Rw}(h1:env[1]? = qq (qq (.d (.list (rs.map Rw.d)))))(h2:env[2]? = qq (qq (.d (.int r))))(hx:ev C X env S=qq (.d r'.d,S1))(hl:rs.length<=1000) :
 ev C (.bin .Add (.bin .Add (.sl (.var 1) .no (.cons (.var 2) .nil)) (.fz (.lst (.cons X .nil)))) (.sl (.var 1) (.cons (.bin .Add (.var 2) (.int 1)) .nil) .no)) env S=qq (.d (.list (((rs.take r++[r'])++rs.drop (r+1)).map Rw.d)),S1):=by
 have e1:((r:Nat):Int)+1=((r+1:Nat):Int):=by omega
 have c1:cA .Add (.list ((rs.map Rw.d).take r)) (.list [r'.d])=qq (.list ((rs.map Rw.d).take r++[r'.d])):=vA (by simp;omega)
 have c2:cA .Add (.list ((rs.map Rw.d).take r++[r'.d])) (.list ((rs.map Rw.d).drop (r+1)))=qq (.list (((rs.map Rw.d).take r++[r'.d])++(rs.map Rw.d).drop (r+1))):=vA (by simp;omega)
 have ef:((rs.take r++[r'])++rs.drop (r+1)).map Rw.d=((rs.map Rw.d).take r++[r'.d])++(rs.map Rw.d).drop (r+1):=by
  rw[yAw,yAw,List.map_take,List.map_drop];rfl
 rw[ef];generalize rs.map Rw.d=L at *;simp only[evs,fO,eD,gM,h1,h2,hx,cU,e1,aBd,oO,c1,c2]
theorem aAz{rs:List Rw}{r:Nat}{r':Rw}(ar:∀ q∈rs,Bd q)(h:Bd r'):∀ q∈(rs.take r++[r'])++rs.drop (r+1),Bd q:=λ q m=>by
 rcases List.mem_append.mp m with m | m
 ·rcases List.mem_append.mp m with m | m
  ·exact ar q (yEm m)
  ·rw[List.mem_singleton.mp m];exact h
 ·exact ar q (yEn m)
theorem aAG{rs:List Rw}{r:Nat}{r':Rw}(ar:∀ q∈rs,Ar q)(h:Ar r'):∀ q∈(rs.take r++[r'])++rs.drop (r+1),Ar q:=λ q m=>by
 rcases List.mem_append.mp m with m | m
 ·rcases List.mem_append.mp m with m | m
  ·exact ar q (yEm m)
  ·rw[List.mem_singleton.mp m];exact h
 ·exact ar q (yEn m)
theorem aAK{rs:List Rw}{r:Nat}{r':Rw}(h:r<rs.length):((rs.take r++[r'])++rs.drop (r+1)).length=rs.length:=by
 simp;omega
noncomputable def spT:Sx:=iB (iB zC)
theorem aEo(d:Nat)(ns:List Int)(k:Nat)(x:Int)(rs:List Rw)(r:Nat)(hr:r<rs.length)(hl:rs.length<=1000)(ar:∀ q∈rs,Ar q)(bd:∀ q∈rs,Bd q)(hk:k<=80000)(a7:Option W):∃ (aN:List Rw) (x':Int),aN.length=rs.length/\(∀ q∈aN,Ar q)/\(∀ q∈aN,Bd q) /\
 xs (aD fns (d+2)) spT [qq (.loc 0),qq (.d (.list (rs.map Rw.d))),qq (.d (.int r)),qq (.d (aI rs r).d),qz,qz,qz,a7] (s0 ns k x)=qq (.rt (.d (.list (aN.map Rw.d))),s0 ns (k+3) x'):=by
 have arr:=ar _ (kW hr);have ln:=aBk (aI rs r);have a3:=pE (aI rs r).wd;rw[<- arr] at a3;have r1:=fB (aI rs r);obtain⟨q1,x1,hq1,d1⟩:=aFA (ns:=ns) (k:=k) (x:=x) (d+1) (1+(aI rs r).args.length) (by omega) (by omega) (by omega)
 have el:((2+(aI rs r).args.length:Nat):Int)-1=((1+(aI rs r).args.length:Nat):Int):=by omega
 have ea:(1:Int)+((q1:Nat):Int)=((1+q1:Nat):Int):=by omega
 have ea2:((1+q1:Nat):Int)+1=((1+q1+1:Nat):Int):=by omega
 obtain⟨b,hb,eb⟩:=yG (((2+(aI rs r).args.length:Nat):Int)==3);obtain⟨m0,hm0,em0⟩:∃ m0:Nat,m0<=64/\bC (.list [.int 39,.int 64]) (.int b)=qq (.int m0):=by
  refine⟨[39,64].getD b 0,?_,jU (vs:=[39,64]) (k:=b) (by simpa using hb)⟩
  match b,hb with
  | 0,_=>decide
  | 1,_=>decide
 obtain⟨most,_,hm,em⟩:=aF3 (aI rs r).w m0;have bdr:=bd _ (kW hr);obtain⟨r0,old,-,-,-,hold,-,go⟩:=aDE (aI rs r) bdr (1+q1) 0 (by decide) (by omega) (by omega)
 obtain⟨v,x2,hv,eo⟩:=aJG d ns (k+1) x1 old r most (by omega) (by omega) hold (by omega)
 obtain⟨r',o',w1,w2,wb,-,w3,-⟩:=aDE (aI rs r) bdr (1+q1) v hv (by omega) (by omega)
 have lr:fS [(aI rs r).d]=qq (.int ((2+(aI rs r).args.length:Nat):Int)):=by rw[rV,cM,ln]
 have gx:bC (aI rs r).d (.int ((1+q1:Nat):Int))=qq (.int old):=oP go;refine⟨(rs.take r++[r'])++rs.drop (r+1),x2,aAK hr,aAG ar (by unfold Ar;rw[w1,w2];exact arr),aAz bd wb,?_⟩
 have hX:ev (aD fns (d+2)) (.bin .Add (.bin .Add (.sl (.var 3) .no (.cons (.var 4) .nil)) (.tup (.cons (.var 6) .nil))) (.sl (.var 3) (.cons (.bin .Add (.var 4) (.int 1)) .nil) .no)) [qq (.loc 0),qq (.d (.list (rs.map Rw.d))),qq (.d (.int r)),qq (.d (aI rs r).d),qq (.d (.int ((1+q1:Nat):Int))),qq (.d (.int most)),qq (.d (.int v)),a7] (s0 ns (k+3) x2)=qq (.d r'.d,s0 ns (k+3) x2):=by
  rw[rV,rV,<- w3];have c1:cA .Add (.tuple ((aI rs r).l.take (1+q1))) (.tuple [.int v])=qq (.tuple ((aI rs r).l.take (1+q1)++[nD v])):=nJ (λ z=>by have:=congrArg List.length z;rw[yBs,yDd] at this;omega) (by simp;omega)
  have c2:cA .Add (.tuple ((aI rs r).l.take (1+q1)++[nD v])) (.tuple ((aI rs r).l.drop (1+q1+1)))=qq (.tuple (((aI rs r).l.take (1+q1)++[nD v])++(aI rs r).l.drop (1+q1+1))):=nJ (by simp) (by simp;omega)
  generalize (aI rs r).l=L at *;simp only[evs,fO,eD,gM,cU,ea2,aBd,oO,c1,c2]
 have pr:=aAV (C:=aD fns (d+2)) (env:=[qq (.loc 0),qq (.d (.list (rs.map Rw.d))),qq (.d (.int r)),qq (.d (aI rs r).d),qq (.d (.int ((1+q1:Nat):Int))),qq (.d (.int most)),qq (.d (.int v)),a7]) rfl rfl hX hl;generalize (aI rs r).d=R at *;generalize rs.map Rw.d=LL at *;refine cD (w:=.d (.int ((1+q1:Nat):Int))) (S1:=s0 ns (k+1) x1) (by simp only[evs,lr,gU,el,d1,cU,ea]) rfl ?_
 refine cD (w:=.d (.int most)) (S1:=s0 ns (k+1) x1) (by simp only[evs,r1,lr,cE,pB,oX,eb,em0,em]) rfl ?_
 refine cD (w:=.d (.int v)) (S1:=s0 ns (k+3) x2) (by simp only[evs,gx,eo]) rfl ?_
 exact bM pr
noncomputable def w8:List Wd:=[.and,.or,.mul,.same,.less,.under,.left,.slide]
noncomputable def w5:List Wd:=[.num,.not,.cut,.wide,.sign]
theorem aFy{l:List Wd}{q:Nat}(h:q<l.length):∃ wd,wd∈l/\bC (.list (l.map λ w=>yAa w.s)) (.int q)=qq (.str wd.s):=⟨l[q],List.getElem_mem h,kR (by rw[xAb,yAd h];rfl)⟩
theorem aDQ{C:Calls}{env:aU}{S S1:aC}{r:Rw}{wd:Wd}{L:D}{c:E}{q:Nat}(h3:env[3]? = qq (qq (.d r.d)))(h7:env[7]? = qq (qq (.d L)))(hc:ev C c env S=qq (.d (.int q),S1))(hL:bC L (.int q)=qq (.str wd.s))(hl:r.args.length<=10) :
 ev C (.bin .Add (.tup (.cons (.ix (.var 7) c) .nil)) (.sl (.var 3) (.cons (.int 1) .nil) .no)) env S=qq (.d (Rw.mk wd r.w r.args).d,S1):=by
 have c1:cA .Add (.tuple [.str wd.s]) (.tuple (r.l.drop 1))=qq (.tuple (Rw.mk wd r.w r.args).l):=by
  have:=nJ (xs:=[yAa wd.s]) (ys:=r.l.drop 1) (by simp) (by rw[yEf,aBk];simp;omega)
  rw[this];rfl
 have cf:dJ r.l (qq 1) qz=r.l.drop 1:=oO r.l 1;rw[rV] at h3 ⊢;generalize r.l=RL at *;simp only[evs,fO,eD,gM,h3,h7,hc,hL,cf,c1]
theorem aH0(d:Nat)(ns:List Int)(k:Nat)(x:Int)(rs:List Rw)(r:Nat)(hr:r<rs.length)(hl:rs.length<=1000)(ar:∀ q∈rs,Ar q)(bd:∀ q∈rs,Bd q)(hk:k<=70000):∃ (aN:List Rw) (k':Nat) (x':Int),aN.length=rs.length/\(∀ q∈aN,Ar q)/\(∀ q∈aN,Bd q)/\k'<=k+4 /\
 cl fns (d+3) 30 [.loc 0,.d (.list (rs.map Rw.d)),.d (.int r)] (s0 ns k x)=qq (.d (.list (aN.map Rw.d)),s0 ns k' x'):=by
 have arr:=ar _ (kW hr);have ln:=aBk (aI rs r);have a3:=pE (aI rs r).wd;rw[<- arr] at a3;have rk:=aAi hr;have lr:fS [(aI rs r).d]=qq (.int ((2+(aI rs r).args.length:Nat):Int)):=by rw[rV,cM,ln]
 obtain⟨q0,x0,hq0,d0⟩:=pH (ns:=ns) (k:=k) (x:=x) (d+1) 5 (i:=5) rfl (by decide) (by decide) (by omega)
 have bB:∀ (aN:List Rw) (k':Nat) (x':Int),xs (aD fns (d+2)) (iB zC) [qq (.loc 0),qq (.d (.list (rs.map Rw.d))),qq (.d (.int r)),qq (.d (aI rs r).d),qz,qz,qz,qz] (s0 ns k x)=qq (.rt (.d (.list (aN.map Rw.d))),s0 ns k' x') ->
  cl fns (d+3) 30 [.loc 0,.d (.list (rs.map Rw.d)),.d (.int r)] (s0 ns k x)=qq (.d (.list (aN.map Rw.d)),s0 ns k' x'):=λ aN k' x' e=>by
  refine dO rfl (d+2) rfl rfl (by rfl) (cD (w:=.d (aI rs r).d) (S1:=s0 ns k x) ?_ rfl e)
  generalize rs.map Rw.d=LL at *;simp only[yAj,yCi,yCh,yDd,yAt,List.replicate_zero,List.cons_append,yCp,Nat.reduceAdd,Nat.reduceSub];simp only[evs,rk]
 by_cases c0:q0=1
 ·have t0:∀ e,tv (aD fns (d+2)) (.cmp .Eq (.call 14 (.cons (.var 0) (.cons (.int 5) .nil))) (.int 1)) (qq (.loc 0)::e) (s0 ns k x)=qq (true,s0 ns (k+1) x0):=λ e=>by
   simp only[evs,d0,cE,c0];rfl
  have q7:∀ e S,ev (aD fns (d+2)) (.fz (.lst (.cons (.str "and") (.cons (.str "or") (.cons (.str "mul") (.cons (.str "same") (.cons (.str "less") (.cons (.str "under") (.cons (.str "left") (.cons (.str "slide") .nil)))))))))) e S=qq (.d (.list (w8.map λ w=>yAa w.s)),S):=λ e S=>by simp only[evs,w8,Wd.s]
  have q5:∀ e S,ev (aD fns (d+2)) (.fz (.lst (.cons (.str "num") (.cons (.str "not") (.cons (.str "cut") (.cons (.str "wide") (.cons (.str "sign") .nil))))))) e S=qq (.d (.list (w5.map λ w=>yAa w.s)),S):=λ e S=>by simp only[evs,w5,Wd.s]
  by_cases c2:(aI rs r).args.length=2
  ·obtain⟨q1,x1,hq1,d1⟩:=pH (ns:=ns) (k:=k+1) (x:=x0) (d+1) 8 (i:=8) rfl (by decide) (by decide) (by omega)
   obtain⟨wd,mw,ew⟩:=aFy (l:=w8) (q:=q1) hq1;have aw:gO wd=2:=by
    simp only[w8,yAx,yAr,or_false] at mw;rcases mw with rfl | rfl | rfl | rfl | rfl | rfl | rfl | rfl<;>rfl
   refine⟨(rs.take r++[⟨wd,(aI rs r).w,(aI rs r).args⟩])++rs.drop (r+1),k+2,x1,aAK hr,aAG ar (by show(aI rs r).args.length=gO wd;rw[c2,aw]),aAz bd (show Bd ⟨wd,(aI rs r).w,(aI rs r).args⟩ from ⟨(bd _ (kW hr)).1,(bd _ (kW hr)).2⟩),by omega,bB _ _ _ (cR (t0 _) ?_)⟩
   have pr:=aAV (C:=aD fns (d+2)) (S:=s0 ns (k+1) x0) (env:=[qq (.loc 0),qq (.d (.list (rs.map Rw.d))),qq (.d (.int r)),qq (.d (aI rs r).d),qz,qz,qz,qq (.d (.list (w8.map λ w=>yAa w.s)))]) rfl rfl (aDQ (c:=.call 14 (.cons (.var 0) (.cons (.int 8) .nil))) (S1:=s0 ns (k+2) x1) rfl rfl (by simp only[evs,d1]) ew (by omega)) hl
   have u1:decide (((2+(aI rs r).args.length:Nat):Int)<4)=false:=dqF (by omega)
   have u2:(((2+(aI rs r).args.length:Nat):Int)==4)=true:=by rw[c2];rfl
   generalize (aI rs r).d=R at *;generalize rs.map Rw.d=LL at *;refine cD (q7 _ _) rfl (bT (S1:=s0 ns (k+1) x0) ?_ (cR (S1:=s0 ns (k+1) x0) ?_ (bM pr)))
   ·simp only[evs,lr,dH,u1]
   ·simp only[evs,lr,cE,u2]
  by_cases c1:(aI rs r).args.length=1
  ·obtain⟨q1,x1,hq1,d1⟩:=pH (ns:=ns) (k:=k+1) (x:=x0) (d+1) 5 (i:=5) rfl (by decide) (by decide) (by omega)
   obtain⟨wd,mw,ew⟩:=aFy (l:=w5) (q:=q1) hq1;have aw:gO wd=1:=by
    simp only[w5,yAx,yAr,or_false] at mw;rcases mw with rfl | rfl | rfl | rfl | rfl<;>rfl
   refine⟨(rs.take r++[⟨wd,(aI rs r).w,(aI rs r).args⟩])++rs.drop (r+1),k+2,x1,aAK hr,aAG ar (by show(aI rs r).args.length=gO wd;rw[c1,aw]),aAz bd (show Bd ⟨wd,(aI rs r).w,(aI rs r).args⟩ from ⟨(bd _ (kW hr)).1,(bd _ (kW hr)).2⟩),by omega,bB _ _ _ (cR (t0 _) ?_)⟩
   have pr:=aAV (C:=aD fns (d+2)) (S:=s0 ns (k+1) x0) (env:=[qq (.loc 0),qq (.d (.list (rs.map Rw.d))),qq (.d (.int r)),qq (.d (aI rs r).d),qz,qz,qz,qq (.d (.list (w5.map λ w=>yAa w.s)))]) rfl rfl (aDQ (c:=.call 14 (.cons (.var 0) (.cons (.int 5) .nil))) (S1:=s0 ns (k+2) x1) rfl rfl (by simp only[evs,d1]) ew (by omega)) hl
   have u1:decide (((2+(aI rs r).args.length:Nat):Int)<4)=true:=dqT (by omega)
   have u2:(((2+(aI rs r).args.length:Nat):Int)==4)=false:=by rw[c1];rfl
   have u3:(((2+(aI rs r).args.length:Nat):Int)==3)=true:=by rw[c1];rfl
   generalize (aI rs r).d=R at *;generalize rs.map Rw.d=LL at *;refine cD (q7 _ _) rfl (eY (iR (S1:=s0 ns (k+1) x0) ?_ (jB (q5 _ _))) (bT (S1:=s0 ns (k+1) x0) ?_ (cR (S1:=s0 ns (k+1) x0) ?_ (bM pr))))
   ·simp only[evs,lr,dH,u1]
   ·simp only[evs,lr,cE,u2]
   ·simp only[evs,lr,cE,u3]
  ·have u2:(((2+(aI rs r).args.length:Nat):Int)==4)=false:=by rw[beq_eq_false_iff_ne];omega
   have u3:(((2+(aI rs r).args.length:Nat):Int)==3)=false:=by rw[beq_eq_false_iff_ne];omega
   have tk:∀ a7,∃ (aN:List Rw) (x':Int),aN.length=rs.length/\(∀ q∈aN,Ar q)/\(∀ q∈aN,Bd q)/\_:=λ a7=>aEo d ns (k+1) x0 rs r hr hl ar bd (by omega) a7
   by_cases c3:(aI rs r).args.length=0
   ·obtain⟨aN,x',l',m',n',e'⟩:=tk (qq (.d (.list (w5.map λ w=>yAa w.s))))
    refine⟨aN,k+4,x',l',m',n',by omega,bB _ _ _ (eY (iR (t0 _) ?_) e')⟩
    have u1:decide (((2+(aI rs r).args.length:Nat):Int)<4)=true:=dqT (by omega)
    generalize (aI rs r).d=R at *;generalize rs.map Rw.d=LL at *;refine cD (q7 _ _) rfl (eY (iR (S1:=s0 ns (k+1) x0) ?_ (jB (q5 _ _))) (bT (S1:=s0 ns (k+1) x0) ?_ (bT (S1:=s0 ns (k+1) x0) ?_ rfl)))
    ·simp only[evs,lr,dH,u1]
    ·simp only[evs,lr,cE,u2]
    ·simp only[evs,lr,cE,u3]
   ·obtain⟨aN,x',l',m',n',e'⟩:=tk (qq (.d (.list (w8.map λ w=>yAa w.s))))
    refine⟨aN,k+4,x',l',m',n',by omega,bB _ _ _ (eY (iR (t0 _) ?_) e')⟩
    have u1:decide (((2+(aI rs r).args.length:Nat):Int)<4)=false:=dqF (by omega)
    generalize (aI rs r).d=R at *;generalize rs.map Rw.d=LL at *;refine cD (q7 _ _) rfl (bT (S1:=s0 ns (k+1) x0) ?_ (bT (S1:=s0 ns (k+1) x0) ?_ (bT (S1:=s0 ns (k+1) x0) ?_ rfl)))
    ·simp only[evs,lr,dH,u1]
    ·simp only[evs,lr,cE,u2]
    ·simp only[evs,lr,cE,u3]
 ·have c0':(((q0:Nat):Int)==1)=false:=by rw[beq_eq_false_iff_ne];omega
  obtain⟨aN,x',l',m',n',e'⟩:=aEo d ns (k+1) x0 rs r hr hl ar bd (by omega) qz
  refine⟨aN,k+4,x',l',m',n',by omega,bB _ _ _ (bT (S1:=s0 ns (k+1) x0) ?_ e')⟩
  generalize (aI rs r).d=R at *;generalize rs.map Rw.d=LL at *;simp only[evs,d0,cE,c0']
theorem aJA{ws:List Nat}{r:Rw}(h:gZ ws r)(hw:ws.length<=1000):Bd r:=by
 obtain⟨wd,w,args⟩:=r;have h2:w<=64:=h.2.1;have lt:∀ {a v:Nat},ws[a]? = qq v->a<10^20:=λ {a v} q=>by
  have:=(gIm q).1;omega
 have e0:∀ a∈([]:List Nat),a<10^20:=λ a m=>by cases m
 have e1:∀ {a:Nat},a<10^20->∀ x∈[a],x<10^20:=λ q x m=>by rw[List.mem_singleton.mp m];exact q
 have e2:∀ {a b:Nat},a<10^20->b<10^20->∀ x∈[a,b],x<10^20:=λ q q' x m=>by
  rcases List.mem_cons.mp m with rfl | m
  ·exact q
  ·exact e1 q' x m
 refine⟨show w<10^20 by omega,?_⟩
 rcases args with _ | ⟨a,_ | ⟨b,_ | ⟨c,_ | ⟨e,t⟩⟩⟩⟩
 ·exact e0
 ·cases wd
  case num =>
   have q:a<2^w:=h.2.2;exact e1 (xAc q (xAg (yDh (by decide) h2) (by decide)))
  case not=>exact e1 (lt h.2.2)
  case cut=>obtain⟨v,q,_⟩:=h.2.2;exact e1 (lt q)
  case wide=>obtain⟨v,q,_⟩:=h.2.2;exact e1 (lt q)
  case sign=>obtain⟨v,q,_⟩:=h.2.2;exact e1 (lt q)
  all_goals exact h.2.2.elim
 ·cases wd
  case left | right | slide =>
   have q2:b<64:=h.2.2.2;exact e2 (lt h.2.2.1) (by omega)
  case and | or | xor | add | sub | mul=>exact e2 (lt h.2.2.1) (lt h.2.2.2)
  case same | less | under =>
   obtain⟨_,v,q1,q2⟩:=h.2.2;exact e2 (lt q1) (lt q2)
  all_goals exact h.2.2.elim
 ·cases wd
  case pick =>
   obtain⟨q1,q2,q3⟩:=h.2.2;intro x m;rcases List.mem_cons.mp m with rfl | m
   ·exact lt q1
   ·exact e2 (lt q2) (lt q3) x m
  all_goals exact h.2.2.elim
 ·cases wd<;>exact h.2.2.elim
theorem aAg:∀ {rs:List Rw}{ws:List Nat},cW ws rs->ws.length+rs.length<=1000->∀ r∈rs,Bd r
 | [],_,_,_,r,h=>by cases h
 | q::rs,ws,⟨h1,h2⟩,hl,r,h=>by
   have hl:ws.length+(rs.length+1)<=1000:=hl;rcases List.mem_cons.mp h with rfl | h
   ·exact aJA h1 (by omega)
   ·exact aAg h2 (by simp;omega) r h
theorem aIE{g:Nat}{G:FnX}{x:Xx}(hG:gns[g]? = qq G)(hx:G.body=.inr x)(d:Nat)(ws:List W)(S:aC)(h:ws.length=G.np){w:W}{S':aC}(e:eO fns gns aE (d+1) (fns.length+g) ws S=qq (.ok w,S')):bY fns gns aE (d+1) (fns.length+g) ws S=qq (w,S'):=by
 rw[vR hG d ws S h];rw[rN hG hx d ws S h] at e;unfold hV;rw[hx];show lR _ ws S=_;unfold lR;rw[e];rfl
theorem aPW:dI [] [0] = "out 0":=by decide +kernel
theorem aJ5:bA .NotEq (.str "out 0") (.str "out 0")=qq (.bool false):=by kernel_rfl
theorem aKC(f:Ft4):bA .Eq (.str f.s) (.str "good")=qq (.bool false):=by cases f<;>kernel_rfl
theorem aJg:bA .Eq (.str "good") (.str "good")=qq (.bool true):=by kernel_rfl
noncomputable def lwT:Sx:=iB (iB (iB (iB (iB (iB tG)))))
theorem aJu(d:Nat)(S:aC)(rs0 rs:List Rw)(aB:List Nat)(s:D)(a2 a5 a6:Option W)(ok:cW [] rs0)(h0:∀ o∈aB,o<rs0.length)(l0:rs0.length<=100)(o1:1<=aB.length)(o8:aB.length<=8)(ar:∀ q∈rs,Ar q)(bd:∀ q∈rs,Bd q)(hl:rs.length<=100) :
 xs (aF fns gns aE (d+6)).1 lwT [qq (.d s),qq (.loc 0),a2,qq (.d (aY rs0 aB)),qq (.d (.list (rs.map Rw.d))),a5,a6,qz,qz] S=qq (.rt (.d (.bool true)),S):=by
 have ar0:=aAb ok;have bd0:=aAg ok (by simp;omega)
 have bo:∀ o∈aB,o<10^20:=λ o m=>by have:=h0 o m;omega
 have tg:=aEp d rs0 aB ar0 bd0 bo l0 o1 o8 S;have to:=aEp d rs aB ar bd bo hl o1 o8 S;have gl:=aIM ok h0;have rd:=aEt (d+1) rs0 aB ar0 bd0 bo l0 o1 o8 S;rw[gl] at tg rd;have rd:bY fns gns aE (d+6) 37 [.d (.str (dI rs0 aB))] S=qq (.d (aY rs0 aB),S):=aIE (g:=3) rfl rfl (d+5) _ S rfl rd;have du:bY fns gns aE (d+6) 28 [.d (.list (rs.map Rw.d)),.d (.tuple (aB.map nD))] S=qq (.d (kB (eX rs aB)),S):=(eC (d+5) 28 _ _ (by decide)).trans (aLt (d+3) rs aB ar (by omega) (by omega) S)
 have wg:bY fns gns aE (d+6) 33 [.d (aY rs0 aB)] S=qq (.d (.bool true),S):=(eC (d+5) 33 _ _ (by decide)).trans (aCM (d+3) rs0 aB ar0 bd0 bo l0 o8 S)
 have wo:bY fns gns aE (d+6) 33 [.d (aY rs aB)] S=qq (.d (.bool true),S):=(eC (d+5) 33 _ _ (by decide)).trans (aCM (d+3) rs aB ar bd bo hl o8 S)
 have w0:bY fns gns aE (d+6) 13 [.d (aY [] [0])] S=qq (.d (.str (dI [] [0])),S):=(eC (d+5) 13 _ _ (by decide)).trans (aAt (d+4) [] [0] (λ r m=>by cases m) (λ r m=>by cases m) (λ o m=>by rw[List.mem_singleton.mp m];decide) (by simp) (by simp) S)
 rw[aPW] at w0;have w0:bY fns gns aE (d+6) 13 [.d (.tuple [.tuple [],.tuple [.int 0]])] S=qq (.d (.str "out 0"),S):=w0;have tx0:bY fns gns aE (d+6) 31 [.d (aY rs0 aB)] S=qq (.d (.str (dI rs0 aB)),S):=(eC (d+5) 31 _ _ (by decide)).trans (aAk (d+5) rs0 aB ar0 bd0 bo l0 o8 S)
 have tx1:bY fns gns aE (d+6) 31 [.d (aY rs aB)] S=qq (.d (.str (dI rs aB)),S):=(eC (d+5) 31 _ _ (by decide)).trans (aAk (d+5) rs aB ar bd bo hl o8 S)
 have wr0:bY fns gns aE (d+6) 13 [.d (aY rs0 aB)] S=qq (.d (.str (dI rs0 aB)),S):=(eC (d+5) 13 _ _ (by decide)).trans (aAt (d+4) rs0 aB ar0 bd0 bo l0 o8 S)
 have k0:bY fns gns aE (d+6) 32 [.d (lF rs0 aB qz),.d (lF rs0 aB qz)] S=qq (.d (.bool true),S):=(eC (d+5) 32 _ _ (by decide)).trans (aDA (aFf ar0 l0 o8 qz) (d+1) S)
 have k1:bY fns gns aE (d+6) 32 [.d (lF rs aB (eX rs aB)),.d (lF rs aB (eX rs aB))] S=qq (.d (.bool true),S):=(eC (d+5) 32 _ _ (by decide)).trans (aDA (aFf ar hl o8 _) (d+1) S)
 have ce:=(aFI ar0 l0 o8).cmp (by decide)
 have tu:oZ [.list (rs.map Rw.d)]=qq (.tuple (rs.map Rw.d)):=rfl;have g1:bC (aY rs0 aB) (.int 1)=qq (.tuple (aB.map nD)):=rfl;have ep:aY rs aB=.tuple [.tuple (rs.map Rw.d),.tuple (aB.map nD)]:=rfl;have eT:lF rs0 aB qz=.tuple [.str "good",aY rs0 aB]:=rfl;rw[eT] at tg k0;have step:∀ D8:D,D8=lF rs aB (eX rs aB)->xs (aF fns gns aE (d+6)).1 (iB (iB (iB lwT))) [qq (.d s),qq (.loc 0),a2,qq (.d (aY rs0 aB)),qq (.d (.list (rs.map Rw.d))),a5,a6,qq (.d (aY rs aB)),qq (.d D8)] S=qq (.rt (.d (.bool true)),S):=λ D8 e8=>by
  rw[<- e8] at to k1;generalize aY rs aB=G1 at *;generalize aY rs0 aB=G0 at *;generalize dI rs0 aB=T0 at *;generalize dI rs aB=T1 at *;generalize yBh (rs.map Rw.d)=L at *;refine bT (S1:=S) (by simp only[evs,eB,wg,wo,w0,aJ5]) (bT (S1:=S) (by simp only[evs,eB,tx0,tg,k0]) (bM (by simp only[evs,eB,tx1,to,k1,wr0,rd,ce])))
 refine cD (w:=.d (aY rs aB)) (S1:=S) ?_ rfl (cD (w:=.d (kB (eX rs aB))) (S1:=S) ?_ rfl ?_)
 ·rw[ep];generalize yBh (rs.map Rw.d)=L at *;generalize yAv (rs.map Rw.d)=T at *;generalize yAv (aB.map nD)=O at *;generalize aY rs0 aB=G0 at *;simp only[evs,tu,g1]
 ·generalize yBh (rs.map Rw.d)=L at *;generalize yAv (aB.map nD)=O at *;generalize aY rs0 aB=G0 at *;simp only[evs,eB,g1,du]
 show xs (aF fns gns aE (d+6)).1 _ [qq (.d s),qq (.loc 0),a2,qq (.d (aY rs0 aB)),qq (.d (.list (rs.map Rw.d))),a5,a6,qq (.d (aY rs aB)),qq (.d (kB (eX rs aB)))] S=_;cases hz:eX rs aB with
 | none =>
   rw[hz] at step;have i0:bC (kB qz) (.int 0)=qq (.str "good"):=rfl;refine eY (iR (S1:=S) ?_ (jB (w:=.d (.tuple [.str "good",aY rs aB])) (S1:=S) ?_)) (step _ rfl)
   ·generalize kB qz=D0 at *;simp only[evs,i0,aJg]
   ·generalize aY rs aB=G1 at *;simp only[evs]
 | some z =>
   rw[hz] at step;have i0:bC (kB (qq z)) (.int 0)=qq (.str z.1.s):=rfl;have eg:=aKC z.1;refine bT (S1:=S) ?_ (step _ rfl);generalize kB (qq z)=D0 at *;simp only[evs,i0,eg]
theorem xR(d:Nat)(ns:List Int)(k:Nat)(x:Int)(m:Nat){i:Int}(hi:i=(m:Nat))(hm:0<m)(hm2:m<2^64)(hk:k<=100000):∃ (r:Nat) (x':Int),r<m/\bY fns gns aE (d+1) 14 [.loc 0,.d (.int i)] (s0 ns k x)=qq (.d (.int r),s0 ns (k+1) x'):=by
 obtain⟨r,x',h1,h2⟩:=pH (ns:=ns) (k:=k) (x:=x) d m hi hm hm2 hk;exact⟨r,x',h1,(eC d 14 _ _ (by decide)).trans h2⟩
theorem aMn(d:Nat)(ns:List Int)(h1:ns.length<=63):bY fns gns aE (d+7) 39 [.d (.list (ns.map yAl))] []=qq (.d (.bool true),[]):=by
 obtain⟨most,hm,em⟩:∃ most:Nat,most<=30/\(1:Int)+(if (24:Int)<((ns.length:Nat):Int) then (24:Int) else ((ns.length:Nat):Int))=((most:Nat):Int):=by
  by_cases c:(24:Int)<((ns.length:Nat):Int)
  ·exact⟨25,by omega,by rw[if_pos c];rfl⟩
  ·exact⟨1+ns.length,by omega,by rw[if_neg c];omega⟩
 obtain⟨m0,x1,hm4,d1⟩:=xR (d+5) ns 0 0 3 (i:=3) rfl (by decide) (by decide) (by omega)
 have e1:(1:Int)+((m0:Nat):Int)=((1+m0:Nat):Int):=by omega
 obtain⟨rs0,outs0,k,x,ok,l0,l40,ho,o0,o8,hk,ep⟩:=aHF d most ns hm 1 x1 (by omega)
 have ep:bY fns gns aE (d+6) 24 [.loc 0,.d (.int most)] (s0 ns 1 x1)=qq (.d (aY rs0 outs0),s0 ns k x):=(eC (d+5) 24 _ _ (by decide)).trans ep
 obtain⟨r0,x2,hr0,d2⟩:=xR (d+5) ns k x rs0.length (i:=(rs0.length:Nat)) rfl l0 (by omega) (by omega)
 have arr:=aAb ok;have bdd:=aAg ok (by simp;omega)
 rw[show bY fns gns aE (d+7) 39=bY fns gns aE (d+7) (fns.length+5) from rfl,vR rfl (d+6) _ _ rfl]
 show cK (xs (aF fns gns aE (d+6)).1 tG) 9 [.d (.list (ns.map yAl))] []=_
 suffices H:∃ S',xs (aF fns gns aE (d+6)).1 tG [qq (.d (.list (ns.map yAl))),qz,qz,qz,qz,qz,qz,qz,qz] []=qq (.rt (.d (.bool true)),S') by
  obtain⟨S',e⟩:=H;unfold cK;show(xs (aF fns gns aE (d+6)).1 tG [qq (.d (.list (ns.map yAl))),qz,qz,qz,qz,qz,qz,qz,qz] []).bind _=_;rw[e];rfl
 have mn:sM [.int ns.length,.int 24]=qq (.int (if (24:Int)<((ns.length:Nat):Int) then (24:Int) else ((ns.length:Nat):Int))):=rfl
 have ln:fS [.list (ns.map yAl)]=qq (.int ns.length):=by rw[cI,yAg]
 have g0:bC (aY rs0 outs0) (.int 0)=qq (.tuple (rs0.map Rw.d)):=rfl;have ll:∀ l:List Rw,fS [.list (l.map Rw.d)]=qq (.int l.length):=λ l=>by rw[cI,yAg]
 obtain⟨aO,S',p1,rs,r,a6,k7,x7,lr,ar,bd,hr,hk7,rfl,rfl⟩:=aA3 (t:=.one 6) (fi:=lv (aF fns gns aE (d+6)).1 vK) (fb:=xs (aF fns gns aE (d+6)).1 aAF) (env:=[qq (.d (.list (ns.map yAl))),qq (.loc 0),qq (.d (.int ((1+m0:Nat):Int))),qq (.d (aY rs0 outs0)),qq (.d (.list (rs0.map Rw.d))),qq (.d (.int r0)),qz,qz,qz]) (S:=s0 ns (k+1) x2) (S1:=s0 ns (k+1) x2) (ds:=(yBe (1+m0)).map (λ k=>yAl (k:Nat)))
  (λ j env S=>∃ (rs:List Rw) (r:Nat) (a6:Option W) (k':Nat) (x':Int),rs.length=rs0.length/\(∀ q∈rs,Ar q)/\(∀ q∈rs,Bd q)/\r<rs0.length/\k'<=k+1+6*j/\env=[qq (.d (.list (ns.map yAl))),qq (.loc 0),qq (.d (.int ((1+m0:Nat):Int))),qq (.d (aY rs0 outs0)),qq (.d (.list (rs.map Rw.d))),qq (.d (.int r)),a6,qz,qz]/\S=s0 ns k' x')
  (by
    simp only[vK,sI,rD,pD,rL];exact oF (by simp only[evs]) (by omega))
  ⟨rs0,r0,qz,k+1,x2,rfl,arr,bdd,hr0,by omega,rfl,rfl⟩ (by
   rintro j dd env S hj ⟨rs,r,a6,k',x',lr,ar,bd,hr,hk',rfl,rfl⟩;have hj':j<1+m0:=by simpa using hj
   obtain⟨aN,k2,x3,lr',ar',bd',hk2,es⟩:=aH0 (d+3) ns k' x' rs r (by omega) (by omega) ar bd (by omega)
   have es:bY fns gns aE (d+6) 30 [.loc 0,.d (.list (rs.map Rw.d)),.d (.int r)] (s0 ns k' x')=qq (.d (.list (aN.map Rw.d)),s0 ns k2 x3):=(eC (d+5) 30 _ _ (by decide)).trans es
   obtain⟨q4,x4,hq4,d4⟩:=xR (d+5) ns k2 x3 3 (i:=3) rfl (by decide) (by decide) (by omega)
   refine⟨[qq (.d (.list (ns.map yAl))),qq (.loc 0),qq (.d (.int ((1+m0:Nat):Int))),qq (.d (aY rs0 outs0)),qq (.d (.list (rs.map Rw.d))),qq (.d (.int r)),qq (.d dd),qz,qz],?_⟩
   by_cases c:q4=1
   ·obtain⟨r5,x5,hr5,d5⟩:=xR (d+5) ns (k2+1) x4 aN.length (i:=(aN.length:Nat)) rfl (by omega) (by omega) (by omega)
    refine⟨[qq (.d (.list (ns.map yAl))),qq (.loc 0),qq (.d (.int ((1+m0:Nat):Int))),qq (.d (aY rs0 outs0)),qq (.d (.list (aN.map Rw.d))),qq (.d (.int r5)),qq (.d dd),qz,qz],s0 ns (k2+2) x5,rfl,?_,aN,r5,qq (.d dd),k2+2,x5,by omega,ar',bd',by omega,by omega,rfl,rfl⟩
    have c':(((q4:Nat):Int)==1)=true:=by rw[c];rfl
    have l5:=ll aN;generalize aY rs0 outs0=G at *;generalize yBh (rs.map Rw.d)=L at *;generalize yBh (aN.map Rw.d)=L' at *;generalize ((1+m0:Nat):Int)=M at *;refine eY (e1:=[qq (.d (.list (ns.map yAl))),qq (.loc 0),qq (.d (.int M)),qq (.d G),qq (.d L'),qq (.d (.int r)),qq (.d dd),qz,qz]) (S1:=s0 ns k2 x3) (by simp only[evs,eB,es]) (vM (iR (S1:=s0 ns (k2+1) x4) (by simp only[evs,eB,d4,cE,c']) (jB (w:=.d (.int r5)) ?_)))
    simp only[evs,eB,l5,d5]
   ·refine⟨[qq (.d (.list (ns.map yAl))),qq (.loc 0),qq (.d (.int ((1+m0:Nat):Int))),qq (.d (aY rs0 outs0)),qq (.d (.list (aN.map Rw.d))),qq (.d (.int r)),qq (.d dd),qz,qz],s0 ns (k2+1) x4,rfl,?_,aN,r,qq (.d dd),k2+1,x4,by omega,ar',bd',hr,by omega,rfl,rfl⟩
    have c':(((q4:Nat):Int)==1)=false:=by rw[beq_eq_false_iff_ne];omega
    generalize aY rs0 outs0=G at *;generalize yBh (rs.map Rw.d)=L at *;generalize yBh (aN.map Rw.d)=L' at *;generalize ((1+m0:Nat):Int)=M at *;exact eY (e1:=[qq (.d (.list (ns.map yAl))),qq (.loc 0),qq (.d (.int M)),qq (.d G),qq (.d L'),qq (.d (.int r)),qq (.d dd),qz,qz]) (S1:=s0 ns k2 x3) (by simp only[evs,eB,es]) (vM (aBw (S1:=s0 ns (k2+1) x4) (by simp only[evs,eB,d4,cE,c']) rfl)))
 have tl:=aJu d (s0 ns k7 x7) rs0 rs outs0 (.list (ns.map yAl)) (qq (.d (.int ((1+m0:Nat):Int)))) (qq (.d (.int r))) a6 ok ho (by omega) o0 o8 ar bd (by omega)
 refine⟨s0 ns k7 x7,?_⟩;have p1':xs (aF fns gns aE (d+6)).1 (.loop (.one 6) vK aAF) [qq (.d (.list (ns.map yAl))),qq (.loc 0),qq (.d (.int ((1+m0:Nat):Int))),qq (.d (aY rs0 outs0)),qq (.d (.list (rs0.map Rw.d))),qq (.d (.int r0)),qz,qz,qz] (s0 ns (k+1) x2)=qq (.nx [qq (.d (.list (ns.map yAl))),qq (.loc 0),qq (.d (.int ((1+m0:Nat):Int))),qq (.d (aY rs0 outs0)),qq (.d (.list (rs.map Rw.d))),qq (.d (.int r)),a6,qz,qz],s0 ns k7 x7):=p1;refine cD (w:=.loc 0) (S1:=s0 ns 0 0) rfl rfl ?_;refine cD (w:=.d (.int ((1+m0:Nat):Int))) (S1:=s0 ns 1 x1) (by simp only[yCw,yCx];simp only[evs,eB,d1,cU,e1]) rfl ?_
 refine cD (w:=.d (aY rs0 outs0)) (S1:=s0 ns k x) (by simp only[yCw,yCx];generalize aY rs0 outs0=G at *;generalize ((1+m0:Nat):Int)=M at *;simp only[evs,eB,ln,mn,cU,em,ep]) rfl ?_
 refine cD (w:=.d (.list (rs0.map Rw.d))) (S1:=s0 ns k x) (by simp only[yCw,yCx];generalize aY rs0 outs0=G at *;generalize ((1+m0:Nat):Int)=M at *;simp only[evs,wU,sB,g0]) rfl ?_
 have l5:=ll rs0;refine cD (w:=.d (.int r0)) (S1:=s0 ns (k+1) x2) (by simp only[yCw,yCx];generalize aY rs0 outs0=G at *;generalize yBh (rs0.map Rw.d)=L at *;generalize ((1+m0:Nat):Int)=M at *;simp only[evs,eB,l5,d2]) rfl ?_
 exact eY p1' tl
theorem main:∀ ns:List Int,ns.length<=63->(∀ i∈ns,yAi i<=1048576)->∃ call S',(aF fns gns (nN xl) 12).1 (fns.length+5)=qq (1,call)/\call [.d (.list (ns.map yAl))] []=qq (.d (.bool true),S'):=λ ns h _ =>
 aJE (d:=11) rfl rfl (aMn 5 ns h)
theorem oks:∀ F∈fns,tI fns tbs F=true:=by decide +kernel
theorem oksX:∀ G∈gns,wK fns gns tbs xz G=true:=by decide +kernel
theorem bok:∀ F∈fns,wQ F=true:=by decide +kernel
theorem aP0:∀ G∈gns,wQ G.fn=true:=by decide +kernel
theorem binds:∀ F∈fns,oS F:=λ F hF=>aDK (bok F hF)
theorem bindsX:∀ G∈gns,oS G.fn:=λ G hG=>aDK (aP0 G hG)
end K23
structure PySem.W.Fast:Prop where (tw16057745304073303195 tw2114724934984314694 tw12109314211322934140 tw3111124145799196484 tw17459131474219518603 tw2045115495396422551 tw8359284986989370794 tw16024676385536217916 tw8918114231405350097 tw14122011353273732150 tw3309656877179189529 tw17104664871306870388 tw393582473182143840 tw15334870036912307892 tw14517926876329773195 tw16688947040941138873 tw7399909474932127678 tw13818469907230718277 tw17313476124728437929 tw9814245696779526758 tw17277068018769362406 tw11676296180590055165 tw5410737536399332223 tw6058469653161995677 tw2040476224493935569 tw1496908146955834990 tw2953483888497998941 tw7142501444914122743 tw18177785934177949753 tw6291298039160432320 tw15728618593337353402 tw17556492349165719234 tw4466809650595479715 tw15196562355524512912 tw2175310498342013163 tw482607486341910838 tw8235135543128284766 tw4397016884886320545 tw3865131493364166385 tw10305167517141471362 tw8430137013399462344 tw17775747973436801115 tw12388583195956278099 tw4244341454615277346 tw5823281974488016393 tw13410447846584356935 tw455104423259630432 tw18001527004679125145 tw1009668519557801356 tw15232694587244965510 tw2287970615400072746 tw8770610193913443195 tw10674911150473399246 tw519732243233178864 tw8242815750296089420 tw11354427306526526687 tw12075058497601396867 tw812421140257763799 tw2263310863276297722 tw13723615867910536801 tw8044821463923752228 tw4470715155203754695 tw16283511647120012007 tw2109982237399439667 tw5737479297820408187 tw2167587819274310587 tw13476840974134222890 tw9935833876136480966 tw1535918069909795205 tw18393212817295884718 tw2202376746004850487 tw2767667864844884449 tw4866527608185243796 tw9318349165416061337 tw13660496521743314925 tw16622112879973614546 tw9222525569191367916 tw14507634299820557418 tw3791472820993271035 tw4792194321003022617 tw15915516365736553346 tw1742391962495833810 tw8682607185039386043 tw6258728900649728864 tw14120781479405195698 tw8825646644947969205 tw10125683854220666292 tw8713652248728318061 tw6599675367338612851 tw13630360099382971238 tw140002325436066046 tw1059971311906481000 tw9813367908037068994 tw3355493217001157956 tw14803717111357504470 tw9618057890243923340 tw14391537050488449534 tw6069351183344698030 tw18392803202075186055 tw225578955339202897 tw12371013179064686820 tw9864263722751680705 tw13098116108143913584 tw17241691808326418798 tw5233025068924953391 tw1853726749839237233 tw15569768996467264031 tw2019836644140382383 tw4066776634664681258 tw16626960175907559690 tw6957627816859681669 tw6065901466751784458 tw1634933729816744751 tw3469401132360939696 tw2747863040736494303 tw1877765788997146755 tw2675857818243577586 tw13546839395141729014 tw13880497393585394686 tw2327231819725829049 tw18071538562829014882 tw6138965354321351590 tw16735123126678784499 tw405356591092509110 tw13101774322923000178 tw15712065385297973741 tw10716341276642623923 tw13918492764551396230 tw11757369881944183741 tw4132742032230949156 tw12220763177327592484 tw13243997318629138330 tw16163583277038304578 tw9283481334302188243 tw17947375045601768164 tw5508334077675943335 tw8503317969963516491 tw5598393046943936436 tw14550461305428098758 tw4761606469004916387 tw3347367915586341229 tw8383954543399407510 tw7603891761249103588 tw11984386980711593721 tw11232149039377949845 tw13102168379371189722 tw15065952245073684203 tw15017090884221578523 tw1243305907738810589 tw284005181154091563 tw17735353957482963245 tw6237028810500433464 tw1636805074290438045 tw9450310859701722030 tw14014097726676589171 tw265383599886537708 tw2901153195189132490 tw9151886265804484232 tw8299462423521289645 tw12810486842735094673 tw9307945671486722447 tw7253475864278649735 tw6945265357764290656 tw1061347935003981557 tw9963689505895964653 tw17017445790534124797 tw6990869400222222198 tw5818469521365553704 tw10465124460888287782 tw15545639808372903211 tw14510063384709744793 tw9486809579265204489 tw17342098925342616186 tw17473138805111495397 tw1702479839891979412 tw8991113520849357922 tw17781433746286175452 tw17890933702203826471 tw10602706413687315527 tw16709109664297523366 tw3433556731409198581 tw2708931969505280025 tw4096245330720166159 tw12707390921223785851 tw11283587481551249036 tw14118101821943661019 tw7259404812800411486 tw15385775974547843092 tw16659592609448254482 tw5006621663541196424 tw12095657111275561804 tw1310260587202283026 tw17073224784734848164 tw5202840232086820104 tw14477571734207429957 tw12157591914316211081 tw7304289315014436089 tw3319114920666464961 tw1034179813396183267 tw11553928916260984697 tw11012975149169378930 tw12280964946874282505 tw8613975152045827314 tw1584564164398659263 tw1736902764965414829 tw16284077779322317031 tw10136984054555527754 tw1663373742595238585 tw12288208653193991481 tw5234219823593340133 tw18211350380327459129 tw3321840379288412763 tw12600038804172942206 tw15698520638870198963 tw5211576892614199081 tw9764374492416712057 tw18036023656142262948 tw269927576085127683 tw9522112312582213351 tw14688430005190575354 tw11441716417684663260 tw14813023384446582857 tw2900567990031798062 tw7739299844434369031 tw6858069427019550720 tw8723155578277337475 tw7726345615302234284 tw14283105894064066570 tw14603312487295647296 tw4198006807624335892 tw10446863344984818100 tw12605887673750734915 tw15185969855041480877 tw6341553846721575686 tw5883955602621607623 tw5044802142283358986 tw17617071708144277138 tw5044539833761123999 tw3703953875540386206 tw9511528132411098839 tw2877027061412511046 tw12397817805178421308 tw4585615744166606657 tw14355262927630187122 tw16501294171562256407 tw9867561594916548017 tw16212180495900808142 tw15415034465621473486 tw13228554715094202837 tw197467604093142533 tw3863585480092410620 tw4509227021233962457 tw17594123219424846703 tw8323157703542056906 tw1152077268079923872 tw222510376171734955 tw15118370171492394101 tw469024382132979379 tw3019307188476947171 tw1795376923519882624 tw4627845197408792581 tw17273074775010924076 tw9647617268512149131 tw841476889158138327 tw15142680359767120008 tw16901588441705149050 tw2801082628243851774 tw589254432071116872 tw11275381325117770408 tw2231039354705857069 tw4153488470164919826 tw5623797979903204384 tw4973084668658557472 tw292111529947046676 tw1976542394720914014 tw10597021944453443963 tw11186981480920293142 tw18264416367585034772 tw10339697300409958567 tw11576615503971055195 tw3189394218051527382 tw643447381165879229 tw16507227833986117691 tw9025952713962717023 tw509348228534305688 tw1593037336063074508 tw12296124726580222828 tw13778407239633801528 tw1299784476654048984 tw4858003307100138374 tw6374781060051702465 tw16242648973969039642 tw10257612221678871843 tw19931890560945888 tw3700581323592817371 tw10275866104729435937 tw11073985011509276946 tw647279241472845345 tw17838236904358214888 tw3766960646510543880 tw6768885601232655140 tw15094735474293222394 tw15686775781255282261 tw13813332240677644652 tw12576558496309540996 tw13504291700353907049 tw2402787193464812998 tw9223031656226618533 tw13807163856980720839 tw1945530506487561081 tw17519145874849611373 tw12563417884176579003 tw16092357647749951917 tw18356031625757717366 tw12166288341413361726 tw5673327502526562958 tw10574765649275798347 tw2003052860962539574 tw1367896591318405179 tw248555354422417118 tw7998166248445764022 tw14375127156492536342 tw4075401560744104571 tw4686390299233300187 tw4825821550126118136 tw12825727049407438032 tw1859022133844587462 tw103380144600334172 tw3550542522347387591 tw8934648983614981466 tw6961480563780773904 tw1117160119206592538 tw6722442303012379466 tw9765553135950712648 tw16901482779820999643 tw4728297260956044901 tw10556150935725993297 tw2725146104979044838 tw18360558576227863926 tw17365122095881883042 tw11086352834499783493 tw2713500132510201435 tw637174597423970353 tw1636241003182440028 tw9817884959254377762 tw17334271308618848411 tw4219840923386320215 tw14185614319260789480 tw1226756139518646186 tw361576815988294106 tw5716954972793975234 tw11493929814471755085 tw2465067131918956115 tw17385610874830882691 tw1483980728729742083 tw12266587033788455936 tw10849886512792130960 tw14416650182234842370 tw12512716481628052675 tw13971827495643417466 tw17824406163047385058 tw17006503306155697224:True)
set_option maxRecDepth 100000 in
set_option maxHeartbeats 0 in
theorem PySem.Challenge.cw_fewbits_k23_both_ways_holds : PySem.Challenge.rw_fewbits_k23_both_ways.Holds := by
 w_on;o_law;k_head;(case hw=>w_witness2)
 k_fill
 refine EV.law_ofX (l:=PySem.Challenge.rw_fewbits_k23_both_ways) K23.fns K23.gns K23.tbs K23.xz K23.xl 5 12 _ "_law_script" rfl rfl ⟨rfl,by decide,by decide⟩ (λ w h Y=>PySem.W.kIn_of Y) K23.oks K23.oksX K23.binds K23.bindsX rfl rfl rfl ?top ?topX ?tbl ?cnl ?stl ?tbn ?rit ?rik ?ent ?rct ?xot ?xbt K23.main
 case top =>
  intro w h KX F hF;simp only[K23.fns,yAx,yAr,or_false] at hF;rcases hF with rfl | rfl | rfl | rfl | rfl | rfl | rfl | rfl | rfl | rfl | rfl | rfl | rfl | rfl | rfl | rfl | rfl | rfl | rfl | rfl | rfl | rfl | rfl | rfl | rfl | rfl | rfl | rfl | rfl | rfl | rfl | rfl | rfl | rfl
  all_goals
   refine' EV.top_mk ?a1 ?l1 ?c1 ?k1
   (case a1=>k_is)
   (case l1=>k_is)
   (case c1=>k_is)
   (case k1=>k_is)
 case topX =>
  intro w h KX F hF;simp only[K23.gns,yAx,yAr,or_false] at hF;rcases hF with rfl | rfl | rfl | rfl | rfl | rfl
  all_goals
   refine' EV.topX_mk ?a1 ?l1 ?c1 ?k1
   (case a1=>k_is)
   (case l1=>k_is)
   (case c1=>k_is)
   (case k1=>k_is)
 case rit =>
  intro w h KX c hc;simp only[K23.xz,yAx,yAr,or_false] at hc;rcases hc with rfl | rfl | rfl | rfl | rfl
  all_goals
   refine' EV.ri_mk ?a1 ?a3 ?a2 ?a4 ?a5 ?a6 ?a7 ?a8 ?a9 ?b1
   (case a1=>k_is)
   (case a3=>k_is)
   (case a2=>kernel_rfl)
   (case a4=>k_is)
   (case a5=>k_is)
   (case a6=>k_is)
   (case a7=>k_is)
   (case a8=>k_is)
   (case a9=>k_is)
   (case b1=>k_is)
 case rik=>decide +kernel
 case ent =>
  intro w h KX e he;simp only[K23.xl,yAx,yAr,or_false] at he;rcases he with rfl | rfl | rfl | rfl | rfl | rfl | rfl | rfl | rfl | rfl | rfl | rfl | rfl | rfl | rfl | rfl | rfl | rfl | rfl | rfl
  all_goals first
   | (refine' EV.ent_own ?a1 ?a2 ?a3 ?a4 ?a5 ?a6 ?a7 ?a8 ?a9 ?a0 ?b1 ?b2 ?b3
      (case a1=>k_is)
      (case a0=>k_is)
      (case a2=>k_is)
      (case a3=>k_is)
      (case a4=>k_is)
      (case a5=>k_is)
      (case a6=>k_is)
      (case a7=>k_is)
      (case a8=>k_is)
      (case a9=>k_is)
      (case b1=>k_is)
      (case b2=>kts_exm)
      (case b3=>kit_is))
   | (refine' EV.ent_blt ?a1 ?a2 ?a3 ?a4 ?a5 ?a6 ?a7 ?a8 ?a9 ?a0 ?b1 (PyProof.Rows.Boot.«ValueError») (by decide) ?b3
      (case a1=>k_is)
      (case a0=>k_is)
      (case a2=>k_is)
      (case a3=>k_is)
      (case a4=>k_is)
      (case a5=>k_is)
      (case a6=>k_is)
      (case a7=>k_is)
      (case a8=>k_is)
      (case a9=>k_is)
      (case b1=>k_is)
      (case b3=>kit_is))
 case rct =>
  intro w h KX c hc;cases hc
 case xot =>
  intro w h KX c hc;simp only[K23.xz,yAx,yAr,or_false] at hc;rcases hc with rfl | rfl | rfl | rfl
  all_goals
   refine' EV.xo_mk ?a1
   (case a1=>k_is)
 case xbt =>
  intro w h KX c hc;cases hc
 case tbl =>
  intro w h KX t ht;simp only[K23.tbs,yAx,yAr,or_false] at ht;rcases ht with rfl
  all_goals
   refine' EV.tab_mk ?a1 ?l1 ?c1 ?s1
   (case a1=>k_is)
   (case l1=>k_is)
   (case c1=>(repeat' (first | exact True.intro | apply And.intro))<;>first | rfl | exact⟨_,rfl⟩)
   (case s1=>decide)
 case cnl =>
  intro w h KX t ht;simp only[K23.tbs,yAx,yAr,or_false] at ht;rcases ht with rfl | rfl | rfl
  all_goals
   refine' EV.con_mk ?a1 ?l1 ?z1 ?c1
   (case a1=>k_is)
   (case l1=>k_is)
   (case z1=>decide)
   (case c1=>(repeat' (first | exact True.intro | apply And.intro))<;>first | rfl | exact⟨_,rfl⟩)
 case stl =>
  intro w h KX t ht;simp only[K23.tbs,yAx,yAr,or_false] at ht;rcases ht with rfl
  all_goals
   refine' EV.st_mk ?a1
   (case a1=>k_is)
 case tbn =>
  intro w h KX x hx;simp only[EV.bltNames,yAx,yAr,or_false] at hx;rcases hx with rfl | rfl | rfl | rfl | rfl | rfl | rfl | rfl | rfl | rfl | rfl | rfl | rfl | rfl | rfl | rfl | rfl | rfl
  all_goals k_is
