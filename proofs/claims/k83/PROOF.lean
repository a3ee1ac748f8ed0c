import PyProof.Rows.All
import Wide.All
import OpenK.AllK
import Wide.FinOn
import Lean
import PyProof.EqAt
import PyProof.EqKinds
import PyProof.TupleCall
import PyProof.ListMulRoad
import PyProof.FactsAll.tuple
import PyProof.MaxThree
import PyProof.SeqI3
import PyProof.Draws
import PyProof.ZipIter
import PyProof.NeKinds
import PyProof.Rows.SortShell
import PyProof.ListRange
import PyProof.DictTable
import PyProof.Rows.Range3
import PyProof.FactsAll.range_2
import PyProof.Rows.SeqMore2
import PySem.Challenge.RW_fewbits_k83_whole_all_tries_told
set_option compiler.extract_closed false
set_option genInjectivity false
set_option genSizeOf false
open List renaming getElem?_eq_getElem->yAa,replicate->yAc,length_map->yAd,getElem?_append_right->yAe,take_length->yAf,size_toArray->yAg,append_assoc->yAq,map_cons->yAt,range->yAu,replicate_succ->yAx,length_set->yAy,getElem?_set_self->yAz,getElem?_set_ne->yBc,length_cons->yBf,getElem?_replicate->yBj,length_replicate->yBk,foldl_cons->yBl,map_map->yBn,getD_cons_zero->yBo,mem_singleton->yBr,map_append->yBt,getD_cons_succ->yBv,getElem?_cons_zero->yBw,drop_eq_getElem_cons->yCa,length_take->yCc,lookup_cons->yCd,not_mem_nil->yCe,map_congr_left->yCg,foldl_nil->yCh,length_nil->yCn,getElem?_cons_succ->yCu,mem_cons->yCv,take_left->yCz,flatten_cons->yDa,filterMap_cons->yDc,append_nil->yDd,take_of_length_le->yDh,take->yDn,getElem?_toArray->yDo,set_append_right->yDp,getElem?_of_mem->yDu,getElem?_take_of_lt->yDw,set_eq_of_length_le->yDx,length_singleton->yEh,getElem?_eq_none->yEi,drop_zero->yEp,getElem?_zip_eq_some->yEr,drop_length->yEt,getElem_map->yEu,map_nil->yFa,forIn_cons->yFh,nil_append->yFk,set_cons_zero->yFl,map_replicate->yFm,take_succ_eq_append_getElem->yFn,reverse_cons->yFq,length_range->yFs,forIn_nil->yFv,filter_cons->yGa,of_mem_zip->yGc,replicate_zero->yGe,set_cons_succ->yGj,any_eq_false->yGp,nodup_append->yGq,getD->yGr,sum_cons->yGv,getElem_inj->yGw,ext_getElem->yGy,zipIdx_cons->yGz,cons_append->yHb,set_set->yHi
open Nat renaming le_refl->yAb,testBit_and->yAh,pow_le_pow_right->yAl,testBit_xor->yAm,testBit_mod_two_pow->yAr,mod_two_eq_zero_or_one->yAs,zero_testBit->yBa,sub_self->yBb,or_lt_two_pow->yBi,xor_lt_two_pow->yBs,pow_lt_pow_right->yBx,lt_irrefl->yCb,lt_pow_two_of_testBit->yCm,and_le_left->yCo,and_two_pow_sub_one_eq_mod->yCp,testBit_succ->yCs,testBit_div_two_pow->yCw,testBit_two_pow->yDg,testBit_lt_two_pow->yDi,testBit_zero->yDj,add_comm->yDm,testBit_eq_decide_div_mod_eq->yDt,not_lt_zero->yDy,toNat_testBit->yEa,ne_of_gt->yEc,zero_add->yEd,div_lt_iff_lt_mul->yEl,div_add_mod->yEm,xor_zero->yEn,lt_succ_self->yEs,and_le_right->yEv,zero_le->yEx,pow_add->yEy,pow_succ->yFd,lt_succ_of_lt->yFr,le_of_lt->yFw,le_of_eq->yFx,le_of_not_lt->yFz,reduceAdd->yGb,sub_le->yGt,lt_of_not_le->yHa,reduceLeDiff->yHc,min_eq_right->yHd,mul_comm->yHg,mod_lt->yHl
open Int renaming toNat_natCast->yAp,natCast_mul->yCi,natCast_emod->yEw,mul_le_mul_of_nonneg_right->yFy,natCast_nonneg->yGi,emod_lt_of_pos->yGk,le_trans->yHh
open Bool renaming and_eq_true->yAk,true_and->yAn,false_eq_true->yAo,false_ne_true->yBe,false_and->yBh,and_true->yCf,eq_false_or_eq_true->yCr,and_false->yCy,or_eq_true->yDz,eq_iff_iff->yEk,or_false->yFf,or_true->yHj
open Option renaming bind_some->yBp,bind->yDe,getD_none->yGx
open PySem.Builtin.Range renaming rangeSize->yEf,small->yHn
open PySem.Builtin.SmallTypes renaming nextOf->yAv,ownedTupleIsFree->yAw,ownedTupleHandOut->yEq
open PySem.Builtin.Int renaming intBits->yAi
open PyProof.Rows renaming callWith_type1->yBg,slot_tuple_getitem->yCk
open PySem.Heap renaming get?_update_other->yBy,size_push->yBz,get?_update_self->yDl,SameBut->yEb
open PySem.PyData renaming int->yAj,bool->yBd,tuple->yBm,depthAll->yBu,eqv->yCl,canLayAll0->yDb,list->yDs,str->yHk
open PySem.W renaming emptyDict->yCj,keepIn->yCx,fnOf->yDk,instObj->yDv,nsIn->yFc,findIn->yFt,codeIn->yFu,methodObj->yGo,OpenLaw->yHf,lookIn->yHm
open PySem.F renaming plain_extend_loop->yDr,slot_int_rmul->yEj,args_tuple_add_2->yEz,args_tuple_mul_2->yFb,entry_tuple_add->yFe,entry_tuple_mul->yFg,slot_list_index->yFi,plainAttrs_list->yFj,slot_tuple_add->yFo,slot_tuple_mul->yFp,slot_int_bit_length->yGd,entry_extend_loop->yGm,args_list_index_2->yGn
open PySem.Builtin renaming bitNot->yBq,divisionGoesByPylong->yCt,bitAnd->yEg,bitXor->yGl,bitOr->yGu
open PySem.Builtin.Slice renaming slicePlaces->yDq,sliceAdjust->yEo,sliceApplied->yGf
open PySem.Builtin.Tuple renaming tupleExact->yCq,tupleItemsOf->yGg,tupleTooMany->yGh
open PySem.Builtin.List renaming listExtendWith->yDf,listSameRef->yGs,listItems->yHe
open Array renaming length_toList->yEe
open PySem renaming Value->qx,Shared->qj,Addr->qv,Expr->qw,sizeLine->qy,wpAny->qk,Program->qu,starEach->qo,World->zq,sizeLine_eq->zx,wpAny_field->zj,Around->zv,Scope->zw,wpAny_holding->zy,IsPair->zk,binaryOp->zu,assignEach->zo,wpAny_seqItems->xq,wpAny_call_entry->xz,wpAny_newObj_type->xx,mainGlobals->xj,Stmt->xw,wpAny_setField_rec->xy,compareOp->xk,wpAny_Call_Name_kw->xu,wpAny_passesOwn->jq,foldedSetIterable->jz,wpAny_truthy_bool->jx,wpAny_pyIter_list->jj,call_meets->jv,wpAny_pyIter_tuple->jw,behindInMarks->jy,Operator->jk,FuncData->ju,NameKind->jo,pyNext->vq,CmpOp->vz,codeAny->vx,sliceBounds->vj,IsZip->vv,bootBuiltins->vw,wpAny_pyNext_list_item->vy,wpAny_pyIter_enum->vk,wpAny_pyNext_list_end->vo,wpAny_rule->wq,wpAny_attempt->wz,wpAny_updateSeq_pair->wj,letOwnedTupleGo->ww,shortFactorBits->wu,wpAny_updateSeq->yq,UnaryOp->yz,typeIs_int->yx,wpAny_letOwnedTupleGo_enum->yj,wpAny_binaryOp_repeat_ref->yv,swappedStores->yw,rawInt->yy,wpAny_standAt->yk,wpAny_onRaise->yu,wpAny_isInstance->yo,wpAny_pyIter_zip->kq,wpAny_pyIter_rangeiter->kz,wpAny_specialOf->kx,IsRangeIter->kj,isSubtype_stop->kv,wpAny_letGo->ky
open Option renaming some->qq,none->qz
abbrev wB:=@PySem.wpAny_bind
abbrev wP:=@PySem.wpAny_pure
abbrev hpS:=@PySem.Heap.get?_push_of_some
theorem gIm {α:Type _}{l:List α}{i:Nat}{a:α}:l[i]? = qq a->∃ h,l[i]=a:=List.getElem?_eq_some_iff.mp
abbrev dqF:=@decide_eq_false
abbrev dqT:=@decide_eq_true
abbrev oqT:=@of_decide_eq_true
abbrev FrG:=PySem.W.Frag
abbrev xAa:=@PySem.Heap.lt_size
abbrev xAb:=@List.getElem?_map
abbrev xAc:=@Nat.lt_of_lt_of_le
abbrev xAd:=@List.mem_cons_self
abbrev xAe:=@PySem.Heap.get?_push_size
abbrev xAf:=@Nat.two_pow_pos
abbrev xAg:=@List.mem_cons_of_mem
abbrev xAh:=@List.getD_eq_getElem?_getD
abbrev xAi:=@Nat.le_trans
abbrev xAj:=@Nat.lt_of_le_of_lt
abbrev xAk:=@Nat.ne_of_lt
abbrev xAl:=@List.mem_of_getElem?
abbrev xAm:=@Nat.eq_of_testBit_eq
abbrev xAn:=@List.getElem?_append_left
abbrev xAo:=@List.length_append
abbrev xAp:=@Nat.testBit_or
abbrev xAq:=@List.mem_append_right
set_option Elab.async false
set_option linter.all false
set_option maxRecDepth 100000
namespace L2
open PySem PySem.Spec PyProof.Rows
abbrev fJ:=Sum Int Str
noncomputable def pW:fJ->qx->Bool
 | .inl k,v=>Value.isInt k v
 | .inr x,v=>Value.isStrOf x v
noncomputable def aV4(w:zq):fJ->Int
 | .inl k=>hashInt k
 | .inr x=>hashStr w x
theorem lU:∀ {k:fJ}{v:qx},pW k v=true->(∃ i t,k=Sum.inl i/\v=Value.int i t)\/(∃ x t,k=Sum.inr x/\v=Value.str x t)
 | .inl i,v,h=>by
   obtain⟨t,e⟩:=Value.isInt_shape (k:=i) (v:=v) h;exact .inl ⟨i,t,rfl,e⟩
 | .inr x,v,h=>by
   obtain⟨t,e⟩:=Value.isStrOf_shape (x:=x) (v:=v) h;exact .inr ⟨x,t,rfl,e⟩
theorem aFD(x:Str)(t:Tok):pW (.inr x) (.str x t)=true:=by simp[pW,Value.isStrOf]
theorem aS7(a b:Int):decide ((Sum.inl a:fJ)=Sum.inl b)=(a==b):=by
 by_cases e:a=b
 ·subst e;simp
 ·have h:¬ (Sum.inl a:fJ)=Sum.inl b:=λ q=>e (Sum.inl.inj q)
  rw[dqF h];exact(beq_eq_false_iff_ne.mpr e).symm
theorem aRj(a b:Str):decide ((Sum.inr a:fJ)=Sum.inr b)=decide (a=b):=by
 by_cases e:a=b
 ·subst e;simp
 ·have h:¬ (Sum.inr a:fJ)=Sum.inr b:=λ q=>e (Sum.inr.inj q)
  rw[dqF h,dqF e]
theorem aSO(a:Int)(b:Str):decide ((Sum.inl a:fJ)=Sum.inr b)=false:=dqF (λ q=>nomatch q)
theorem aRi(a:Str)(b:Int):decide ((Sum.inr a:fJ)=Sum.inl b)=false:=dqF (λ q=>nomatch q)
noncomputable def nR(prog:qu)(w:zq):PySem.KeyKind prog w fJ where
 is:=pW
 hash:=aV4 w
 inj:=λ v a b ha hb=>by
  rcases lU ha with ⟨i,t,rfl,rfl⟩ | ⟨x,t,rfl,rfl⟩
  ·rcases lU hb with ⟨j,u,rfl,e⟩ | ⟨y,u,rfl,e⟩
   ·injection e with e1 _;rw[e1]
   ·exact nomatch e
  ·rcases lU hb with ⟨j,u,rfl,e⟩ | ⟨y,u,rfl,e⟩
   ·exact nomatch e
   ·injection e with e1 _;rw[e1]
 byValue:=λ k v h=>by
  rcases lU h with ⟨i,t,rfl,rfl⟩ | ⟨x,t,rfl,rfl⟩<;>rfl
 pyHash:=λ hv h=>by
  rcases lU hv with ⟨i,t,rfl,rfl⟩ | ⟨x,t,rfl,rfl⟩
  ·exact wpAny_pyHash_int h
  ·exact wpAny_pyHash_str h
 eqBool:=λ hu hv h=>by
  rcases lU hu with ⟨i,t,rfl,rfl⟩ | ⟨x,t,rfl,rfl⟩
  ·rcases lU hv with ⟨j,u,rfl,rfl⟩ | ⟨y,u,rfl,rfl⟩
   ·rw[aS7] at h;exact wpAny_eqBool_int h
   ·rw[aSO] at h;exact SeqAt.EqAt.int_str i t y u _ _ _ _ h
  ·rcases lU hv with ⟨j,u,rfl,rfl⟩ | ⟨y,u,rfl,rfl⟩
   ·rw[aRi] at h;exact SeqAt.EqAt.str_int x t j u _ _ _ _ h
   ·rw[aRj] at h;exact wpAny_eqBool_str h
 «strs»:=λ k x t v h=>by
  rcases lU h with ⟨i,u,rfl,e⟩ | ⟨y,u,rfl,e⟩
  ·exact nomatch e
  ·injection e with e1 _
   subst e1;cases v<;>rfl
end L2
namespace L2
open PySem PySem.Spec PyProof.Rows
inductive V where
 | non | bl (b:Bool) | int (i:Int) | str (x:Str) | byt (b:Array UInt8) | flt (b:UInt64) | ref (a:qv) | ty (n:String)
 deriving DecidableEq
noncomputable def bC:V->qx->Prop
 | .non,u=>u=Value.none
 | .bl b,u=>u=Value.bool b
 | .int i,u=>∃ t,u=Value.int i t
 | .str x,u=>∃ t,u=Value.str x t
 | .byt b,u=>∃ t,u=Value.bytes b t
 | .flt b,u=>∃ t,u=Value.float b t
 | .ref a,u=>u=Value.ref a
 | .ty n,u=>u=Value.type n
noncomputable abbrev aS:List V->List qx->Prop:=Paired bC
theorem aS.length{xs:List V}{us:List qx}(r:aS xs us):xs.length=us.length:=Paired.length r
theorem aS.get:∀ {xs:List V}{us:List qx}{i:Nat}{x:V},aS xs us->xs[i]? = qq x->∃ u,us[i]? = qq u/\bC x u
 | _,_,_,_,.nil,e=>by simp at e
 | _,_,0,_,.cons r _,e=>by simp at e;subst e;exact⟨_,rfl,r⟩
 | _,_,i+1,x,.cons _ t,e=>by
   obtain⟨u,h1,h2⟩:=aS.get (i:=i) (x:=x) t (by simpa using e)
   exact⟨u,by simpa using h1,h2⟩
theorem aS.set{x:V}{u:qx}(r:bC x u):∀ {xs:List V}{us:List qx} (i:Nat),aS xs us->aS (xs.set i x) (us.set i u)
 | _,_,_,.nil=>.nil
 | _,_,0,.cons _ t=>.cons r t
 | _,_,i+1,.cons q t=>.cons q (aS.set r i t)
theorem aS.append:∀ {xs ys:List V}{us ws:List qx},aS xs us->aS ys ws->aS (xs++ys) (us++ws)
 | _,_,_,_,.nil,s=>s
 | _,_,_,_,.cons r t,s=>.cons r (aS.append t s)
theorem aS.take:∀ {xs:List V}{us:List qx} (n:Nat),aS xs us->aS (xs.take n) (us.take n)
 | _,_,0,_=>.nil
 | _,_,_+1,.nil=>.nil
 | _,_,n+1,.cons r t=>.cons r (aS.take n t)
theorem aS.drop:∀ {xs:List V}{us:List qx} (n:Nat),aS xs us->aS (xs.drop n) (us.drop n)
 | _,_,0,r=>r
 | _,_,_+1,.nil=>.nil
 | _,_,n+1,.cons _ t=>aS.drop n t
noncomputable def aKu:Option V->Option qx->Prop
 | some v,qq u=>bC v u
 | none,qz=>True
 | _,_=>False
noncomputable def KV{κ:Type}:List (κ×V)->List (κ×qx)->Prop:=Paired λ(p:κ×V) (q:κ×qx)=>p.1=q.1/\bC p.2 q.2
noncomputable def kV:fJ->V
 | .inl i=>.int i
 | .inr x=>.str x
inductive HO where
 | lst (xs:List V)
 | tup (xs:List V)
 | dK (aZ:List (fJ×V)) | dT (aZ:List (List fJ×V))
 | set (S:Int->Bool) (n:Nat)
 | ins (C dx:qv) (fs:List (Str×V))
 | own (x:qv)
 | xd (fs:List (Str×V))
 | met (f x:qv)
 | rng (lo hi:Int)
 | frz (o:Obj) (u:HO)
 | tbl (ps:Array qx)
 | ext (φ:Heap->Prop)
abbrev Hp:=qv->Option HO
noncomputable def bD(H:Hp)(a:qv)(o:HO):Hp:=λ b=>if b=a then qq o else H b
theorem cY{H:Hp}{a:qv}{o:HO}:bD H a o a=qq o:=by unfold bD;rw[if_pos rfl]
theorem bL{H:Hp}{a b:qv}{o:HO}(h:b≠a):bD H a o b=H b:=by unfold bD;rw[if_neg h]
theorem eD{H:Hp}{a b:qv}{o:HO}(h:H a=qq o)(h':H b=qz):a≠b:=by
 intro e;subst e;rw[h] at h';cases h'
section
variable (P : qu)(w : zq)
noncomputable def gO(H:Hp)(h:Heap)(a:qv):HO->Prop
 | .lst xs=>xs.length<=qy/\∃ (aG:List qx) (n:Nat),aS xs aG/\h.get? a=qq {cls:=.type "list",data:=.seq aG.toArray n }
 | .tup xs=>xs.length<=qy/\∃ aG:List qx,aS xs aG/\IsTup h a aG.toArray
 | .dK aZ=>aZ.length<=qy/\(a==sysModules)=false/\∃ vs,KV aZ vs/\h.DictOf (nR P w) a vs
 | .dT aZ=>aZ.length<=qy/\(a==sysModules)=false/\∃ xs:List (List fJ×qv×qx),
    Paired (λ(p:List fJ×V) (q:List fJ×qv×qx)=>p.1=q.1/\H q.2.1=qq (.tup (p.1.map kV))/\bC p.2 q.2.2) aZ xs /\
    ∃ o es ep,h.get? a=qq o/\o.ExactDict/\o.data=.dict es ep/\es.toList=xs.map (entryOfKey (tupleKind (nR P w)))/\(xs.map (·.1)).Nodup
 | .set S n=>h.SetOf (intKind P w) a S n
 | .ins C dx fs=>H dx=qq (.own a)/\fs.length<=1000/\dx≠a/\h.get? a=qq (yDv C dx) /\
    ∃ mA,h.Ns1 dx mA/\(∀ f,aKu (fs.lookup f) (mA f))/\PySem.Within mA (fs.map (·.1))
 | .own _=>∃ o,h.get? a=qq o
 | .xd fs=>∃ mA,h.Ns1 a mA/\∀ f,aKu (fs.lookup f) (mA f)
 | .rng lo hi=>∃ t u v,h.get? a=qq {cls:=.type "range",data:=.fields #[.int lo t,.int hi u,.int 1 v] }
 | .frz o u=>h.get? a=qq o/\gO H h a u
 | .tbl ps=>h.get? a=qq {cls:=.none,data:=.fields ps }
 | .met f x=>h.get? a=qq (yGo (.ref f) (.ref x))
 | .ext φ=>φ h/\(∃ o,h.get? a=qq o)/\∀ h1 h2:Heap,φ h1->(∀ o,h1.get? a=qq o->h2.get? a=qq o)->φ h2
def dS(H:Hp)(h:Heap):Prop:=∀ a o,H a=qq o->gO P w H h a o
end
section
variable {P : qu}{w : zq}{H H' : Hp}{h h' : Heap}{a : qv}{o : HO}
theorem gO.lt(x:gO P w H h a o):a<h.objs.size:=by
 cases o with
 | lst xs=>obtain⟨_,_,_,_,e⟩:=x;exact xAa e
 | tup xs=>obtain⟨_,_,_,p⟩:=x;exact p.lt
 | dK aZ=>obtain⟨_,_,_,_,o,_,_,e,_⟩:=x;exact xAa e
 | dT aZ=>obtain⟨_,_,_,_,o,_,_,e,_⟩:=x;exact xAa e
 | set S n=>obtain⟨o,_,_,_,e,_⟩:=x;exact xAa e
 | ins C dx fs=>obtain⟨_,_,_,e,_⟩:=x;exact xAa e
 | own y=>obtain⟨_,e⟩:=x;exact xAa e
 | xd fs=>obtain⟨_,⟨_,_,_,e,_⟩,_⟩:=x;exact xAa e
 | rng lo hi=>obtain⟨_,_,_,e⟩:=x;exact xAa e
 | frz ob u=>obtain⟨e,_⟩:=x;exact xAa e
 | tbl ps=>exact xAa (show h.get? a=qq _ from x)
 | met f y=>exact xAa (show h.get? a=qq _ from x)
 | ext φ=>obtain⟨_,⟨_,e⟩,_⟩:=x;exact xAa e
theorem Paired.mapP{α β:Type}{F G:α->β->Prop}:∀ {l₁:List α}{l₂:List β},Paired F l₁ l₂->(∀ a b,F a b->G a b)->Paired G l₁ l₂
 | _,_,.nil,_=>.nil
 | _,_,.cons r t,f=>.cons (f _ _ r) (Paired.mapP t f)
theorem gO.stay(x:gO P w H h a o)(k:∀ b u,(b=a\/H b=qq (.own a))->h.get? b=qq u->h'.get? b=qq u)
 (ho:∀ b,H b=qq (.own a)->H' b=qq (.own a)) (ht:∀ b xs,H b=qq (.tup xs)->H' b=qq (.tup xs)):gO P w H' h' a o:=by
 induction o with
 | lst xs=>obtain⟨z,aG,n,r,e⟩:=x;exact⟨z,aG,n,r,k _ _ (.inl rfl) e⟩
 | tup xs=>obtain⟨z,aG,r,ob,e,c⟩:=x;exact⟨z,aG,r,ob,k _ _ (.inl rfl) e,c⟩
 | dK aZ=>obtain⟨z,y,vs,r,ob,es,ep,e,c⟩:=x;exact⟨z,y,vs,r,ob,es,ep,k _ _ (.inl rfl) e,c⟩
 | dT aZ =>
   obtain⟨z,y,xs,r,ob,es,ep,e,c⟩:=x;exact⟨z,y,xs,Paired.mapP r λ p q z=>⟨z.1,ht _ _ z.2.1,z.2.2⟩,ob,es,ep,k _ _ (.inl rfl) e,c⟩
 | set S n=>obtain⟨ob,es,ep,t,e,c⟩:=x;exact⟨ob,es,ep,t,k _ _ (.inl rfl) e,c⟩
 | ins C dx fs =>
   obtain⟨d,z,ne,e,mA,⟨od,es,ep,e2,c⟩,r⟩:=x;exact⟨ho _ d,z,ne,k _ _ (.inl rfl) e,mA,⟨od,es,ep,k _ _ (.inr d) e2,c⟩,r⟩
 | own y=>obtain⟨ob,e⟩:=x;exact⟨ob,k _ _ (.inl rfl) e⟩
 | xd fs=>obtain⟨mA,⟨od,es,ep,e,c⟩,r⟩:=x;exact⟨mA,⟨od,es,ep,k _ _ (.inl rfl) e,c⟩,r⟩
 | rng lo hi=>obtain⟨t,u,v,e⟩:=x;exact⟨t,u,v,k _ _ (.inl rfl) e⟩
 | frz ob u ih=>obtain⟨e,q⟩:=x;exact⟨k _ _ (.inl rfl) e,ih q⟩
 | tbl ps =>
   have e:h.get? a=qq {cls:=.none,data:=.fields ps }:=x;show h'.get? a=qq {cls:=.none,data:=.fields ps };exact k a _ (.inl rfl) e
 | met f y =>
   have e:h.get? a=qq (yGo (.ref f) (.ref y)):=x;show h'.get? a=qq (yGo (.ref f) (.ref y));exact k a _ (.inl rfl) e
 | ext φ=>obtain⟨p,⟨o,e⟩,st⟩:=x;exact⟨st _ _ p λ o q=>k _ _ (.inl rfl) q,⟨o,k _ _ (.inl rfl) e⟩,st⟩
theorem dS.lt(x:dS P w H h)(e:H a=qq o):a<h.objs.size:=(x a o e).lt
theorem dS.fresh(x:dS P w H h)(e:h.objs.size<=a):H a=qz:=by
 cases q:H a with
 | none=>rfl
 | some u=>exact absurd (xAc (x.lt q) e) (yCb _)
theorem dS.kept(x:dS P w H h)(k:∀ b u,h.get? b=qq u->h'.get? b=qq u):dS P w H h':=λ a o e =>
 (x a o e).stay (λ b u _ q=>k b u q) (λ _ q=>q) λ _ _ q=>q
theorem dS.laid(x:dS P w H h)(k:∀ b u,h.get? b=qq u->h'.get? b=qq u)(hp:h.objs.size<=a)(new:gO P w (bD H a o) h' a o):dS P w (bD H a o) h':=λ b u e=>by
 have hn:=x.fresh hp
 by_cases hb:b=a
 ·subst hb;rw[cY] at e;cases e;exact new
 ·rw[bL hb] at e;exact(x b u e).stay (λ c v _ q=>k c v q) (λ c q=>by rw[bL (eD q hn)];exact q) λ c xs q=>by rw[bL (eD q hn)];exact q
end
def Rd(H:Hp)(a:qv)(u:HO):Prop:=H a=qq u\/∃ o,H a=qq (.frz o u)
theorem Rd.of{H:Hp}{a:qv}{u:HO}(h:H a=qq u):Rd H a u:=.inl h
theorem Rd.ok{P:qu}{w:zq}{H:Hp}{h:Heap}{a:qv}{u:HO}(r:Rd H a u)(x:dS P w H h):gO P w H h a u:=by
 rcases r with r | ⟨o,r⟩
 ·exact x a u r
 ·obtain⟨_,q⟩:=x a _ r;exact q
noncomputable def Mut:Option HO->Prop
 | some (.lst _)=>True
 | some (.dK _)=>True
 | some (.dT _)=>True
 | some (.set _ _)=>True
 | some (.ins _ _ _)=>True
 | some (.ext _)=>True
 | _=>False
section
variable {P : qu}{w : zq}{H : Hp}{h h' : Heap}{x e : qv}{o' : HO}
theorem dS.write(ok:dS P w H h)(mu:Mut (H x))(he:e=x\/H e=qq (.own x))(k:∀ b u,b≠e->h.get? b=qq u->h'.get? b=qq u)(heo:∃ u,h'.get? e=qq u)
 (new:gO P w (bD H x o') h' x o'):dS P w (bD H x o') h':=λ b u q=>by
 have nown:∀ c y,H c=qq (.own y)->c≠x:=λ c y r z=>by subst z;rw[r] at mu;exact mu
 have ntup:∀ c xs,H c=qq (.tup xs)->c≠x:=λ c xs r z=>by subst z;rw[r] at mu;exact mu
 by_cases hb:b=x
 ·subst hb;rw[cY] at q;cases q;exact new
 ·rw[bL hb] at q
  by_cases hbe:b=e
  ·have q':H b=qq (.own x):=by
    rcases he with z | z
    ·exact absurd (hbe.trans z) hb
    ·rw[hbe];exact z
   rw[q] at q';cases q';obtain⟨v,hv⟩:=heo;exact⟨v,by rw[hbe];exact hv⟩
  ·refine(ok b u q).stay (λ c v hc r=>k c v ?_ r) (λ c r=>by rw[bL (nown c b r)];exact r) λ c xs r=>by rw[bL (ntup c xs r)];exact r
   rcases hc with rfl | hc
   ·exact hbe
   ·rintro rfl;rcases he with z | z
    ·exact nown c b hc z
    ·rw[hc] at z;cases z;exact hb rfl
end
structure Un(fs ex:List qv)(H H':Hp)(h h':Heap):Prop where
 keep:∀ b o,h.get? b=qq o->H b=qz->b ∉ fs->b ∉ ex->h'.get? b=qq o
 slot:∀ b o,h.get? b=qq o->H b=qz->b∈fs->b ∉ ex->∃ sl,h'.get? b=qq {o with slots:=sl }
 free:∀ b o,h.get? b=qq o->H b=qz->b ∉ ex->H' b=qz
 there:∀ b o,h.get? b=qq o->b ∉ ex->∃ o',h'.get? b=qq o'
 tups:∀ b xs,H b=qq (.tup xs)->H' b=qq (.tup xs)
 frzs:∀ b o u,H b=qq (.frz o u)->H' b=qq (.frz o u)
 tbls:∀ b ps,H b=qq (.tbl ps)->∃ more,H' b=qq (.tbl (ps++more))
section
variable {fs fs' ex ex' : List qv}{H H1 H2 : Hp}{h h1 h2 h' : Heap}{a x e : qv}{o : HO}
theorem Un.any(u:Un fs ex H H1 h h1){b:qv}{ob:Obj}(q:h.get? b=qq ob)(n:H b=qz)(hx:b ∉ ex):∃ sl,h1.get? b=qq {ob with slots:=sl }:=by
 by_cases hb:b∈fs
 ·exact u.slot b ob q n hb hx
 ·exact⟨ob.slots,u.keep b ob q n hb hx⟩
theorem Un.trans(a:Un fs ex H H1 h h1)(b:Un fs ex H1 H2 h1 h2):Un fs ex H H2 h h2 where
 keep:=λ c ob q n hc hx=>b.keep c ob (a.keep c ob q n hc hx) (a.free c ob q n hx) hc hx
 slot:=λ c ob q n hc hx=>by
  obtain⟨sl,e1⟩:=a.slot c ob q n hc hx;obtain⟨sl',e2⟩:=b.slot c _ e1 (a.free c ob q n hx) hc hx;exact⟨sl',e2⟩
 free:=λ c ob q n hx=>by
  obtain⟨o',e1⟩:=a.there c ob q hx;exact b.free c o' e1 (a.free c ob q n hx) hx
 there:=λ c ob q hx=>by
  obtain⟨o',e1⟩:=a.there c ob q hx;exact b.there c o' e1 hx
 tups:=λ c xs q=>b.tups c xs (a.tups c xs q)
 frzs:=λ c ob xs q=>b.frzs c ob xs (a.frzs c ob xs q)
 tbls:=λ c ps q=>by
  obtain⟨m1,e1⟩:=a.tbls c ps q;obtain⟨m2,e2⟩:=b.tbls c _ e1;exact⟨m1++m2,by rw[e2,Array.append_assoc]⟩
theorem Un.kept(k:∀ b u,h.get? b=qq u->h'.get? b=qq u):Un fs ex H H h h':=
 ⟨λ b ob q _ _ _=>k b ob q,λ b ob q _ _ _=>⟨ob.slots,k b ob q⟩,λ _ _ _ n _=>n,λ b ob q _=>⟨ob,k b ob q⟩,λ _ _ q=>q,λ _ _ _ q=>q,λ _ ps q=>⟨#[],by rw[q];simp⟩⟩
theorem Un.refl:Un fs ex H H h h:=Un.kept λ _ _ q=>q
theorem Un.laid(k:∀ b u,h.get? b=qq u->h'.get? b=qq u)(hp:h.objs.size<=a)(hn:H a=qz):Un fs ex H (bD H a o) h h' where
 keep:=λ b u q _ _ _=>k b u q
 slot:=λ b u q _ _ _=>⟨u.slots,k b u q⟩
 free:=λ b u q n _=>by rw[bL (xAk (xAc (xAa q) hp))];exact n
 there:=λ b u q _=>⟨u,k b u q⟩
 tups:=λ b xs q=>by rw[bL (eD q hn)];exact q
 frzs:=λ b u xs q=>by rw[bL (eD q hn)];exact q
 tbls:=λ b ps q=>⟨#[],by rw[bL (eD q hn),q];simp⟩
theorem Un.write(mu:Mut (H x))(he:e=x\/H e=qq (.own x))(k:∀ b u,b≠e->h.get? b=qq u->h'.get? b=qq u)(heo:∃ u,h'.get? e=qq u):Un fs ex H (bD H x o) h h':=by
 have hx:∀ b,H b=qz->b≠x:=λ b n z=>by subst z;rw[n] at mu;exact mu
 have hb:∀ b,H b=qz->b≠e:=λ b n z=>by
  subst z;rcases he with r | r
  ·exact hx b n r
  ·rw[n] at r;cases r
 have hm:∀ b u,H b=qq u->¬ Mut (qq u)->b≠x:=λ b u q nm z=>by subst z;rw[q] at mu;exact nm mu
 refine⟨λ b u q n _ _=>k b u (hb b n) q,λ b u q n _ _=>⟨u.slots,k b u (hb b n) q⟩,λ b u q n _=>by rw[bL (hx b n)];exact n,λ b u q _=>?_,
  λ b xs q=>by rw[bL (hm b _ q λ z=>z)];exact q,λ b u xs q=>by rw[bL (hm b _ q λ z=>z)];exact q,λ b ps q=>⟨#[],by rw[bL (hm b _ q λ z=>z),q];simp⟩⟩
 by_cases hbe:b=e
 ·subst hbe;exact heo
 ·exact⟨u,k b u hbe q⟩
theorem Un.mono(u:Un fs ex H H1 h h1)(hs:∀ b∈fs,b∈fs')(hx:∀ b∈ex,b∈ex'):Un fs' ex' H H1 h h1:=
 ⟨λ b ob q n hb he=>u.keep b ob q n (λ z=>hb (hs b z)) λ z=>he (hx b z),λ _ _ q n _ he=>u.any q n λ z=>he (hx _ z),λ b ob q n he=>u.free b ob q n λ z=>he (hx b z),λ b ob q he=>u.there b ob q λ z=>he (hx b z),u.tups,u.frzs,u.tbls⟩
end
noncomputable def trk(h:Heap)(H:Hp):List qv:=(yAu h.objs.size).filter λ a=>(H a).isSome
noncomputable def mV(h:Heap)(H:Hp):Heap:=PySem.W.hideAll h (trk h H)
theorem aMj(h:Heap)(H:Hp):(mV h H).objs.size=h.objs.size:=PySem.W.hideAll_size _ _
theorem aN3{h:Heap}{H:Hp}{b:qv}{o:Obj}(e:h.get? b=qq o)(n:H b=qz):(mV h H).get? b=qq o:=
 PySem.W.hideAll_get _ e λ hm=>by
  have q:(H b).isSome=true:=(List.mem_filter.mp hm).2;rw[n] at q;simp at q
theorem aOX{h:Heap}{H:Hp}{b:qv}{o:Obj}(e:(mV h H).get? b=qq o):h.get? b=qq o/\H b=qz:=by
 have e':h.get? b=qq o:=PySem.W.of_hideAll (trk h H) e;refine⟨e',?_⟩;cases q:H b with
 | none=>rfl
 | some x =>
   have hm:b∈trk h H:=List.mem_filter.mpr ⟨List.mem_range.mpr (xAa e'),by simp[q]⟩
   have z:(mV h H).get? b=qz:=PySem.W.hideAll_none (trk h H) hm;rw[z] at e;cases e
noncomputable def aQh(g h:Heap)(L:qv):List (qv×Obj):=(yAu h.objs.size).filterMap λ a=>if a=L\/(g.get? a).isSome=true then qz else (h.get? a).map λ o=>(a,o)
noncomputable def dA(g h:Heap)(L d:qv):List (qv×Obj):=(aQh g h L).filter λ p=>decide (p.1≠d)
end L2
namespace L2
open PySem PySem.Spec PyProof.Rows
structure Mod(K:FrG)(mg:Str->Option qx)(base:Heap):Prop where
 kin:K.In base
 glob:base.Ns xj mg
 blt:∃ mb,base.Ns builtinsNs mb/\∀ x:Str,x ≠ "__name__" -> mb x=vw x
 nolimit:base.NoLimit
structure Cx where
 prog:qu
 w:zq
 K:FrG
 mg:Str->Option qx
 base:Heap
 A:zv
 N:List Str
 s₀:qj
 H₀:Hp
 env:Env
 outer:List Env
 stack:List Env
 ex:List qv
 fn:Str->Bool
 calm:Bool
 pn:List (qv×Obj)
 xe:qx->qj->Prop
noncomputable def iL(l:List Env):List qv:=l.filterMap (·.frame)
noncomputable abbrev Cx.fs(X:Cx):List qv:=iL X.outer
def wT(sc:zw)(x:Str):Prop:=sc.names.lookup x=qq .local\/sc.names.lookup x=qq .cell\/sc.names.lookup x=qq .free
def Loc(sc:zw)(x:Str):Prop:=sc.names.lookup x=qq .local\/sc.names.lookup x=qq .cell
def aWV(env:Env)(h:Heap)(m:Str->Option qx)(x:Str)(u:qx):Prop:=
 (env.kindOf x=qq .local/\m x=qq u)\/((env.kindOf x=qq .cell\/env.kindOf x=qq .free)/\∃ c,env.cells.lookup x=qq c/\h.IsCell c (qq u))
structure Cx.Ok(X:Cx):Prop where
 mod:Mod X.K X.mg X.base
 kind:X.env.scope.kind=.function
 glob:X.env.globals=xj
 blt:X.env.builtins=builtinsNs
 above:X.s₀.heap.objs.size<=X.env.locals
 inj:∀ x y c,X.env.cells.lookup x=qq c->X.env.cells.lookup y=qq c->x=y
 has:∀ x,(X.env.kindOf x=qq .cell\/X.env.kindOf x=qq .free)->∃ c,X.env.cells.lookup x=qq c
 cab:∀ x c,X.fn x=true->X.env.cells.lookup x=qq c->X.s₀.heap.objs.size<=c
 hd:X.calm=true->X.A.handled=qz
 frames:X.A.frames=qq X.stack
 stk:X.stack=X.outer\/(X.stack=X.env::X.outer/\X.env.frame=qq X.env.locals)
 exf:∀ b∈X.ex,b≠X.env.locals/\∀ x c,X.env.cells.lookup x=qq c->c≠b
 bs:∀ b o,X.base.get? b=qq o->X.s₀.heap.get? b=qq o/\X.H₀ b=qz
 bsz:X.base.objs.size<=X.s₀.heap.objs.size
 noex:∀ b o,X.base.get? b=qq o->b ∉ X.ex
 exfs:∀ b∈X.ex,b ∉ X.fs
 funs:X.s₀.heap.FunFrames X.base X.outer
 frf:∀ b∈X.fs,X.H₀ b=qz
structure Inv(X:Cx)(aB:List (qv×Obj))(σ:List (Option V))(H:Hp)(s:qj):Prop where
 ok:X.Ok
 os:s.os=X.s₀.os
 bare:AllBare s.gens
 base:Un X.fs X.ex X.H₀ H X.s₀.heap s.heap
 loc:∃ m,s.heap.Ns X.env.locals m/\∀ (i:Nat) (x:Str) (v:V),X.N[i]? = qq x->σ[i]? = qq (qq v)->wT X.env.scope x->∃ u,bC v u/\aWV X.env s.heap m x u
 cell:∀ x c,X.env.cells.lookup x=qq c->∃ v,s.heap.IsCell c v
 free:H X.env.locals=qz
 freeC:∀ x c,X.env.cells.lookup x=qq c->H c=qz
 pin:∀ p∈X.pn++aB,s.heap.get? p.1=qq p.2/\H p.1=qz/\p.1≠X.env.locals/\p.1 ∉ X.fs/\∀ v,p.2.data≠.cell v
 hok:dS X.prog X.w H s.heap
 len:σ.length=X.N.length
section
variable {X : Cx}{aB : List (qv×Obj)}{σ : List (Option V)}{H H' : Hp}{s : qj}{h' : Heap}
theorem Cx.Ok.nofr(ok:X.Ok){b:qv}{o:Obj}(e:X.base.get? b=qq o):b ∉ X.fs:=λ hb=>by
 have:=(ok.funs.mem hb).1;rw[e] at this;cases this
theorem Inv.bs(I:Inv X aB σ H s):∀ b o,X.base.get? b=qq o->s.heap.get? b=qq o/\H b=qz:=λ b o e =>
 ⟨I.base.keep b o (I.ok.bs b o e).1 (I.ok.bs b o e).2 (I.ok.nofr e) (I.ok.noex b o e),I.base.free b o (I.ok.bs b o e).1 (I.ok.bs b o e).2 (I.ok.noex b o e)⟩
theorem Inv.bk(I:Inv X aB σ H s):∀ b o,X.base.get? b=qq o->s.heap.get? b=qq o:=λ b o e=>(I.bs b o e).1
theorem Inv.mod(I:Inv X aB σ H s):Mod X.K X.mg X.base:=I.ok.mod
theorem Inv.kIn(I:Inv X aB σ H s):X.K.In s.heap:=I.ok.mod.kin.keeps I.bk
theorem Inv.nolimit(I:Inv X aB σ H s):s.heap.NoLimit:=I.ok.mod.nolimit.keeps I.bk
theorem Inv.fr(I:Inv X aB σ H s):∃ m,Fr X.base X.env.locals s.heap m:=
 let ⟨m,hn,_⟩:=I.loc
 ⟨m,hn,I.bk,xAi I.ok.bsz I.ok.above⟩
theorem Inv.lt(I:Inv X aB σ H s):X.env.locals<s.heap.objs.size:=let ⟨_,hn,_⟩:=I.loc;hn.lt
theorem Inv.sz(I:Inv X aB σ H s):X.s₀.heap.objs.size<=s.heap.objs.size:=xAi I.ok.above (yFw I.lt)
theorem Inv.nofs(I:Inv X aB σ H s){a:qv}(h:s.heap.objs.size<=a):a ∉ X.fs:=λ hb=>by
 obtain⟨_,o,ho,_⟩:=I.ok.funs.mem hb;exact absurd (xAc (xAa ho) (xAi I.sz h)) (yCb _)
theorem Inv.cne(I:Inv X aB σ H s):∀ x c,X.env.cells.lookup x=qq c->c≠X.env.locals:=λ x c e z=>by
 obtain⟨v,o,ho,hd⟩:=I.cell x c e;obtain⟨m,⟨o',es,ep,ho',hd',_⟩,_⟩:=I.loc;rw[z,ho'] at ho;cases ho;rw[hd'] at hd;cases hd
theorem Inv.funs(I:Inv X aB σ H s):s.heap.FunFrames X.base X.outer:=by
 have all:∀ (l:List Env),(∀ b∈iL l,b∈X.fs)->X.s₀.heap.FunFrames X.base l->s.heap.FunFrames X.base l:=by
  intro l
  induction l with
  | nil=>intro _ _;trivial
  | cons env r ih =>
    intro hs hl;obtain⟨hk,⟨L,o,hf,hn,ho,hd⟩,hr⟩:=hl;have hL:L∈X.fs:=hs L (by unfold iL;rw[yDc,hf];exact xAd)
    obtain⟨sl,e⟩:=I.base.slot L o ho (I.ok.frf L hL) hL λ z=>I.ok.exfs L z hL
    exact⟨hk,⟨L,_,hf,hn,e,hd⟩,ih (λ b hb=>hs b (by unfold iL;rw[yDc,hf];exact xAg _ hb)) hr⟩
 exact all X.outer (λ _ hb=>hb) I.ok.funs
theorem Inv.stack(I:Inv X aB σ H s):s.heap.FunFrames X.base X.stack:=by
 rcases I.ok.stk with e | ⟨e,hf⟩
 ·rw[e];exact I.funs
 ·rw[e];obtain⟨m,hn,_⟩:=I.loc;refine .cons (by rw[I.ok.kind];decide) hf hn ?_ I.funs
  exact Heap.get?_none_of_le (xAi I.ok.bsz I.ok.above)
theorem Inv.stkSub(I:Inv X aB σ H s):∀ b∈iL X.stack,b∈X.env.locals::X.fs:=λ b hb=>by
 rcases I.ok.stk with e | ⟨e,hf⟩
 ·rw[e] at hb;exact xAg _ hb
 ·rw[e] at hb;unfold iL at hb;rw[yDc,hf] at hb;exact hb
theorem Inv.stkFree(I:Inv X aB σ H s):∀ b∈iL X.stack,H b=qz:=λ b hb=>by
 rcases List.mem_cons.mp (I.stkSub b hb) with e | hb
 ·rw[e];exact I.free
 ·obtain⟨_,o,ho,_⟩:=I.ok.funs.mem hb;exact I.base.free b o ho (I.ok.frf b hb) λ z=>I.ok.exfs b z hb
theorem Inv.step{g':Array GenState}{t':Nat}{d':Drawn}{ch:List qv}(I:Inv X aB σ H s)
 (hch:∀ b∈ch,(b∈X.ex\/X.s₀.heap.objs.size<=b)/\b≠X.env.locals/\(∀ x c,X.env.cells.lookup x=qq c->c≠b)/\∀ p∈X.pn++aB,p.1≠b)
 (keep:∀ b o,b≠X.env.locals->b ∉ X.fs->b ∉ ch->s.heap.get? b=qq o->H b=qz->h'.get? b=qq o)
 (slot:∀ b o,b≠X.env.locals->b∈X.fs->b ∉ ch->s.heap.get? b=qq o->H b=qz->∃ sl,h'.get? b=qq {o with slots:=sl }) (free:∀ b o,b ∉ ch->s.heap.get? b=qq o->H b=qz->H' b=qz)
 (there:∀ b o,b ∉ ch->s.heap.get? b=qq o->∃ o',h'.get? b=qq o')
 (tups:∀ b xs,H b=qq (.tup xs)->H' b=qq (.tup xs)) (frzs:∀ b o u,H b=qq (.frz o u)->H' b=qq (.frz o u)) (tbls:∀ b ps,H b=qq (.tbl ps)->∃ more,H' b=qq (.tbl (ps++more)))
 (ns:∀ m,s.heap.Ns X.env.locals m->h'.Ns X.env.locals m) (hok:dS X.prog X.w H' h') (hg:AllBare g') :
 Inv X aB σ H' {s with heap:=h',gens:=g',drawn:=d',toks:=t' }:=by
 have neL:∀ b o,X.s₀.heap.get? b=qq o->b≠X.env.locals:=λ b o e=>xAk (xAc (xAa e) I.ok.above)
 have neC:∀ b o,X.s₀.heap.get? b=qq o->b ∉ X.ex->b ∉ ch:=λ b o e hx hb=>by
  rcases (hch b hb).1 with z | z
  ·exact hx z
  ·exact absurd (xAc (xAa e) z) (yCb _)
 have cellK:∀ x c,X.env.cells.lookup x=qq c->∀ v,s.heap.IsCell c v->h'.IsCell c v:=λ x c e v aQ=>by
  obtain⟨o,ho,hd⟩:=aQ;have nch:c ∉ ch:=λ z=>(hch c z).2.2.1 x c e rfl
  by_cases hc:c∈X.fs
  ·obtain⟨sl,q⟩:=slot c o (I.cne x c e) hc nch ho (I.freeC x c e);exact⟨_,q,hd⟩
  ·exact⟨o,keep c o (I.cne x c e) hc nch ho (I.freeC x c e),hd⟩
 refine⟨I.ok,I.os,hg,⟨λ b o e n hb hx=>?_,λ b o e n hb hx=>?_,λ b o e n hx=>?_,λ b o e hx=>?_,λ b xs e=>tups b xs (I.base.tups b xs e),λ b o xs e=>frzs b o xs (I.base.frzs b o xs e),λ b ps e=>?_⟩,?_,λ x c e=>?_,?_,λ x c e=>?_,λ p hp=>?_,hok,I.len⟩
 ·exact keep b o (neL b o e) hb (neC b o e hx) (I.base.keep b o e n hb hx) (I.base.free b o e n hx)
 ·obtain⟨sl,e1⟩:=I.base.slot b o e n hb hx;obtain⟨sl',e2⟩:=slot b _ (neL b o e) hb (neC b o e hx) e1 (I.base.free b o e n hx);exact⟨sl',e2⟩
 ·obtain⟨o',e1⟩:=I.base.there b o e hx;exact free b o' (neC b o e hx) e1 (I.base.free b o e n hx)
 ·obtain⟨o',e1⟩:=I.base.there b o e hx;exact there b o' (neC b o e hx) e1
 ·obtain⟨m1,e1⟩:=I.base.tbls b ps e;obtain⟨m2,e2⟩:=tbls b _ e1;exact⟨m1++m2,by rw[e2,Array.append_assoc]⟩
 ·obtain⟨m,hn,hl⟩:=I.loc;refine⟨m,ns m hn,λ i x v e1 e2 e3=>?_⟩
  obtain⟨u,r,l⟩:=hl i x v e1 e2 e3;refine⟨u,r,?_⟩;rcases l with l | ⟨k,c,e,z⟩
  ·exact .inl l
  ·exact .inr ⟨k,c,e,cellK x c e _ z⟩
 ·obtain⟨v,z⟩:=I.cell x c e;exact⟨v,cellK x c e v z⟩
 ·obtain⟨m,⟨o,_,_,ho,_⟩,_⟩:=I.loc;exact free _ o (λ z=>(hch _ z).2.1 rfl) ho I.free
 ·obtain⟨v,o,ho,hd⟩:=I.cell x c e;exact free c o (λ z=>(hch c z).2.2.1 x c e rfl) ho (I.freeC x c e)
 ·obtain⟨e,n,ne,nf,d⟩:=I.pin p hp;have nch:p.1 ∉ ch:=λ z=>(hch p.1 z).2.2.2 p hp rfl
  exact⟨keep p.1 p.2 ne nf nch e n,free p.1 p.2 nch e n,ne,nf,d⟩
theorem Inv.un{t':Nat}(I:Inv X aB σ H s)(u:Un X.fs [] H H' s.heap h')(hok:dS X.prog X.w H' h'):Inv X aB σ H' {s with heap:=h',toks:=t' }:=by
 obtain⟨m,⟨o,es,ep,ho,r⟩,_⟩:=id I.loc;obtain⟨sl,hL⟩:=u.any ho I.free (by simp)
 exact I.step (g':=s.gens) (d':=s.drawn) (ch:=[]) (λ _ z=>nomatch z) (λ b o _ hb _ e n=>u.keep b o e n hb (by simp)) (λ b o _ hb _ e n=>u.slot b o e n hb (by simp)) (λ b o _ e n=>u.free b o e n (by simp)) (λ b o _ e=>u.there b o e (by simp)) u.tups u.frzs u.tbls (λ m' hm=>by
  obtain⟨o',es',ep',ho',r'⟩:=hm;rw[ho] at ho';cases ho';exact⟨_,es',ep',hL,r'⟩) hok I.bare
theorem Inv.call{g':Array GenState}{t':Nat}{d':Drawn}{ch:List qv}(I:Inv X aB σ H s)(u:Un (iL X.stack) ch H H' s.heap h')(hok:dS X.prog X.w H' h')(hg:AllBare g')
 (hch:∀ b∈ch,(b∈X.ex\/X.s₀.heap.objs.size<=b)/\b≠X.env.locals/\(∀ x c,X.env.cells.lookup x=qq c->c≠b)/\∀ p∈X.pn++aB,p.1≠b) :
 Inv X aB σ H' {s with heap:=h',gens:=g',drawn:=d',toks:=t' }:=by
 obtain⟨m,⟨o,es,ep,ho,r⟩,_⟩:=id I.loc;obtain⟨sl,hL⟩:=u.any ho I.free λ z=>(hch _ z).2.1 rfl
 exact I.step (ch:=ch) hch (λ b o hL hb hc e n=>u.keep b o e n (λ z=>(List.mem_cons.mp (I.stkSub b z)).elim hL hb) hc) (λ b o _ _ hc e n=>u.any e n hc) (λ b o hc e n=>u.free b o e n hc) (λ b o hc e=>u.there b o e hc) u.tups u.frzs u.tbls (λ m' hm=>by
  obtain⟨o',es',ep',ho',r'⟩:=hm;rw[ho] at ho';cases ho';exact⟨_,es',ep',hL,r'⟩) hok hg
theorem Inv.turned{t':Nat}{it:qv}(I:Inv X aB σ H s)(k:∀ b o,b≠it->s.heap.get? b=qq o->h'.get? b=qq o)(hn:H it=qz)(hL:it≠X.env.locals)
 (h1:it∈X.ex\/X.s₀.heap.objs.size<=it) (h2:∀ x c,X.env.cells.lookup x=qq c->c≠it) (h3:∀ p∈X.pn++aB,p.1≠it):Inv X aB σ H {s with heap:=h',toks:=t' }:=by
 have nit:∀ b u,H b=qq u->b≠it:=λ b u e z=>by rw[z,hn] at e;cases e
 refine I.step (g':=s.gens) (d':=s.drawn) (ch:=[it]) (λ b hb=>?_) (λ b o _ _ hc e _=>k b o (λ z=>hc (by simp[z])) e) (λ b o _ _ hc e _=>⟨o.slots,k b o (λ z=>hc (by simp[z])) e⟩) (λ _ _ _ _ n=>n)
  (λ b o hc e=>⟨o,k b o (λ z=>hc (by simp[z])) e⟩) (λ _ _ e=>e) (λ _ _ _ e=>e) (λ b ps e=>⟨#[],by rw[e];simp⟩) (λ m hm=>?_) (λ b u e=>?_) I.bare
 ·have e:b=it:=by simpa using hb
  subst e;exact⟨h1,hL,h2,h3⟩
 ·obtain⟨o,es,ep,ho,r⟩:=hm;exact⟨o,es,ep,k _ o (Ne.symm hL) ho,r⟩
 ·refine(I.hok b u e).stay (λ c v hc q=>k c v ?_ q) (λ _ q=>q) λ _ _ q=>q
  rcases hc with z | z
  ·rw[z];exact nit b u e
  ·exact nit c _ z
theorem Inv.tok(I:Inv X aB σ H s)(t:Nat):Inv X aB σ H {s with toks:=t }:=I.un (h':=s.heap) (t':=t) Un.refl I.hok
theorem Inv.kept{t':Nat}(I:Inv X aB σ H s)(k:∀ b u,s.heap.get? b=qq u->h'.get? b=qq u):Inv X aB σ H {s with heap:=h',toks:=t' }:=I.un (Un.kept k) (I.hok.kept k)
theorem Inv.laid{a:qv}{o:HO}{t':Nat}(I:Inv X aB σ H s)(k:∀ b u,s.heap.get? b=qq u->h'.get? b=qq u)(hp:s.heap.objs.size<=a)(new:gO X.prog X.w (bD H a o) h' a o) :
 Inv X aB σ (bD H a o) {s with heap:=h',toks:=t' }:=I.un (Un.laid k hp (I.hok.fresh hp)) (I.hok.laid k hp new)
theorem Inv.write{x e:qv}{o:HO}{t':Nat}(I:Inv X aB σ H s)(mu:Mut (H x))(he:e=x\/H e=qq (.own x))(k:∀ b u,b≠e->s.heap.get? b=qq u->h'.get? b=qq u)(heo:∃ u,h'.get? e=qq u)
 (new:gO X.prog X.w (bD H x o) h' x o):Inv X aB σ (bD H x o) {s with heap:=h',toks:=t' }:=I.un (Un.write mu he k heo) (I.hok.write mu he k heo new)
theorem Inv.weak{σ':List (Option V)}(I:Inv X aB σ H s)(hl:σ'.length=σ.length)(w:∀ (i:Nat) v,σ'[i]? = qq (qq v)->σ[i]? = qq (qq v)):Inv X aB σ' H s:=
 ⟨I.ok,I.os,I.bare,I.base,let ⟨m,hn,hl'⟩:=I.loc;⟨m,hn,λ i x v e1 e2 e3=>hl' i x v e1 (w i v e2) e3⟩,I.cell,I.free,I.freeC,I.pin,I.hok,hl.trans I.len⟩
theorem Inv.pins_of{pins':List (qv×Obj)}(I:Inv X aB σ H s)(h:∀ p∈pins',s.heap.get? p.1=qq p.2/\H p.1=qz/\p.1≠X.env.locals/\p.1 ∉ X.fs/\∀ v,p.2.data≠.cell v):Inv X pins' σ H s:=
 ⟨I.ok,I.os,I.bare,I.base,I.loc,I.cell,I.free,I.freeC,λ p hp=>(List.mem_append.mp hp).elim (λ z=>I.pin p (List.mem_append_left _ z)) (h p),I.hok,I.len⟩
theorem aGt{N:List Str}(hN:N.Nodup){i j:Nat}{x:Str}(a:N[i]? = qq x)(b:N[j]? = qq x):i=j:=by
 obtain⟨h1,e1⟩:=gIm a;obtain⟨h2,e2⟩:=gIm b;exact(yGw hN).mp (e1.trans e2.symm)
theorem aMP{M:Model}{A:zv}{E:qx->qj->Prop}{i:Nat}{x:Str}{v:V}{u:qx}{Q:Unit->qj->Prop}(I:Inv X aB σ H s)(hN:X.N.Nodup)(hi:X.N[i]? = qq x)(hx:Loc X.env.scope x)(r:bC v u)
 (h:∀ s',Inv X aB (σ.set i (qq v)) H s'->(∃ a,yEb a s.heap s'.heap/\(a=X.env.locals\/X.env.cells.lookup x=qq a))->Q () s') (hf:X.fn x=true\/X.env.scope.names.lookup x=qq .local:=by first | exact .inl rfl | exact .inr rfl | assumption):qk M A (storeName X.env x u) Q E s:=by
 obtain⟨m,hn,hl⟩:=id I.loc;have hcls:(X.env.scope.kind==.class||(X.env.scope.kind==.module&&X.env.locals != X.env.globals))=false:=by rw[I.ok.kind];rfl
 have hiσ:i<σ.length:=by rw[I.len];exact(gIm hi).1
 have cne:=I.cne;have tracked:∀ {a:qv}{h':Heap},(∃ o,s.heap.get? a=qq o/\H a=qz)->yEb a s.heap h'->dS X.prog X.w H h':=λ {a h'} ha hs b ob e=>by
  obtain⟨_,_,hfree⟩:=ha;refine(I.hok b ob e).stay (λ c w' hc q=>(hs.2 c ?_).trans q) (λ _ q=>q) λ _ _ q=>q
  rintro rfl;rcases hc with rfl | hc
  ·rw[hfree] at e;cases e
  ·rw[hfree] at hc;cases hc
 rcases hx with hk | hk
 ·refine wpAny_storeName_local hk hn (λ h' hn' hs=>?_) hcls
  obtain⟨oL,_,_,hoL,_⟩:=id hn;refine h _ ⟨I.ok,I.os,I.bare,⟨λ b o e n hb hx=>?_,λ b o e n hb hx=>?_,I.base.free,λ b o e hx=>?_,I.base.tups,I.base.frzs,I.base.tbls⟩,⟨_,hn',λ j y v' e1 e2 e3=>?_⟩,λ y c e=>?_,I.free,I.freeC,λ p hp=>?_,tracked ⟨oL,hoL,I.free⟩ hs,by simpa using I.len⟩ ⟨_,hs,.inl rfl⟩
  ·exact(hs.2 b (xAk (xAc (xAa e) I.ok.above))).trans (I.base.keep b o e n hb hx)
  ·obtain⟨sl,e1⟩:=I.base.slot b o e n hb hx;exact⟨sl,(hs.2 b (xAk (xAc (xAa e) I.ok.above))).trans e1⟩
  ·obtain⟨o',e1⟩:=I.base.there b o e hx;exact⟨o',(hs.2 b (xAk (xAc (xAa e) I.ok.above))).trans e1⟩
  ·by_cases hj:j=i
   ·subst hj;rw[hi] at e1;cases e1;rw[yAz hiσ] at e2;cases e2;exact⟨u,r,.inl ⟨hk,by simp⟩⟩
   ·rw[yBc (Ne.symm hj)] at e2;obtain⟨u',r',q⟩:=hl j y v' e1 e2 e3;refine⟨u',r',?_⟩;rcases q with ⟨k,e⟩ | ⟨k,c,e,z⟩
    ·refine .inl ⟨k,?_⟩;have:y≠x:=λ e=>hj (aGt hN e1 (e▸hi))
     simp[this,e]
    ·exact .inr ⟨k,c,e,z.sameBut hs (cne y c e)⟩
  ·obtain⟨w',z⟩:=I.cell y c e;exact⟨w',z.sameBut hs (cne y c e)⟩
  ·obtain⟨e,n,ne,nf,d⟩:=I.pin p hp;exact⟨(hs.2 p.1 ne).trans e,n,ne,nf,d⟩
 ·have hfn:X.fn x=true:=by
   rcases hf with z | z
   ·exact z
   ·rw[z] at hk;cases hk
  obtain⟨c,hc⟩:=I.ok.has x (.inl hk);obtain⟨w',z⟩:=I.cell x c hc;refine wpAny_storeName_cell I.ok.kind hk hc z (λ h' hc' hs=>?_)
  obtain⟨oc,hoc,hocd⟩:=id z;refine h {s with heap:=h' } ⟨I.ok,I.os,I.bare,⟨λ b o e n hb hx=>?_,λ b o e n hb hx=>?_,I.base.free,λ b o e hx=>?_,I.base.tups,I.base.frzs,I.base.tbls⟩,⟨m,hn.sameBut hs (Ne.symm (cne x c hc)),λ j y v' e1 e2 e3=>?_⟩,λ y c' e=>?_,I.free,I.freeC,λ p hp=>?_,tracked ⟨oc,hoc,I.freeC x c hc⟩ hs,by simpa using I.len⟩ ⟨c,hs,.inr hc⟩
  ·exact(hs.2 b (xAk (xAc (xAa e) (I.ok.cab x c hfn hc)))).trans (I.base.keep b o e n hb hx)
  ·obtain⟨sl,e1⟩:=I.base.slot b o e n hb hx;exact⟨sl,(hs.2 b (xAk (xAc (xAa e) (I.ok.cab x c hfn hc)))).trans e1⟩
  ·obtain⟨o',e1⟩:=I.base.there b o e hx;exact⟨o',(hs.2 b (xAk (xAc (xAa e) (I.ok.cab x c hfn hc)))).trans e1⟩
  ·by_cases hj:j=i
   ·subst hj;rw[hi] at e1;cases e1;rw[yAz hiσ] at e2;cases e2;exact⟨u,r,.inr ⟨.inl hk,c,hc,hc'⟩⟩
   ·rw[yBc (Ne.symm hj)] at e2;obtain⟨u',r',q⟩:=hl j y v' e1 e2 e3;refine⟨u',r',?_⟩;rcases q with q | ⟨k,c',e,z'⟩
    ·exact .inl q
    ·refine .inr ⟨k,c',e,z'.sameBut hs ?_⟩;rintro rfl;exact hj (aGt hN e1 (I.ok.inj _ _ _ e hc▸hi))
  ·by_cases hcc:c'=c
   ·subst hcc;exact⟨_,hc'⟩
   ·obtain⟨w2,z2⟩:=I.cell y c' e;exact⟨w2,z2.sameBut hs hcc⟩
  ·obtain⟨e,n,ne,nf,d⟩:=I.pin p hp;refine⟨(hs.2 p.1 ?_).trans e,n,ne,nf,d⟩;intro q;rw[q,hoc] at e;have q':oc=p.2:=Option.some.inj e;exact d w' (by rw[<- q'];exact hocd)
theorem aGb{M:Model}{A:zv}{E:qx->qj->Prop}{i:Nat}{x:Str}{v:V}{u:qx}{Q:Unit->qj->Prop}(I:Inv X aB σ H s)(hN:X.N.Nodup)(hi:X.N[i]? = qq x)(hx:Loc X.env.scope x)(r:bC v u)
 (h:∀ s',Inv X aB (σ.set i (qq v)) H s'->Q () s') (hf:X.fn x=true\/X.env.scope.names.lookup x=qq .local:=by first | exact .inl rfl | exact .inr rfl | assumption):qk M A (storeName X.env x u) Q E s:=
 aMP I hN hi hx r (λ s' I' _=>h s' I') hf
theorem Inv.call'{s':qj}{ch:List qv}(I:Inv X aB σ H s)(ho:s'.os=s.os)(u:Un (iL X.stack) ch H H' s.heap s'.heap)(hok:dS X.prog X.w H' s'.heap)(hg:AllBare s'.gens)
 (hch:∀ b∈ch,(b∈X.ex\/X.s₀.heap.objs.size<=b)/\b≠X.env.locals/\(∀ x c,X.env.cells.lookup x=qq c->c≠b)/\∀ p∈X.pn++aB,p.1≠b):Inv X aB σ H' s':=by
 obtain⟨h',g',d',t',o'⟩:=s';have e:o'=s.os:=ho;subst e;exact I.call (g':=g') (t':=t') (d':=d') u hok hg hch
end
abbrev XK:=qx->Option qv->Hp->Prop
abbrev St:=List (Option V)
abbrev VK:=V->Hp->Prop
abbrev TE:=St->Hp->VK->Prop
abbrev TT:=St->Hp->(Bool->Hp->Prop)->Prop
abbrev TA:=St->Hp->(List V->Hp->Prop)->Prop
structure Ends where
 nx:St->Hp->Prop
 rt:VK
 bk:St->Hp->Prop:=λ _ _=>False
 ct:St->Hp->Prop:=λ _ _=>False
abbrev TS:=Ends->St->Hp->Prop
def EP(X:Cx)(aB:List (qv×Obj))(σ:St)(Q:VK)(u:qx)(s':qj):Prop:=∃ v H',Inv X aB σ H' s'/\bC v u/\Q v H'
def TP(X:Cx)(aB:List (qv×Obj))(σ:St)(Q:Bool->Hp->Prop)(b:Bool)(s':qj):Prop:=∃ H',Inv X aB σ H' s'/\Q b H'
def AP(X:Cx)(aB:List (qv×Obj))(σ:St)(Q:List V->Hp->Prop)(us:List qx)(s':qj):Prop:=∃ vs H',Inv X aB σ H' s'/\aS vs us/\Q vs H'
def SP(X:Cx)(aB:List (qv×Obj))(D:Ends)(f:Flow)(s':qj):Prop:=
 match f with
 | .next=>∃ σ' H',Inv X aB σ' H' s'/\D.nx σ' H'
 | .brk=>∃ σ' H',Inv X aB σ' H' s'/\D.bk σ' H'
 | .cont=>∃ σ' H',Inv X aB σ' H' s'/\D.ct σ' H'
 | .ret u=>∃ v σ' H',Inv X aB σ' H' s'/\bC v u/\D.rt v H'
def PE(X:Cx)(e:qw)(t:TE):Prop:=
 ∀ (aB:List (qv×Obj)) (s:qj) (σ:St) (H:Hp) (Q:VK),Inv X aB σ H s->t σ H Q->qk (model X.prog X.w) X.A (eval e X.env) (EP X aB σ Q) X.xe s
def PT(X:Cx)(e:qw)(t:TT):Prop:=
 ∀ (aB:List (qv×Obj)) (s:qj) (σ:St) (H:Hp) (Q:Bool->Hp->Prop),Inv X aB σ H s->t σ H Q->qk (model X.prog X.w) X.A (isTrue e X.env (eval e X.env)) (TP X aB σ Q) X.xe s
def PW(X:Cx)(e:qw)(t:TT):Prop:=
 ∀ (eV:Sem qx) (aB:List (qv×Obj)) (s:qj) (σ:St) (H:Hp) (Q:Bool->Hp->Prop),Inv X aB σ H s->t σ H Q->qk (model X.prog X.w) X.A (isTrue e X.env eV) (TP X aB σ Q) X.xe s
theorem PW.pt{X:Cx}{e:qw}{t:TT}(h:PW X e t):PT X e t:=h _
def PA(X:Cx)(es:List qw)(t:TA):Prop:=
 ∀ (pos:Pos) (aB:List (qv×Obj)) (s:qj) (σ:St) (H:Hp) (Q:List V->Hp->Prop),Inv X aB σ H s->t σ H Q->qk (model X.prog X.w) X.A (spliced (backTo pos (qo es X.env))) (AP X aB σ Q) X.xe s
def PS(X:Cx)(st:xw)(t:TS):Prop:=
 ∀ (aB:List (qv×Obj)) (s:qj) (σ:St) (H:Hp) (D:Ends),Inv X aB σ H s->t D σ H->qk (model X.prog X.w) X.A (exec st X.env) (SP X aB D) X.xe s
def dP(X:Cx)(st:List xw)(t:TS):Prop:=
 ∀ (aB:List (qv×Obj)) (s:qj) (σ:St) (H:Hp) (D:Ends),Inv X aB σ H s->t D σ H->qk (model X.prog X.w) X.A (execs st X.env) (SP X aB D) X.xe s
theorem bE{α:Type}{t:Sem α}{Q Q':α->qj->Prop}{M:Model}{A:zv}{E:qx->qj->Prop}{s:qj}(h:qk M A t Q E s)(hQ:∀ a s,Q a s->Q' a s):qk M A t Q' E s:=wpAny_mono h hQ λ _ _ x=>x
end L2
namespace L2
open PySem PySem.Spec PyProof.Rows
section
variable {X : Cx}
theorem bin{a b:qw}{ta tb:TE}(ha:PE X a ta)(hb:PE X b tb){aB:List (qv×Obj)}{s:qj}{σ:St}{H:Hp}{R:V->V->Hp->Prop}(I:Inv X aB σ H s)(h:ta σ H λ x H1=>tb σ H1 λ y H2=>R x y H2)
 {α:Type}{Q:α->qj->Prop}{f:qx->qx->Sem α}
 (hf:∀ v u s2 x y H2,Inv X aB σ H2 s2->bC x v->bC y u->R x y H2->qk (model X.prog X.w) X.A (f v u) Q X.xe s2) :
 qk (model X.prog X.w) X.A (eval a X.env) (λ v s₁=>qk (model X.prog X.w) X.A (eval b X.env) (λ u s₂=>qk (model X.prog X.w) X.A (f v u) Q X.xe s₂) X.xe s₁) X.xe s:=by
 refine bE (ha aB s σ H _ I h) λ v s1 hPq0=>?_
 obtain⟨x,H1,I1,r1,q1⟩:=hPq0;refine bE (hb aB s1 σ H1 _ I1 q1) λ u s2 hPq1=>?_
 obtain⟨y,H2,I2,r2,q2⟩:=hPq1;exact hf v u s2 x y H2 I2 r1 r2 q2
def aWA(i:Nat):TE:=λ σ H Q=>∃ v,σ[i]? = qq (qq v)/\Q v H
def tC(v:V):TE:=λ _ H Q=>Q v H
theorem aRA{i:Nat}{x:Str}{pos:Pos}(hN:X.N[i]? = qq x)(hv:wT X.env.scope x)(hd:(x==("__debug__" : Str))=false:=by decide)(hcd:(x==("__classdict__" : Str))=false:=by decide):PE X (.Name x pos) (aWA i):=by
 intro aB s σ H Q I h;obtain⟨v,e,h⟩:=h;obtain⟨m,hn,hl⟩:=I.loc;obtain⟨u,r,l⟩:=hl i x v hN e hv;have bR:EP X aB σ Q u s:=⟨v,H,I,r,h⟩;rcases l with ⟨hk,hm⟩ | ⟨hk,c,hc,hcell⟩
 ·exact wpAny_Name (wpAny_loadName_local I.ok.kind hk hn hm bR) hd
 ·rcases hk with hk | hk
  ·exact wpAny_Name (wpAny_loadName_cell I.ok.kind hk hc hcell bR) hd
  ·exact wpAny_Name (wpAny_loadName_free I.ok.kind hk hc hcell bR hcd) hd
theorem aSa{i j pos}:PE X (.Constant (.int i) j pos) (tC (.int i)):=λ _ _ _ H _ I h=>wpAny_Constant_int ⟨.int i,H,I.tok _,⟨_,rfl⟩,h⟩
theorem aTC{b j pos}:PE X (.Constant (.bool b) j pos) (tC (.bl b)):=λ _ _ _ H _ I h=>Constant_bool ⟨.bl b,H,I,rfl,h⟩
theorem aQD{j pos}:PE X (.Constant .none j pos) (tC .non):=λ _ _ _ H _ I h=>Constant_none ⟨.non,H,I,rfl,h⟩
theorem aSW{x j pos}:PE X (.Constant (.str x) j pos) (tC (.str x)):=λ _ _ _ H _ I h=>Calls.Constant_str ⟨.str x,H,I.tok _,⟨_,rfl⟩,h⟩
def Gl(X:Cx)(x:Str):Prop:=X.env.kindOf x=qq .globalImplicit
theorem aCD{E:qx->qj->Prop}{aB:List (qv×Obj)}{s:qj}{σ:St}{H:Hp}{x:Str}{u:qx}{pos:Pos}{Q:qx->qj->Prop}(I:Inv X aB σ H s)(hg:Gl X x)(hm:X.mg x=qq u)(h:Q u s)
 (hd:(x==("__debug__" : Str))=false:=by decide):qk (model X.prog X.w) X.A (eval (.Name x pos) X.env) Q E s:=
 Calls.Name_function_global I.ok.kind hg (Calls.loadGlobal_global (by rw[I.ok.glob];exact I.mod.glob.keeps I.bk) hm h) hd
theorem lZ{E:qx->qj->Prop}{aB:List (qv×Obj)}{s:qj}{σ:St}{H:Hp}{x:Str}{u:qx}{pos:Pos}{Q:qx->qj->Prop}(I:Inv X aB σ H s)(hg:Gl X x)(hm:X.mg x=qz)(hv:vw x=qq u)(h:Q u s)
 (hn:x ≠ "__name__":=by decide) (hd:(x==("__debug__" : Str))=false:=by decide):qk (model X.prog X.w) X.A (eval (.Name x pos) X.env) Q E s:=by
 obtain⟨mb,h1,h2⟩:=I.mod.blt;exact Calls.Name_function_global I.ok.kind hg (Calls.loadGlobal_builtin (by rw[I.ok.glob];exact I.mod.glob.keeps I.bk) hm (by rw[I.ok.blt];exact h1.keeps I.bk) ((h2 x hn).trans hv) h) hd
theorem aHt{x:Str}{v:V}{u:qx}{pos:Pos}(hg:Gl X x)(hm:X.mg x=qq u)(r:bC v u)(hd:(x==("__debug__" : Str))=false:=by decide):PE X (.Name x pos) (tC v):=
 λ _ _ _ H _ I h=>aCD I hg hm ⟨v,H,I,r,h⟩ hd
variable {a b : qw}{ta tb : TE}{pos : Pos}
variable {tA tB' : TT}{dA : List qw}
def aKa(t u:TT):TT:=λ σ H Q=>t σ H λ c H1=>if c=true then u σ H1 Q else Q false H1
def tOr(t u:TT):TT:=λ σ H Q=>t σ H λ c H1=>if c=true then Q true H1 else u σ H1 Q
def aWn(t:TT):TT:=λ σ H Q=>t σ H λ c H1=>Q (!c) H1
theorem aOy(ha:PT X a tA):PW X (.BoolOp .And [a] pos) tA:=by
 intro wh aB s σ H Q I h;refine isTrue_and (bE (ha aB s σ H Q I h) λ c s1 e=>?_)
 cases c with
 | true=>exact isTrue_and_nil e
 | false=>exact e
theorem aSy(ha:PT X a tA):PW X (.BoolOp .Or [a] pos) tA:=by
 intro wh aB s σ H Q I h;refine isTrue_or (bE (ha aB s σ H Q I h) λ c s1 e=>?_)
 cases c with
 | false=>exact isTrue_or_nil e
 | true=>exact e
theorem aHX(ha:PT X a tA)(hb:PW X (.BoolOp .And (b::dA) pos) tB'):PW X (.BoolOp .And (a::b::dA) pos) (aKa tA tB'):=by
 intro wh aB s σ H Q I h;refine isTrue_and (bE (ha aB s σ H _ I h) λ c s1 hPq2=>?_)
 obtain⟨H1,I1,q1⟩:=hPq2;cases c with
 | true=>exact hb wh aB s1 σ H1 Q I1 q1
 | false=>exact⟨H1,I1,q1⟩
theorem aIX(ha:PT X a tA)(hb:PW X (.BoolOp .Or (b::dA) pos) tB'):PW X (.BoolOp .Or (a::b::dA) pos) (tOr tA tB'):=by
 intro wh aB s σ H Q I h;refine isTrue_or (bE (ha aB s σ H _ I h) λ c s1 hPq3=>?_)
 obtain⟨H1,I1,q1⟩:=hPq3;cases c with
 | true=>exact⟨H1,I1,q1⟩
 | false=>exact hb wh aB s1 σ H1 Q I1 q1
theorem aRD(ha:PT X a tA):PT X (.UnaryOp .Not a pos) (aWn tA):=by
 intro aB s σ H Q I h;exact isTrue_not (ha aB s σ H (λ c H1=>Q (!c) H1) I h)
def aJJ(ta tb:TE):TE:=λ σ H Q=>ta σ H λ x H1=>∃ c,x=.bl c/\if c=true then tb σ H1 Q else Q (.bl false) H1
def aJZ(ta tb:TE):TE:=λ σ H Q=>ta σ H λ x H1=>∃ c,x=.bl c/\if c=true then Q (.bl true) H1 else tb σ H1 Q
def aTX(ta:TE):TE:=λ σ H Q=>ta σ H λ x H1=>∃ c,x=.bl c/\Q (.bl (!c)) H1
theorem aIP{op}{t:TE}(h:PE X a t):PE X (.BoolOp op [a] pos) t:=λ aB s σ H Q I hw=>BoolOp_one (h aB s σ H Q I hw)
theorem aH9(ha:PE X a ta)(hb:PE X (.BoolOp .And (b::dA) pos) tb):PE X (.BoolOp .And (a::b::dA) pos) (aJJ ta tb):=by
 intro aB s σ H Q I h;refine BoolOp_and (bE (ha aB s σ H _ I h) λ v s1 hPq4=>?_)
 obtain⟨x,H1,I1,r1,q1⟩:=hPq4;obtain⟨c,rfl,q1⟩:=q1;cases r1;refine jx ?_;cases c with
 | true=>exact hb aB s1 σ H1 Q I1 q1
 | false=>exact⟨.bl false,H1,I1,rfl,q1⟩
theorem aJz(ha:PE X a ta)(hb:PE X (.BoolOp .Or (b::dA) pos) tb):PE X (.BoolOp .Or (a::b::dA) pos) (aJZ ta tb):=by
 intro aB s σ H Q I h;refine BoolOp_or (bE (ha aB s σ H _ I h) λ v s1 hPq5=>?_)
 obtain⟨x,H1,I1,r1,q1⟩:=hPq5;obtain⟨c,rfl,q1⟩:=q1;cases r1;refine jx ?_;cases c with
 | false=>exact hb aB s1 σ H1 Q I1 q1
 | true=>exact⟨.bl true,H1,I1,rfl,q1⟩
theorem aRx(ha:PE X a ta):PE X (.UnaryOp .Not a pos) (aTX ta):=by
 intro aB s σ H Q I h;refine UnaryOp_ (bE (ha aB s σ H _ I h) λ v s1 hPq6=>?_)
 obtain⟨x,H1,I1,r1,q1⟩:=hPq6;obtain⟨c,rfl,q1⟩:=q1;cases r1;exact not_of (jx ⟨.bl (!c),H1,I1,rfl,q1⟩)
def tIf(t:TT)(ta tb:TE):TE:=λ σ H Q=>t σ H λ c H1=>if c=true then ta σ H1 Q else tb σ H1 Q
theorem aNG{c:qw}(hc:PT X c tA)(ha:PE X a ta)(hb:PE X b tb):PE X (.IfExp c a b pos) (tIf tA ta tb):=by
 intro aB s σ H Q I h;refine wpAny_IfExp (bE (hc aB s σ H _ I h) λ d s1 hPq7=>?_)
 obtain⟨H1,I1,q1⟩:=hPq7;cases d with
 | true=>exact ha aB s1 σ H1 Q I1 q1
 | false=>exact hb aB s1 σ H1 Q I1 q1
end
end L2
namespace L2
open PySem PySem.Spec PyProof.Rows
def bM(K:FrG)(H:Hp)(a:qv)(xs:List V):Prop:=
 Rd H a (.lst xs) \/
  ∃ (o:Obj) (aG:Array qx) (n:Nat),K.lookup a=qq o/\o.cls=.type "list" /\ o.dict=qz/\o.data=.seq aG n/\aG.size<=qy/\aS xs aG.toList
def bS(K:FrG)(H:Hp)(a:qv)(xs:List V):Prop:=
 Rd H a (.tup xs) \/
  ∃ (o:Obj) (aG:Array qx) (n:Nat),K.lookup a=qq o/\o.cls=.type "tuple" /\ o.data=.seq aG n/\aG.size<=qy/\aS xs aG.toList
noncomputable def aWt:qx->Option V
 | .none=>qq .non
 | .bool b=>qq (.bl b)
 | .int i _=>qq (.int i)
 | .str x _=>qq (.str x)
 | .bytes b _=>qq (.byt b)
 | .float b _=>qq (.flt b)
 | .ref a=>qq (.ref a)
 | .type n=>qq (.ty n)
 | _=>qz
theorem bC.abs{x:V}{u:qx}(r:bC x u):aWt u=qq x:=by
 cases x with
 | non=>cases r;rfl
 | bl _=>cases r;rfl
 | int _=>obtain⟨t,rfl⟩:=r;rfl
 | str _=>obtain⟨t,rfl⟩:=r;rfl
 | byt _=>obtain⟨t,rfl⟩:=r;rfl
 | flt _=>obtain⟨t,rfl⟩:=r;rfl
 | ref _=>cases r;rfl
 | ty _=>cases r;rfl
theorem bC.inj{x y:V}{u:qx}(r:bC x u)(q:bC y u):x=y:=Option.some.inj (r.abs.symm.trans q.abs)
theorem aS.inj:∀ {xs ys:List V}{us:List qx},aS xs us->aS ys us->xs=ys
 | _,_,_,.nil,.nil=>rfl
 | _,_,_,.cons r t,.cons r' t'=>by rw[r.inj r',aS.inj t t']
section
variable {X : Cx}{aB : List (qv×Obj)}{σ : St}{H : Hp}{s : qj}{a : qv}{xs ys : List V}
theorem bM.of{K:FrG}(h:H a=qq (.lst xs)):bM K H a xs:=.inl (.inl h)
theorem bS.of{K:FrG}(h:H a=qq (.tup xs)):bS K H a xs:=.inl (.inl h)
theorem Inv.list(I:Inv X aB σ H s)(h:bM X.K H a xs):∃ aG:List qx,aS xs aG/\PlainL s.heap a aG.toArray/\xs.length<=qy:=by
 rcases h with h | ⟨o,aG,n,hk,hc,hd,hs,hz,r⟩
 ·obtain⟨z,aG,n,r,e⟩:=h.ok I.hok;exact⟨aG,r,⟨_,n,e,rfl,rfl,rfl⟩,z⟩
 ·refine⟨aG.toList,r,⟨o,n,I.kIn a o hk,hc,hd,by simpa using hs⟩,?_⟩
  have e:=r.length;simp only[yEe] at e;omega
theorem Inv.tuple(I:Inv X aB σ H s)(h:bS X.K H a xs):∃ aG:List qx,aS xs aG/\IsTup s.heap a aG.toArray/\xs.length<=qy:=by
 rcases h with h | ⟨o,aG,n,hk,hc,hs,hz,r⟩
 ·obtain⟨z,aG,r,p⟩:=h.ok I.hok;exact⟨aG,r,p,z⟩
 ·refine⟨aG.toList,r,⟨o,I.kIn a o hk,hc,n,by simpa using hs⟩,?_⟩
  have e:=r.length;simp only[yEe] at e;omega
theorem Inv.list_inj(I:Inv X aB σ H s)(h:bM X.K H a xs)(h':bM X.K H a ys):xs=ys:=by
 obtain⟨aG,r,⟨o,n,e,_,_,d⟩,_⟩:=I.list h;obtain⟨its',r',⟨o',n',e',_,_,d'⟩,_⟩:=I.list h';rw[e] at e';cases e';rw[d] at d';injection d' with d1 _
 have:aG=its':=by simpa using congrArg Array.toList d1
 subst this;exact r.inj r'
theorem Inv.tuple_inj(I:Inv X aB σ H s)(h:bS X.K H a xs)(h':bS X.K H a ys):xs=ys:=by
 obtain⟨aG,r,⟨o,e,_,n,d⟩,_⟩:=I.tuple h;obtain⟨its',r',⟨o',e',_,n',d'⟩,_⟩:=I.tuple h';rw[e] at e';cases e';rw[d] at d';injection d' with d1 _
 have:aG=its':=by simpa using congrArg Array.toList d1
 subst this;exact r.inj r'
end
noncomputable abbrev Cx.wish(X:Cx)(E:qx->qj->Prop):Cx:={X with xe:=E }
noncomputable abbrev Cx.nox(X:Cx):Cx:=X.wish λ _ _=>False
theorem Cx.Ok.wish{X:Cx}(ok:X.Ok)(E:qx->qj->Prop):(X.wish E).Ok:=
 ⟨ok.mod,ok.kind,ok.glob,ok.blt,ok.above,ok.inj,ok.has,ok.cab,ok.hd,ok.frames,ok.stk,ok.exf,ok.bs,ok.bsz,ok.noex,ok.exfs,ok.funs,ok.frf⟩
theorem Cx.Ok.unwish{X:Cx}{E:qx->qj->Prop}(ok:(X.wish E).Ok):X.Ok:=
 ⟨ok.mod,ok.kind,ok.glob,ok.blt,ok.above,ok.inj,ok.has,ok.cab,ok.hd,ok.frames,ok.stk,ok.exf,ok.bs,ok.bsz,ok.noex,ok.exfs,ok.funs,ok.frf⟩
section
variable {X : Cx}{aB : List (qv×Obj)}{σ : St}{H : Hp}{s : qj}{E : qx -> qj -> Prop}
theorem Inv.wish(I:Inv X aB σ H s)(E:qx->qj->Prop):Inv (X.wish E) aB σ H s:=⟨I.ok.wish E,I.os,I.bare,I.base,I.loc,I.cell,I.free,I.freeC,I.pin,I.hok,I.len⟩
theorem Inv.unwish(I:Inv (X.wish E) aB σ H s):Inv X aB σ H s:=⟨I.ok.unwish,I.os,I.bare,I.base,I.loc,I.cell,I.free,I.freeC,I.pin,I.hok,I.len⟩
theorem SP.unwish{D:Ends}{f:Flow}{s':qj}(h:SP (X.wish E) aB D f s'):SP X aB D f s':=by
 cases f with
 | next=>obtain⟨σ',H',I,q⟩:=h;exact⟨σ',H',I.unwish,q⟩
 | brk=>obtain⟨σ',H',I,q⟩:=h;exact⟨σ',H',I.unwish,q⟩
 | cont=>obtain⟨σ',H',I,q⟩:=h;exact⟨σ',H',I.unwish,q⟩
 | ret u=>obtain⟨v,σ',H',I,r,q⟩:=h;exact⟨v,σ',H',I.unwish,r,q⟩
theorem PE.nox{e:qw}{t:TE}(h:PE X.nox e t):PE X e t:=λ aB s σ H Q I hw =>
 wpAny_mono (h aB s σ H Q (I.wish _) hw) (λ _ _ hPr0=>by obtain⟨v,H',I',r,q⟩:=hPr0;exact⟨v,H',I'.unwish,r,q⟩) λ _ _ z=>False.elim z
theorem PT.nox{e:qw}{t:TT}(h:PT X.nox e t):PT X e t:=λ aB s σ H Q I hw =>
 wpAny_mono (h aB s σ H Q (I.wish _) hw) (λ _ _ hPr1=>by obtain⟨H',I',q⟩:=hPr1;exact⟨H',I'.unwish,q⟩) λ _ _ z=>False.elim z
theorem dP.nox{st:List xw}{t:TS}(h:dP X.nox st t):dP X st t:=λ aB s σ H D I hw =>
 wpAny_mono (h aB s σ H D (I.wish _) hw) (λ _ _ q=>q.unwish) λ _ _ z=>False.elim z
end
section
variable {X : Cx}{st : xw}{dA : List xw}{t u : TS}{e : qw}{te : TE}{pos : Pos}
def aUx:TS:=λ D σ H=>D.nx σ H
def aWj(t u:TS):TS:=λ D σ H=>t {D with nx:=u D } σ H
theorem aOC:dP X [] aUx:=λ _ _ σ H _ I h=>wpAny_execs_nil ⟨σ,H,I,h⟩
theorem aOf(h1:PS X st t)(h2:dP X dA u):dP X (st::dA) (aWj t u):=by
 intro aB s σ H D I h;refine wpAny_execs_cons (bE (h1 aB s σ H {D with nx:=u D } I h) λ f s1 q=>?_)
 cases f with
 | next =>
   obtain⟨σ',H',I',q⟩:=q;exact h2 aB s1 σ' H' D I' q
 | ret v=>exact q
 | brk=>exact q
 | cont=>exact q
theorem Inv.quiet{aB:List (qv×Obj)}{σ:St}{H:Hp}{s:qj}(I:Inv X aB σ H s):interactive X.env=false:=by simp[interactive,I.ok.kind]
def aT1(te:TE):TS:=λ D σ H=>te σ H λ _ H1=>D.nx σ H1
theorem aOz(he:PE X e te)(hs:swapsWith e qz pos.line X.env=pure false:=by rfl):PS X (.Expr e pos) (aT1 te):=by
 intro aB s σ H D I h;exact wpAny_Expr_any (bE (he aB s σ H _ I h) λ v s1 ⟨x,H1,I1,r1,q1⟩=>⟨σ,H1,I1,q1⟩) I.quiet hs
def aWS(te:TE):TS:=λ D σ H=>te σ H D.rt
theorem aRX(he:PE X e te):PS X (.Return (qq e) pos) (aWS te):=by
 intro aB s σ H D I h;exact wpAny_Return_some (bE (he aB s σ H _ I h) λ v s1 ⟨x,H1,I1,r1,q1⟩=>⟨x,σ,H1,I1,r1,q1⟩)
def aVY(c:TT)(t u:TS):TS:=λ D σ H=>c σ H λ b H1=>if b=true then t D σ H1 else u D σ H1
theorem aUa{c:qw}{a b:List xw}{tc:TT}(hc:PT X c tc)(ha:dP X a t)(hb:dP X b u):PS X (.If c a b pos) (aVY tc t u):=by
 intro aB s σ H D I h;refine wpAny_If (bE (hc aB s σ H _ I h) λ d s1 hPq8=>?_)
 obtain⟨H1,I1,q1⟩:=hPq8;cases d with
 | true=>exact ha aB s1 σ H1 D I1 q1
 | false=>exact hb aB s1 σ H1 D I1 q1
end
abbrev TG:=V->St->Hp->(St->Hp->Prop)->Prop
abbrev iW:=List V->St->Hp->(St->Hp->Prop)->Prop
def PG(X:Cx)(target:qw)(t:TG):Prop:=
 ∀ (aB:List (qv×Obj)) (s:qj) (σ:St) (H:Hp) (v:V) (u:qx) (Q:St->Hp->Prop),Inv X aB σ H s->bC v u->t v σ H Q ->
  qk (model X.prog X.w) X.A (assign target X.env u) (λ _ s'=>∃ σ' H',Inv X aB σ' H' s'/\Q σ' H') X.xe s
def qK(X:Cx)(ts:List qw)(t:iW):Prop:=
 ∀ (aB:List (qv×Obj)) (s:qj) (σ:St) (H:Hp) (vs:List V) (us:List qx) (Q:St->Hp->Prop),Inv X aB σ H s->aS vs us->t vs σ H Q ->
  qk (model X.prog X.w) X.A (assignInOrder ((zo ts X.env).map (·.2)) us) (λ _ s'=>∃ σ' H',Inv X aB σ' H' s'/\Q σ' H') X.xe s
abbrev aDz:=V->V->V->Hp->(Hp->Prop)->Prop
def aJ1(X:Cx)(t:aDz):Prop:=
 ∀ (aB:List (qv×Obj)) (s:qj) (σ:St) (H:Hp) (o i v:V) (ov iv u:qx) (Q:Hp->Prop),Inv X aB σ H s->bC o ov->bC i iv->bC v u->t o i v H Q ->
  qk (model X.prog X.w) X.A (setItem ov iv u) (λ _ s'=>∃ H',Inv X aB σ H' s'/\Q H') X.xe s
section
variable {X : Cx}{pos : Pos}
def oI(i:Nat):TG:=λ v σ H Q=>Q (σ.set i (qq v)) H
theorem aCg{i:Nat}{x:Str}(hN:X.N.Nodup)(hi:X.N[i]? = qq x)(hx:Loc X.env.scope x)(hf:X.fn x=true\/X.env.scope.names.lookup x=qq .local:=by first | exact .inl rfl | exact .inr rfl | assumption):PG X (.Name x pos) (oI i):=by
 intro aB s σ H v u Q I r h;exact wpAny_assign_Name (aGb I hN hi hx r (λ s' I'=>⟨_,H,I',h⟩) hf)
noncomputable def aDD:iW:=λ vs σ H Q=>vs=[]/\Q σ H
noncomputable def aDc(t:TG)(u:iW):iW:=λ vs σ H Q=>∃ v r,vs=v::r/\t v σ H λ σ' H'=>u r σ' H' Q
theorem aQq:qK X [] aDD:=by
 intro aB s σ H vs us Q I r h;obtain⟨e,h⟩:=h;subst e;cases r;exact assignInOrder_nil ⟨σ,H,I,h⟩
theorem aNO{e:qw}{es:List qw}{t:TG}{u:iW}(h1:PG X e t)(h2:qK X es u)
 (hs:(zo (e::es) X.env).map (·.2)=assign e X.env::(zo es X.env).map (·.2):=by rfl):qK X (e::es) (aDc t u):=by
 intro aB s σ H vs us Q I r h;obtain⟨v,vr,e1,h⟩:=h;subst e1;cases r with
 | cons r rr =>
   rw[hs];refine assignInOrder_cons (bE (h1 aB s σ H _ _ _ I r h) λ _ s1 hPq9=>?_)
   obtain⟨σ1,H1,I1,q1⟩:=hPq9;exact h2 aB s1 σ1 H1 _ _ Q I1 rr q1
def aW2(K:FrG)(n:Nat)(t:iW):TG:=λ v σ H Q=>∃ a xs,v=.ref a/\bS K H a xs/\xs.length=n/\t xs σ H Q
theorem aSv{es:List qw}{k:Nat}{t:iW}{n:Nat}(hc:X.calm=true)(h:qK X es t)
 (hn:(zo es X.env).length=n:=by rfl) (hst:(zo es X.env).findIdx? (·.1)=qz:=by rfl):PG X (.Tuple es k pos) (aW2 X.K n t):=by
 intro aB s σ H v u Q I r hw;obtain⟨a,xs,e1,hq,hl,hw⟩:=hw;subst e1;cases r;obtain⟨aG,rv,ht,hz⟩:=I.tuple hq;refine assign_Tuple_tuple (I.ok.hd hc) ht (by simp[hn,<- hl,rv.length]) hst λ h' hx=>?_
 have I1:Inv X aB σ H {s with heap:=h' }:=I.kept (t':=s.toks) λ b o e=>hx b o (xAk (xAa e)) e
 exact h aB _ σ H xs _ Q I1 (by simpa using rv) hw
def aKt(to ti:TE)(t:aDz):TG:=λ v σ H Q=>to σ H λ o H1=>ti σ H1 λ i H2=>t o i v H2 λ H3=>Q σ H3
theorem aSC{o i:qw}{to ti:TE}{t:aDz}(ho:PE X o to)(hi:PE X i ti)(hs:aJ1 X t)
 (ha:∀ v,assign (.Subscript o i pos) X.env v=(do
   let ov <- holding [v] (eval o X.env)
   let iv <- holding [v,ov] (eval i X.env)
   standAt pos
   holding [v,ov,iv] (setItem ov iv v)
   release [v,ov,iv] []):=by intro _;rfl):PG X (.Subscript o i pos) (aKt to ti t):=by
 intro aB s σ H v u Q I r h;rw[ha];refine wB (zy (bE (ho aB s σ H _ I h) λ ov s1 hPq10=>?_))
 obtain⟨x,H1,I1,r1,q1⟩:=hPq10;refine wB (zy (bE (hi aB s1 σ H1 _ I1 q1) λ iv s2 hPq11=>?_))
 obtain⟨y,H2,I2,r2,q2⟩:=hPq11;refine wB (yk (wB (zy (bE (hs aB s2 σ H2 x y v ov iv u _ I2 r1 r2 r q2) λ _ s3 hPq12=>?_))))
 obtain⟨H3,I3,q3⟩:=hPq12;exact wpAny_release ⟨σ,H3,I3,q3⟩
def wF(te:TE)(g:TG):TS:=λ D σ H=>te σ H λ x H1=>g x σ H1 D.nx
theorem aIz{tg e:qw}{te:TE}{g:TG}(he:PE X e te)(hg:PG X tg g)(hs:swapsWithSole [tg] e pos.line X.env=pure false:=by rfl)(hw:yw [tg] e X.env=pure qz:=by rfl)
 (h1:(zo [tg] X.env).map (·.2)=[assign tg X.env]:=by rfl):PS X (.Assign [tg] e pos) (wF te g):=by
 intro aB s σ H D I h;refine wpAny_Assign_stores (bE (he aB s σ H _ I h) λ v s1 hPq13=>?_) hs hw
 obtain⟨x,H1,I1,r1,q1⟩:=hPq13;rw[h1];exact bE (hg aB s1 σ H1 x v _ I1 r1 q1) λ _ s2 q=>q
theorem aQJ{i:Nat}{x:Str}{e:qw}{te:TE}{pos':Pos}(hN:X.N.Nodup)(hi:X.N[i]? = qq x)(hx:Loc X.env.scope x)(he:PE X e te)(hs:swapsWith e (qq (.Name x pos')) pos.line X.env=pure false:=by rfl)(hf:X.fn x=true\/X.env.scope.names.lookup x=qq .local:=by first | exact .inl rfl | exact .inr rfl | assumption) :
 PS X (.Assign [.Name x pos'] e pos) (wF te (oI i)):=by
 intro aB s σ H D I h;refine wpAny_Assign_Name (bE (he aB s σ H _ I h) λ v s1 hPq14=>?_) hs
 obtain⟨y,H1,I1,r1,q1⟩:=hPq14;exact aGb I1 hN hi hx r1 (λ s2 I2=>⟨_,H1,I2,q1⟩) hf
end
section
variable {X : Cx}{pos : Pos}
def aTa(c:TT)(tb:TS):TS:=λ D σ H=>∃ W:Nat->St->Hp->Prop,(∃ m,W m σ H)/\∀ m σ H,W m σ H ->
 c σ H λ b H1=>if b=true then ∃ N:St->Hp->Prop,(∀ σ' H',N σ' H'->∃ m',m'<m/\W m' σ' H')/\tb {D with nx:=N,ct:=N,bk:=D.nx } σ H1 else D.nx σ H1
theorem aNK{c:qw}{body:List xw}{tc:TT}{tb:TS}(hp:PassesOwn (model X.prog X.w) X.A X.env X.xe)(hc:PT X c tc)(hb:dP X body tb):PS X (.While c body [] pos) (aTa tc tb):=by
 intro aB s σ H D I h;obtain⟨W,⟨m0,w0⟩,turn⟩:=h;refine wpAny_While (codeAny_whileLoop (λ n s'=>∃ σ' H',Inv X aB σ' H' s'/\W n σ' H') ?_ m0 ⟨σ,H,I,w0⟩)
 rintro n s1 ⟨σ1,H1,I1,w1⟩;refine jq hp (bE (hc aB s1 σ1 H1 _ I1 (turn n σ1 H1 w1)) λ b s2 hPq15=>?_)
 obtain⟨H2,I2,q2⟩:=hPq15;cases b with
 | true =>
   obtain⟨N,hN,q2⟩:=q2;rw[if_pos rfl];refine jq hp (bE (hb aB s2 σ1 H2 _ I2 q2) λ f s3 q3=>?_)
   cases f with
   | next =>
     obtain⟨σ3,H3,I3,n3⟩:=q3;obtain⟨m',hm,w3⟩:=hN σ3 H3 n3;exact⟨m',hm,σ3,H3,I3,w3⟩
   | cont =>
     obtain⟨σ3,H3,I3,n3⟩:=q3;obtain⟨m',hm,w3⟩:=hN σ3 H3 n3;exact⟨m',hm,σ3,H3,I3,w3⟩
   | brk=>exact q3
   | ret v=>exact q3
 | false =>
   rw[if_neg yBe];exact wpAny_execs_nil ⟨σ1,H2,I2,q2⟩
end
structure It where
 go:Nat->Hp->Prop
 yld:Nat->Hp->V->Hp->Prop
 stop:Nat->Hp->Prop
def gH(X:Cx)(aB:List (qv×Obj))(H:Hp)(b:qv):Prop:=
 H b=qz/\b≠X.env.locals/\b ∉ X.fs/\(b∈X.ex\/X.s₀.heap.objs.size<=b)/\(∀ x c,X.env.cells.lookup x=qq c->c≠b)/\∀ p∈X.pn++aB,p.1≠b
theorem Inv.fpOk{X:Cx}{aB:List (qv×Obj)}{σ:St}{H H':Hp}{s:qj}{b:qv}(I:Inv X aB σ H s)(hb:s.heap.objs.size<=b)(hn:H' b=qz):gH X aB H' b:=by
 refine⟨hn,yEc (xAc I.lt hb),I.nofs hb,.inr (xAi I.sz hb),λ x c e z=>?_,λ p hp z=>?_⟩
 ·obtain⟨v,q⟩:=I.cell x c e;exact absurd (xAc q.lt (by rw[z];exact hb)) (yCb _)
 ·exact absurd (xAc (xAa (I.pin p hp).1) (by rw[z];exact hb)) (yCb _)
structure Turn(P:qu)(w:zq)(K:FrG)(tg:qw)(J:It)(fp:List qv)(it:qv)(tn:Nat->Heap->Prop):Prop where
 mem:it∈fp
 obj:∀ i h,tn i h->∀ b∈fp,∃ o,h.get? b=qq o/\∀ v,o.data≠.cell v
 keep:∀ i h h',tn i h->(∀ b∈fp,∀ o,h.get? b=qq o->h'.get? b=qq o)->tn i h'
 item:∀ (X:Cx),X.prog=P->X.w=w->X.K=K->X.calm=true->∀ (i:Nat) (aB:List (qv×Obj)) (s:qj) (σ:St) (H:Hp) (E:qx->qj->Prop),Inv X aB σ H s->(∀ b∈fp,gH X aB H b)->tn i s.heap->J.go i H ->
  qk (model P w) X.A (vq (.ref it)) (λ r s1=>∃ u,r=qq u /\
   qk (model P w) X.A (ww tg (.ref it) u) (λ _ s2=>∃ x H',Inv X aB σ H' s2/\bC x u/\J.yld i H x H'/\tn (i+1) s2.heap/\∀ b∈fp,H' b=qz) E s1) E s
 done:∀ (X:Cx),X.prog=P->X.w=w->X.K=K->X.calm=true->∀ (i:Nat) (aB:List (qv×Obj)) (s:qj) (σ:St) (H:Hp) (E:qx->qj->Prop),Inv X aB σ H s->(∀ b∈fp,gH X aB H b)->tn i s.heap->J.stop i H ->
  qk (model P w) X.A (vq (.ref it)) (λ r s1=>r=qz/\Inv X aB σ H s1) E s
 self:∀ (A:zv) (i:Nat) (s:qj) (Q:qx->qj->Prop) (E:qx->qj->Prop),tn i s.heap->Q (.ref it) s->qk (model P w) A (pyIter (.ref it)) Q E s
abbrev TI:=St->Hp->(It->Hp->Prop)->Prop
def PIE(X:Cx)(aB:List (qv×Obj))(σ:St)(tg:qw)(R:It->Hp->Prop)(itv:qx)(s2:qj):Prop:=
 ∃ (it:qv) (fp:List qv) (tn:Nat->Heap->Prop) (J:It) (H':Hp),itv=.ref it/\Inv X aB σ H' s2/\Turn X.prog X.w X.K tg J fp it tn/\tn 0 s2.heap/\(∀ b∈fp,gH X aB H' b)/\R J H'
def PI(X:Cx)(tg iter:qw)(wi:TI):Prop:=
 ∀ (aB:List (qv×Obj)) (s:qj) (σ:St) (H:Hp) (R:It->Hp->Prop),Inv X aB σ H s->wi σ H R ->
  qk (model X.prog X.w) X.A (eval iter X.env) (λ v s1=>qk (model X.prog X.w) X.A (pyIter v) (PIE X aB σ tg R) X.xe s1) X.xe s
theorem aAC{M:Model}{A:zv}{E:qx->qj->Prop}{s:qj}{tg:qw}{it:qv}{u:qx}{o:Obj}{n:String}{vs:Array qx}{Q:Unit->qj->Prop}(ho:s.heap.get? it=qq o)(hc:o.cls=.type n)(hd:o.data=.fields vs)
 (hn:["enumerate", "zip", "dict_itemiterator", "dict_reverseitemiterator", "odict_iterator", "itertools.zip_longest", "itertools.pairwise"].contains n=false) (hQ:Q () s):qk M A (ww tg (.ref it) u) Q E s:=by
 unfold ww;cases tg<;>first
  | exact wP hQ
  | (cases u<;>first
      | exact wP hQ
      | (refine wB (wpAny_load ho ?_)
         rw[hc,hd];show qk M A (if (["enumerate", "zip", "dict_itemiterator", "dict_reverseitemiterator", "odict_iterator", "itertools.zip_longest", "itertools.pairwise"].contains n&&vs[0]?==qq (yy _))=true then _ else _) Q E s
         rw[if_neg (by intro h;rw[hn,yBh] at h;cases h)]
         exact wP hQ))
noncomputable def Itl(K:FrG)(a:qv):It:=
 ⟨λ i H=>∃ xs x,bM K H a xs/\xs[i]? = qq x,λ i H x H'=>H'=H/\∀ xs,bM K H a xs->xs[i]? = qq x,λ i H=>∃ xs,bM K H a xs/\xs.length<=i⟩
noncomputable def Itt(K:FrG)(a:qv):It:=
 ⟨λ i H=>∃ xs x,bS K H a xs/\xs[i]? = qq x,λ i H x H'=>H'=H/\∀ xs,bS K H a xs->xs[i]? = qq x,λ i H=>∃ xs,bS K H a xs/\xs.length<=i⟩
noncomputable def xE(lo:Int)(n:Nat):It:=⟨λ i _=>i<n,λ i H x H'=>H'=H/\x=.int (lo+i),λ i _=>n<=i⟩
theorem aNf{P:qu}{w:zq}{K:FrG}{tg:qw}(a it:qv):Turn P w K tg (Itl K a) [it] it (λ i h=>h.IsListIter it a i) where
 mem:=by simp
 obj:=λ i h st b hb=>by
  have e:b=it:=by simpa using hb
  subst e;obtain⟨o,e,c,d⟩:=st;exact⟨o,e,λ v z=>by rw[d] at z;cases z⟩
 keep:=λ i h h' st k=>st.at λ o e=>k it (by simp) o e
 item:=by
  intro X hP hw hK hc i aB s σ H E I hf st hg;subst hP hw hK;obtain⟨xs,x,hq,hx⟩:=hg;obtain⟨aG,rv,p,hz⟩:=I.list hq;obtain⟨u,hu,ru⟩:=rv.get hx;obtain⟨f0,f1,f2,f3,f4,f5⟩:=hf it (by simp)
  refine vy st p.isList (x:=u) (by simpa using hu) λ h' st' sb=>?_
  have I1:Inv X aB σ H {s with heap:=h' }:=I.turned (t':=s.toks) (λ b o hb e=>(sb.2 b hb).trans e) f0 f1 f3 f4 f5
  obtain⟨o,e,c,d⟩:=id st';exact⟨u,rfl,aAC (s:={s with heap:=h' }) e c d (by decide) ⟨x,H,I1,ru,⟨rfl,λ ys hy=>by rw[I.list_inj hy hq];exact hx⟩,st',λ b hb=>(hf b hb).1⟩⟩
 done:=by
  intro X hP hw hK hc i aB s σ H E I hf st hg;subst hP hw hK;obtain⟨xs,hq,hx⟩:=hg;obtain⟨aG,rv,p,hz⟩:=I.list hq;obtain⟨f0,f1,f2,f3,f4,f5⟩:=hf it (by simp)
  have hl:=rv.length;exact vo (I.ok.hd hc) st p.isList (by simp;omega) λ h' eb=>⟨rfl,I.turned (t':=s.toks) (λ b o hb e=>eb b o hb e) f0 f1 f3 f4 f5⟩
 self:=λ _ _ _ _ _ st h=>wpAny_pyIter_listiter st h
theorem aLE{P:qu}{w:zq}{K:FrG}{tg:qw}(a it:qv):Turn P w K tg (Itt K a) [it] it (λ i h=>h.IsTupleIter it a i) where
 mem:=by simp
 obj:=λ i h st b hb=>by
  have e:b=it:=by simpa using hb
  subst e;obtain⟨o,e,c,d⟩:=st;exact⟨o,e,λ v z=>by rw[d] at z;cases z⟩
 keep:=λ i h h' st k=>st.at λ o e=>k it (by simp) o e
 item:=by
  intro X hP hw hK hc i aB s σ H E I hf st hg;subst hP hw hK;obtain⟨xs,x,hq,hx⟩:=hg;obtain⟨aG,rv,p,hz⟩:=I.tuple hq;obtain⟨u,hu,ru⟩:=rv.get hx;obtain⟨f0,f1,f2,f3,f4,f5⟩:=hf it (by simp)
  refine wpAny_pyNext_tuple_item st (show s.heap.IsTuple a aG.toArray from p) (x:=u) (by simpa using hu) λ h' st' sb=>?_
  have I1:Inv X aB σ H {s with heap:=h' }:=I.turned (t':=s.toks) (λ b o hb e=>(sb.2 b hb).trans e) f0 f1 f3 f4 f5
  obtain⟨o,e,c,d⟩:=id st';exact⟨u,rfl,aAC (s:={s with heap:=h' }) e c d (by decide) ⟨x,H,I1,ru,⟨rfl,λ ys hy=>by rw[I.tuple_inj hy hq];exact hx⟩,st',λ b hb=>(hf b hb).1⟩⟩
 done:=by
  intro X hP hw hK hc i aB s σ H E I hf st hg;subst hP hw hK;obtain⟨xs,hq,hx⟩:=hg;obtain⟨aG,rv,p,hz⟩:=I.tuple hq;obtain⟨f0,f1,f2,f3,f4,f5⟩:=hf it (by simp)
  have hl:=rv.length;exact wpAny_pyNext_tuple_end (I.ok.hd hc) st (show s.heap.IsTuple a aG.toArray from p) (by simp;omega) λ h' eb=>⟨rfl,I.turned (t':=s.toks) (λ b o hb e=>eb b o hb e) f0 f1 f3 f4 f5⟩
 self:=λ _ _ _ _ _ st h=>wpAny_pyIter_tupleiter st h
theorem aL5{P:qu}{w:zq}{K:FrG}{tg:qw}(it:qv)(lo:Int)(n:Nat):Turn P w K tg (xE lo n) [it] it (λ i h=>kj h it (lo+(i:Nat)*1) ((n:Int)-(i:Nat)) 1) where
 mem:=by simp
 obj:=λ i h st b hb=>by
  have e:b=it:=by simpa using hb
  subst e;exact⟨_,st,λ v z=>by
   have z':Data.fields _=Data.cell v:=z;cases z'⟩
 keep:=λ i h h' st k=>k it (by simp) _ st
 item:=by
  intro X hP hw hK hc i aB s σ H E I hf st hg;subst hP hw hK;obtain⟨f0,f1,f2,f3,f4,f5⟩:=hf it (by simp)
  have W:=Walks.range (prog:=X.prog) (w:=X.w) (I.ok.hd hc) it lo 1 n;refine W.item i s _ _ hg st λ v h' tk hv st' kk=>?_
  obtain⟨t,rfl⟩:=hv;have I1:Inv X aB σ H {s with heap:=h',toks:=tk }:=I.turned (λ b o hb e=>kk b o (by simpa using hb) e) f0 f1 f3 f4 f5
  refine⟨_,rfl,aAC (s:={s with heap:=h',toks:=tk }) (n:="range_iterator") st' rfl rfl (by decide) ⟨.int (lo+i),H,I1,⟨t,?_⟩,⟨rfl,rfl⟩,st',λ b hb=>(hf b hb).1⟩⟩
  rw[Int.mul_one]
 done:=by
  intro X hP hw hK hc i aB s σ H E I hf st hg;subst hP hw hK;obtain⟨f0,f1,f2,f3,f4,f5⟩:=hf it (by simp)
  exact wpAny_pyNext_range_end (I.ok.hd hc) st (by have:n<=i:=hg;omega) λ h' eb=>⟨rfl,I.turned (t':=s.toks) (λ b o hb e=>eb b o hb e) f0 f1 f3 f4 f5⟩
 self:=λ _ _ _ _ _ st h=>kz st h
end L2
namespace L2
open PySem PySem.Spec PyProof.Rows
section
variable {X : Cx}{tg : qw}
def aTM(K:FrG)(tl:TE):TI:=λ σ H R=>tl σ H λ x H1=>∃ a,x=.ref a/\(∃ xs,bM K H1 a xs)/\R (Itl K a) H1
def aWy(K:FrG)(tl:TE):TI:=λ σ H R=>tl σ H λ x H1=>∃ a,x=.ref a/\(∃ xs,bS K H1 a xs)/\R (Itt K a) H1
theorem aOI{l:qw}{tl:TE}(hl:PE X l tl):PI X tg l (aTM X.K tl):=by
 intro aB s σ H R I h;refine bE (hl aB s σ H _ I h) λ v s1 hPq16=>?_
 obtain⟨x,H1,I1,r1,q1⟩:=hPq16;obtain⟨a,e,⟨xs,hq⟩,q⟩:=q1;subst e;cases r1;obtain⟨aG,rv,p,hz⟩:=I1.list hq;refine jj p.isList ?_;refine⟨s1.heap.objs.size,[s1.heap.objs.size],_,_,H1,rfl,I1.kept (t':=s1.toks) λ b o e=>hpS _ e,aNf a _,⟨_,xAe _ rfl,rfl,rfl⟩,λ b hb=>?_,q⟩
 have e:b=s1.heap.objs.size:=by simpa using hb
 subst e;exact I1.fpOk (yAb _) (I1.hok.fresh (yAb _))
theorem aRG{l:qw}{tl:TE}(hl:PE X l tl):PI X tg l (aWy X.K tl):=by
 intro aB s σ H R I h;refine bE (hl aB s σ H _ I h) λ v s1 hPq17=>?_
 obtain⟨x,H1,I1,r1,q1⟩:=hPq17;obtain⟨a,e,⟨xs,hq⟩,q⟩:=q1;subst e;cases r1;obtain⟨aG,rv,p,hz⟩:=I1.tuple hq;refine jw (show s1.heap.IsTuple a aG.toArray from p) ?_
 refine⟨s1.heap.objs.size,[s1.heap.objs.size],_,_,H1,rfl,I1.kept (t':=s1.toks) λ b o e=>hpS _ e,aLE a _,⟨_,xAe _ rfl,rfl,rfl⟩,λ b hb=>?_,q⟩
 have e:b=s1.heap.objs.size:=by simpa using hb
 subst e;exact I1.fpOk (yAb _) (I1.hok.fresh (yAb _))
theorem aGr{aB:List (qv×Obj)}{σ:St}{H:Hp}{s:qj}{R:It->Hp->Prop}{E:qx->qj->Prop}{lo hi:Int}{t u v:Tok}{tk:Nat}(I:Inv X aB σ H s)(h1 : -(2^62)<=lo)(h2:lo<2^62)(h3 : -(2^62)<=hi)(h4:hi<2^62)
 (q:R (xE lo (hi-lo).toNat) H):qk (model X.prog X.w) X.A (pyIter (.ref s.heap.objs.size)) (PIE X aB σ tg R) E {s with heap:=s.heap.push {cls:=.type "range",data:=.fields #[.int lo t,.int hi u,.int 1 v] },toks:=tk }:=by
 refine wpAny_pyIter_range (IsRange.new ..) (small_one h1 h2 h3 h4) ?_;have I1:Inv X aB σ H {s with heap:=s.heap.push {cls:=.type "range",data:=.fields #[.int lo t,.int hi u,.int 1 v] },toks:=tk }:=I.kept λ b o e=>hpS _ e
 refine⟨(s.heap.push {cls:=.type "range",data:=.fields #[.int lo t,.int hi u,.int 1 v] }).objs.size,[(s.heap.push {cls:=.type "range",data:=.fields #[.int lo t,.int hi u,.int 1 v] }).objs.size],_,_,H,rfl,
  I1.kept (t':=tk) λ b o e=>hpS _ e,aL5 _ lo (hi-lo).toNat,?_,λ b hb=>?_,q⟩
 ·have e1:lo+((0:Nat):Int)*1=lo:=by simp
  have e2:(((hi-lo).toNat:Nat):Int)-((0:Nat):Int)=yEf lo hi 1:=by rw[rangeSize_one];split<;>omega
  show kj _ _ (lo+((0:Nat):Int)*1) ((((hi-lo).toNat:Nat):Int)-((0:Nat):Int)) 1;rw[e1,e2];exact xAe _ rfl
 ·have e:b=(s.heap.push {cls:=.type "range",data:=.fields #[.int lo t,.int hi u,.int 1 v] }).objs.size:=by simpa using hb
  subst e;exact I1.fpOk (yAb _) (I1.hok.fresh (yAb _))
def aI7(ta:TA):TI:=λ σ H R=>ta σ H λ vs H1=>∃ j:Int,vs=[.int j] /\ -(2^62)<=j/\j<2^62/\R (xE 0 j.toNat) H1
def aJG(ta:TA):TI:=λ σ H R=>ta σ H λ vs H1=>∃ i j:Int,vs=[.int i,.int j]/\(-(2^62)<=i/\i<2^62 /\ -(2^62)<=j/\j<2^62)/\R (xE i (j-i).toNat) H1
theorem aMs{a:qw}{ta:TA}{p pos:Pos}(hg:Gl X "range")(hm:X.mg "range" = qz)(ha:PA X [a] ta)(hs:qo [a] X.env=[(false,eval a X.env)]:=by rfl):PI X tg (.Call (.Name "range" p) [a] [] pos) (aI7 ta):=by
 intro aB s σ H R I h;refine Call_ (lZ I hg hm boot_range (yBg (bE (ha pos aB s σ H _ I h) λ us s1 hPq18=>?_) hs rfl))
 obtain⟨vs,H1,I1,r1,q1⟩:=hPq18;obtain⟨j,e,q1,q2,q⟩:=q1;subst e;cases r1 with
 | cons r rr =>
   cases rr;obtain⟨t,rfl⟩:=r;exact call_range_1 (aGr I1 (by omega) (by omega) q1 q2 (by simpa using q))
theorem aMw{a b:qw}{ta:TA}{p pos:Pos}(hg:Gl X "range")(hm:X.mg "range" = qz)(ha:PA X [a,b] ta)(hs:qo [a,b] X.env=[(false,eval a X.env),(false,eval b X.env)]:=by rfl)(hs2:qo [b] X.env=[(false,eval b X.env)]:=by rfl) :
 PI X tg (.Call (.Name "range" p) [a,b] [] pos) (aJG ta):=by
 intro aB s σ H R I h;refine Call_ (lZ I hg hm boot_range (yBg (bE (ha pos aB s σ H _ I h) λ us s1 hPq19=>?_) (by rw[hs,hs2]) (by rw[hs2];rfl)))
 obtain⟨vs,H1,I1,r1,q1⟩:=hPq19;obtain⟨i,j,e,⟨q1,q2,q3,q4⟩,q⟩:=q1;subst e;cases r1 with
 | cons r rr =>
   cases rr with
   | cons r' rr =>
     cases rr;obtain⟨t,rfl⟩:=r;obtain⟨t',rfl⟩:=r';exact call_range_2 (aGr I1 q1 q2 q3 q4 q)
def aWf(wi:TI)(g:TG)(tb:TS):TS:=λ D σ H=>wi σ H λ J H1=>∃ W:Nat->Nat->St->Hp->Prop,(∃ m,W 0 m σ H1)/\∀ i m σ H,W i m σ H ->
 (J.stop i H/\D.nx σ H)\/(J.go i H/\∃ N:St->Hp->Prop,(∀ σ' H',N σ' H'->∃ m',m'<m/\W (i+1) m' σ' H')/\∀ x H',J.yld i H x H'->g x σ H' λ σ2 H2=>tb {D with nx:=N,ct:=N,bk:=D.nx } σ2 H2)
noncomputable def uV(fp:List qv)(h:Heap):List (qv×Obj):=fp.filterMap λ b=>(h.get? b).map λ o=>(b,o)
theorem tQ{fp:List qv}{h:Heap}{b:qv}{o:Obj}(hb:b∈fp)(e:h.get? b=qq o):(b,o)∈uV fp h:=List.mem_filterMap.mpr ⟨b,hb,by rw[e];rfl⟩
theorem aMQ{fp:List qv}{h:Heap}{p:qv×Obj}(hp:p∈uV fp h):p.1∈fp/\h.get? p.1=qq p.2:=by
 obtain⟨b,hb,e⟩:=List.mem_filterMap.mp hp;cases q:h.get? b with
 | none=>rw[q] at e;cases e
 | some o =>
   rw[q] at e;have e':(b,o)=p:=Option.some.inj e;subst e';exact⟨hb,q⟩
theorem Inv.pinned{aB:List (qv×Obj)}{σ:St}{H:Hp}{s:qj}{fp:List qv}(I:Inv X aB σ H s)(hf:∀ b∈fp,gH X aB H b)(ho:∀ b∈fp,∃ o,s.heap.get? b=qq o/\∀ v,o.data≠.cell v):Inv X (aB++uV fp s.heap) σ H s:=
 I.pins_of λ p hp=>(List.mem_append.mp hp).elim (λ z=>I.pin p (xAq _ z)) λ z=>by
  obtain⟨hb,e⟩:=aMQ z;obtain⟨f0,f1,f2,_⟩:=hf p.1 hb;obtain⟨o,e',d⟩:=ho p.1 hb;rw[e] at e';cases e';exact⟨e,f0,f1,f2,d⟩
theorem Inv.unpinned{aB pl:List (qv×Obj)}{σ:St}{H:Hp}{s:qj}(I:Inv X (aB++pl) σ H s):Inv X aB σ H s:=I.pins_of λ p hp=>I.pin p (xAq _ (List.mem_append_left _ hp))
theorem aQZ{iter:qw}{body:List xw}{wi:TI}{g:TG}{tb:TS}{pos:Pos}(hp:PassesOwn (model X.prog X.w) X.A X.env X.xe)(hc:X.calm=true)(hi:PI X tg iter wi)(hg:PG X tg g)(hb:dP X body tb)
 (hs:∀ x,jz iter X.env x=pure x:=by intro _;rfl):PS X (.For tg iter body [] pos) (aWf wi g tb):=by
 intro aB s σ H D I h;refine wpAny_For (bE (hi aB s σ H _ I h) λ v s1 h1=>bE h1 λ itv s2 h2=>?_) hs
 obtain⟨it,fp,tn,J,H2,e,I2,T,st2,f2,W,⟨m0,w0⟩,turn⟩:=h2;subst e;have stat:∀ {H':Hp},(∀ b∈fp,H' b=qz)->∀ b∈fp,gH X aB H' b:=λ hn b hb=>⟨hn b hb,(f2 b hb).2⟩
 refine codeAny_forLoop_any (λ n s'=>∃ i σ' H',Inv X aB σ' H' s'/\tn i s'.heap/\(∀ b∈fp,H' b=qz)/\W i n σ' H') ?_ m0 ⟨0,σ,H2,I2,st2,λ b hb=>(f2 b hb).1,w0⟩
 rintro n s3 ⟨i,σ3,H3,I3,st3,fr3,w3⟩;rcases turn i n σ3 H3 w3 with ⟨stop,qn⟩ | ⟨go,N,hN,step⟩
 ·refine jq hp (bE (T.done X rfl rfl rfl hc i aB s3 σ3 H3 X.xe I3 (stat fr3) st3 stop) λ r s4 hPq20=>?_)
  obtain⟨hr,I4⟩:=hPq20;subst hr;exact wpAny_execs_nil ⟨σ3,H3,I4,qn⟩
 ·refine jq hp (bE (T.item X rfl rfl rfl hc i aB s3 σ3 H3 X.xe I3 (stat fr3) st3 go) λ r s4 hPq21=>?_)
  obtain⟨u,hr,h4⟩:=hPq21;subst hr;refine jq hp (bE h4 λ _ s5 hPq22=>?_)
  obtain⟨x,H5,I5,r5,y5,st5,fr5⟩:=hPq22;have I5':=I5.pinned (stat fr5) (T.obj _ _ st5);refine jq hp (bE (hg _ s5 σ3 H5 x u _ I5' r5 (step x H5 y5)) λ _ s6 hPq23=>?_)
  obtain⟨σ6,H6,I6,q6⟩:=hPq23;refine jq hp (bE (hb _ s6 σ6 H6 _ I6 q6) λ f s7 q7=>?_)
  have again:∀ {σ7:St}{H7:Hp},Inv X (aB++uV fp s5.heap) σ7 H7 s7->N σ7 H7->∃ m,m<n/\∃ i σ' H',Inv X aB σ' H' s7/\tn i s7.heap/\(∀ b∈fp,H' b=qz)/\W i m σ' H':=λ {σ7 H7} I7 n7=>by
   obtain⟨m',hm,w7⟩:=hN σ7 H7 n7;refine⟨m',hm,i+1,σ7,H7,I7.unpinned,T.keep _ _ _ st5 λ b hb o e=>(I7.pin (b,o) (xAq _ (xAq _ (tQ hb e)))).1,λ b hb=>?_,w7⟩
   obtain⟨o,e,d⟩:=T.obj _ _ st5 b hb;exact(I7.pin (b,o) (xAq _ (xAq _ (tQ hb e)))).2.1
  cases f with
  | next=>obtain⟨σ7,H7,I7,n7⟩:=q7;exact again I7 n7
  | cont=>obtain⟨σ7,H7,I7,n7⟩:=q7;exact again I7 n7
  | brk=>obtain⟨σ7,H7,I7,q7⟩:=q7;exact⟨σ7,H7,I7.unpinned,q7⟩
  | ret v=>obtain⟨x7,σ7,H7,I7,r7,q7⟩:=q7;exact⟨x7,σ7,H7,I7.unpinned,r7,q7⟩
end
end L2
namespace L2
open PySem PySem.Spec PyProof.Rows
abbrev R2:=V->V->Hp->VK->Prop
def cO(X:Cx)(f:qx->qx->Sem qx)(r:R2):Prop:=
 ∀ (aB:List (qv×Obj)) (s:qj) (σ:St) (H:Hp) (x y:V) (v u:qx) (Q:VK),Inv X aB σ H s->bC x v->bC y u->r x y H Q ->
  qk (model X.prog X.w) X.A (f v u) (EP X aB σ Q) X.xe s
def UnR(X:Cx)(f:qx->Sem qx)(r:V->Hp->VK->Prop):Prop:=
 ∀ (aB:List (qv×Obj)) (s:qj) (σ:St) (H:Hp) (x:V) (v:qx) (Q:VK),Inv X aB σ H s->bC x v->r x H Q ->
  qk (model X.prog X.w) X.A (f v) (EP X aB σ Q) X.xe s
def dO(X:Cx)(f:qx)(r:List V->Hp->VK->Prop):Prop:=
 ∀ (aB:List (qv×Obj)) (s:qj) (σ:St) (H:Hp) (xs:List V) (us:List qx) (Q:VK),Inv X aB σ H s->aS xs us->r xs H Q ->
  qk (model X.prog X.w) X.A (call f us) (EP X aB σ Q) X.xe s
def aWR(X:Cx)(r:V->Hp->(Bool->Hp->Prop)->Prop):Prop:=
 ∀ (aB:List (qv×Obj)) (s:qj) (σ:St) (H:Hp) (x:V) (v:qx) (Q:Bool->Hp->Prop),Inv X aB σ H s->bC x v->r x H Q ->
  qk (model X.prog X.w) X.A (truthy v) (TP X aB σ Q) X.xe s
def wS(r:R2)(ta tb:TE):TE:=λ σ H Q=>ta σ H λ x H1=>tb σ H1 λ y H2=>r x y H2 Q
def tUn(r:V->Hp->VK->Prop)(ta:TE):TE:=λ σ H Q=>ta σ H λ x H1=>r x H1 Q
noncomputable def rI(C:Int->Int->Prop)(g:Int->Int->V):R2:=λ x y H Q=>∃ i j,x=.int i/\y=.int j/\C i j/\Q (g i j) H
noncomputable def jI(g:Int->Int->V):R2:=λ x y H Q=>∃ i j,x=.int i/\y=.int j/\Q (g i j) H
noncomputable def rU(g:Int->V):V->Hp->VK->Prop:=λ x H Q=>∃ i,x=.int i/\Q (g i) H
section
variable {X : Cx}{a b c : qw}{ta tb tc : TE}{pos : Pos}
theorem aDN(ha:PE X a ta)(hb:PE X b tb){aB:List (qv×Obj)}{s:qj}{σ:St}{H:Hp}{R:V->V->Hp->Prop}(I:Inv X aB σ H s)
 (h:ta σ H λ x H1=>tb σ H1 λ y H2=>R x y H2) {Q:qx->qj->Prop}{f:qx->qx->Sem qx}
 (hf:∀ v u s2 x y H2,Inv X aB σ H2 s2->bC x v->bC y u->R x y H2->qk (model X.prog X.w) X.A (f v u) Q X.xe s2) :
 qk (model X.prog X.w) X.A (eval a X.env) (λ v s₁=>qk (model X.prog X.w) X.A (eval b X.env) (λ u s₂=>qk (model X.prog X.w) X.A (f v u) Q X.xe s₂) X.xe s₁) X.xe s:=by
 refine bE (ha aB s σ H _ I h) λ v s1 hPq24=>?_
 obtain⟨x,H1,I1,r1,q1⟩:=hPq24;refine bE (hb aB s1 σ H1 _ I1 q1) λ u s2 hPq25=>?_
 obtain⟨y,H2,I2,r2,q2⟩:=hPq25;exact hf v u s2 x y H2 I2 r1 r2 q2
theorem aJm{op:jk}{r:R2}(ho:cO X (zu op) r)(ha:PE X a ta)(hb:PE X b tb):PE X (.BinOp a op b pos) (wS r ta tb):=by
 intro aB s σ H Q I h;exact wpAny_BinOp (aDN ha hb I h λ v u s2 x y H2 I2 rx ry q=>ho aB s2 σ H2 x y v u Q I2 rx ry q)
theorem aTy{op:yz}{r:V->Hp->VK->Prop}(ho:UnR X (unaryOp op) r)(ha:PE X a ta):PE X (.UnaryOp op a pos) (tUn r ta):=by
 intro aB s σ H Q I h;exact UnaryOp_ (bE (ha aB s σ H _ I h) λ v s1 ⟨x,H1,I1,r1,q1⟩=>ho aB s1 σ H1 x v Q I1 r1 q1)
theorem wY{f:qx->qx->Sem qx}{C:Int->Int->Prop}{g:Int->Int->Int}
 (rule:∀ (i j:Int) (t u:Tok) (s:qj) (Q:qx->qj->Prop) (E:qx->qj->Prop),C i j->Q (.int (g i j) s.toks) {s with toks:=s.toks+1 }->qk (model X.prog X.w) X.A (f (.int i t) (.int j u)) Q E s) :
 cO X f (rI C λ i j=>.int (g i j)):=by
 intro aB s σ H x y v u Q I rx ry h;obtain⟨i,j,rfl,rfl,hc,q⟩:=h;obtain⟨t,rfl⟩:=rx;obtain⟨t',rfl⟩:=ry;exact rule i j t t' s _ _ hc ⟨.int (g i j),H,I.tok _,⟨_,rfl⟩,q⟩
theorem vQ{f:qx->qx->Sem qx}{g:Int->Int->Int}
 (rule:∀ (i j:Int) (t u:Tok) (s:qj) (Q:qx->qj->Prop) (E:qx->qj->Prop),Q (.int (g i j) s.toks) {s with toks:=s.toks+1 }->qk (model X.prog X.w) X.A (f (.int i t) (.int j u)) Q E s) :
 cO X f (jI λ i j=>.int (g i j)):=by
 intro aB s σ H x y v u Q I rx ry h;obtain⟨i,j,rfl,rfl,q⟩:=h;obtain⟨t,rfl⟩:=rx;obtain⟨t',rfl⟩:=ry;exact rule i j t t' s _ _ ⟨.int (g i j),H,I.tok _,⟨_,rfl⟩,q⟩
theorem aAI{f:qx->qx->Sem qx}{g:Int->Int->Bool}
 (rule:∀ (i j:Int) (t u:Tok) (s:qj) (Q:qx->qj->Prop) (E:qx->qj->Prop),Q (.bool (g i j)) s->qk (model X.prog X.w) X.A (f (.int i t) (.int j u)) Q E s) :
 cO X f (jI λ i j=>.bl (g i j)):=by
 intro aB s σ H x y v u Q I rx ry h;obtain⟨i,j,rfl,rfl,q⟩:=h;obtain⟨t,rfl⟩:=rx;obtain⟨t',rfl⟩:=ry;exact rule i j t t' s _ _ ⟨.bl (g i j),H,I,rfl,q⟩
def aVQ(i j:Int):Prop:=0<=j/\j<=1000000/\i.natAbs<2^64
def aKn(i j:Int):Prop:=(-(2^64)<i/\i<2^64)\/(-(2^64)<j/\j<2^64)
theorem aKn.ok{i j:Int}(h:aKn i j):IntMulOk i j:=by
 rcases h with ⟨h1,h2⟩ | ⟨h1,h2⟩
 ·exact .of_left (intBits_le_64 h1 h2)
 ·exact .of_right (intBits_le_64 h1 h2)
theorem aLK(k:Nat):(0:Int)<=2^k:=by
 rw[two_pow_cast];exact yGi _
theorem aRs:cO X (zu .Add) (jI λ i j=>.int (i+j)):=vQ λ _ _ _ _ _ _ _ q=>add_int q
theorem aSd:cO X (zu .Sub) (jI λ i j=>.int (i-j)):=vQ λ _ _ _ _ _ _ _ q=>sub_int q
theorem aQe:cO X (zu .Mod) (rI (λ _ j=>j≠0) λ i j=>.int (i.fmod j)):=wY λ _ _ _ _ _ _ _ hc q=>mod_int' hc q
theorem aQz:cO X (zu .Pow) (rI aVQ λ i j=>.int (i^j.toNat)):=wY λ _ _ _ _ _ _ _ hc q=>pow_int_small hc.1 hc.2.1 hc.2.2 q
theorem aSV:cO X (zu .RShift) (rI (λ _ j=>0<=j) λ i j=>.int (i/2^j.toNat)):=wY λ i j _ _ _ _ _ hc q =>
 rshift_int hc (by rw[Int.fdiv_eq_ediv_of_nonneg i (aLK _)];exact q)
theorem aQI:cO X (zu .BitAnd) (jI λ i j=>.int (yEg i j)):=vQ λ _ _ _ _ _ _ _ q=>and_int q
theorem aUt:cO X (zu .BitOr) (jI λ i j=>.int (yGu i j)):=vQ λ _ _ _ _ _ _ _ q=>or_int q
theorem aQ2:cO X (zu .BitXor) (jI λ i j=>.int (yGl i j)):=vQ λ _ _ _ _ _ _ _ q=>xor_int q
theorem unI{f:qx->Sem qx}{g:Int->Int}
 (rule:∀ (i:Int) (t:Tok) (s:qj) (Q:qx->qj->Prop) (E:qx->qj->Prop),Q (.int (g i) s.toks) {s with toks:=s.toks+1 }->qk (model X.prog X.w) X.A (f (.int i t)) Q E s) :
 UnR X f (rU λ i=>.int (g i)):=by
 intro aB s σ H x v Q I rx h;obtain⟨i,rfl,q⟩:=h;obtain⟨t,rfl⟩:=rx;exact rule i t s _ _ ⟨.int (g i),H,I.tok _,⟨_,rfl⟩,q⟩
theorem aSg:UnR X (unaryOp .USub) (rU λ i=>.int (-i)):=unI λ _ _ _ _ _ q=>neg_int q
theorem aSp:UnR X (unaryOp .Invert) (rU λ i=>.int (yBq i)):=unI λ _ _ _ _ _ q=>invert_int q
end
section
variable {X : Cx}{a b c : qw}{ta tb tc : TE}{pos : Pos}
theorem aIK{aB:List (qv×Obj)}{σ:St}{H:Hp}{s:qj}{Q:VK}{k k':Bool}(I:Inv X aB σ H s)(q:Q (.bl k) H)(e:k=k'):EP X aB σ Q (.bool k') s:=by
 subst e;exact⟨.bl k,H,I,rfl,q⟩
theorem aT0:cO X (xk .Lt) (jI λ i j=>.bl (decide (i<j))):=aAI λ _ _ _ _ _ _ _ q=>lt_int q
theorem aVz:cO X (xk .LtE) (jI λ i j=>.bl (decide (i<=j))):=aAI λ _ _ _ _ _ _ _ q=>le_int q
theorem aTZ:cO X (xk .Gt) (jI λ i j=>.bl (decide (j<i))):=aAI λ _ _ _ _ _ _ _ q=>gt_int q
theorem aUN:cO X (xk .GtE) (jI λ i j=>.bl (decide (j<=i))):=aAI λ _ _ _ _ _ _ _ q=>ge_int q
theorem aST:cO X (xk .Is) (λ x y H Q=>y=.non/\Q (.bl (decide (x=.non))) H):=by
 intro aB s σ H x y v u Q I rx ry h;obtain⟨rfl,q⟩:=h;cases ry;refine is_none_gen (aIK I q ?_);cases x<;>first
  | (cases rx;rfl)
  | (obtain⟨t,rfl⟩:=rx;rfl)
theorem aPN:cO X (xk .IsNot) (λ x y H Q=>y=.non/\Q (.bl (!decide (x=.non))) H):=by
 intro aB s σ H x y v u Q I rx ry h;obtain⟨rfl,q⟩:=h;cases ry;refine isnot_none_gen (aIK I q ?_);cases x<;>first
  | (cases rx;rfl)
  | (obtain⟨t,rfl⟩:=rx;rfl)
theorem cO.or{f:qx->qx->Sem qx}{r r':R2}(h:cO X f r)(h':cO X f r'):cO X f (λ x y H Q=>r x y H Q\/r' x y H Q):=by
 intro aB s σ H x y v u Q I rx ry q;rcases q with q | q
 ·exact h aB s σ H x y v u Q I rx ry q
 ·exact h' aB s σ H x y v u Q I rx ry q
theorem aXb(b:qw){op:vz}(h:op≠.In:=by decide)(h2:op≠.NotIn:=by decide):jy op b=false:=by
 have e1:(op==CmpOp.In)=false:=by cases op<;>first | rfl | exact absurd rfl h
 have e2:(op==CmpOp.NotIn)=false:=by cases op<;>first | rfl | exact absurd rfl h2
 cases b<;>simp[jy,e1,e2]
theorem aPi{op:vz}{r:R2}(ho:cO X (xk op) r)(ha:PE X a ta)(hb:PE X b tb)(hm:jy op b=false):PE X (.Compare a [op] [b] pos) (wS r ta tb):=by
 intro aB s σ H Q I h;exact wpAny_Compare1 (aDN ha hb I h λ v u s2 x y H2 I2 rx ry q=>ho aB s2 σ H2 x y v u Q I2 rx ry q) hm
def aTG(t:TE):TT:=λ σ H Q=>t σ H λ x H'=>∃ k,x=.bl k/\Q k H'
theorem aP4{op:vz}{r:R2}(ho:cO X (xk op) r)(ha:PE X a ta)(hb:PE X b tb)(hm:jy op b=false):PT X (.Compare a [op] [b] pos) (aTG (wS r ta tb)):=by
 intro aB s σ H Q I h;refine wpAny_isTrue_Compare1 (bE (ha aB s σ H _ I h) λ v s1 ⟨x,H1,I1,r1,q1⟩=>bE (hb aB s1 σ H1 _ I1 q1) λ u s2 ⟨y,H2,I2,r2,q2⟩ =>
  bE (ho aB s2 σ H2 x y v u _ I2 r1 r2 q2) λ c s3 ⟨z,H3,I3,r3,k,e,q3⟩=>?_) hm
 subst e;cases r3;exact jx ⟨H3,I3,q3⟩
def aDu(K:FrG)(x:V)(H:Hp)(k:Bool):Prop:=
 match x with
 | .non=>k=false
 | .bl b=>k=b
 | .int i=>k=(i != 0)
 | .str y=>y.length<=qy/\k=((y.length:Int) != 0)
 | .byt y=>y.size<=qy/\k=((y.size:Int) != 0)
 | .ref p=>(∃ xs,bM K H p xs/\k = !xs.isEmpty)\/(∃ xs,bS K H p xs/\k = !xs.isEmpty)\/∃ aZ,H p=qq (.dK aZ)/\k = !aZ.isEmpty
 | _=>False
theorem aLH{κ:Type}{aZ:List (κ×V)}{vs:List (κ×qx)}(r:KV aZ vs):(!vs.isEmpty) = !aZ.isEmpty:=by
 cases r<;>rfl
theorem aFf{xs:List V}{aG:List qx}(r:aS xs aG):(!aG.toArray.isEmpty) = !xs.isEmpty:=by
 cases r<;>simp
theorem mF:(qy:Nat)<2^63:=by rw[zx];decide
theorem aSh:aWR X (λ x H Q=>∃ k,aDu X.K x H k/\Q k H):=by
 intro aB s σ H x v Q I rx h;obtain⟨k,e,q⟩:=h;have hl:=mF;have hs:qy=16777216:=zx;cases x with
 | non =>
   cases rx;have e':k=false:=e;subst e';exact truthy_none ⟨H,I,q⟩
 | bl b =>
   cases rx;have e':k=b:=e;subst e';exact jx ⟨H,I,q⟩
 | int i =>
   obtain⟨t,rfl⟩:=rx;have e':k=(i != 0):=e;subst e';exact PySem.P.truthy_int ⟨H,I,q⟩
 | str y =>
   obtain⟨t,rfl⟩:=rx;obtain⟨hy,e'⟩:y.length<=qy/\k=((y.length:Int) != 0):=e;subst e';exact PySem.P.truthy_str (by omega) ⟨H,I.tok _,q⟩
 | byt y =>
   obtain⟨t,rfl⟩:=rx;obtain⟨hy,e'⟩:y.size<=qy/\k=((y.size:Int) != 0):=e;subst e';exact PySem.W.truthy_bytes (by omega) ⟨H,I.tok _,q⟩
 | ref p =>
   cases rx;have e':(∃ xs,bM X.K H p xs/\k = !xs.isEmpty)\/(∃ xs,bS X.K H p xs/\k = !xs.isEmpty)\/∃ aZ,H p=qq (.dK aZ)/\k = !aZ.isEmpty:=e;rcases e' with ⟨xs,hx,e'⟩ | ⟨xs,hx,e'⟩ | ⟨aZ,hx,e'⟩
   ·subst e';obtain⟨aG,r,pl,hz⟩:=I.list hx;have bZ:=r.length;exact wpAny_truthy_list pl.isList (by simp only[yAg];omega) ⟨H,I.tok _,by rw[aFf r];exact q⟩
   ·subst e';obtain⟨aG,r,pl,hz⟩:=I.tuple hx;have bZ:=r.length;exact truthy_tuple pl (by simp only[yAg];omega) ⟨H,I.tok _,by rw[aFf r];exact q⟩
   ·subst e';obtain⟨hz,hS,vs,r,m⟩:aZ.length<=qy/\(p==sysModules)=false/\∃ vs,KV aZ vs/\s.heap.DictOf (nR X.prog X.w) p vs:=I.hok p _ hx;have bZ:aZ.length=vs.length:=Paired.length r;exact wpAny_truthy_dict hS m (by omega) ⟨H,I.tok _,by rw[aLH r];exact q⟩
 | _=>exact(show False from e).elim
theorem aOd(ha:PE X a ta)(he:∀ eV,isTrue a X.env eV=(do let v <- eV;standAt a.pos;holding [v] (truthy v))) :
 PT X a (λ σ H Q=>ta σ H λ x H'=>∃ k,aDu X.K x H' k/\Q k H'):=by
 intro aB s σ H Q I h;exact isTrue_plain (bE (ha aB s σ H _ I h) λ v s1 ⟨x,H1,I1,r1,q1⟩=>aSh aB s1 σ H1 x v Q I1 r1 q1) (he _)
theorem aLT:cO X (zu .Add) (λ x y H Q=>∃ i j,x=.str i/\y=.str j/\i.length+j.length<=qy/\Q (.str (i++j)) H):=by
 intro aB s σ H x y v u Q I rx ry h;obtain⟨i,j,rfl,rfl,hz,q⟩:=h;obtain⟨t,rfl⟩:=rx;obtain⟨t',rfl⟩:=ry;exact add_str (λ t' tk=>⟨.str (i++j),H,I.tok _,⟨_,rfl⟩,q⟩) hz
theorem iR{x:V}{us:List qx}(r:aS [x] us):∃ u,us=[u]/\bC x u:=by
 cases r with
 | cons r1 r2=>cases r2;exact⟨_,rfl,r1⟩
theorem aAt{x y:V}{us:List qx}(r:aS [x,y] us):∃ u w',us=[u,w']/\bC x u/\bC y w':=by
 cases r with
 | cons r1 r2 =>
   cases r2 with
   | cons r3 r4=>cases r4;exact⟨_,_,rfl,r1,r3⟩
theorem aNW:dO X (.builtin "abs") (λ xs H Q=>∃ i,xs=[.int i]/\Q (.int (if i<0 then -i else i)) H):=by
 intro aB s σ H xs us Q I r h;obtain⟨i,rfl,q⟩:=h;obtain⟨u,rfl,t,rfl⟩:=iR r;exact call_abs_int λ u tk=>⟨.int (if i<0 then -i else i),H,I.tok _,⟨_,rfl⟩,q⟩
theorem aMD(hc:X.calm=true):dO X (.builtin "max") (λ xs H Q=>∃ i j,xs=[.int i,.int j]/\Q (.int (if j>i then j else i)) H):=by
 intro aB s σ H xs us Q I r h;obtain⟨i,j,rfl,q⟩:=h;obtain⟨u,w',rfl,⟨t,rfl⟩,⟨t',rfl⟩⟩:=aAt r;refine max_two_ints (I.ok.hd hc) λ h' tk k=>⟨_,H,I.kept k,?_,q⟩
 by_cases hj:j>i
 ·rw[if_pos hj,if_pos hj];exact⟨_,rfl⟩
 ·rw[if_neg hj,if_neg hj];exact⟨_,rfl⟩
theorem aM9(hc:X.calm=true):dO X (.builtin "min") (λ xs H Q=>∃ i j,xs=[.int i,.int j]/\Q (.int (if j<i then j else i)) H):=by
 intro aB s σ H xs us Q I r h;obtain⟨i,j,rfl,q⟩:=h;obtain⟨u,w',rfl,⟨t,rfl⟩,⟨t',rfl⟩⟩:=aAt r;refine min_two_ints (I.ok.hd hc) λ h' tk k=>⟨_,H,I.kept k,?_,q⟩
 by_cases hj:j<i
 ·rw[if_pos hj,if_pos hj];exact⟨_,rfl⟩
 ·rw[if_neg hj,if_neg hj];exact⟨_,rfl⟩
theorem aFu:dO X (.type "int") (λ xs H Q=>(∃ i,xs=[.int i]/\Q (.int i) H)\/∃ k,xs=[.bl k]/\Q (.int (if k then 1 else 0)) H):=by
 intro aB s σ H xs us Q I r h;rcases h with ⟨i,rfl,q⟩ | ⟨k,rfl,q⟩
 ·obtain⟨u,rfl,t,rfl⟩:=iR r;exact call_int_int ⟨.int i,H,I,⟨_,rfl⟩,q⟩
 ·obtain⟨u,rfl,r1⟩:=iR r;cases r1;exact call_int_bool ⟨.int (if k then 1 else 0),H,I.tok _,⟨_,rfl⟩,q⟩
end
end L2
namespace L2
open PySem PySem.Spec PyProof.Rows
structure ObjM(h:Heap)(x dx C:qv)(mA:Str->Option qx):Prop where
 obj:h.get? x=qq (yDv C dx)
 ns:h.Ns1 dx mA
 ne:dx≠x
theorem aMm{h:Heap}{dx:qv}{mA:Str->Option qx}(n:h.Ns1 dx mA):∃ od,h.get? dx=qq od/\∀ name,yHm name od=qq (mA name):=by
 obtain⟨o,es,ep,ho,hd,hk,_,hm⟩:=n;refine⟨o,ho,λ name=>?_⟩
 have e:=hm name;unfold nsFind findBy at e;rw[<- Array.find?_toList] at e;unfold yHm;rw[hd];dsimp only
 split
 ·rename_i y q;rw[q] at e;exact congrArg qq e
 ·rename_i q;rw[q] at e;have a:es.toList.any (·.refKey)=false:=by
   rw[yGp];intro y hy;obtain⟨z,t,hkey⟩:=hk y (Array.mem_toList_iff.mp hy);simp[DictEntry.refKey,hkey]
  have a':¬ es.toList.any (·.refKey)=true:=by rw[a];exact yBe
  rw[if_neg a'];exact congrArg qq e
theorem ObjM.look{h:Heap}{x dx C:qv}{mA:Str->Option qx}(I:ObjM h x dx C mA):∃ od,PySem.W.InstAt h x (yDv C dx) C (qq od)/\∀ name,yHm name od=qq (mA name):=
 let ⟨od,ho,hl⟩:=aMm I.ns
 ⟨od,⟨I.obj,rfl,rfl,ho⟩,hl⟩
section
variable {prog : qu}{w : zq}{A : zv}{E : qx -> qj -> Prop}{s : qj}{K : FrG}{x dx C f : qv}{mA : Str -> Option qx}{name : Str}{v : qx}
end
section
variable {P : qu}{w : zq}{H H' : Hp}{h h' : Heap}{a C dx : qv}{fs fs' : List (Str×V)}
end
structure Cls(K:FrG)(C:qv):Prop where
 pg:PySem.W.plainGet K C Str.empty=true
 hd:PySem.W.hasDictIn K C=true
 po:PySem.W.plainOver K C=true
 sa:yFt K (.ref C) "__setattr__" = qq (qq (.builtin "object.__setattr__"))
theorem Cls.get{K:FrG}{C:qv}(c:Cls K C)(f:Str):PySem.W.plainGet K C f=true:=c.pg
structure Con(K:FrG)(C:qv)(f:Str)(v:V)(u:qx):Prop where
 at_:yFt K (.ref C) f=qq (qq u)
 rel:bC v u
 get:PySem.W.specialIn K u "__get__" = qq qz
 cp:PySem.W.copiedNames.contains f=false
structure Meth(K:FrG)(C:qv)(m:Str)(f:qv):Prop where
 at_:yFt K (.ref C) m=qq (qq (.ref f))
 fn:PySem.W.isFn K (.ref f)=true
 kp:yCx K (.ref f)=true
section
variable {X : Cx}{aB : List (qv×Obj)}{σ : St}{H : Hp}{s : qj}{a C dx : qv}{fs : List (Str×V)}{f : Str}{v : V}{A : zv}{E : qx -> qj -> Prop}
theorem Inv.made(I:Inv X aB σ H s):Inv X aB σ (bD (bD H s.heap.objs.size (.own (s.heap.objs.size+1))) (s.heap.objs.size+1) (.ins C s.heap.objs.size []))
 {s with heap:=(s.heap.push yCj).push (yDv C s.heap.objs.size) }:=by
 have e1:(s.heap.push yCj).get? s.heap.objs.size=qq yCj:=xAe s.heap rfl;have e2:((s.heap.push yCj).push (yDv C s.heap.objs.size)).get? (s.heap.objs.size+1)=qq (yDv C s.heap.objs.size):=by
  have:=xAe (s.heap.push yCj) (o:=yDv C s.heap.objs.size) rfl;rwa [yBz] at this
 have e3:(s.heap.push yCj).Ns s.heap.objs.size (λ _=>qz):=⟨yCj,#[],_,e1,rfl,(λ e he=>absurd he (by simp)),λ _=>rfl⟩
 have I1:=I.laid (a:=s.heap.objs.size) (o:=.own (s.heap.objs.size+1)) (h':=s.heap.push yCj) (t':=s.toks) (λ b u q=>hpS _ q) (yAb _) ⟨_,e1⟩
 refine I1.laid (a:=s.heap.objs.size+1) (o:=.ins C s.heap.objs.size []) (t':=s.toks) (λ b u q=>hpS _ q) (yFx (yBz _ _)) ?_
 have ne:s.heap.objs.size≠s.heap.objs.size+1:=xAk (yEs _);refine⟨by rw[bL ne,cY],yEx _,ne,e2,λ _=>qz,(Heap.Ns1.of_empty e3).at λ o q=>hpS _ q,λ _=>True.intro,λ y hy=>absurd rfl hy⟩
end
section
variable {X : Cx}{o e value : qw}{f : Str}{pos pos' tpos : Pos}{ta tv : TE}
end
section
variable {X : Cx}{aB : List (qv×Obj)}{σ : St}{H : Hp}{s : qj}{A : zv}{E : qx -> qj -> Prop}{Q : qx -> qj -> Prop}{c : qx}{b : Bool}
inductive TyOf (K:FrG) (H:Hp):V->qx->Prop where
 | non:TyOf K H .non (.type "NoneType")
 | bl (x:Bool):TyOf K H (.bl x) (.type "bool")
 | int (i:Int):TyOf K H (.int i) (.type "int")
 | str (x:Str):TyOf K H (.str x) (.type "str")
 | flt (x:UInt64):TyOf K H (.flt x) (.type "float")
 | lst {a:qv}{xs:List V} (e:H a=qq (.lst xs)):TyOf K H (.ref a) (.type "list")
 | frz {a:qv}{o:Obj}{xs:List V} (e:H a=qq (.frz o (.lst xs))):TyOf K H (.ref a) (.type "list")
 | tup {a:qv}{xs:List V} (e:H a=qq (.tup xs)):TyOf K H (.ref a) (.type "tuple")
 | dK {a:qv}{aZ:List (fJ×V)} (e:H a=qq (.dK aZ)):TyOf K H (.ref a) (.type "dict")
 | dT {a:qv}{aZ:List (List fJ×V)} (e:H a=qq (.dT aZ)):TyOf K H (.ref a) (.type "dict")
 | ins {a C dx:qv}{fs:List (Str×V)} (e:H a=qq (.ins C dx fs)) (cl:Cls K C) (ha:yFt K (.ref C) "__class__" = qq (qq (.builtin "object.__class__")))
    (hn:PySem.W.specialIn K (.builtin "object.__class__") "__get__" = qq (qq (.builtin "getset_descriptor.__get__"))) (htk:PySem.W.takesIn K (.builtin "object.__class__")=qq true)
    (hm:PySem.W.mroIn K C (.type "object")=qq true):TyOf K H (.ref a) (.ref C)
end
end L2
namespace L2
open PySem PySem.Spec PyProof.Rows
structure Room(k:Nat)(A:zv):Prop where
 hd:A.handled=qz
 dp:A.depth+3*k+5<recursionLimit
 un:A.units+16*k+200<cLine
theorem Room.mono{j k:Nat}{A:zv}(r:Room k A)(h:j<=k):Room j A:=⟨r.hd,by have:=r.dp;omega,by have:=r.un;omega⟩
theorem Room.deeper{k:Nat}{A:zv}(r:Room (k+1) A)(env:Env):Room k (A.deeper env):=
 ⟨r.hd,by have:=r.dp;show A.depth+1+3*k+5<_;omega,by have:=r.un;show A.units+3+16*k+200<_;omega⟩
theorem Room.in1{k:Nat}{A:zv}(r:Room (k+1) A):Room k A.in1:=
 ⟨r.hd,by have:=r.dp;show A.depth+3*k+5<_;omega,by have:=r.un;show A.units+1+16*k+200<_;omega⟩
theorem aL8{A:zv}{C:qv}{us:List qx}{kw:List (Str×qx)}:(A.under (.builtin "type.__call__" ⟨.ref C::us,kw⟩)).depth=A.depth+1:=by
 first | rfl | simp[Around.under,Code.weight,Code.isCreation,Code.isGuard,Code.isCaller,Code.frames,Code.isFrame,guardIds]
theorem aLW{A:zv}{C:qv}{us:List qx}{kw:List (Str×qx)}:(A.under (.builtin "type.__call__" ⟨.ref C::us,kw⟩)).units=A.units+1:=by
 first | rfl | simp[Around.under,Code.cUnits,Code.frames,Code.isFrame]
theorem Room.make{k:Nat}{A:zv}(r:Room (k+1) A)(C:qv)(us:List qx)(kw:List (Str×qx)):Room k (A.under (.builtin "type.__call__" ⟨.ref C::us,kw⟩)):=
 ⟨r.hd,by have:=r.dp;rw[aL8];omega,by have:=r.un;rw[aLW];omega⟩
theorem Room.depth{k:Nat}{A:zv}(r:Room k A):A.depth<recursionLimit:=by have:=r.dp;omega
theorem Room.units{k:Nat}{A:zv}(r:Room k A):A.units+64<cLine:=by have:=r.un;omega
def aKm:TA:=λ _ H Q=>Q [] H
def aTE(ta:TE)(tr:TA):TA:=λ σ H Q=>ta σ H λ x H1=>tr σ H1 λ xs H2=>Q (x::xs) H2
section
variable {X : Cx}{e : qw}{es : List qw}{te : TE}{t : TA}{pos : Pos}
theorem aRE:PA X [] aKm:=λ _ _ _ _ H Q I h=>Calls.spliced_nil ⟨[],H,I,.nil,h⟩
theorem aQf(ha:PE X e te)(hr:PA X es t)(hs:qo (e::es) X.env=(false,eval e X.env)::qo es X.env:=by rfl):PA X (e::es) (aTE te t):=by
 intro pos aB s σ H Q I h;rw[hs];show qk _ _ (spliced ((false,eval e X.env)::backTo pos (qo es X.env))) _ _ s;refine Calls.spliced_cons (bE (ha aB s σ H _ I h) λ u s1 hPq26=>?_)
 obtain⟨x,H1,I1,r1,q1⟩:=hPq26;exact bE (hr pos aB s1 σ H1 _ I1 q1) λ us s2 ⟨xs,H2,I2,r2,q2⟩=>⟨x::xs,H2,I2,.cons r1 r2,q2⟩
def aWq(t:TA):TE:=λ σ H Q=>t σ H λ xs H1=>xs.length<=qy/\∀ p,H1 p=qz->Q (.ref p) (bD H1 p (.tup xs))
def aWu(t:TA):TE:=λ σ H Q=>t σ H λ xs H1=>xs.length<=qy/\∀ p,H1 p=qz->Q (.ref p) (bD H1 p (.lst xs))
theorem aQv{x1}(h:PA X es t):PE X (.Tuple es x1 pos) (aWq t):=by
 intro aB s σ H Q I hq;refine wpAny_Tuple_spliced (bE (h pos aB s σ H _ I hq) λ us s1 ⟨xs,H1,I1,r,z,q⟩=>⟨by rw[<- r.length];exact z,?_⟩)
 have hf:H1 s1.heap.objs.size=qz:=I1.hok.fresh (yAb _);refine⟨.ref s1.heap.objs.size,bD H1 s1.heap.objs.size (.tup xs),I1.laid (t':=s1.toks) (λ b u e=>hpS _ e) (yAb _) ?_,rfl,q _ hf⟩
 exact⟨z,us,r,⟨_,xAe _ rfl,rfl,_,rfl⟩⟩
theorem aRy(h:PA X es t):PE X (.List es pos) (aWu t):=by
 intro aB s σ H Q I hq;refine wpAny_List_spliced (bE (h pos aB s σ H _ I hq) λ us s1 ⟨xs,H1,I1,r,z,q⟩=>⟨by rw[<- r.length];exact z,?_⟩)
 have hf:H1 s1.heap.objs.size=qz:=I1.hok.fresh (yAb _);refine⟨.ref s1.heap.objs.size,bD H1 s1.heap.objs.size (.lst xs),I1.laid (t':=s1.toks) (λ b u e=>hpS _ e) (yAb _) ?_,rfl,q _ hf⟩
 exact⟨z,us,0,r,xAe _ rfl⟩
end
abbrev Sp:=List V->Hp->VK->XK->Prop
abbrev jJ:=List Env->Hp->qj->XK->qx->qj->Prop
structure Env0(P:qu)(w:zq)(K:FrG)(mg:Str->Option qx)(base:Heap)(A:zv)(outer:List Env)(s:qj)(H:Hp):Prop where
 frames:A.frames=qq outer
 mod:Mod K mg base
 bs:∀ b o,base.get? b=qq o->s.heap.get? b=qq o/\H b=qz
 bsz:base.objs.size<=s.heap.objs.size
 funs:s.heap.FunFrames base outer
 frf:∀ b∈iL outer,H b=qz
 hok:dS P w H s.heap
 bare:AllBare s.gens
def CE(outer:List Env)(P:qu)(w:zq)(H:Hp)(s:qj)(Q:VK)(u:qx)(s':qj):Prop:=
 ∃ v H',s'.os=s.os/\AllBare s'.gens/\Un (iL outer) [] H H' s.heap s'.heap/\dS P w H' s'.heap/\bC v u/\Q v H'
def CR(CX:jJ)(outer:List Env)(P:qu)(w:zq)(H:Hp)(s:qj)(Q:VK)(E:XK)(r:Result)(s':qj):Prop:=
 match r with
 | .ok (.ret u)=>CE outer P w H s Q u s'
 | .ok _=>False
 | .error e=>CX outer H s E e s'
structure FnOk(P:qu)(w:zq)(K:FrG)(mg:Str->Option qx)(base:Heap)(CX:jJ)(k:Nat)(f:qv)(fd:ju)(ps:List Str)(sp:Sp):Prop where
 len:∀ vs H Q E,sp vs H Q E->vs.length=ps.length
 run:∀ (A:zv) (outer:List Env) (s:qj) (H:Hp) (args:Args) (us:List qx) (vs:List V) (Q:VK) (E:XK),Room k A->Env0 P w K mg base A outer s H->BindsTo s fd args (ps.zip us)->aS vs us->sp vs H Q E ->
  vx (model P w) A (.call (.ref f) args) (CR CX outer P w H s Q E) s
theorem FnOk.mono{P:qu}{w:zq}{K:FrG}{mg:Str->Option qx}{base:Heap}{CX:jJ}{j k:Nat}{f:qv}{fd:ju}{ps:List Str}{sp:Sp}(F:FnOk P w K mg base CX j f fd ps sp)(h:j<=k) :
 FnOk P w K mg base CX k f fd ps sp:=⟨F.len,λ A outer s H args us vs Q E hr=>F.run A outer s H args us vs Q E (hr.mono h)⟩
theorem Env0.make{P:qu}{w:zq}{K:FrG}{mg:Str->Option qx}{base:Heap}{A:zv}{outer:List Env}{s:qj}{H:Hp}(e:Env0 P w K mg base A outer s H)(C:qv)(us:List qx)(kw:List (Str×qx)) :
 Env0 P w K mg base (A.under (.builtin "type.__call__" ⟨.ref C::us,kw⟩)) outer s H:=⟨by first | exact e.frames | (simpa [Around.under,Code.envs,Code.isFrame,pushEnvs] using e.frames),e.mod,e.bs,e.bsz,e.funs,e.frf,e.hok,e.bare⟩
theorem Env0.in1{P:qu}{w:zq}{K:FrG}{mg:Str->Option qx}{base:Heap}{A:zv}{outer:List Env}{s:qj}{H:Hp}(e:Env0 P w K mg base A outer s H) :
 Env0 P w K mg base A.in1 outer s H:=⟨e.frames,e.mod,e.bs,e.bsz,e.funs,e.frf,e.hok,e.bare⟩
section
variable {X : Cx}{aB : List (qv×Obj)}{σ : St}{H : Hp}{s s' : qj}
theorem Inv.env0(I:Inv X aB σ H s):Env0 X.prog X.w X.K X.mg X.base X.A X.stack s H:=
 ⟨I.ok.frames,I.ok.mod,I.bs,xAi I.ok.bsz I.sz,I.stack,I.stkFree,I.hok,I.bare⟩
theorem Inv.after{Q:VK}{u:qx}(I:Inv X aB σ H s)(h:CE X.stack X.prog X.w H s Q u s'):EP X aB σ Q u s':=by
 obtain⟨v,H',os,bare,un,hok,r,q⟩:=h;obtain⟨hh,g,d,t,os'⟩:=s';obtain rfl:os'=s.os:=os;exact⟨v,H',I.call (h':=hh) (g':=g) (d':=d) (t':=t) (ch:=[]) un hok bare (λ b z=>absurd z (by simp)),r,q⟩
end
def aAz(sp:Sp)(dvs:List V)(E:XK)(t:TA):TE:=λ σ H Q=>t σ H λ vs H1=>sp (vs++dvs) H1 Q E
def mO(K:FrG)(fd:ju)(ps:List Str)(ds:List qx):Prop:=
 ∀ (s:qj) (us:List qx),K.In s.heap->(us++ds).length=ps.length->BindsTo s fd ⟨us,[]⟩ (ps.zip (us++ds))
theorem mO.all{K:FrG}{fd:ju}{ps:List Str}(h:∀ us:List qx,us.length=ps.length->bindArgs fd ⟨us,[]⟩=pure (ps.zip us)):mO K fd ps []:=λ s us _ hl=>by
 rw[yDd] at hl ⊢;exact .of_eq (h us hl)
def aAi(CX:jJ)(X:Cx)(E:XK):Prop:=∀ (aB:List (qv×Obj)) (σ:St) (H:Hp) (s:qj) (e:qx) (s':qj),Inv X aB σ H s->CX X.stack H s E e s'->X.xe e s'
section
variable {X : Cx}{CX : jJ}{k : Nat}{f C : qv}{fd : ju}{ps : List Str}{sp : Sp}{dvs : List V}{ds : List qx}{E : XK}{x m : Str}{p pos apos : Pos}{e o : qw}{es : List qw}{ta : TE}{t : TA}
theorem aIa{aB:List (qv×Obj)}{σ:St}{H:Hp}{s:qj}{Q:VK}{us:List qx}{vs:List V}(F:FnOk X.prog X.w X.K X.mg X.base CX k f fd ps sp)(hr:Room k X.A)(hb:mO X.K fd ps ds)(hd:aS dvs ds)(hx:aAi CX X E)
 (I:Inv X aB σ H s) (r:aS vs us) (h:sp (vs++dvs) H Q E):qk (model X.prog X.w) X.A (call (.ref f) us) (EP X aB σ Q) X.xe s:=by
 have r2:aS (vs++dvs) (us++ds):=r.append hd;have hl:(us++ds).length=ps.length:=by rw[<- r2.length];exact F.len _ _ _ _ h
 refine wpAny_call (codeAny_mono (F.run X.A X.stack s H ⟨us,[]⟩ (us++ds) (vs++dvs) Q E hr I.env0 (hb s us I.kIn hl) r2 h) λ r s' hq=>?_)
 cases r with
 | error e=>exact hx aB σ H s e s' I hq
 | ok fl =>
   cases fl with
   | ret u=>exact I.after hq
   | next=>exact False.elim hq
   | brk=>exact False.elim hq
   | cont=>exact False.elim hq
theorem aOO(F:FnOk X.prog X.w X.K X.mg X.base CX k f fd ps sp)(hr:Room k X.A)(hg:Gl X x)(hm:X.mg x=qq (.ref f))(hk:yCx X.K (.ref f)=true)(hb:mO X.K fd ps ds)(hd:aS dvs ds)(hx:aAi CX X E)
 (ha:PA X (e::es) t) (hdb:(x==("__debug__" : Str))=false:=by decide) (he:qo (e::es) X.env=(false,eval e X.env)::qo es X.env:=by rfl) (hpl:(backTo pos (qo es X.env)).any (·.1)=false:=by rfl) :
 PE X (.Call (.Name x p) (e::es) [] pos) (aAz sp dvs E t):=by
 intro aB s σ H Q I h;refine xu (aCD I hg hm ?_ hdb);refine PySem.W.callWith_K (h₀:=X.base) I.ok.mod.kin hk (bE (ha pos aB s σ H _ I h) λ us s1 ⟨vs,H1,I1,r,q⟩=>⟨I1.kIn,?_⟩) he hpl
 exact aIa F hr hb hd hx I1 r q
theorem aNI(F:FnOk X.prog X.w X.K X.mg X.base CX k f fd ps sp)(hr:Room k X.A)(hg:Gl X x)(hm:X.mg x=qq (.ref f))(hk:yCx X.K (.ref f)=true)(hb:mO X.K fd ps ds)(hd:aS dvs ds)(hx:aAi CX X E)
 (hdb:(x==("__debug__" : Str))=false:=by decide):PE X (.Call (.Name x p) [] [] pos) (aAz sp dvs E aKm):=by
 intro aB s σ H Q I h;refine xu (aCD I hg hm ?_ hdb);exact PySem.W.callWith_K0 I.kIn hk (aIa (us:=[]) F hr hb hd hx I .nil h)
structure Mk(K:FrG)(C f:qv):Prop where
 makes:PySem.W.makesIn K C=true
 init:yFt K (.ref C) "__init__" = qq (qq (.ref f))
 fn:PySem.W.isFn K (.ref f)=true
 kp:yCx K (.ref C)=true
end
section
variable {X : Cx}{CX : jJ}{k : Nat}{f C : qv}{fd : ju}{ps ks : List Str}{sp : Sp}{E : XK}{x m : Str}{p pos apos kpos : Pos}{e o : qw}{es : List qw}{kws : List Keyword}{te ta : TE}{t tk : TA}{nm : Option Str}
structure KBinds(K:FrG)(fd:ju)(ps ks:List Str)(g:List qx->List qx->List qx)(gV:List V->List V->List V):Prop where
 to:∀ (s:qj) (us ws:List qx),K.In s.heap->(g us ws).length=ps.length->BindsTo s fd ⟨us,ks.zip ws⟩ (ps.zip (g us ws))
 rel:∀ {vs:List V}{us:List qx}{zs:List V}{ws:List qx},aS vs us->aS zs ws->aS (gV vs zs) (g us ws)
variable {g : List qx -> List qx -> List qx}{gV : List V -> List V -> List V}
end
structure FnScope(N P:List Str)(sc:zw):Prop where
 kind:sc.kind=.function
 co:sc.isCoroutine=false
 gen:sc.isGenerator=false
 nd:N.Nodup
 pre:N.take P.length=P
 par:∀ x∈P,sc.names.lookup x=qq .local\/sc.names.lookup x=qq .cell
 nofree:∀ y∈sc.names,y.2≠.free
theorem aFA{kindOf:Str->Option jo}{x:Str}:∀ {binds:List (Str×qx)}{m:Str->Option qx},(∀ v,(x,v) ∉ binds)->bindL kindOf binds m x=m x
 | [],_,_=>rfl
 | (n,v)::r,m,h=>by
   unfold bindL;rw[aFA λ w hw=>h w (xAg _ hw)]
   split
   ·have:x≠n:=by rintro rfl;exact h v xAd
    simp[this]
   ·rfl
theorem aFQ{kindOf:Str->Option jo}{x:Str}:∀ {binds:List (Str×qx)}{m:Str->Option qx},(∀ v,(x,v) ∉ binds)->bindC kindOf binds m x=m x
 | [],_,_=>rfl
 | (n,v)::r,m,h=>by
   unfold bindC;rw[aFQ λ w hw=>h w (xAg _ hw)]
   split
   ·rfl
   ·have:x≠n:=by rintro rfl;exact h v xAd
    simp[this]
theorem aFx{kindOf:Str->Option jo}{x:Str}{v:qx}:∀ {P:List Str}{vs:List qx}{i:Nat}{m:Str->Option qx},P.Nodup->P[i]? = qq x->vs[i]? = qq v->kindOf x=qq .local ->
 bindL kindOf (P.zip vs) m x=qq v
 | [],_,_,_,_,h,_,_=>by simp at h
 | _::_,[],_,_,_,_,h,_=>by simp at h
 | p::P,w::vs,0,m,nd,h1,h2,hk=>by
   simp at h1 h2;subst h1;subst h2;show bindL kindOf ((p,w)::P.zip vs) m p=_;unfold bindL;rw[aFA λ v hv=>(List.nodup_cons.mp nd).1 (yGc hv).1,if_pos hk]
   simp
 | p::P,w::vs,i+1,m,nd,h1,h2,hk=>by
   show bindL kindOf ((p,w)::P.zip vs) m x=_;unfold bindL;exact aFx (i:=i) (List.nodup_cons.mp nd).2 (by simpa using h1) (by simpa using h2) hk
theorem aFE{kindOf:Str->Option jo}{x:Str}{v:qx}:∀ {P:List Str}{vs:List qx}{i:Nat}{m:Str->Option qx},P.Nodup->P[i]? = qq x->vs[i]? = qq v->kindOf x≠qq .local ->
 bindC kindOf (P.zip vs) m x=qq v
 | [],_,_,_,_,h,_,_=>by simp at h
 | _::_,[],_,_,_,_,h,_=>by simp at h
 | p::P,w::vs,0,m,nd,h1,h2,hk=>by
   simp at h1 h2;subst h1;subst h2;show bindC kindOf ((p,w)::P.zip vs) m p=_;unfold bindC;rw[aFQ λ v hv=>(List.nodup_cons.mp nd).1 (yGc hv).1,if_neg hk]
   simp
 | p::P,w::vs,i+1,m,nd,h1,h2,hk=>by
   show bindC kindOf ((p,w)::P.zip vs) m x=_;unfold bindC;exact aFE (i:=i) (List.nodup_cons.mp nd).2 (by simpa using h1) (by simpa using h2) hk
noncomputable def start(N:List Str)(vs:List V):St:=vs.map qq++yAc (N.length-vs.length) qz
noncomputable def sV(CX:jJ)(P:qu)(w:zq)(K:FrG)(mg:Str->Option qx)(base:Heap)(N:List Str)(cP:Str)(scope:zw)(f:qv)(cd:qx)(A:zv)(outer:List Env)(s:qj)(H:Hp)(E:XK):Cx where
 prog:=P
 w:=w
 K:=K
 mg:=mg
 base:=base
 A:=A.deeper (envOfC cP scope s.heap.objs.size f cd)
 N:=N
 s₀:=s
 H₀:=H
 env:=envOfC cP scope s.heap.objs.size f cd
 outer:=outer
 stack:=envOfC cP scope s.heap.objs.size f cd::outer
 ex:=[]
 calm:=true
 fn:=λ _=>true
 pn:=[]
 xe:=λ e s'=>qk (model P w) (A.deeper (envOfC cP scope s.heap.objs.size f cd)) (leaving (envOfC cP scope s.heap.objs.size f cd) e) (λ _ s''=>CX outer H s E e s'') (λ e' s''=>CX outer H s E e' s'') s'
theorem aGz{sc:zw}{n:Nat}{x:Str}(h:sc.names.lookup x=qq .cell):∃ c,(cellsFrom n sc.names []).lookup x=qq c:=by
 have q:=PySem.W.cellsFrom_some sc.names n [] (.inl h);exact Option.isSome_iff_exists.mp q
theorem aNc{CX:jJ}{P:qu}{w:zq}{K:FrG}{mg:Str->Option qx}{base:Heap}{N ps:List Str}{cP:Str}{scope:zw}{f:qv}{cd:qx}{A:zv}{outer:List Env}{s s1:qj}{H:Hp}{E:XK}{us:List qx}{vs:List V}
 (S:FnScope N ps scope) (hd:A.handled=qz) (e0:Env0 P w K mg base A outer s H) (hl:vs.length=ps.length) (r:aS vs us)
 (x:InCallC s s.heap.objs.size (bindL (envOfC cP scope s.heap.objs.size f cd).kindOf (ps.zip us) λ _=>qz) (cellsFrom (s.heap.objs.size+1) scope.names []) (bindC (envOfC cP scope s.heap.objs.size f cd).kindOf (ps.zip us) λ _=>qz) s1) :
 Inv (sV CX P w K mg base N cP scope f cd A outer s H E) [] (start N vs) H s1:=by
 have hpl:ps.length<=N.length:=by have:=congrArg List.length S.pre;rw[yCc] at this;omega
 obtain⟨h1,tk,rfl,hk⟩:=x.done;have noA:∀ b:qv,b ∉ (sV CX P w K mg base N cP scope f cd A outer s H E).ex:=λ b z=>absurd (show b∈([]:List qv) from z) (by simp)
 refine⟨⟨e0.mod,S.kind,rfl,rfl,yAb _,λ y z c h1 h2=>?_,λ y hy=>?_,λ y c _ h=>?_,λ _=>hd,Around.frames_deeper e0.frames,.inr ⟨rfl,rfl⟩,λ b z=>absurd z (noA b),e0.bs,e0.bsz,λ b _ _=>noA b,λ b z=>absurd z (noA b),e0.funs,e0.frf⟩,
  rfl,e0.bare,Un.kept hk,⟨_,x.toInCall.ns,λ i y v h1 h2 h3=>?_⟩,λ y c h=>⟨_,x.cell y c h⟩,e0.hok.fresh (yAb _),λ y c h=>?_,λ p hp=>absurd (show p∈([]:List (qv×Obj)) from hp) (by simp),e0.hok.kept hk,?_⟩
 ·exact name_of_addr x.apart (PySem.mem_of_lookup h1) (PySem.mem_of_lookup h2)
 ·have hy:scope.names.lookup y=qq .cell\/scope.names.lookup y=qq .free:=hy;rcases hy with hy | hy
  ·exact aGz hy
  ·exact absurd rfl (S.nofree _ (PySem.mem_of_lookup hy))
 ·exact yFw (x.above y c (PySem.mem_of_lookup h))
 ·have hi:i<vs.length:=by
   unfold start at h2
   by_cases hi:i<vs.length
   ·exact hi
   ·rw[yAe (by simpa using hi)] at h2
    rw[yBj] at h2
    split at h2<;>cases h2
  have ha:vs[i]? = qq v:=by
   unfold start at h2;rw[xAn (by simpa using hi),xAb] at h2
   cases e:vs[i]? with
   | none=>rw[e] at h2;cases h2
   | some a=>rw[e] at h2;cases h2;rfl
  obtain⟨u,hu,rv⟩:=r.get ha;have hp:ps[i]? = qq y:=by
   rw[<- S.pre,yDw (by omega)];exact h1
  have ndP:ps.Nodup:=by rw[<- S.pre];exact S.nd.sublist (List.take_sublist _ _)
  refine⟨u,rv,?_⟩;rcases S.par y (xAl hp) with k | k
  ·exact .inl ⟨k,aFx ndP hp hu k⟩
  ·obtain⟨c,e⟩:=aGz (n:=s.heap.objs.size+1) k;refine .inr ⟨.inl k,c,e,?_⟩;have q:=x.cell y c e;rw[aFE ndP hp hu (by show scope.names.lookup y≠_;rw[k];decide)] at q
   exact q
 ·exact e0.hok.fresh (yFw (x.above y c (PySem.mem_of_lookup h)))
 ·unfold start;show _=N.length;rw[xAo,yAd,yBk];omega
theorem aUO{CX:jJ}{P:qu}{w:zq}{K:FrG}{mg:Str->Option qx}{base:Heap}{k:Nat}{f:qv}{name cP:Str}{params:Arguments}{body:List xw}{scope:zw}{dV kV doc pm cdv ct oc:qx}{an od:Option qv}
 {osl:Array (Option qx)}{N ps:List Str}{sp:Sp} (lk:K.lookup f=qq ⟨oc,od,.func (yDk name cP params body scope dV kV doc pm an cdv ct),osl⟩) (hcd:yFu K cdv cP=true) (S:FnScope N ps scope)
 (len:∀ vs H Q E,sp vs H Q E->vs.length=ps.length)
 (hbody:∀ (A:zv) (outer:List Env) (s:qj) (H:Hp) (vs:List V) (Q:VK) (E:XK),Room k (A.deeper (envOfC cP scope s.heap.objs.size f cdv))->sp vs H Q E ->
   ∃ t,dP (sV CX P w K mg base N cP scope f cdv A outer s H E) body t/\t {nx:=λ _ H'=>Q .non H',rt:=Q } (start N vs) H) :
 FnOk P w K mg base CX (k+1) f (yDk name cP params body scope dV kV doc pm an cdv ct) ps sp:=by
 refine⟨len,λ A outer s H args us vs Q E hr e0 hb r hsp=>?_⟩
 have hl:=len _ _ _ _ hsp;have KX:K.In s.heap:=e0.mod.kin.keeps λ b o e=>(e0.bs b o e).1
 have lim:s.heap.NoLimit:=e0.mod.nolimit.keeps λ b o e=>(e0.bs b o e).1
 have hkind:∀ y∈ps.zip us,scope.names.lookup y.1=qq .local\/(scope.names.lookup y.1=qq .cell/\((cellsFrom (s.heap.objs.size+1) scope.names []).lookup y.1).isSome=true):=λ aQ hy=>by
  obtain⟨n,v⟩:=aQ;rcases S.par n (yGc hy).1 with q | q
  ·exact .inl q
  ·exact .inr ⟨q,PySem.W.cellsFrom_some _ _ _ (.inl q)⟩
 refine codeAny_call_function hr.depth (KX _ _ lk) rfl S.co S.gen rfl (PySem.W.codeRec_of KX hcd) (hb _ _ _ _ ?_);refine wpAny_newFunctionEnv_cells S.kind hkind λ env he s1 x=>?_
 subst he;refine⟨lim.keeps x.toInCall.keep,codeAny_func ?_⟩;obtain⟨t,ht,hq⟩:=hbody A outer s H vs Q E (hr.deeper _) hsp;have I:Inv (sV CX P w K mg base N cP scope f cdv A outer s H E) [] (start N vs) H s1:=aNc S hr.hd e0 hl r x;refine wpAny_mono (ht [] s1 (start N vs) H _ I hq) (λ fl s' hs=>?_) λ e s' hs=>hs
 have bR:∀ {σ':St}{H':Hp}{v:V}{u:qx},Inv (sV CX P w K mg base N cP scope f cdv A outer s H E) [] σ' H' s'->bC v u->Q v H'->CE outer P w H s Q u s':=
  λ {σ' H' v u} J rv q=>⟨v,H',J.os,J.bare,J.base,J.hok,rv,q⟩
 cases fl with
 | ret u =>
   obtain⟨v,σ',H',J,rv,q⟩:=hs;exact bR J rv q
 | next =>
   obtain⟨σ',H',J,q⟩:=hs;exact bR (v:=V.non) (u:=Value.none) J rfl q
 | brk =>
   obtain⟨_,_,_,q⟩:=hs;exact False.elim q
 | cont =>
   obtain⟨_,_,_,q⟩:=hs;exact False.elim q
end L2
namespace L2
open PySem PySem.Spec PyProof.Rows
section
variable {X : Cx}{x : Str}{p pos : Pos}{e : qw}{es : List qw}{t : TA}{id T : String}{r : List V -> Hp -> VK -> Prop}
def tCB(r:List V->Hp->VK->Prop)(t:TA):TE:=λ σ H Q=>t σ H λ vs H1=>r vs H1 Q
theorem pB(hc:dO X (.builtin id) r)(hg:Gl X x)(hm:X.mg x=qz)(hv:vw x=qq (.builtin id))(ha:PA X (e::es) t)(hn:x ≠ "__name__":=by decide)(hdb:(x==("__debug__" : Str))=false:=by decide)
 (he:qo (e::es) X.env=(false,eval e X.env)::qo es X.env:=by rfl) (hpl:(backTo pos (qo es X.env)).any (·.1)=false:=by rfl):PE X (.Call (.Name x p) (e::es) [] pos) (tCB r t):=by
 intro aB s σ H Q I h;refine xu (lZ I hg hm hv ?_ hn hdb);exact PyProof.Rows.callWith_builtin1 (bE (ha pos aB s σ H _ I h) λ us s1 ⟨vs,H1,I1,r1,q1⟩=>hc aB s1 σ H1 vs us Q I1 r1 q1) he hpl
theorem aBJ(hc:dO X (.type T) r)(hg:Gl X x)(hm:X.mg x=qz)(hv:vw x=qq (.type T))(ha:PA X (e::es) t)(hn:x ≠ "__name__":=by decide)(hdb:(x==("__debug__" : Str))=false:=by decide)
 (he:qo (e::es) X.env=(false,eval e X.env)::qo es X.env:=by rfl) (hpl:(backTo pos (qo es X.env)).any (·.1)=false:=by rfl):PE X (.Call (.Name x p) (e::es) [] pos) (tCB r t):=by
 intro aB s σ H Q I h;refine xu (lZ I hg hm hv ?_ hn hdb);exact yBg (bE (ha pos aB s σ H _ I h) λ us s1 ⟨vs,H1,I1,r1,q1⟩=>hc aB s1 σ H1 vs us Q I1 r1 q1) he hpl
end
end L2
namespace HT
open PySem PyProof.Rows
section
open PySem.SeqAt
open PySem.AutoSeq1 (wpAny_loadPart')
open PySem.MeetsSeq PySem.MeetsSeq2 PySem.MeetsSeq3
end
section
variable {prog : qu}{w : zq}{A : zv}{E : qx -> qj -> Prop}{s : qj}
theorem cat_tup{t b:qv}{vs ws:List qx}{Q:qx->qj->Prop}(ht:IsTup s.heap t vs.toArray)(hb:IsTup s.heap b ws.toArray)(hv:vs≠[])
 (h1:ws=[]->Q (.ref t) s) (h2:ws≠[]->Q (.ref s.heap.objs.size) {s with heap:=s.heap.push {cls:=.type "tuple",data:=.seq (vs++ws).toArray } })
 (hsz:vs.length+ws.length<=qy):qk (model prog w) A (zu .Add (.ref t) (.ref b)) Q E s:=by
 obtain⟨⟨cls,dd,data,sl⟩,ho,hc,n,hd⟩:=id ht;obtain⟨⟨cls2,dd2,data2,sl2⟩,ho2,hc2,n2,hd2⟩:=id hb;simp only at hc hd hc2 hd2;subst hc hd hc2 hd2;have e:vs.toArray++ws.toArray=(vs++ws).toArray:=by simp
 by_cases hw:ws=[]
 ·exact concat_meets ⟨_,ho,rfl⟩ ⟨_,ho2,rfl⟩ noFill_tuple_add seq_tuple_add yFo yFe (yEz _ _)
   (tuple_addW1 t b vs.toArray ws.toArray n n2 dd dd2 sl sl2 (by simpa using hv) (by simp[hw])) ⟨ho,ho2,h1 hw⟩
 ·refine concat_meets ⟨_,ho,rfl⟩ ⟨_,ho2,rfl⟩ noFill_tuple_add seq_tuple_add yFo yFe (yEz _ _)
   (tuple_addW2 t b vs.toArray ws.toArray n n2 dd dd2 sl sl2 (by simpa using hv) (by simpa using hw) (by rw[yAg,yAg];exact hsz)) ⟨ho,ho2,?_⟩
  rw[e];exact h2 hw
noncomputable def sIx(n d:Nat):Option Int->Nat
 | none=>d
 | some v=>if v<0 then (v+(n:Int)).toNat else min v.toNat n
theorem sIx_nat(n d k:Nat):sIx n d (qq (k:Int))=min k n:=by
 show(if (k:Int)<0 then ((k:Int)+(n:Int)).toNat else min (k:Int).toNat n)=min k n
 rw[if_neg (by omega),yAp]
theorem aR1(n d:Nat)(hd:d<=n)(o:Option Int):sIx n d o<=n:=by
 cases o with
 | none=>exact hd
 | some v =>
   show(if v<0 then (v+(n:Int)).toNat else min v.toNat n)<=n
   by_cases hv:v<0
   ·rw[if_pos hv];omega
   ·rw[if_neg hv];exact Nat.min_le_right _ _
theorem aHf(v:Int)(n d:Nat):(if v<0 then max (v+(n:Int)) 0 else min v (n:Int))=((sIx n d (qq v):Nat):Int):=by
 show(if v<0 then max (v+(n:Int)) 0 else min v (n:Int))=(((if v<0 then (v+(n:Int)).toNat else min v.toNat n):Nat):Int)
 by_cases hv:v<0
 ·simp only[if_pos hv];omega
 ·simp only[if_neg hv];omega
theorem aLF(lo hi:Option Int)(n:Nat):yEo lo hi 1 (n:Int)=(((sIx n 0 lo:Nat):Int),((sIx n n hi:Nat):Int)):=by
 have h1:¬ ((1:Int)<0):=by omega
 unfold yEo;simp only[h1,if_false];refine Prod.ext ?_ ?_
 ·cases lo with
  | none=>rfl
  | some v=>exact aHf v n 0
 ·cases hi with
  | none=>rfl
  | some v=>exact aHf v n n
theorem aMd(i j:Nat):yDq (i:Int) (j:Int) 1=j-i:=by
 unfold yDq;have h1:(1:Int)>0:=by omega
 simp only[h1,if_true,Int.ediv_one]
 split<;>omega
theorem aFm{v:qx}{o:Option Int}{Q:Option Int->qj->Prop}(p:IsPart v o)(h:Q o s):qk (model prog w) A (Builtin.Slice.slicePartIndex v) Q E s:=by
 cases p with
 | none=>exact slicePart_none h
 | int i t=>exact slicePart_int h
theorem sliceApplied_gen{sl:qv}{vl vu:qx}{lo hi:Option Int}{n:Nat}{Q:Int×Int×Nat->qj->Prop}(hs:s.heap.IsSliceOf sl vl vu .none)(pl:IsPart vl lo)(pu:IsPart vu hi)
 (h:Q (((sIx n 0 lo:Nat):Int),1,sIx n n hi-sIx n 0 lo) s):qk (model prog w) A (yGf (.ref sl) (pure (n:Int))) Q E s:=by
 obtain⟨os,hos,hcs,hds⟩:=id hs;unfold yGf Builtin.Slice.sliceFields;refine wB (wB (zj hos hds (x:=vl) rfl (wB (zj hos hds (x:=vu) rfl (wB (zj hos hds (x:=.none) rfl (wP ?_)))))));refine wB (slicePart_none ?_);show qk _ _ (if ((1:Int)==0)=true then _ else _) _ _ s
 rw[if_neg (by decide)]
 refine wB (aFm pl (wB (aFm pu (wB (wP ?_)))));show qk _ _ (match yEo lo hi 1 (n:Int) with | (lo,hi)=>pure (lo,(1:Int),yDq lo hi 1)) _ _ s
 rw[aLF lo hi n];show qk _ _ (pure (((sIx n 0 lo:Nat):Int),(1:Int),yDq ((sIx n 0 lo:Nat):Int) ((sIx n n hi:Nat):Int) 1)) _ _ s;rw[aMd];exact wP h
theorem aOq(xs:Array qx)(i k:Nat):((yAu k).filterMap λ(m:Nat)=>xs[((i:Int)+(m:Int)*1).toNat]?).toArray=((xs.toList.drop i).take k).toArray:=by
 have e:(λ(m:Nat)=>xs[((i:Int)+(m:Int)*1).toNat]?)=λ m=>xs[i+m]?:=by
  funext m
  have:((i:Int)+(m:Int)*1).toNat=i+m:=by omega
  rw[this]
 rw[e];have:=pick_run xs i k;rw[List.filterMap_map] at this;have e2:((λ x=>xs[x]?) ∘ λ x=>i+x)=λ m=>xs[i+m]?:=rfl
 rw[e2] at this;rw[this]
theorem getItem_tuple_cut{t sl:qv}{aO:Array qx}{vl vu:qx}{lo hi:Option Int}{Q:qx->qj->Prop}(ht:IsTup s.heap t aO)(hs:s.heap.IsSliceOf sl vl vu .none)(pl:IsPart vl lo)(pu:IsPart vu hi)
 (hw:¬ (sIx aO.size 0 lo=0/\sIx aO.size aO.size hi=aO.size))
 (h:Q (.ref s.heap.objs.size) {s with heap:=s.heap.push {cls:=.type "tuple",data:=.seq ((aO.toList.drop (sIx aO.size 0 lo)).take (sIx aO.size aO.size hi-sIx aO.size 0 lo)).toArray } })
 (hsz:aO.size<=qy):qk (model prog w) A (getItem (.ref t) (.ref sl)) Q E s:=by
 have htake:sizeOk (.seq ((aO.toList.drop (sIx aO.size 0 lo)).take (sIx aO.size aO.size hi-sIx aO.size 0 lo)).toArray):=by
  show((aO.toList.drop (sIx aO.size 0 lo)).take (sIx aO.size aO.size hi-sIx aO.size 0 lo)).toArray.size<=qy;rw[yAg,yCc,List.length_drop,yEe];omega
 have hj:sIx aO.size aO.size hi<=aO.size:=aR1 _ _ (yAb _) hi;obtain⟨os,hos,hcs,hds⟩:=id hs;have hTs:s.TypeIs (.ref sl) "slice":=⟨os,hos,hcs⟩;unfold getItem
 try with_reducible refine zy ?_
 first | refine wB (wP ?_) | skip
 refine wB (wpAny_sequenceKey ht.typeIs (by decide) ?_)
 refine wB (wpAny_callSpecial?_slot (name:=Str.ofString "__getitem__") ht.typeIs yCk
  (xz yCk ht.typeIs entry_tuple_getitem ?_ (args_tuple_getitem _ _)))
 show qk _ _ (yGg (.ref t) >>= _) _ _ s;refine wB (tupleItemsOf_ ht ?_);refine wB (wpAny_typeOf hTs ?_);rw[if_pos (by decide)]
 refine wB (sliceApplied_gen hs pl pu ?_);have hno:¬ ((((sIx aO.size 0 lo:Nat):Int)==0&&(1:Int)==1&&(sIx aO.size aO.size hi-sIx aO.size 0 lo)==aO.size)=true):=by
  intro q;rw[yAk,yAk] at q;have q1:((sIx aO.size 0 lo:Nat):Int)=0:=eq_of_beq q.1.1;have q2:sIx aO.size aO.size hi-sIx aO.size 0 lo=aO.size:=eq_of_beq q.2;exact hw ⟨by omega,by omega⟩
 show qk _ _ (if (((sIx aO.size 0 lo:Nat):Int)==0&&(1:Int)==1&&(sIx aO.size aO.size hi-sIx aO.size 0 lo)==aO.size)=true then _ else _) _ _ s
 rw[if_neg hno,aOq]
 first
  | exact wB (m:=yCq _) (xx (wP ⟨_,rfl,wP h⟩) htake)
  | exact wB (m:=yCq _) (xx (wB (wP (wP ⟨_,rfl,wP h⟩))) htake)
  | exact wB (wB (m:=yCq _) (xx (wP (wP ⟨_,rfl,wP h⟩)) htake))
  | exact wB (wB (m:=yCq _) (xx (wP ⟨_,rfl,wP h⟩) htake))
end
end HT
namespace L2
open PySem PySem.Spec PyProof.Rows
abbrev TO:=St->Hp->(Option Int->Hp->Prop)->Prop
def PO(X:Cx)(e:Option qw)(t:TO):Prop:=
 ∀ (aB:List (qv×Obj)) (s:qj) (σ:St) (H:Hp) (Q:Option Int->Hp->Prop),Inv X aB σ H s->t σ H Q ->
  qk (model X.prog X.w) X.A (evalPart e X.env) (λ u s'=>∃ o H',Inv X aB σ H' s'/\IsPart u o/\Q o H') X.xe s
def aPw:TO:=λ _ H Q=>Q qz H
def aUw(t:TE):TO:=λ σ H Q=>t σ H λ x H1=>∃ i,x=.int i/\Q (qq i) H1
theorem aL3{ns:List Int}:∀ {us:List qx},aS (ns.map V.int) us->IntsAre us ns:=by
 induction ns with
 | nil=>intro us r;rw[yFa] at r;cases r;exact .nil
 | cons n ns ih =>
   intro us r;rw[yAt] at r;cases r with
   | cons r1 r2 =>
     obtain⟨t,e⟩:=r1;subst e;exact .cons n t (ih r2)
section
variable {X : Cx}{e : qw}{te : TE}{lo hi : Option qw}{tl th : TO}{pos p2 : Pos}
theorem aQd:PO X qz aPw:=by
 intro aB s σ H Q I h;rw[evalPart_none];exact wP ⟨qz,H,I,.none,h⟩
theorem aOx(h:PE X e te):PO X (qq e) (aUw te):=by
 intro aB s σ H Q I hw;rw[evalPart_some];refine bE (h aB s σ H _ I hw) λ u s1 hPq27=>?_
 obtain⟨x,H1,I1,r1,q1⟩:=hPq27;obtain⟨i,rfl,q⟩:=q1;obtain⟨t,rfl⟩:=r1;exact⟨qq i,H1,I1,.int i t,q⟩
def oQ(X:Cx)(r:V->Option Int->Option Int->Hp->VK->Prop):Prop:=
 ∀ (aB:List (qv×Obj)) (s:qj) (σ:St) (H:Hp) (x:V) (v vl vu:qx) (lo hi:Option Int) (sl:qv) (Q:VK),Inv X aB σ H s->bC x v->s.heap.IsSliceOf sl vl vu .none->IsPart vl lo->IsPart vu hi->r x lo hi H Q ->
  ∃ T id,typeLookup (.type T) "__getitem__" = pure (qq (.builtin id))/\s.TypeIs v T/\qk (model X.prog X.w) X.A (getItem v (.ref sl)) (EP X aB σ Q) X.xe s
theorem oQ.or{r r':V->Option Int->Option Int->Hp->VK->Prop}(h:oQ X r)(h':oQ X r'):oQ X (λ x lo hi H Q=>r x lo hi H Q\/r' x lo hi H Q):=by
 intro aB s σ H x v vl vu lo hi sl Q I rx hs pl pu q;rcases q with q | q
 ·exact h aB s σ H x v vl vu lo hi sl Q I rx hs pl pu q
 ·exact h' aB s σ H x v vl vu lo hi sl Q I rx hs pl pu q
def tSl(r:V->Option Int->Option Int->Hp->VK->Prop)(te:TE)(tl th:TO):TE:=λ σ H Q=>te σ H λ x H1=>tl σ H1 λ l H2=>th σ H2 λ u H3=>r x l u H3 Q
theorem aGM{r:V->Option Int->Option Int->Hp->VK->Prop}(hr:oQ X r)(he:PE X e te)(hl:PO X lo tl)(hu:PO X hi th):PE X (.Subscript e (.Slice lo hi qz p2) pos) (tSl r te tl th):=by
 intro aB s σ H Q I h;refine Subscript_ (bE (he aB s σ H _ I h) λ v s1 hPq28=>?_)
 obtain⟨x,H1,I1,r1,q1⟩:=hPq28;refine wpAny_Slice (bE (hl aB s1 σ H1 _ I1 q1) λ vl s2 ⟨l,H2,I2,pl,q2⟩=>bE (hu aB s2 σ H2 _ I2 q2) λ vu s3 hPq29=>?_)
 obtain⟨u,H3,I3,pu,q3⟩:=hPq29;rw[evalPart_none];refine wP ?_;have I4:Inv X aB σ H3 {s3 with heap:=s3.heap.push {cls:=.type "slice",data:=.fields #[vl,vu,.none] } }:=I3.kept (t':=s3.toks) λ b ob q=>hpS _ q
 obtain⟨T,id,hT,ht,hg⟩:=hr aB {s3 with heap:=s3.heap.push {cls:=.type "slice",data:=.fields #[vl,vu,.none] } } σ H3 x v vl vu l u s3.heap.objs.size Q I4 r1 (Heap.IsSliceOf.new ..) pl pu q3
 show qk (model X.prog X.w) X.A (subscriptTail e (.Slice lo hi qz p2) v (.ref s3.heap.objs.size)) (EP X aB σ Q) X.xe {s3 with heap:=s3.heap.push {cls:=.type "slice",data:=.fields #[vl,vu,.none] } }
 exact tail_any (ops:=[.ref s3.heap.objs.size,v]) ht hT hg (by with_unfolding_all rfl)
noncomputable def mR(xs:List V)(lo hi:Option Int):List V:=(xs.drop (HT.sIx xs.length 0 lo)).take (HT.sIx xs.length xs.length hi-HT.sIx xs.length 0 lo)
theorem aE1(xs:List V)(lo hi:Option Int):(mR xs lo hi).length<=xs.length:=by
 unfold mR;rw[yCc,List.length_drop];omega
noncomputable def aWo(K:FrG):V->Option Int->Option Int->Hp->VK->Prop:=λ x lo hi H Q=>∃ a xs,x=.ref a/\bS K H a xs /\
 ¬ (HT.sIx xs.length 0 lo=0/\HT.sIx xs.length xs.length hi=xs.length)/\∀ p,H p=qz->Q (.ref p) (bD H p (.tup (mR xs lo hi)))
theorem aQ9:oQ X (aWo X.K):=by
 intro aB s σ H x v vl vu lo hi sl Q I rx hs pl pu h;obtain⟨a,xs,rfl,hx,hw,q⟩:=h;cases rx;obtain⟨aG,r,ht,hz⟩:=I.tuple hx;have bZ:aG.toArray.size=xs.length:=by rw[yAg];exact r.length.symm
 refine⟨"tuple",_,PyProof.Rows.slot_tuple_getitem.lookup,ht.typeIs,?_⟩;refine HT.getItem_tuple_cut ht hs pl pu (by rw[bZ];exact hw) ?_ (by rw[bZ];exact hz)
 rw[bZ];refine⟨.ref s.heap.objs.size,_,I.laid (t':=s.toks) (o:=.tup (mR xs lo hi)) (λ b ob q=>hpS _ q) (yAb _) ?_,rfl,q _ (I.hok.fresh (yAb _))⟩
 exact⟨xAi (aE1 xs lo hi) hz,_,(r.drop (HT.sIx xs.length 0 lo)).take (HT.sIx xs.length xs.length hi-HT.sIx xs.length 0 lo),IsTup.new _ _⟩
noncomputable def aUI(K:FrG):R2:=λ x y H Q=>∃ a b xs ys,x=.ref a/\y=.ref b/\bS K H a xs/\bS K H b ys/\xs≠[]/\xs.length+ys.length<=qy /\
 (ys=[]->Q (.ref a) H)/\(ys≠[]->∀ p,H p=qz->Q (.ref p) (bD H p (.tup (xs++ys))))
theorem aS.nil_iff{xs:List V}{us:List qx}(r:aS xs us):us=[] ↔ xs=[]:=by
 cases r with
 | nil=>simp
 | cons _ _=>simp
theorem aPp:cO X (zu .Add) (aUI X.K):=by
 intro aB s σ H x y v u Q I rx ry h;obtain⟨a,b,xs,ys,rfl,rfl,ha,hb,hx,hz,q1,q2⟩:=h;cases rx;cases ry;obtain⟨aG,r1,p1,_⟩:=I.tuple ha;obtain⟨eI,r2,p2,_⟩:=I.tuple hb;refine HT.cat_tup p1 p2 (λ z=>hx (r1.nil_iff.mp z)) (λ z=>⟨.ref a,H,I,rfl,q1 (r2.nil_iff.mp z)⟩) (λ z=>?_) (by rw[<- r1.length,<- r2.length];exact hz)
 refine⟨.ref s.heap.objs.size,_,I.laid (t':=s.toks) (o:=.tup (xs++ys)) (λ b ob q=>hpS _ q) (yAb _) ?_,rfl,q2 (λ w=>z (r2.nil_iff.mpr w)) _ (I.hok.fresh (yAb _))⟩
 exact⟨by rw[xAo];exact hz,_,r1.append r2,IsTup.new _ _⟩
end
end L2
namespace L2
open PySem PySem.Spec PyProof.Rows
noncomputable def hU(n:Nat)(i:Int):Option Nat:=if 0<=i then (if i<n then qq i.toNat else qz) else if -(n:Int)<=i then qq (i+n).toNat else qz
noncomputable def kH{α:Type}(xs:List α)(i:Int):Option α:=(hU xs.length i).bind λ j=>xs[j]?
theorem aHe{n:Nat}{i:Int}{j:Nat}(h:hU n i=qq j):seqIndex? i n=qq j/\j<n /\ -(n:Int)<=i/\i<n:=by
 unfold hU at h
 by_cases h0:0<=i
 ·rw[if_pos h0] at h
  by_cases h1:i<n
  ·rw[if_pos h1] at h;have e:i.toNat=j:=Option.some.inj h;exact⟨by rw[seqIndex_of h0 h1,e],by omega,by omega,h1⟩
  ·rw[if_neg h1] at h;cases h
 ·rw[if_neg h0] at h
  by_cases h1 : -(n:Int)<=i
  ·rw[if_pos h1] at h;have e:(i+n).toNat=j:=Option.some.inj h;exact⟨by rw[seqIndex_neg (by omega) h1,e],by omega,h1,by omega⟩
  ·rw[if_neg h1] at h;cases h
theorem aCj{α:Type}{xs:List α}{i:Int}{v:α}(h:kH xs i=qq v):∃ j,seqIndex? i xs.length=qq j/\xs[j]? = qq v/\j<xs.length /\ -(xs.length:Int)<=i/\i<xs.length:=by
 unfold kH at h;cases e:hU xs.length i with
 | none=>rw[e] at h;cases h
 | some j =>
   rw[e] at h;obtain⟨h1,h2,h3,h4⟩:=aHe e;exact⟨j,h1,h,h2,h3,h4⟩
def zK(b:qw):Prop:=∀ o i,subscripted b false o i=operate [o,i] (getItem o i)
def lP(X:Cx)(r:R2):Prop:=
 ∀ (value iX:qw) (aB:List (qv×Obj)) (s:qj) (σ:St) (H:Hp) (x y:V) (v u:qx) (Q:VK),Inv X aB σ H s->bC x v->bC y u->r x y H Q ->
  subscripted iX false v u=operate [v,u] (getItem v u)->qk (model X.prog X.w) X.A (subscriptTail value iX v u) (EP X aB σ Q) X.xe s
def nC(X:Cx)(id:String)(r:V->List V->Hp->VK->Prop):Prop:=
 ∀ (aB:List (qv×Obj)) (s:qj) (σ:St) (H:Hp) (x:V) (xs:List V) (v:qx) (us:List qx) (Q:VK),Inv X aB σ H s->bC x v->aS xs us->r x xs H Q ->
  qk (model X.prog X.w) X.A (call (.builtin id) (v::us)) (EP X aB σ Q) X.xe s
section
variable {X : Cx}{a b : qw}{ta tb : TE}{pos : Pos}
theorem lP.or{r r':R2}(h:lP X r)(h':lP X r'):lP X (λ x y H Q=>r x y H Q\/r' x y H Q):=by
 intro value iX aB s σ H x y v u Q I rx ry q hs;rcases q with q | q
 ·exact h value iX aB s σ H x y v u Q I rx ry q hs
 ·exact h' value iX aB s σ H x y v u Q I rx ry q hs
theorem nC.or{id:String}{r r':V->List V->Hp->VK->Prop}(h:nC X id r)(h':nC X id r'):nC X id (λ x xs H Q=>r x xs H Q\/r' x xs H Q):=by
 intro aB s σ H x xs v us Q I rx rs q;rcases q with q | q
 ·exact h aB s σ H x xs v us Q I rx rs q
 ·exact h' aB s σ H x xs v us Q I rx rs q
theorem aI9{r:R2}(hr:lP X r)(ha:PE X a ta)(hb:PE X b tb)(hs:zK b):PE X (.Subscript a b pos) (wS r ta tb):=by
 intro aB s σ H Q I h;exact Subscript_ (aDN ha hb I h λ v u s2 x y H2 I2 rx ry q=>hr a b aB s2 σ H2 x y v u Q I2 rx ry q (hs _ _))
noncomputable def aWC(K:FrG):R2:=λ x y H Q=>∃ p xs i v,x=.ref p/\y=.int i/\bM K H p xs/\kH xs i=qq v/\Q v H
noncomputable def aWL(K:FrG):R2:=λ x y H Q=>∃ p xs i v,x=.ref p/\y=.int i/\bS K H p xs/\kH xs i=qq v/\Q v H
noncomputable def aV1:R2:=λ x y H Q=>∃ z i c,x=.str z/\y=.int i/\z.length<=qy/\kH z.cps.toList i=qq c/\Q (.str ⟨#[c]⟩) H
theorem aOG:lP X (aWC X.K):=by
 intro value iX aB s σ H x y v u Q I rx ry h hs;obtain⟨p,xs,i,z,rfl,rfl,hq,he,q⟩:=h;cases rx;obtain⟨t,rfl⟩:=ry;obtain⟨aG,r,pl,hz⟩:=I.list hq;obtain⟨j,h1,h2,h3,h4,h5⟩:=aCj he;obtain⟨w,ew,rw'⟩:=r.get h2;have hl:=r.length;have hn:=mF;have bR:EP X aB σ Q w s:=⟨z,H,I,rw',q⟩
 by_cases h0:0<=i
 ·have hj:i.toNat=j:=by
   rw[seqIndex_of h0 h5] at h1;exact Option.some.inj h1
  exact item_listR pl.isList h0 (by omega) (by rw[hj];simpa using ew) bR hs
 ·have hj:(i+(aG.toArray.size:Int)).toNat=j:=by
   rw[seqIndex_neg (by omega) h4] at h1
   rw[yAg,<- hl];exact Option.some.inj h1
  exact subscriptTail_builtinR (x:=w) pl.isList.typeIs slot_list_getitem.lookup
   (wpAny_getItem_list_neg (Q:=λ r s'=>r=w/\EP X aB σ Q r s') pl.isList (by omega) (by rw[yAg]<;>omega) (by omega) (by rw[hj];simpa using ew) ⟨rfl,bR⟩) hs
theorem aSF:lP X (aWL X.K):=by
 intro value iX aB s σ H x y v u Q I rx ry h hs;obtain⟨p,xs,i,z,rfl,rfl,hq,he,q⟩:=h;cases rx;obtain⟨t,rfl⟩:=ry;obtain⟨aG,r,pl,hz⟩:=I.tuple hq;obtain⟨j,h1,h2,h3,h4,h5⟩:=aCj he;obtain⟨w,ew,rw'⟩:=r.get h2;have hl:=r.length;have hn:=mF;have bR:EP X aB σ Q w s:=⟨z,H,I,rw',q⟩;exact subscriptTail_builtinR (x:=w) pl.typeIs slot_tuple_getitem.lookup
  (getItem_tuple (j:=j) (Q:=λ r s'=>r=w/\EP X aB σ Q r s') pl (by omega) (by omega) (by rw[yAg,<- hl];exact h1) (by simpa using ew) ⟨rfl,bR⟩) hs
theorem aR8:lP X aV1:=by
 intro value iX aB s σ H x y v u Q I rx ry h hs;obtain⟨z,i,c,rfl,rfl,hz,he,q⟩:=h;obtain⟨t,rfl⟩:=rx;obtain⟨t',rfl⟩:=ry;obtain⟨j,h1,h2,h3,h4,h5⟩:=aCj he;have hl:z.cps.toList.length=z.length:=by simp[Str.length]
 rw[hl] at h1 h4 h5;have hn:=mF;exact tail_any (typeIs_str s z t) slot_str_getitem.lookup (getItem_str (c:=c) (by
  have e1:decide (i < -(2^63:Int))=false:=dqF (by omega)
  have e2:decide (i ≥ 2^63)=false:=dqF (by omega)
  rw[e1,e2,yFf]) (by rw[h1];simpa using h2) ⟨.str ⟨#[c]⟩,H,I.tok _,⟨_,rfl⟩,q⟩) hs
theorem aLJ(aG:List qx)(n j:Nat)(u:qx):Obj.mapSeq (·.setIfInBounds j u) {cls:=.type "list",data:=.seq aG.toArray n }={cls:=.type "list",data:=.seq (aG.set j u).toArray n }:=by
 simp[Obj.mapSeq]
theorem Inv.lst{aB:List (qv×Obj)}{σ:St}{H:Hp}{s:qj}{p:qv}{xs:List V}(I:Inv X aB σ H s)(h:H p=qq (.lst xs)) :
 ∃ (aG:List qx) (n:Nat),aS xs aG/\s.heap.get? p=qq {cls:=.type "list",data:=.seq aG.toArray n }/\xs.length<=qy:=by
 obtain⟨z,aG,n,r,e⟩:=I.hok p _ h;exact⟨aG,n,r,e,z⟩
theorem Inv.lstUpd{aB:List (qv×Obj)}{σ:St}{H:Hp}{s:qj}{p:qv}{xs ys:List V}{aG its':List qx}{n n':Nat}{f:Obj->Obj}(I:Inv X aB σ H s)(h:H p=qq (.lst xs))
 (ho:s.heap.get? p=qq {cls:=.type "list",data:=.seq aG.toArray n }) (hf:f {cls:=.type "list",data:=.seq aG.toArray n }={cls:=.type "list",data:=.seq its'.toArray n' }) (r:aS ys its') (hz:ys.length<=qy) (t:Nat) :
 Inv X aB σ (bD H p (.lst ys)) {s with heap:=s.heap.update p f,toks:=t }:=by
 have e:(s.heap.update p f).get? p=qq {cls:=.type "list",data:=.seq its'.toArray n' }:=by
  rw[yDl f ho (by rw[hf]<;>rfl),hf]
 refine I.write (x:=p) (e:=p) (by rw[h];trivial) (.inl rfl) (λ b u hb q=>(yBy _ _ (Ne.symm hb)).trans q) ⟨_,e⟩ ?_
 exact⟨hz,its',n',r,e⟩
noncomputable def aJh:V->V->V->Hp->(Hp->Prop)->Prop:=λ o i v H Q=>∃ p xs k j,o=.ref p/\i=.int k/\H p=qq (.lst xs)/\hU xs.length k=qq j/\Q (bD H p (.lst (xs.set j v)))
theorem aNM:aJ1 X aJh:=by
 intro aB s σ H o i v ov iv u Q I ro ri rv h;obtain⟨p,xs,k,j,rfl,rfl,hp,hj,q⟩:=h;cases ro;obtain⟨t,rfl⟩:=ri;obtain⟨aG,n,r,ho,hz⟩:=I.lst hp;obtain⟨h1,h2,h3,h4⟩:=aHe hj;have hl:=r.length;have hn:=mF;have I':Inv X aB σ (bD H p (.lst (xs.set j v))) {s with heap:=s.heap.update p (Obj.mapSeq (·.setIfInBounds j u)) }:=
  I.lstUpd hp ho (aLJ aG n j u) (r.set rv j) (by rw[yAy];exact hz) s.toks
 by_cases h0:0<=k
 ·have hk:k.toNat=j:=by
   rw[seqIndex_of h0 h4] at h1;exact Option.some.inj h1
  exact PySem.W.ki_setAt ho h0 (by omega) (by rw[yAg,<- hl];exact h4) (by rw[hk];exact⟨_,I',q⟩)
 ·have hk:(k+(aG.toArray.size:Int)).toNat=j:=by
   rw[seqIndex_neg (by omega) h3] at h1
   rw[yAg,<- hl];exact Option.some.inj h1
  exact PySem.W.ki_setBack ho (by omega) (by rw[yAg,<- hl];exact h3) (by omega) (by rw[hk];exact⟨_,I',q⟩)
theorem aLi(lo hi:Option Int)(n:Nat):(vj lo hi qz n).1=((HT.sIx n 0 lo:Nat):Int)/\(vj lo hi qz n).2.1=((HT.sIx n n hi:Nat):Int)/\(vj lo hi qz n).2.2=1:=by
 refine⟨?_,?_,rfl⟩
 ·cases lo with
  | none=>simp[vj,HT.sIx]
  | some i =>
    simp only[vj,HT.sIx,yGx,show(1:Int)>0 by decide,if_true]
    by_cases h:i<0
    ·simp only[h,if_true]<;>omega
    ·simp only[h,if_false]<;>omega
 ·cases hi with
  | none=>simp[vj,HT.sIx]
  | some i =>
    simp only[vj,HT.sIx,yGx,show(1:Int)>0 by decide,if_true]
    by_cases h:i<0
    ·simp only[h,if_true]<;>omega
    ·simp only[h,if_false]<;>omega
theorem aK6(aG:List qx)(lo hi:Option Int):slicePick aG.toArray lo hi qz=((aG.drop (HT.sIx aG.length 0 lo)).take (HT.sIx aG.length aG.length hi-HT.sIx aG.length 0 lo)).toArray:=by
 obtain⟨h1,h2,h3⟩:=aLi lo hi aG.toArray.size;unfold slicePick;rw[h1,h2,h3];simp only[sliceRange_one,pick_run,yAg]<;>rfl
noncomputable def aV9(K:FrG):V->Option Int->Option Int->Hp->VK->Prop:=λ x lo hi H Q=>∃ a xs,x=.ref a/\bM K H a xs/\∀ p,H p=qz->Q (.ref p) (bD H p (.lst (mR xs lo hi)))
theorem aPc:oQ X (aV9 X.K):=by
 intro aB s σ H x v vl vu lo hi sl Q I rx hs pl pu h;obtain⟨a,xs,rfl,hx,q⟩:=h;cases rx;obtain⟨aG,r,ht,hz⟩:=I.list hx;have bZ:=r.length;refine⟨"list",_,slot_list_getitem.lookup,ht.isList.typeIs,?_⟩;refine wpAny_getItem_list_slice ht.isList hs pl pu .none (by simp) ?_ (by rw[yAg]<;>omega)
 rw[aK6,<- bZ];refine⟨.ref s.heap.objs.size,_,I.laid (t':=s.toks) (o:=.lst (mR xs lo hi)) (λ b ob q=>hpS _ q) (yAb _) ?_,rfl,q _ (I.hok.fresh (yAb _))⟩
 exact⟨xAi (aE1 xs lo hi) hz,_,0,(r.drop (HT.sIx xs.length 0 lo)).take (HT.sIx xs.length xs.length hi-HT.sIx xs.length 0 lo),xAe _ rfl⟩
noncomputable def lE:V->Bool
 | .non=>true
 | .bl _=>true
 | .int _=>true
 | .str _=>true
 | _=>false
noncomputable def mX:V->V->Bool
 | .non,.non=>true
 | .bl a,.bl b=>a==b
 | .bl a,.int b=>(if a then 1 else 0)==b
 | .int a,.bl b=>a==(if b then 1 else 0)
 | .int a,.int b=>a==b
 | .str a,.str b=>a==b
 | _,_=>false
theorem aQK{A:zv}{s:qj}{y x:V}{u v:qx}(ry:bC y u)(rx:bC x v)(fy:lE y=true)(fx:lE x=true):SeqAt.EqAt A s u v (mX y x):=by
 cases y with
 | non =>
   cases ry;cases x with
   | non=>cases rx;exact SeqAt.EqAt.same _
   | bl b=>cases rx;exact SeqAt.EqAt.none_bool b
   | int b=>obtain⟨t,rfl⟩:=rx;exact SeqAt.EqAt.none_int b t
   | str b=>obtain⟨t,rfl⟩:=rx;exact SeqAt.EqAt.none_str b t
   | _=>exact absurd (show false=true from fx) yBe
 | bl a =>
   cases ry;cases x with
   | non=>cases rx;exact SeqAt.EqAt.bool_none a
   | bl b=>cases rx;exact SeqAt.EqAt.bool_bool a b
   | int b=>obtain⟨t,rfl⟩:=rx;exact SeqAt.EqAt.bool_int a b t
   | str b=>obtain⟨t,rfl⟩:=rx;exact SeqAt.EqAt.bool_str a b t
   | _=>exact absurd (show false=true from fx) yBe
 | int a =>
   obtain⟨t',rfl⟩:=ry;cases x with
   | non=>cases rx;exact SeqAt.EqAt.int_none a t'
   | bl b=>cases rx;exact SeqAt.EqAt.int_bool a t' b
   | int b=>obtain⟨t,rfl⟩:=rx;exact SeqAt.EqAt.int_int a t' b t
   | str b=>obtain⟨t,rfl⟩:=rx;exact SeqAt.EqAt.int_str a t' b t
   | _=>exact absurd (show false=true from fx) yBe
 | str a =>
   obtain⟨t',rfl⟩:=ry;cases x with
   | non=>cases rx;exact SeqAt.EqAt.str_none a t'
   | bl b=>cases rx;exact SeqAt.EqAt.str_bool a t' b
   | int b=>obtain⟨t,rfl⟩:=rx;exact SeqAt.EqAt.str_int a t' b t
   | str b=>obtain⟨t,rfl⟩:=rx;exact SeqAt.EqAt.str_str a t' b t
   | _=>exact absurd (show false=true from fx) yBe
 | _=>exact absurd (show false=true from fy) yBe
noncomputable def gX(x:V)(u:qx):Bool:=match u with
 | .none=>mX .non x
 | .bool b=>mX (.bl b) x
 | .int i _=>mX (.int i) x
 | .str z _=>mX (.str z) x
 | _=>false
theorem aIH{x y:V}{u:qx}(r:bC y u)(f:lE y=true):gX x u=mX y x:=by
 cases y with
 | non=>cases r;rfl
 | bl b=>cases r;rfl
 | int i=>obtain⟨t,rfl⟩:=r;rfl
 | str z=>obtain⟨t,rfl⟩:=r;rfl
 | _=>exact absurd (show false=true from f) yBe
theorem uF{x:V}:∀ {xs:List V}{us:List qx},aS xs us->xs.all lE=true->us.any (gX x)=xs.any λ y=>mX y x
 | _,_,.nil,_=>rfl
 | y::xs,u::us,.cons r t,f=>by
   rw[List.all_cons,yAk] at f;rw[List.any_cons,List.any_cons,aIH r f.1,uF t f.2]
theorem uB{A:zv}{s:qj}{x:V}{v:qx}(rx:bC x v)(fx:lE x=true):∀ {xs:List V}{us:List qx},aS xs us->xs.all lE=true->∀ u∈us,SeqAt.EqAt A s u v (gX x u)
 | _,_,.nil,_=>λ u hu=>by cases hu
 | y::xs,u::us,.cons r t,f=>λ u' hu=>by
   rw[List.all_cons,yAk] at f;rcases List.mem_cons.mp hu with rfl | hu
   ·rw[aIH r f.1];exact aQK r rx f.1 fx
   ·exact uB rx fx t f.2 u' hu
noncomputable def tG(x:V)(xs:List V):Bool:=xs.any λ y=>mX y x
noncomputable def rIn(K:FrG)(neg:Bool):R2:=λ x y H Q=>∃ p xs,y=.ref p/\(bM K H p xs\/bS K H p xs)/\lE x=true/\xs.all lE=true/\Q (.bl (if neg then !tG x xs else tG x xs)) H
theorem aMz:cO X (xk .In) (rIn X.K false):=by
 intro aB s σ H x y v u Q I rx ry h;obtain⟨p,xs,rfl,hq,fx,fs,q⟩:=h;cases ry;rcases hq with hq | hq
 ·obtain⟨aG,r,pl,hz⟩:=I.list hq;refine SeqAt.in_listAt (gX x) pl.isList (λ w hw=>uB rx fx r fs w (by simpa using hw)) ⟨.bl _,H,I,rfl,?_⟩
  rw[show aG.toArray.any (gX x)=aG.any (gX x) by simp,uF r fs]
  exact q
 ·obtain⟨aG,r,pl,hz⟩:=I.tuple hq;refine SeqAt.in_tupleAt (gX x) pl (λ w hw=>uB rx fx r fs w (by simpa using hw)) ⟨.bl _,H,I,rfl,?_⟩
  rw[show aG.toArray.any (gX x)=aG.any (gX x) by simp,uF r fs]
  exact q
theorem aLg:cO X (xk .NotIn) (rIn X.K true):=by
 intro aB s σ H x y v u Q I rx ry h;obtain⟨p,xs,rfl,hq,fx,fs,q⟩:=h;cases ry;rcases hq with hq | hq
 ·obtain⟨aG,r,pl,hz⟩:=I.list hq;refine SeqAt.notIn_listAt (gX x) pl.isList (λ w hw=>uB rx fx r fs w (by simpa using hw)) ⟨.bl _,H,I,rfl,?_⟩
  rw[show aG.toArray.any (gX x)=aG.any (gX x) by simp,uF r fs]
  exact q
 ·obtain⟨aG,r,pl,hz⟩:=I.tuple hq;refine SeqAt.notIn_tupleAt (gX x) pl (λ w hw=>uB rx fx r fs w (by simpa using hw)) ⟨.bl _,H,I,rfl,?_⟩
  rw[show aG.toArray.any (gX x)=aG.any (gX x) by simp,uF r fs]
  exact q
theorem aEO:dO X (.builtin "len") (λ xs H Q=>∃ p ys,xs=[.ref p]/\(bM X.K H p ys\/bS X.K H p ys)/\Q (.int ys.length) H):=by
 intro aB s σ H xs us Q I r h;obtain⟨p,ys,rfl,hq,q⟩:=h;obtain⟨u,rfl,rx⟩:=iR r;cases rx;have hn:=mF;rcases hq with hq | hq
 ·obtain⟨aG,r',pl,hz⟩:=I.list hq;have bZ:=r'.length;exact Calls.call_len_list pl.isList (by simp only[yAg]<;>omega) ⟨.int ys.length,H,I.tok _,⟨s.toks+1,by rw[yAg,bZ]⟩,q⟩
 ·obtain⟨aG,r',pl,hz⟩:=I.tuple hq;have bZ:=r'.length;exact len_tuple pl (by simp only[yAg]<;>omega) ⟨.int ys.length,H,I.tok _,⟨s.toks+1,by rw[yAg,bZ]⟩,q⟩
theorem aLk:dO X (.builtin "len") (λ xs H Q=>∃ z,xs=[.str z]/\z.length<=qy/\Q (.int z.length) H):=by
 intro aB s σ H xs us Q I r h;obtain⟨z,rfl,hz,q⟩:=h;obtain⟨u,rfl,t,rfl⟩:=iR r;have hn:=mF;exact len_str (by omega) ⟨.int z.length,H,I.tok _,⟨_,rfl⟩,q⟩
theorem dO.or{f:qx}{r r':List V->Hp->VK->Prop}(h:dO X f r)(h':dO X f r'):dO X f (λ xs H Q=>r xs H Q\/r' xs H Q):=by
 intro aB s σ H xs us Q I rs q;rcases q with q | q
 ·exact h aB s σ H xs us Q I rs q
 ·exact h' aB s σ H xs us Q I rs q
theorem aLf:dO X (.type "list") (λ xs H Q=>∃ p ys,xs=[.ref p]/\(bM X.K H p ys\/bS X.K H p ys)/\∀ l,H l=qz->Q (.ref l) (bD H l (.lst ys))):=by
 intro aB s σ H xs us Q I r h;obtain⟨p,ys,rfl,hq,q⟩:=h;obtain⟨u,rfl,rx⟩:=iR r;cases rx;have bR:∀ (aG:List qx),aS ys aG->ys.length<=qy->∀ (h':Heap) (c':Nat),(∀ b o',s.heap.get? b=qq o'->h'.get? b=qq o') ->
  h'.get? s.heap.objs.size=qq {cls:=.type "list",dict:=qz,data:=.seq aG.toArray c',slots:=#[] }->EP X aB σ Q (.ref s.heap.objs.size) {s with heap:=h' }:=λ aG r' hz h' c' kp e =>
  ⟨.ref s.heap.objs.size,_,I.laid (t':=s.toks) kp (yAb _) (show gO X.prog X.w _ h' _ (.lst ys) from ⟨hz,aG,c',r',e⟩),rfl,q _ (I.hok.fresh (yAb _))⟩
 rcases hq with hq | hq
 ·obtain⟨aG,r',pl,hz⟩:=I.list hq;have bZ:=r'.length;obtain⟨o,ho,hc,n,hd⟩:=pl.isList;exact call_list_seq p (.inl rfl) ho hc hd (λ h' c' kp e=>bR aG r' hz h' c' kp e) (by simp only[yAg]<;>omega)
 ·obtain⟨aG,r',pl,hz⟩:=I.tuple hq;have bZ:=r'.length;obtain⟨o,ho,hc,n,hd⟩:=pl;exact call_list_seq p (.inr rfl) ho hc hd (λ h' c' kp e=>bR aG r' hz h' c' kp e) (by simp only[yAg]<;>omega)
theorem aEv:dO X (.type "tuple") (λ xs H Q=>∃ p ys,xs=[.ref p]/\((bM X.K H p ys/\∀ l,H l=qz->Q (.ref l) (bD H l (.tup ys)))\/(bS X.K H p ys/\Q (.ref p) H))):=by
 intro aB s σ H xs us Q I r h;obtain⟨p,ys,rfl,h⟩:=h;obtain⟨u,rfl,rx⟩:=iR r;cases rx;rcases h with ⟨hq,q⟩ | ⟨hq,q⟩
 ·obtain⟨aG,r',pl,hz⟩:=I.list hq;have bZ:=r'.length;refine call_tuple_list pl.isList (λ h' kp=>?_) (by simp only[yAg]<;>omega)
  have I1:Inv X aB σ H {s with heap:=h' }:=I.kept (t':=s.toks) kp
  have I2:Inv X aB σ (bD H h'.objs.size (.tup ys)) {s with heap:=h'.push {cls:=.type "tuple",data:=.seq aG.toArray } }:=
   I1.laid (t':=s.toks) (λ b o e=>hpS _ e) (yAb _) (show gO X.prog X.w _ _ _ (.tup ys) from ⟨hz,aG,r',IsTup.new _ _⟩)
  exact⟨.ref h'.objs.size,_,I2,rfl,q _ (I1.hok.fresh (yAb _))⟩
 ·obtain⟨aG,r',pl,hz⟩:=I.tuple hq;exact call_tuple_same pl ⟨.ref p,H,I,rfl,q⟩
def tyV(K:FrG)(T:String)(x:V)(H:Hp):Prop:=match x with
 | .str _=>T = "str"
 | .int _=>T = "int"
 | .ref p=>(T = "list" /\ ∃ xs,bM K H p xs)\/(T = "tuple" /\ ∃ o,K.lookup p=qq o/\o.cls=.type "tuple" /\ o.dict=qz) \/
    (T = "dict" /\ ((∃ aZ,H p=qq (.dK aZ))\/∃ aZ,H p=qq (.dT aZ)))\/(T = "set" /\ ∃ S n,H p=qq (.set S n))
 | _=>False
theorem aIh{aB:List (qv×Obj)}{σ:St}{H:Hp}{s:qj}{T:String}{x:V}{v:qx}(I:Inv X aB σ H s)(r:bC x v)(ty:tyV X.K T x H) :
 s.TypeIs v T/\∀ a,v=.ref a->∃ ob,s.heap.get? a=qq ob/\ob.dict=qz:=by
 cases x with
 | str z =>
   obtain⟨t,rfl⟩:=r;cases (show T = "str" from ty)
   exact⟨typeIs_str s z t,λ _ e=>nomatch e⟩
 | int i =>
   obtain⟨t,rfl⟩:=r;cases (show T = "int" from ty)
   exact⟨yx s i t,λ _ e=>nomatch e⟩
 | ref p =>
   cases r;rcases ty with ⟨rfl,xs,hq⟩ | ⟨rfl,o,hk,hc,hd⟩ | ⟨rfl,hk⟩ | ⟨rfl,S,n,hk⟩
   ·obtain⟨aG,_,pl,_⟩:=I.list hq;refine⟨pl.isList.typeIs,λ a e=>?_⟩
    cases e;obtain⟨o,n,e,c,hd,_⟩:=pl;exact⟨o,e,hd⟩
   ·refine⟨⟨o,I.kIn p o hk,hc⟩,λ a e=>?_⟩
    cases e;exact⟨o,I.kIn _ o hk,hd⟩
   ·have z:∃ o,s.heap.get? p=qq o/\o.ExactDict:=by
     rcases hk with ⟨aZ,hk⟩ | ⟨aZ,hk⟩
     ·obtain⟨_,_,_,_,o,_,_,e,ex,_⟩:=I.hok p _ hk;exact⟨o,e,ex⟩
     ·obtain⟨_,_,_,_,o,_,_,e,ex,_⟩:=I.hok p _ hk;exact⟨o,e,ex⟩
    obtain⟨o,e,ex⟩:=z;refine⟨⟨o,e,ex.1⟩,λ a e2=>?_⟩
    cases e2;exact⟨o,e,ex.2.1⟩
   ·obtain⟨o,_,_,_,e,ex,_⟩:=I.hok p _ hk;refine⟨⟨o,e,ex.1⟩,λ a e2=>?_⟩
    cases e2;exact⟨o,e,ex.2.1⟩
 | _=>exact False.elim ty
def aVV(K:FrG)(T:String)(r:V->List V->Hp->VK->Prop)(to:TE):TE:=λ σ H Q=>to σ H λ x H1=>tyV K T x H1/\r x [] H1 Q
def tBM(K:FrG)(T:String)(r:V->List V->Hp->VK->Prop)(to:TE)(t:TA):TE:=λ σ H Q=>to σ H λ x H1=>tyV K T x H1/\t σ H1 λ xs H2=>r x xs H2 Q
variable {o e : qw}{es : List qw}{to : TE}{t : TA}{name : Str}{apos cpos : Pos}{T id : String}{r : V -> List V -> Hp -> VK -> Prop}
theorem aSQ(pa:PlainAttrs T)(slot:Slot T name id)(hty:typeOf (.builtin id)=pure (.type "method_descriptor"))(hm:nC X id r)(ho:PE X o to)
 (hbase:attributeBase o name X.env (eval o X.env)=eval o X.env:=by rfl) (hline:(apos.endLine==cpos.line)=true:=by rfl):PE X (.Call (.Attribute o name apos) [] [] cpos) (aVV X.K T r to):=by
 intro aB s σ H Q I h;refine wpAny_Call_method0_late hbase hline (bE (ho aB s σ H _ I h) λ v s1 hPq30=>?_)
 obtain⟨x,H1,I1,r1,ty,q1⟩:=hPq30;obtain⟨h1,h2⟩:=aIh I1 r1 ty;exact⟨T,id,pa,slot,hty,h1,h2,Calls.callWith_builtin rfl (PySem.evalArgs_none (hm aB s1 σ H1 x [] v [] Q I1 r1 .nil q1))⟩
theorem aDj(pa:PlainAttrs T)(slot:Slot T name id)(hty:typeOf (.builtin id)=pure (.type "method_descriptor"))(hm:nC X id r)(ho:PE X o to)(ha:PA X (e::es) t)
 (hbase:attributeBase o name X.env (eval o X.env)=eval o X.env:=by rfl)
 (hfew:((backTo cpos (qo (e::es) X.env)).all (λ x=>!x.1)&&(backToKw cpos (keywordEach [] X.env)).all (λ x=>x.1.isSome)
   && decide ((e::es).length+([]:List Keyword).length+(if ([]:List Keyword).isEmpty then 0 else 1)<30))=true:=by rfl)
 (hline:(apos.endLine==cpos.line)=true:=by rfl) (hs:qo (e::es) X.env=(false,eval e X.env)::qo es X.env:=by rfl) (hplain:(backTo cpos (qo es X.env)).any (·.1)=false:=by rfl) :
 PE X (.Call (.Attribute o name apos) (e::es) [] cpos) (tBM X.K T r to t):=by
 intro aB s σ H Q I h;refine wpAny_Call_method_late hbase hfew hline rfl (bE (ho aB s σ H _ I h) λ v s1 hPq31=>?_)
 obtain⟨x,H1,I1,r1,ty,q1⟩:=hPq31;obtain⟨h1,h2⟩:=aIh I1 r1 ty;refine⟨T,id,pa,slot,hty,h1,h2,?_⟩;have hA:=ha cpos aB s1 σ H1 _ I1 q1;rw[hs] at hA ⊢;refine Calls.callWith_builtin (by show(false||(backTo cpos (qo es X.env)).any (·.1))=false;rw[hplain]<;>rfl) (Calls.evalArgs_plain ?_)
 exact bE hA λ us s2 ⟨vs,H2,I2,r2,q2⟩=>hm aB s2 σ H2 x vs v us Q I2 r1 r2 q2
end
end L2
namespace L2
open PySem PySem.Spec PyProof.Rows
def MtM(X:Cx)(id:String)(r:V->List V->Hp->VK->Prop):Prop:=
 ∀ (aB:List (qv×Obj)) (s:qj) (σ:St) (H:Hp) (x:V) (xs:List V) (v:qx) (us:List qx) (Q:VK),Inv X aB σ H s->bC x v->aS xs us->r x xs H Q ->
  qk (model X.prog X.w) X.A (call (.builtin id) (v::us)) (EP X aB σ Q) X.xe s
theorem aS.one:∀ {x:V}{us:List qx},aS [x] us->∃ u,us=[u]/\bC x u
 | _,_,.cons r .nil=>⟨_,rfl,r⟩
theorem aS.two:∀ {x y:V}{us:List qx},aS [x,y] us->∃ u v,us=[u,v]/\bC x u/\bC y v
 | _,_,_,.cons r (.cons q .nil)=>⟨_,_,rfl,r,q⟩
theorem aS.zero:∀ {us:List qx},aS [] us->us=[]
 | _,.nil=>rfl
theorem aS.eraseIdx:∀ {xs:List V}{us:List qx} (i:Nat),aS xs us->aS (xs.eraseIdx i) (us.eraseIdx i)
 | _,_,_,.nil=>.nil
 | _,_,0,.cons _ t=>t
 | _,_,i+1,.cons r t=>.cons r (aS.eraseIdx i t)
theorem aS.reverse{xs:List V}{us:List qx}(h:aS xs us):aS xs.reverse us.reverse:=by
 induction h with
 | nil=>exact .nil
 | cons r t ih=>rw[yFq,yFq];exact aS.append ih (.cons r .nil)
theorem aS.rep{xs:List V}{us:List qx}(h:aS xs us):∀ k:Nat,aS (yAc k xs).flatten (yAc k us).flatten
 | 0=>.nil
 | k+1=>by
   rw[yAx,yAx,yDa,yDa];exact aS.append h (aS.rep h k)
theorem aFr{α:Type}:∀ (l:List α) (i:Nat),(l.eraseIdx i).length<=l.length
 | [],_=>yAb _
 | _::_,0=>Nat.le_succ _
 | _::r,i+1=>Nat.succ_le_succ (aFr r i)
theorem yQ(aG:List qx):∀ (k:Nat) (aC:List qx),
 List.foldl (λ x1 x2=>x1++x2) aC.toArray (yAc k aG.toArray)=(aC++(yAc k aG).flatten).toArray
 | 0,aC=>by simp
 | k+1,aC=>by
   have e:aC.toArray++aG.toArray=(aC++aG).toArray:=by simp
   have e2:(aC++aG)++(yAc k aG).flatten=aC++(yAc (k+1) aG).flatten:=by
    rw[yAx,yDa,yAq]
   rw[<- e2,<- yQ aG k (aC++aG),<- e,yAx,yBl]
section
variable {X : Cx}{aB : List (qv×Obj)}{σ : St}{H : Hp}{s : qj}{l b : qv}{xs ys zs : List V}
theorem Inv.lset{aG its':List qx}{n:Nat}{f:Array qx->Array qx}{t':Nat}(I:Inv X aB σ H s)(hH:H l=qq (.lst xs))
 (e:s.heap.get? l=qq {cls:=.type "list",data:=.seq aG.toArray n }) (hf:f aG.toArray=its'.toArray) (hv:aS ys its') (hz:ys.length<=qy) :
 Inv X aB σ (bD H l (.lst ys)) {s with heap:=s.heap.update l (Obj.mapSeq f),toks:=t' }:=by
 have q:=PySem.IsL.update e f;rw[hf] at q;refine I.write (x:=l) (e:=l) (by rw[hH];exact trivial) (.inl rfl) (λ b' u hb hu=>(yBy s.heap (Obj.mapSeq f) (Ne.symm hb)).trans hu) ⟨_,q⟩ ?_
 exact⟨hz,its',_,hv,q⟩
theorem Inv.lnew{aG:List qx}{t':Nat}(I:Inv X aB σ H s)(hv:aS ys aG)(hz:ys.length<=qy) :
 Inv X aB σ (bD H s.heap.objs.size (.lst ys)) {s with heap:=s.heap.push {cls:=.type "list",data:=.seq aG.toArray },toks:=t' }:=
 I.laid (λ _ _ q=>hpS _ q) (yAb _) ⟨hz,aG,0,hv,xAe _ rfl⟩
theorem Inv.fresh(I:Inv X aB σ H s):H s.heap.objs.size=qz:=I.hok.fresh (yAb _)
theorem Inv.lstM(I:Inv X aB σ H s)(hH:H l=qq (.lst xs)):xs.length<=qy/\∃ (aG:List qx) (n:Nat),aS xs aG/\xs.length=aG.length/\s.heap.get? l=qq {cls:=.type "list",data:=.seq aG.toArray n }:=by
 obtain⟨z,aG,n,r,e⟩:=I.hok l _ hH;exact⟨z,aG,n,r,r.length,e⟩
end
section
variable {X : Cx}
noncomputable def aHw:V->List V->Hp->VK->Prop:=λ x vs H Q=>∃ l xs y,x=.ref l/\vs=[y]/\H l=qq (.lst xs)/\xs.length<qy/\Q .non (bD H l (.lst (xs++[y])))
theorem aFz:MtM X "list.append" aHw:=by
 intro aB s σ H x vs v us Q I rx rv h;obtain⟨l,xs,y,rfl,rfl,hH,hz,q⟩:=h;cases rx;obtain⟨u,rfl,ru⟩:=rv.one;obtain⟨z,aG,n,r,hl,e⟩:=I.lstM hH;refine jv F.slot_list_append ⟨_,e,rfl⟩ F.entry_list_append (F.args_list_append_2 _ _) (PySem.list_append l aG.toArray n u (by rw[yAg];omega)) ⟨e,?_⟩
 refine⟨.non,_,I.lset (its':=aG++[u]) hH e (by simp) (r.append (.cons ru .nil)) ?_,rfl,q⟩
 rw[xAo,yEh];omega
noncomputable def aIG:V->List V->Hp->VK->Prop:=λ x vs H Q=>∃ l xs i k y,x=.ref l/\vs=[.int i]/\H l=qq (.lst xs) /\ -(2^63)<=i/\i<2^63/\seqIndex? i xs.length=qq k/\xs[k]? = qq y/\Q y (bD H l (.lst (xs.eraseIdx k)))
theorem aNn:MtM X "list.pop" aIG:=by
 intro aB s σ H x vs v us Q I rx rv h;obtain⟨l,xs,i,k,y,rfl,rfl,hH,h1,h2,hk,hy,q⟩:=h;cases rx;obtain⟨u,rfl,ru⟩:=rv.one;obtain⟨t,rfl⟩:=ru;obtain⟨z,aG,n,r,hl,e⟩:=I.lstM hH;obtain⟨w,hw,rw'⟩:=r.get hy;refine jv F.slot_list_pop ⟨_,e,rfl⟩ F.entry_list_pop (F.args_list_pop_2 _ _)
  (MeetsSeq.list_pop_at l aG.toArray n i t k w (fitsIndex_both h1 h2) (by rw[yAg,<- hl];exact hk) (by rw[<- Array.getElem?_toList];exact hw) (by rw[yAg];omega)) ⟨e,?_⟩
 refine⟨y,_,I.lset (its':=aG.eraseIdx k) hH e ?_ (r.eraseIdx k) ?_,rw',q⟩
 ·show aG.toArray.eraseIdxIfInBounds k=(aG.eraseIdx k).toArray;rw[List.eraseIdxIfInBounds_toArray]
 ·have:=aFr xs k;omega
theorem aPm{α:Type}(xs:List α)(k:Nat):(yAc k xs).flatten.length=k*xs.length:=by
 induction k with
 | zero=>simp
 | succ k ih=>rw[yAx,yDa,xAo,ih,Nat.succ_mul,yDm]
end
section
variable {prog : qu}{w : zq}{A : zv}{E : qx -> qj -> Prop}{s : qj}
end
section
variable {X : Cx}
end
end L2
namespace Att
open PySem PySem.W PySem.Calls PyProof.Rows
theorem aKV{P:Params}{h:Heap}:∀ (ns:List Int) (vs:List qx),WellAll P h vs (ns.map WData.int)->IntsAre vs ns:=by
 intro ns
 induction ns with
 | nil =>
   intro vs w;rw[yFa] at w;cases w;exact .nil
 | cons n ns ih =>
   intro vs w;rw[yAt] at w;cases w with
   | cons a b =>
     cases a;exact .cons _ _ (ih _ b)
theorem script_of{l:OpenLaw}{n:Nat}(hn:l.most=qq n){P:Params}{h:Heap}{args:List WData}{vals:List qx}
 (hpre:l.row.toRowW.claim.pre args=true) (hwl:WellAll P h vals args) :
 ∃ a vs ns,vals=[Value.ref a]/\args=[WData.list (ns.map WData.int)]/\h.get? a=qq {cls:=.type "list",data:=.seq vs.toArray }/\IntsAre vs ns/\ns.length<=n:=by
 have hsh:WShape.hasAll [] args [.list .int]=true:=(pre_splitW hpre).1;have hc:l.pre.holds [] {args:=args }=true:=(pre_splitW hpre).2;obtain⟨d,r,rfl,h1,h2⟩:=hasAllW_cons hsh;obtain rfl:=hasAllW_nil h2;obtain⟨xs,rfl,h3⟩:=hasW_list h1;obtain⟨ns,rfl⟩:=items_int h3;have bZ:ns.length<=n:=by
  unfold OpenLaw.pre at hc;have h4:(WTm.not (.lt (.lit (.int (n:Int))) (.len (.arg 0)))).holds [] {args:=[.list (ns.map .int)] }=true:=by
   have h4:=(holds_andW hc).1;rw[hn] at h4;exact h4
  have h5:=condW_of h4 (w_not (w_lt w_lit (w_len_list (w_arg rfl))));rw[yAd] at h5;refine yFz λ q=>?_
  have q':(n:Int)<((ns.length:Nat):Int):=by omega
  first
   | (rw[dqT q'] at h5;exact absurd h5 (by decide))
   | (simp at h5;omega)
 cases hwl with
 | cons w1 w2 =>
   cases w2;cases w1 with
   | list ho hall=>exact⟨_,_,ns,rfl,rfl,ho,aKV ns _ hall,bZ⟩
theorem post_true(l:OpenLaw)(args:List WData):l.row.toRowW.claim.post args (.bool true) args=true:=
 postW_of (r:=l.row.toRowW) (X:=(true==true))
  (show WShape.has [] (.bool true) .bool=true by first | rfl | decide | simp[WShape.has,WShape.arms,WShape.armsAll])
  (show(WTm.eq .res (.lit (.bool true))).value [] {args:=args,res:=qq (.bool true),after:=args }=qq (.bool (true==true)) from w_eq_bool (w_res rfl) w_lit) rfl
theorem attach_call{l:OpenLaw}{n:Nat}{q:qu}{loose:List Str}{XP:(Str->Option qx)->Heap->Prop}{YP:zq->Heap->Prop}{d:DefRec}
 (hn:l.most=qq n) (hdf:d.params.defaults=[])
 (call:∀ (w:zq) (s₀ s₁:qj) (mg mb:Str->Option qx) (fa:qv) (o:Obj) (pm cd doc:qx) (a:qv) (vs:List qx) (ns:List Int),
   Ground q loose [] XP w s₀ mg mb s₁.heap->YP w s₁.heap ->
   s₁.heap.get? fa=qq o->o.data=.func (docDef d.name d.params d.body d.scope pm cd doc)->s₁.heap.CodeRec cd d.name->mg d.name=qq (.ref fa) ->
   s₁.heap.get? a=qq {cls:=.type "list",data:=.seq vs.toArray }->IntsAre vs ns->ns.length<=n->s₁.gens = #[] ->
   vx (model l.prog w) callerA (.call (.ref fa) ⟨[.ref a],[]⟩) (λ r s'=>r=.ok (.ret (.bool true))/\OldK s₁.heap s'.heap/\s'.os=s₁.os/\AllBare s'.gens) s₁) :
 WalkO q loose XP YP l.row.toRowW d [] (λ f vs=>PySem.call f vs):=by
 intro w s₀ s₁ mg mb G Y fa o pm cd doc dV kV ho hd hcd hD hmg hg args vals as hpre hlay hrd hwl hlo;obtain rfl:dV=.none:=Dflts.none hD hdf;obtain rfl:kV=.none:=Dflts.noKw hD;obtain⟨a,vs,ns,rfl,rfl,hobj,hints,bZ⟩:=script_of hn hpre hwl;refine enter_call (codeAny_mono (call w s₀ s₁ mg mb fa o pm cd doc a vs ns G Y ho (fd_plain hd) hcd hmg hobj hints bZ hg) λ r s' hq=>?_)
 obtain⟨rfl,h2,h3,h4⟩:=hq;exact⟨.inl ⟨.bool true,.bool true,[],rfl,λ _=>rfl,.bool true,post_true l _,λ _=>⟨List.Pairwise.nil,λ _ hm=>(nomatch hm)⟩⟩,h2,h3,h4⟩
section
variable {prog : qu}{w : zq}{A : zv}{E : qx -> qj -> Prop}{s : qj}{K : Frag}
noncomputable def aXc(h:Heap)(L d:qv):List (qv×Obj):=(yAu h.objs.size).filterMap λ a=>if a=L\/a=d then qz else (h.get? a).map λ o=>(a,o)
end
end Att
namespace L2
open PySem PySem.Spec PyProof.Rows
theorem aFt:∀ {vs:List qx}{ns:List Int},IntsAre vs ns->aS (ns.map V.int) vs
 | _,_,.nil=>.nil
 | _,_,.cons n t h=>.cons ⟨t,rfl⟩ (aFt h)
def aDs(H:Hp):Prop:=∀ b,H b=qz\/∃ o xs,H b=qq (.frz o (.lst xs))
theorem law_call{P:qu}{w:zq}{K:FrG}{mg mb:Str->Option qx}{CX:jJ}{k:Nat}{fa a:qv}{fd:ju}{x:Str}{sp:Sp}{s₁:qj}{vs:List qx}{ns:List Int}
 (KX:K.In s₁.heap) (hns:s₁.heap.Ns xj mg) (hb:s₁.heap.Ns builtinsNs mb) (hbb:∀ x:Str,x ≠ "__name__" -> mb x=vw x) (hlim:s₁.heap.NoLimit) (hg:s₁.gens = #[])
 (ha:s₁.heap.get? a=qq {cls:=.type "list",data:=.seq vs.toArray }) (hi:IntsAre vs ns) (hl:ns.length<=qy) (hr:Room k callerA)
 (F:∀ base:Heap,K.In base->base.Ns xj mg->FnOk P w K mg base CX k fa fd [x] sp) (hbind:∀ (s:qj) (u:qx),BindsTo s fd ⟨[u],[]⟩ [(x,u)])
 (hsp:∀ H:Hp,aDs H->bM K H a (ns.map V.int)->sp [.ref a] H (λ v _=>v=.bl true) λ _ _ _=>False)
 (hCX:∀ H e s',CX [] H s₁ (λ _ _ _=>False) e s'->False) :
 vx (model P w) callerA (.call (.ref fa) ⟨[.ref a],[]⟩) (λ r s'=>r=.ok (.ret (.bool true))/\OldK s₁.heap s'.heap/\s'.os=s₁.os/\AllBare s'.gens) s₁:=by
 have rv:=aFt hi;have lenV:=hi.length;have core:∀ H:Hp,aDs H->bM K H a (ns.map V.int)->dS P w H s₁.heap->(∀ b,H b≠qz->b=a)->(H a≠qz->K.lookup a=qz) ->
  vx (model P w) callerA (.call (.ref fa) ⟨[.ref a],[]⟩) (λ r s'=>r=.ok (.ret (.bool true))/\OldK s₁.heap s'.heap/\s'.os=s₁.os/\AllBare s'.gens) s₁:=by
  intro H hO hS hok hA hK;have pH:∀ {b:qv}{o:Obj},s₁.heap.get? b=qq o->H b=qz->(mV s₁.heap H).get? b=qq o:=λ e n=>aN3 e n
  have noA:∀ {b:qv}{o:Obj}{es:Array DictEntry}{ep:Nat},s₁.heap.get? b=qq o->o.data=.dict es ep->H b=qz:=λ {b o es ep} e d=>by
   cases q:H b with
   | none=>rfl
   | some u =>
     have e':b=a:=hA b (by rw[q];simp)
     subst e';rw[ha] at e;cases e;have d':Data.seq vs.toArray _=Data.dict es ep:=d;cases d'
  have nsK:∀ {b:qv}{m:Str->Option qx},s₁.heap.Ns b m->(mV s₁.heap H).Ns b m:=λ {b m} ⟨o,es,ep,e,d,r⟩=>⟨o,es,ep,pH e (noA e d),d,r⟩
  have hKb:K.In (mV s₁.heap H):=λ b o e=>pH (KX b o e) (by
   cases q:H b with
   | none=>rfl
   | some u =>
     have e':b=a:=hA b (by rw[q];simp)
     subst e';rw[hK (by rw[q];simp)] at e;cases e)
  have hM:Mod K mg (mV s₁.heap H):=⟨hKb,nsK hns,⟨mb,nsK hb,hbb⟩,let ⟨mc,h1,h2⟩:=hlim;⟨mc,nsK h1,h2⟩⟩;have e0:Env0 P w K mg (mV s₁.heap H) callerA [] s₁ H:=⟨rfl,hM,λ b o e=>aOX e,yFx (aMj _ _),trivial,λ b hb=>absurd (show b∈([]:List qv) from hb) (by simp),hok,.of_eq hg⟩
  refine codeAny_mono ((F _ hKb (nsK hns)).run callerA [] s₁ H ⟨[.ref a],[]⟩ [.ref a] [.ref a] _ _ hr e0 (hbind s₁ (.ref a)) (.cons rfl .nil) (hsp H hO hS)) λ r s' h=>?_
  cases r with
  | error e=>exact(hCX H e s' h).elim
  | ok fl =>
    cases fl with
    | next=>exact False.elim h
    | brk=>exact False.elim h
    | cont=>exact False.elim h
    | ret u =>
      obtain⟨v,H',os,bare,un,hok',r',q⟩:=h;have q':v=.bl true:=q;subst q';obtain rfl:u=Value.bool true:=r';refine⟨rfl,OldK.of_keep λ b o e=>?_,os,bare⟩
      cases q:H b with
      | none=>exact un.keep b o e q (by intro z;exact absurd (show b∈([]:List qv) from z) (by simp)) (by simp)
      | some u =>
        rcases hO b with z | ⟨ob,xs,z⟩
        ·rw[q] at z;cases z
        ·have z2:=un.frzs b ob _ z;obtain⟨e1,_⟩:=hok b _ z;obtain⟨e2,_⟩:=hok' b _ z2;rw[e] at e1;cases e1;exact e2
 cases hk:K.lookup a with
 | some o =>
   have e:=KX a o hk;rw[ha] at e;cases e;refine core (λ _=>qz) (λ _=>.inl rfl) (.inr ⟨_,vs.toArray,_,hk,rfl,rfl,rfl,by rw[yAg,lenV];exact hl,by simpa using rv⟩) (λ b u z=>by have z':(qz:Option HO)=qq u:=z;cases z') (λ b z=>absurd rfl z) λ z=>absurd rfl z
 | none =>
   refine core (λ b=>if b=a then qq (.frz {cls:=.type "list",data:=.seq vs.toArray } (.lst (ns.map V.int))) else qz) (λ b=>?_) (.inl (.inr ⟨{cls:=.type "list",data:=.seq vs.toArray },if_pos rfl⟩)) (λ b u z=>?_) (λ b z=>?_) λ _=>hk
   ·by_cases hb:b=a
    ·exact .inr ⟨_,_,if_pos hb⟩
    ·exact .inl (if_neg hb)
   ·by_cases hb:b=a
    ·have z':=(if_pos hb).symm.trans z;cases z';subst hb;exact⟨ha,by rw[yAd];exact hl,vs,_,rv,ha⟩
    ·have z':=(if_neg hb).symm.trans z;cases z'
   ·by_cases hb:b=a
    ·exact hb
    ·exact absurd (if_neg hb) z
end L2
namespace L2
open PySem PySem.Spec PyProof.Rows
noncomputable abbrev KOf{K:FrG}{h:Heap}(_:K.In h):FrG:=K
theorem aXa{l:yHf}{n k:Nat}{q:qu}{loose:List Str}{XP:(Str->Option qx)->Heap->Prop}{YP:zq->Heap->Prop}{d:DefRec}{K:Params->FrG}{CX:zq->jJ}{sp:zq->Sp}{x:Str}
 (hn:l.most=qq n) (hn2:n<=qy) (hdf:d.params.defaults=[]) (hr:Room k callerA)
 (hY:∀ (w:zq) (h:Heap),YP w h->(K w.params).In h)
 (F:∀ (w:zq) (mg:Str->Option qx) (fa:qv) (h:Heap),(K w.params).In h->h.Ns xj mg->mg d.name=qq (.ref fa) ->
   ∃ fd:ju,(∀ (s:qj) (u:qx),BindsTo s fd ⟨[u],[]⟩ [(x,u)]) /\
    ∀ base:Heap,(K w.params).In base->base.Ns xj mg->FnOk l.prog w (K w.params) mg base (CX w) k fa fd [x] (sp w))
 (hsp:∀ (w:zq) (H:Hp) (a:qv) (ns:List Int),ns.length<=n->aDs H->bM (K w.params) H a (ns.map V.int)->sp w [.ref a] H (λ v _=>v=.bl true) λ _ _ _=>False)
 (hCX:∀ (w:zq) (H:Hp) (s:qj) (e:qx) (s':qj),CX w [] H s (λ _ _ _=>False) e s'->False) :
 PySem.W.WalkO q loose XP YP l.row.toRowW d [] (λ f vs=>PySem.call f vs):=by
 refine Att.attach_call hn hdf λ w s₀ s₁ mg mb fa o pm cd doc a vs ns G Y ho hd hcd hmg hobj hints bZ hg=>?_
 have KX:=hY w _ Y;obtain⟨fd,hb,hF⟩:=F w mg fa _ KX G.T.g hmg;exact law_call KX G.T.g G.T.b G.T.builtins G.T.nolimit hg hobj hints (xAi bZ hn2) hr hF hb (λ H hO hS=>hsp w H a ns bZ hO hS) λ H e s'=>hCX w H s₁ e s'
end L2
namespace L2
open PySem PySem.Spec PyProof.Rows
noncomputable def nT(s:xw):Arguments:=match s with
 | .FunctionDef _ a _ _ _ _ _ _ _ _=>a
 | _=>{posonlyargs:=[],args:=[],vararg:=qz,kwonlyargs:=[],kw_defaults:=[],kwarg:=qz,defaults:=[] }
noncomputable def kR(s:xw):List xw:=match s with
 | .FunctionDef _ _ b _ _ _ _ _ _ _=>b
 | _=>[]
noncomputable def eJ(s:xw):zw:=match s with
 | .FunctionDef _ _ _ _ _ _ sc _ _ _=>sc
 | _=>{kind:=.function,names:=[],isGenerator:=false,isCoroutine:=false }
noncomputable abbrev tF:jJ:=λ _ _ _ _ _ _=>False
noncomputable abbrev E0:XK:=λ _ _ _=>False
theorem aJq{X:Cx}:aAi tF X E0:=λ _ _ _ _ _ _ _ h=>h.elim
structure Fun(K:FrG)(x cP:Str)(st:xw)(f:qv)(fd:ju):Prop where
 ex:∃ (oc:qx) (od:Option qv) (kV doc pm:qx) (an:Option qv) (cdv ct:qx) (osl:Array (Option qx)),
  fd=yDk x cP (nT st) (kR st) (eJ st) .none kV doc pm an cdv ct/\K.lookup f=qq ⟨oc,od,.func fd,osl⟩/\yFu K cdv cP=true
 kp:yCx K (.ref f)=true
section
variable {P : qu}{w : zq}{K : FrG}{mg : Str -> Option qx}{base : Heap}
theorem Fun.ok{x cP:Str}{st:xw}{f:qv}{fd:ju}{N ps:List Str}{k:Nat}{sp:Sp}(F:Fun K x cP st f fd)(S:FnScope N ps (eJ st))(len:∀ vs H Q E,sp vs H Q E->vs.length=ps.length)
 (hbody:∀ (cdv:qx) (A:zv) (outer:List Env) (s:qj) (H:Hp) (vs:List V) (Q:VK) (E:XK),Room k (A.deeper (envOfC cP (eJ st) s.heap.objs.size f cdv))->sp vs H Q E ->
   ∃ t,dP (sV tF P w K mg base N cP (eJ st) f cdv A outer s H E).nox (kR st) t/\t {nx:=λ _ H'=>Q .non H',rt:=Q } (start N vs) H):FnOk P w K mg base tF (k+1) f fd ps sp:=by
 obtain⟨oc,od,kV,doc,pm,an,cdv,ct,osl,rfl,lk,hcd⟩:=F.ex;refine aUO lk hcd S len λ A outer s H vs Q E hr hsp=>?_
 obtain⟨t,h,q⟩:=hbody cdv A outer s H vs Q E hr hsp;exact⟨t,h.nox,q⟩
theorem Fun.binds{x cP:Str}{st:xw}{f:qv}{fd:ju}{ps:List Str}(F:Fun K x cP st f fd)
 (h:∀ (kV doc pm:qx) (an:Option qv) (cdv ct:qx) (us:List qx),us.length=ps.length->bindArgs (yDk x cP (nT st) (kR st) (eJ st) .none kV doc pm an cdv ct) ⟨us,[]⟩=pure (ps.zip us)):mO K fd ps []:=by
 obtain⟨oc,od,kV,doc,pm,an,cdv,ct,osl,rfl,lk,hcd⟩:=F.ex;exact .all (h kV doc pm an cdv ct)
theorem aSJ{x cP:Str}{st:xw}{f:qv}{oc:qx}{od an:Option qv}{osl:Array (Option qx)}{kV doc pm cdv ct:qx}(l:K.lookup f=qq ⟨oc,od,.func (yDk x cP (nT st) (kR st) (eJ st) .none kV doc pm an cdv ct),osl⟩)
 (c:yFu K cdv cP=true) (k:yCx K (.ref f)=true):Fun K x cP st f (yDk x cP (nT st) (kR st) (eJ st) .none kV doc pm an cdv ct):=⟨⟨oc,od,kV,doc,pm,an,cdv,ct,osl,rfl,l,c⟩,k⟩
end
section
variable {X : Cx}
end
theorem qI{A B:Prop}(h:B):if false=true then A else B:=by
 rw[if_neg yBe];exact h
theorem qA{A B:Prop}(h:A):if true=true then A else B:=by
 rw[if_pos rfl];exact h
def cB(H H':Hp):Prop:=∀ b o,H b=qq o->H' b=qq o
theorem cB.refl(H:Hp):cB H H:=λ _ _ h=>h
theorem cB.trans{H H1 H2:Hp}(a:cB H H1)(b:cB H1 H2):cB H H2:=λ c o h=>b c o (a c o h)
theorem cB.free{H H':Hp}(e:cB H H'){l:qv}(h:H' l=Option.none):H l=Option.none:=by
 cases q:H l with
 | none=>rfl
 | some o =>
   rw[e l o q] at h;cases h
theorem cB.seq{K:FrG}{H H':Hp}{a:qv}{xs:List V}(e:cB H H')(h:bM K H a xs):bM K H' a xs:=by
 rcases h with (h | ⟨o,h⟩) | h
 ·exact .inl (.inl (e _ _ h))
 ·exact .inl (.inr ⟨o,e _ _ h⟩)
 ·exact .inr h
end L2
set_option maxHeartbeats 4000000
namespace EV
open PySem L2 PySem.Spec PyProof.Rows
abbrev D:=PyData
inductive W where
 | d (x:D) | loc (n:Nat)
abbrev aF:=List (Option (List D))
abbrev aU:=List (Option W)
abbrev St:=L2.St
section
variable (K : FrG)(F : Hp)
mutual
inductive Den:D->V->Prop
 | non:Den .none .non
 | bl (b:Bool):Den (.bool b) (.bl b)
 | int (i:Int):Den (.int i) (.int i)
 | str (x:Str):Den (.str x) (.str x)
 | lst {a:qv}{xs:List V}{ds:List D}:bM K F a xs->DenL ds xs->Den (.list ds) (.ref a)
 | tup {a:qv}{xs:List V}{ds:List D}:bS K F a xs->DenL ds xs->Den (.tuple ds) (.ref a)
inductive DenL:List D->List V->Prop
 | nil:DenL [] []
 | cons {d:D}{ds:List D}{x:V}{xs:List V}:Den d x->DenL ds xs->DenL (d::ds) (x::xs)
end
end
theorem iQ{K:FrG}{H H':Hp}{a:qv}{xs:List V}(e:cB H H')(h:bS K H a xs):bS K H' a xs:=by
 rcases h with (h | ⟨o,h⟩) | h
 ·exact .inl (.inl (e _ _ h))
 ·exact .inl (.inr ⟨o,e _ _ h⟩)
 ·exact .inr h
section
variable {K : FrG}{F F' : Hp}
mutual
theorem Den.mono(e:cB F F'):∀ {d:D}{v:V},Den K F d v->Den K F' d v
 | _,_,.non=>.non
 | _,_,.bl b=>.bl b
 | _,_,.int i=>.int i
 | _,_,.str x=>.str x
 | _,_,.lst h r=>.lst (e.seq h) (DenL.mono e r)
 | _,_,.tup h r=>.tup (iQ e h) (DenL.mono e r)
theorem DenL.mono(e:cB F F'):∀ {ds:List D}{xs:List V},DenL K F ds xs->DenL K F' ds xs
 | _,_,.nil=>.nil
 | _,_,.cons h r=>.cons (Den.mono e h) (DenL.mono e r)
end
theorem DenL.length:∀ {ds:List D}{xs:List V},DenL K F ds xs->ds.length=xs.length
 | _,_,.nil=>rfl
 | _,_,.cons _ r=>congrArg (· + 1) (DenL.length r)
theorem DenL.get:∀ {ds:List D}{xs:List V}{i:Nat}{d:D},DenL K F ds xs->ds[i]? = qq d->∃ x,xs[i]? = qq x/\Den K F d x
 | _,_,_,_,.nil,e=>by simp at e
 | _,_,0,_,.cons h _,e=>by simp at e;subst e;exact⟨_,rfl,h⟩
 | _,_,i+1,d,.cons _ r,e=>by
   obtain⟨x,h1,h2⟩:=DenL.get (i:=i) (d:=d) r (by simpa using e)
   exact⟨x,by simpa using h1,h2⟩
theorem DenL.append:∀ {ds es:List D}{xs ys:List V},DenL K F ds xs->DenL K F es ys->DenL K F (ds++es) (xs++ys)
 | _,_,_,_,.nil,s=>s
 | _,_,_,_,.cons h r,s=>.cons h (DenL.append r s)
theorem DenL.take:∀ {ds:List D}{xs:List V} (n:Nat),DenL K F ds xs->DenL K F (ds.take n) (xs.take n)
 | _,_,0,_=>.nil
 | _,_,_+1,.nil=>.nil
 | _,_,n+1,.cons h r=>.cons h (DenL.take n r)
theorem DenL.drop:∀ {ds:List D}{xs:List V} (n:Nat),DenL K F ds xs->DenL K F (ds.drop n) (xs.drop n)
 | _,_,0,r=>r
 | _,_,_+1,.nil=>.nil
 | _,_,n+1,.cons _ r=>DenL.drop n r
theorem DenL.set:∀ {ds:List D}{xs:List V} (i:Nat) {d:D}{x:V},DenL K F ds xs->Den K F d x->DenL K F (ds.set i d) (xs.set i x)
 | _,_,_,_,_,.nil,_=>.nil
 | _,_,0,_,_,.cons _ r,h=>.cons h r
 | _,_,i+1,_,_,.cons q r,h=>.cons q (DenL.set i r h)
theorem DenL.reverse:∀ {ds:List D}{xs:List V},DenL K F ds xs->DenL K F ds.reverse xs.reverse
 | _,_,.nil=>.nil
 | _,_,.cons h r=>by
   rw[yFq,yFq];exact DenL.append (DenL.reverse r) (.cons h .nil)
theorem DenL.rep{ds:List D}{xs:List V}(h:DenL K F ds xs):∀ n:Nat,DenL K F (yAc n ds).flatten (yAc n xs).flatten
 | 0=>.nil
 | n+1=>by
   rw[yAx,yAx,yDa,yDa];exact h.append (DenL.rep h n)
theorem DenL.of_ints:∀ (ns:List Int),DenL K F (ns.map yAj) (ns.map V.int)
 | []=>.nil
 | n::r=>.cons (.int n) (DenL.of_ints r)
end
structure Rel(K:FrG)(F:Hp)(L:List qv)(S:aF)(H:Hp):Prop where
 sub:cB F H
 nd:L.Nodup
 len:L.length=S.length
 loc:∀ (n:Nat) (a:qv) (ds:List D),L[n]? = qq a->S[n]? = qq (qq ds)->F a=qz/\∃ xs,H a=qq (.lst xs)/\DenL K F ds xs
 tr:∀ (n:Nat) (a:qv),L[n]? = qq a->∃ xs,H a=qq (.lst xs)
noncomputable def eH(K:FrG)(F:Hp)(L:List qv):W->V->Prop
 | .d x,v=>Den K F x v
 | .loc n,v=>∃ a,L[n]? = qq a/\v=.ref a
structure EnvR(K:FrG)(F:Hp)(L:List qv)(env:aU)(σ:St):Prop where
 len:env.length=σ.length
 get:∀ (i:Nat) (w:W),env[i]? = qq (qq w)->∃ v,σ[i]? = qq (qq v)/\eH K F L w v
structure Gr(F:Hp)(L:List qv)(F':Hp)(L':List qv):Prop where
 f:cB F F'
 l:∃ M,L'=L++M
section
variable {K : FrG}{F F' F'' H H' : Hp}{L L' L'' : List qv}{S S' : aF}
theorem Gr.refl:Gr F L F L:=⟨cB.refl _,[],by simp⟩
theorem Gr.trans(a:Gr F L F' L')(b:Gr F' L' F'' L''):Gr F L F'' L'':=by
 obtain⟨f1,M,rfl⟩:=a;obtain⟨f2,N,rfl⟩:=b;exact⟨f1.trans f2,M++N,by rw[yAq]⟩
theorem Gr.get(g:Gr F L F' L'){n:Nat}{a:qv}(h:L[n]? = qq a):L'[n]? = qq a:=by
 obtain⟨_,M,rfl⟩:=g;rw[xAn (gIm h).1];exact h
theorem eH.mono(g:Gr F L F' L'){w:W}{v:V}(h:eH K F L w v):eH K F' L' w v:=by
 cases w with
 | d x=>exact Den.mono g.f h
 | loc n=>obtain⟨a,e,r⟩:=h;exact⟨a,g.get e,r⟩
theorem EnvR.mono(g:Gr F L F' L'){env:aU}{σ:St}(h:EnvR K F L env σ):EnvR K F' L' env σ:=
 ⟨h.len,λ i w e=>let ⟨v,e1,r⟩:=h.get i w e;⟨v,e1,r.mono g⟩⟩
theorem EnvR.set{env:aU}{σ:St}(h:EnvR K F L env σ)(i:Nat){w:W}{v:V}(r:eH K F L w v):EnvR K F L (env.set i (qq w)) (σ.set i (qq v)):=by
 refine⟨by rw[yAy,yAy];exact h.len,λ j u e=>?_⟩
 by_cases hj:i=j
 ·subst hj;have hl:i<env.length:=by
   rcases Nat.lt_or_ge i env.length with q | q
   ·exact q
   ·rw[yEi (by rw[yAy];exact q)] at e;cases e
  rw[yAz hl] at e;cases e;exact⟨v,yAz (by rw[<- h.len];exact hl),r⟩
 ·rw[yBc hj] at e;obtain⟨x,e1,r1⟩:=h.get j u e;exact⟨x,by rw[yBc hj];exact e1,r1⟩
theorem dW{p:qv}{o:HO}(h:H p=qz):cB H (bD H p o):=λ b u q=>by rw[bL (eD q h)];exact q
theorem Rel.new(r:Rel K F L S H){p:qv}{o:HO}(h:H p=qz):Rel K (bD F p o) L S (bD H p o):=by
 have hF:F p=qz:=r.sub.free h;refine⟨λ b u q=>?_,r.nd,r.len,λ n a ds e1 e2=>?_,λ n a e=>?_⟩
 ·by_cases hb:b=p
  ·subst hb;rw[cY] at q ⊢;exact q
  ·rw[bL hb] at q ⊢;exact r.sub _ _ q
 ·obtain⟨f,xs,e3,dl⟩:=r.loc n a ds e1 e2;have ne:a≠p:=eD e3 h;exact⟨by rw[bL ne];exact f,xs,by rw[bL ne];exact e3,DenL.mono (dW hF) dl⟩
 ·obtain⟨xs,hx⟩:=r.tr n a e;exact⟨xs,by rw[bL (eD hx h)];exact hx⟩
theorem Gr.new{p:qv}{o:HO}(h:F p=qz):Gr F L (bD F p o) L:=⟨dW h,[],by simp⟩
theorem Rel.newLoc(r:Rel K F L S H){p:qv}{xs:List V}{ds:List D}(h:H p=qz)(dl:DenL K F ds xs):Rel K F (L++[p]) (S++[qq ds]) (bD H p (.lst xs)):=by
 have hF:F p=qz:=r.sub.free h;refine⟨λ b u q=>?_,?_,by rw[xAo,xAo,r.len]<;>rfl,λ n a es e1 e2=>?_,λ n a e=>?_⟩
 ·rw[bL (eD q hF)];exact r.sub _ _ q
 ·rw[yGq];refine⟨r.nd,by simp,λ a ha b hb=>?_⟩
  rw[yBr] at hb;subst hb;obtain⟨n,hn⟩:=yDu ha;obtain⟨xs,hx⟩:=r.tr n a hn;exact eD hx h
 ·by_cases hn:n<L.length
  ·rw[xAn hn] at e1;rw[xAn (by rw[<- r.len];exact hn)] at e2
   obtain⟨f,ys,e3,dl'⟩:=r.loc n a es e1 e2;exact⟨f,ys,by rw[bL (eD e3 h)];exact e3,dl'⟩
  ·rw[yAe (by omega)] at e1
   rw[yAe (by rw[<- r.len];omega)] at e2
   have z:n-L.length=0:=by
    have:=(gIm e1).1;simp at this;omega
   rw[<- r.len] at e2;rw[z] at e1 e2;simp at e1 e2;subst e1 e2;exact⟨hF,xs,cY,dl⟩
 ·by_cases hn:n<L.length
  ·rw[xAn hn] at e;obtain⟨ys,hy⟩:=r.tr n a e;exact⟨ys,by rw[bL (eD hy h)];exact hy⟩
  ·rw[yAe (by omega)] at e
   have z:a=p:=by
    have h1:=xAl e;simpa using h1
   exact⟨xs,by rw[z];exact cY⟩
theorem Rel.lay(r:Rel K F L S H){p:qv}{o:HO}(h:H p=qz):Rel K F L S (bD H p o):=by
 refine⟨λ b u q=>by rw[bL (eD q (r.sub.free h))];exact r.sub _ _ q,r.nd,r.len,λ n a ds e1 e2=>?_,λ n a e=>?_⟩
 ·obtain⟨f,xs,e3,dl⟩:=r.loc n a ds e1 e2;exact⟨f,xs,by rw[bL (eD e3 h)];exact e3,dl⟩
 ·obtain⟨xs,hx⟩:=r.tr n a e;exact⟨xs,by rw[bL (eD hx h)];exact hx⟩
theorem Rel.notin(r:Rel K F L S H){p:qv}(h:H p=qz):p ∉ L:=λ hp=>by
 obtain⟨n,hn⟩:=yDu hp;obtain⟨xs,hx⟩:=r.tr n p hn;rw[h] at hx;cases hx
theorem Rel.adopt(r:Rel K F L S H){p:qv}{xs:List V}(hF:F p=qz)(hL:p ∉ L)(hH:H p=qq (.lst xs)):Rel K (bD F p (.lst xs)) L S H:=by
 refine⟨λ b u q=>?_,r.nd,r.len,λ n a ds e1 e2=>?_,r.tr⟩
 ·by_cases hb:b=p
  ·subst hb;rw[cY] at q;rw[hH];exact q
  ·rw[bL hb] at q;exact r.sub _ _ q
 ·obtain⟨f,ys,e3,dl⟩:=r.loc n a ds e1 e2;have ne:a≠p:=λ z=>hL (by rw[<- z];exact xAl e1)
  exact⟨by rw[bL ne];exact f,ys,e3,dl.mono (dW hF)⟩
theorem Rel.adoptLoc(r:Rel K F L S H){p:qv}{xs:List V}{ds:List D}(hF:F p=qz)(hL:p ∉ L)(hH:H p=qq (.lst xs))(dl:DenL K F ds xs):Rel K F (L++[p]) (S++[qq ds]) H:=by
 refine⟨r.sub,?_,by rw[xAo,xAo,r.len]<;>rfl,λ n a es e1 e2=>?_,λ n a e=>?_⟩
 ·rw[yGq];refine⟨r.nd,by simp,λ a ha b hb=>?_⟩
  rw[yBr] at hb;subst hb;exact λ z=>hL (z▸ha)
 ·by_cases hn:n<L.length
  ·rw[xAn hn] at e1;rw[xAn (by rw[<- r.len];exact hn)] at e2
   exact r.loc n a es e1 e2
  ·rw[yAe (by omega)] at e1
   rw[yAe (by rw[<- r.len];omega)] at e2
   have z:n-L.length=0:=by
    have:=(gIm e1).1;simp at this;omega
   rw[<- r.len] at e2;rw[z] at e1 e2;simp at e1 e2;subst e1 e2;exact⟨hF,xs,hH,dl⟩
 ·by_cases hn:n<L.length
  ·rw[xAn hn] at e;exact r.tr n a e
  ·rw[yAe (by omega)] at e
   have z:a=p:=by
    have h1:=xAl e;simpa using h1
   exact⟨xs,by rw[z];exact hH⟩
theorem Gr.newLoc{p:qv}:Gr F L F (L++[p]):=⟨cB.refl _,[p],rfl⟩
theorem Rel.put(r:Rel K F L S H){n:Nat}{a:qv}{ys:List V}{es:List D}(e:L[n]? = qq a)(hF:F a=qz)(dl:DenL K F es ys):Rel K F L (S.set n (qq es)) (bD H a (.lst ys)):=by
 refine⟨λ b u q=>by rw[bL (eD q hF)];exact r.sub _ _ q,r.nd,by rw[yAy];exact r.len,λ m b fs e1 e2=>?_,λ m b e1=>?_⟩
 ·by_cases hm:n=m
  ·subst hm;rw[e] at e1;cases e1;have hl:n<S.length:=by rw[<- r.len];exact(gIm e).1
   rw[yAz hl] at e2;cases e2;exact⟨hF,ys,cY,dl⟩
  ·rw[yBc hm] at e2;have ne:b≠a:=λ z=>by
    subst z;have h1:=(gIm e);have h2:=(gIm e1);obtain⟨l1,g1⟩:=h1;obtain⟨l2,g2⟩:=h2;exact hm ((yGw r.nd).mp (g1.trans g2.symm))
   obtain⟨f,xs,e3,d3⟩:=r.loc m b fs e1 e2;exact⟨f,xs,by rw[bL ne];exact e3,d3⟩
 ·by_cases hb:b=a
  ·exact⟨ys,by rw[hb];exact cY⟩
  ·obtain⟨zs,hz⟩:=r.tr m b e1;exact⟨zs,by rw[bL hb];exact hz⟩
theorem Rel.freeze(r:Rel K F L S H){n:Nat}{a:qv}{ds:List D}(e:L[n]? = qq a)(es:S[n]? = qq (qq ds)) :
 ∃ F',Gr F L F' L/\Rel K F' L (S.set n qz) H/\Den K F' (.list ds) (.ref a):=by
 obtain⟨hF,xs,e3,dl⟩:=r.loc n a ds e es;refine⟨bD F a (.lst xs),Gr.new hF,⟨λ b u q=>?_,r.nd,by rw[yAy];exact r.len,λ m b fs e1 e2=>?_,r.tr⟩,.lst (bM.of cY) (dl.mono (dW hF))⟩
 ·by_cases hb:b=a
  ·subst hb;rw[cY] at q;rw[e3];exact q
  ·rw[bL hb] at q;exact r.sub _ _ q
 ·by_cases hm:n=m
  ·subst hm;have hl:n<S.length:=(gIm es).1;rw[yAz hl] at e2;cases e2
  ·rw[yBc hm] at e2;have ne:b≠a:=λ z=>by
    subst z;obtain⟨l1,g1⟩:=gIm e;obtain⟨l2,g2⟩:=gIm e1;exact hm ((yGw r.nd).mp (g1.trans g2.symm))
   obtain⟨f,ys,e4,d4⟩:=r.loc m b fs e1 e2;exact⟨by rw[bL ne];exact f,ys,e4,d4.mono (dW hF)⟩
theorem Rel.cut{M:List qv}(r:Rel K F (L++M) S H):Rel K F L (S.take L.length) H:=by
 have hl:L.length<=S.length:=by have:=r.len;rw[xAo] at this;omega
 refine⟨r.sub,(List.nodup_append.mp r.nd).1,by rw[yCc];omega,λ n a ds e1 e2=>?_,λ n a e1=>?_⟩
 ·have hn:n<L.length:=(gIm e1).1;rw[yDw hn] at e2;exact r.loc n a ds (by rw[xAn hn];exact e1) e2
 ·have hn:n<L.length:=(gIm e1).1;exact r.tr n a (by rw[xAn hn];exact e1)
end
def bP(K:FrG)(F H:Hp)(x:D)(v:V):Prop:=Den K F x v\/∃ ds a xs,x=.list ds/\v=.ref a/\H a=qq (.lst xs)/\DenL K F ds xs
noncomputable def dr(S:aF):W->Option D
 | .d x=>qq x
 | .loc n=>match S[n]? with
   | some (qq ds)=>qq (.list ds)
   | _=>qz
theorem jU{K:FrG}{F H:Hp}{L:List qv}{S:aF}{w:W}{x:D}{v:V}(r:Rel K F L S H)(h:eH K F L w v)(e:dr S w=qq x):bP K F H x v:=by
 cases w with
 | d y=>cases e;exact .inl h
 | loc n =>
   obtain⟨a,e1,rfl⟩:=h;cases e2:S[n]? with
   | none=>simp[dr,e2] at e
   | some o =>
     cases o with
     | none=>simp[dr,e2] at e
     | some ds =>
       simp[dr,e2] at e;subst e;obtain⟨f,xs,e3,dl⟩:=r.loc n a ds e1 e2;exact .inr ⟨ds,a,xs,rfl,rfl,e3,dl⟩
section
variable {K : FrG}{F H : Hp}{v : V}
theorem bP.non(h:bP K F H .none v):v=.non:=by
 rcases h with h | ⟨_,_,_,e,_⟩
 ·cases h;rfl
 ·cases e
theorem bP.bl{b:Bool}(h:bP K F H (.bool b) v):v=.bl b:=by
 rcases h with h | ⟨_,_,_,e,_⟩
 ·cases h;rfl
 ·cases e
theorem bP.int{i:Int}(h:bP K F H (.int i) v):v=.int i:=by
 rcases h with h | ⟨_,_,_,e,_⟩
 ·cases h;rfl
 ·cases e
theorem bP.str{x:Str}(h:bP K F H (.str x) v):v=.str x:=by
 rcases h with h | ⟨_,_,_,e,_⟩
 ·cases h;rfl
 ·cases e
theorem bP.lst{ds:List D}(s:cB F H)(h:bP K F H (.list ds) v):∃ a xs,v=.ref a/\bM K H a xs/\DenL K F ds xs:=by
 rcases h with h | ⟨_,a,xs,e,e2,e3,dl⟩
 ·cases h with
  | lst q r=>exact⟨_,_,rfl,s.seq q,r⟩
 ·cases e;exact⟨a,xs,e2,bM.of e3,dl⟩
theorem bP.tup{ds:List D}(s:cB F H)(h:bP K F H (.tuple ds) v):∃ a xs,v=.ref a/\bS K H a xs/\DenL K F ds xs:=by
 rcases h with h | ⟨_,_,_,e,_⟩
 ·cases h with
  | tup q r=>exact⟨_,_,rfl,iQ s q,r⟩
 ·cases e
theorem bP.dict{aZ:List (D×D)}(h:bP K F H (.dict aZ) v):False:=by
 rcases h with h | ⟨_,_,_,e,_⟩
 ·cases h
 ·cases e
end
theorem aKU:fillsNumberSlot (.type "tuple") "mul" = pure false:=
 PySem.fillsNumberSlot_seq (id:="tuple.__mul__") (r:=qq (.builtin "tuple.__rmul__")) PySem.F.slot_tuple_mul.lookup (by decide +kernel) PySem.F.slot_tuple_rmul.lookup (by decide +kernel)
theorem aLe:seqRepeat? (.type "tuple")=pure (qq (.builtin "tuple.__mul__")):=by
 unfold seqRepeat?;rw[PySem.seqSlot_of (T:="tuple") (name:="__mul__") (id:="tuple.__mul__") PySem.F.slot_tuple_mul.lookup (by decide +kernel),PySem.seqSlot_of (T:="tuple") (name:="__rmul__") (id:="tuple.__rmul__") PySem.F.slot_tuple_rmul.lookup (by decide +kernel)]
 rfl
theorem aK2(a:Int)(t:Tok)(l:qv)(aO:Array qx)(n:Nat)(d:Option qv)(sl:Array (Option qx)) :
 Meets (Builtin.«int.__rmul__» ⟨[.int a t,.ref l],[]⟩) (λ _ R s=>s.heap.get? l=qq {cls:=.type "tuple",dict:=d,data:=.seq aO n,slots:=sl }/\R (.ok (.ret Value.notImplemented)) s):=
 .of_wp λ prog w A R s h=>by obtain⟨hp,g,d,tk,os⟩:=s;obtain⟨hl,h⟩:=h;wp_walk;exact⟨_,rfl,h⟩
theorem aK5(l:qv)(aO:Array qx)(n:Nat)(d:Option qv)(sl:Array (Option qx))(t:Tok) :
 Meets (Builtin.«tuple.__mul__» ⟨[.ref l,.int 1 t],[]⟩) (λ _ R s=>s.heap.get? l=qq {cls:=.type "tuple",dict:=d,data:=.seq aO n,slots:=sl }/\R (.ok (.ret (.ref l))) s):=
 .of_wp λ prog w A R s h=>by
  obtain⟨hp,g,d,tk,os⟩:=s;obtain⟨hl,h⟩:=h
  wp_walk
  exact⟨_,rfl,h⟩
theorem aK0(l:qv)(x:qx)(n:Nat)(d:Option qv)(sl:Array (Option qx))(t:Tok) :
 Meets (Builtin.«tuple.__mul__» ⟨[.ref l,.int 0 t],[]⟩) (λ _ R s=>s.heap.get? l=qq {cls:=.type "tuple",dict:=d,data:=.seq #[x] n,slots:=sl }/\R (.ok (.ret (.ref s.heap.objs.size))) {s with heap:=s.heap.push {cls:=.type "tuple",data:=.seq #[] } }):=
 .of_wp λ prog w A R s h=>by
  obtain⟨hp,g,d,tk,os⟩:=s;obtain⟨hl,h⟩:=h
  wp_walk
  exact⟨_,rfl,h⟩
theorem yQ(x:qx):∀ (k:Nat) (aC:Array qx),(yAc k #[x]).foldl (· ++ ·) aC=aC++(yAc k x).toArray
 | 0,aC=>by simp
 | k+1,aC=>by
   rw[yAx,yBl,yQ x k];apply Array.ext';simp[yAx]
theorem aLc(l:qv)(x:qx)(n:Nat)(d:Option qv)(sl:Array (Option qx))(k:Nat)(hk:2<=k)(hk2:k<=1000)(t:Tok) :
 Meets (Builtin.«tuple.__mul__» ⟨[.ref l,.int k t],[]⟩) (λ _ R s=>s.heap.get? l=qq {cls:=.type "tuple",dict:=d,data:=.seq #[x] n,slots:=sl }/\R (.ok (.ret (.ref s.heap.objs.size))) {s with heap:=s.heap.push {cls:=.type "tuple",data:=.seq (yAc k x).toArray } }):=
 .of_wp λ prog w A R s h=>by
  obtain⟨hp,g,d,tk,os⟩:=s;obtain⟨hl,h⟩:=h;have c1:(decide (((k:Nat):Int) < -(2^63))||decide (((k:Nat):Int) ≥ 2^63))=false:=by simp;omega
  have c2:(((k:Nat):Int)==1)=false:=by rw[beq_eq_false_iff_ne];omega
  have c3:decide (((k:Nat):Int)<=0)=false:=dqF (by omega)
  have c4:((#[x]:Array qx).isEmpty||(((k:Nat):Int)==1))=false:=by rw[c2];rfl
  have c5:(decide (((k:Nat):Int)<=0)||(#[x]:Array qx).isEmpty)=false:=by rw[c3];rfl
  have c6:¬ (((#[x]:Array qx).size:Int)*((k:Nat):Int)>(2^63-1)/8):=by
   show ¬ (((1:Nat):Int)*((k:Nat):Int)>(2^63-1)/8);omega
  have hsz:qy=16777216:=by decide
  have c7:yGh (((#[x]:Array qx).size:Int)*((k:Nat):Int))=false:=by
   unfold yGh;refine dqF ?_;show ¬ (((1:Nat):Int)*((k:Nat):Int)>((qy:Nat):Int));omega
  wp_walk
  rw[if_neg (by rw[c1];exact yBe)]
  refine wB (wpAny_tupleItemsOf hl rfl ?_);simp only[c4,c5,c6,c7,yAo,if_false];rw[yAp,yQ,show(#[]:Array qx)++(yAc k x).toArray=(yAc k x).toArray by simp]
  refine wB (m:=yCq _) (xx (wP ⟨_,rfl,h⟩) ?_);show(yAc k x).toArray.size<=qy;rw[yAg,yBk,hsz];omega
section
variable {X : Cx}{aB : List (qv×Obj)}{σ : L2.St}{H : Hp}{s : qj}{Q : VK}
theorem aGE{x:V}{u:qx}(r:bC x u):∀ k:Nat,aS (yAc k x) (yAc k u)
 | 0=>.nil
 | k+1=>.cons r (aGE r k)
theorem aWT{a:qv}{x:V}{k:Nat}{t:Tok}(I:Inv X aB σ H s)(ha:bS X.K H a [x])(hk:k<=1000)
 (q1:k=1->Q (.ref a) H) (q:∀ p,H p=qz->Q (.ref p) (bD H p (.tup (yAc k x)))):qk (model X.prog X.w) X.A (zu .Mult (.ref a) (.int k t)) (EP X aB σ Q) X.xe s:=by
 obtain⟨aG,r1,p1,_⟩:=I.tuple ha;obtain⟨u,rfl,ru⟩:∃ u,aG=[u]/\bC x u:=by
  cases r1 with
  | cons r r'=>cases r';exact⟨_,rfl,r⟩
 obtain⟨⟨cls,d,data,sl⟩,ho,hcl,n,hd⟩:=p1;simp only at hcl hd;subst hcl hd;have hsz:qy=16777216:=by decide
 have bR:∀ (aG:List qx),aG=yAc k u->EP X aB σ Q (.ref s.heap.objs.size) {s with heap:=s.heap.push {cls:=.type "tuple",data:=.seq aG.toArray } }:=λ aG e=>by
  subst e;exact⟨.ref _,_,I.laid (t':=s.toks) (o:=.tup (yAc k x)) (λ b ob q=>hpS _ q) (yAb _) ⟨by rw[yBk,hsz];omega,_,aGE ru k,⟨_,xAe _ rfl,rfl,0,rfl⟩⟩,rfl,q _ (I.hok.fresh (yAb _))⟩
 refine yv (T:="tuple") (U:="int") (by decide) ⟨_,ho,rfl⟩ (λ s'=>yx s' k t) aKU PySem.F.fills_int_mul yEj aLe PySem.F.slot_int_index.lookup
  (jv yEj (yx s k t) PySem.F.entry_int_rmul (PySem.F.args_int_rmul_2 _ _) (aK2 k t a _ n d sl)
    ⟨ho,rfl,⟨_,ho,rfl⟩,?_⟩)
 by_cases h1:k=1
 ·subst h1;exact jv yFp ⟨_,ho,rfl⟩ yFg (yFb _ _) (aK5 a _ n d sl t) ⟨ho,.ref a,H,I,rfl,q1 rfl⟩
 ·by_cases h0:k=0
  ·subst h0;exact jv yFp ⟨_,ho,rfl⟩ yFg (yFb _ _) (aK0 a u n d sl t) ⟨ho,bR [] rfl⟩
  ·exact jv yFp ⟨_,ho,rfl⟩ yFg (yFb _ _) (aLc a u n d sl k (by omega) hk t) ⟨ho,bR _ rfl⟩
end
noncomputable def oF(i j:Int):Bool:=!(decide (yAi i>wu)&&decide (yAi j>wu)&&Builtin.Int.intTooBig (yAi i+yAi j))
noncomputable def vP{α:Type}(n:Nat)(xs:List α):List α:=(yAc n xs).flatten
noncomputable def aDR:D->D->Option D
 | .int i,.int j=>qq (.int (i+j))
 | .str x,.str y=>if x.length+y.length<=qy then qq (.str (x++y)) else qz
 | .tuple [],.tuple ys=>qq (.tuple ys)
 | .tuple xs,.tuple ys=>if xs.isEmpty=false/\xs.length+ys.length<=qy then qq (.tuple (xs++ys)) else qz
 | .list xs,.list ys=>if xs.length+ys.length<=qy then qq (.list (xs++ys)) else qz
 | _,_=>qz
noncomputable def aDv:D->D->Option D
 | .int i,.int j=>if oF i j=true then qq (.int (i*j)) else qz
 | .list xs,.int k=>if k<2^63 /\ -(2^63)<=k/\xs.length*k.toNat<=qy then qq (.list (vP k.toNat xs)) else qz
 | .tuple [x],.int k=>if 0<=k/\k<=1000 then qq (.tuple (yAc k.toNat x)) else qz
 | _,_=>qz
noncomputable def i2{α:Type}(f:Int->Int->Option α):D->D->Option α
 | .int i,.int j=>f i j
 | _,_=>qz
theorem lC{α:Type}{f:Int->Int->Option α}{i j:Int}:i2 f (.int i) (.int j)=f i j:=rfl
theorem iP{α:Type}{f:Int->Int->Option α}{x y:D}{z:α}(h:i2 f x y=qq z):∃ i j,x=.int i/\y=.int j/\f i j=qq z:=by
 cases x<;>first | (cases h;done) | skip
 cases y<;>first | (cases h;done) | exact⟨_,_,rfl,rfl,h⟩
noncomputable def sF:D->Bool
 | .none=>true
 | _=>false
theorem aGs{x:D}(h:sF x=true):x=.none:=by cases x<;>first | rfl | cases h
noncomputable def bY(op:jk)(x y:D):Option D:=match op with
 | .Add=>aDR x y
 | .Sub=>i2 (λ i j=>qq (.int (i-j))) x y
 | .Mult=>aDv x y
 | .MatMult=>qz
 | .Div=>qz
 | .Mod=>i2 (λ i j=>if j≠0 then qq (.int (i.fmod j)) else qz) x y
 | .Pow=>i2 (λ i j=>if 0<=j/\j<=1000000/\i.natAbs<2^64 then qq (.int (i^j.toNat)) else qz) x y
 | .LShift=>i2 (λ i j=>if 0<=j/\(yAi i:Int)+j<=2^27 then qq (.int (i*2^j.toNat)) else qz) x y
 | .RShift=>i2 (λ i j=>if 0<=j then qq (.int (i/2^j.toNat)) else qz) x y
 | .BitOr=>i2 (λ i j=>qq (.int (yGu i j))) x y
 | .BitXor=>i2 (λ i j=>qq (.int (yGl i j))) x y
 | .BitAnd=>i2 (λ i j=>qq (.int (yEg i j))) x y
 | .FloorDiv=>i2 (λ i j=>if j≠0/\yCt i j=false then qq (.int (i.fdiv j)) else qz) x y
noncomputable def nK:yz->D->Option D
 | .USub,.int i=>qq (.int (-i))
 | .Invert,.int i=>qq (.int (yBq i))
 | _,_=>qz
noncomputable def fO:D->Bool
 | .none | .bool _ | .int _ | .str _=>true
 | _=>false
noncomputable def hZ:List D->Bool
 | []=>true
 | d::r=>fO d&&hZ r
noncomputable def kD(x:D):List D->Bool
 | []=>false
 | y::r=>yCl y x||kD x r
noncomputable def vH:D->Option (List D)
 | .list xs=>qq xs
 | .tuple xs=>qq xs
 | _=>qz
noncomputable def lI(op:vz)(x y:D):Option Bool:=match op with
 | .Eq=>if x.canLay0=true/\y.canLay0=true/\x.depth<=60 then qq (yCl x y) else qz
 | .NotEq=>if x.canLay0=true/\y.canLay0=true/\x.depth<=60 then qq (!yCl x y) else qz
 | .Lt=>i2 (λ i j=>qq (decide (i<j))) x y
 | .LtE=>i2 (λ i j=>qq (decide (i<=j))) x y
 | .Gt=>i2 (λ i j=>qq (decide (j<i))) x y
 | .GtE=>i2 (λ i j=>qq (decide (j<=i))) x y
 | .Is=>if sF y=true then qq (sF x) else qz
 | .IsNot=>if sF y=true then qq (!sF x) else qz
 | .In=>(vH y).bind λ ys=>if fO x=true/\hZ ys=true then qq (kD x ys) else qz
 | .NotIn=>(vH y).bind λ ys=>if fO x=true/\hZ ys=true then qq (!kD x ys) else qz
noncomputable def qD:D->Option Bool
 | .none=>qq false
 | .bool b=>qq b
 | .int i=>qq (i != 0)
 | .str x=>if x.length<=qy then qq ((x.length:Int) != 0) else qz
 | .list xs=>qq (!xs.isEmpty)
 | .tuple xs=>qq (!xs.isEmpty)
 | .dict _=>qz
section
variable {X : Cx}{aB : List (qv×Obj)}{s : qj}{σ : L2.St}{H : Hp}{x y : V}{v u : qx}{Q : VK}{F : Hp}{L : List qv}{S : aF}{dx dy z : D}
abbrev gI(X:Cx)(F:Hp)(L:List qv)(S:aF)(z:D)(Q:VK):Prop:=∀ F' H' r,cB F F'->Rel X.K F' L S H'->Den X.K F' z r->Q r H'
abbrev aAW(X:Cx)(F:Hp)(H:Hp)(zs:List D)(Q:VK):Prop:=∀ p xs,H p=qz->DenL X.K F zs xs->Q (.ref p) (bD H p (.lst xs))
theorem gI.here(R:Rel X.K F L S H)(q:gI X F L S z Q){r:V}(h:Den X.K F z r):Q r H:=q F H r (cB.refl _) R h
theorem aAW.out{zs:List D}(R:Rel X.K F L S H)(q:gI X F L S (.list zs) Q):aAW X F H zs Q:=λ p xs hp dl =>
 q _ _ _ (dW (R.sub.free hp)) (R.new hp) (.lst (bM.of cY) (dl.mono (dW (R.sub.free hp))))
theorem gI.tup{zs:List D}(R:Rel X.K F L S H)(q:gI X F L S (.tuple zs) Q){p:qv}{xs:List V}(hp:H p=qz)(dl:DenL X.K F zs xs):Q (.ref p) (bD H p (.tup xs)):=
 q _ _ _ (dW (R.sub.free hp)) (R.new hp) (.tup (bS.of cY) (dl.mono (dW (R.sub.free hp))))
theorem aV2{a b:qv}{xs ys:List V}(I:Inv X aB σ H s)(ha:bM X.K H a xs)(hb:bM X.K H b ys)(hz:xs.length+ys.length<=qy)
 (q:∀ p,H p=qz->Q (.ref p) (bD H p (.lst (xs++ys)))):qk (model X.prog X.w) X.A (zu .Add (.ref a) (.ref b)) (EP X aB σ Q) X.xe s:=by
 obtain⟨aG,r1,p1,_⟩:=I.list ha;obtain⟨eI,r2,p2,_⟩:=I.list hb;obtain⟨⟨cls,dd,data,sl⟩,ho,hc,n,hd⟩:=p1.isList;obtain⟨⟨cls2,dd2,data2,sl2⟩,ho2,hc2,n2,hd2⟩:=p2.isList;simp only at hc hd hc2 hd2;subst hc hd hc2 hd2;have e:aG.toArray++eI.toArray=(aG++eI).toArray:=by simp
 refine concat_meets ⟨_,ho,rfl⟩ ⟨_,ho2,rfl⟩ noFill_list_add seq_list_add PySem.F.slot_list_add PySem.F.entry_list_add (PySem.F.args_list_add_2 _ _) (list_addW a b aG.toArray eI.toArray n n2 dd dd2 sl sl2 (by rw[yAg,yAg,<- r1.length,<- r2.length];exact hz)) ⟨ho,ho2,?_⟩
 rw[e];exact⟨.ref _,_,I.lnew (t':=s.toks) (r1.append r2) (by rw[xAo];omega),rfl,q _ I.fresh⟩
theorem aKd{a:qv}{xs:List V}{k:Int}{t:Tok}(I:Inv X aB σ H s)(ha:bM X.K H a xs)(h1 : -(2^63)<=k)(h2:k<2^63)(hz:xs.length*k.toNat<=qy)
 (q:∀ p,H p=qz->Q (.ref p) (bD H p (.lst (yAc k.toNat xs).flatten))):qk (model X.prog X.w) X.A (zu .Mult (.ref a) (.int k t)) (EP X aB σ Q) X.xe s:=by
 obtain⟨aG,r1,p1,_⟩:=I.list ha;obtain⟨⟨cls,d,data,sl⟩,ho,hcl,n,hd⟩:=p1.isList;simp only at hcl hd;subst hcl hd;have hsz:aG.toArray.size*k.toNat<=2^24:=by
  rw[yAg,<- r1.length];have:qy=2^24:=rfl;rw[<- this];exact hz
 refine yv (T:="list") (U:="int") (by decide) ⟨_,ho,rfl⟩ (λ s'=>yx s' k t) noFill_list_mul PySem.F.fills_int_mul yEj repeat_list PySem.F.slot_int_index.lookup
  (jv yEj (yx s k t) PySem.F.entry_int_rmul (PySem.F.args_int_rmul_2 _ _) (lm_int_rmul_list_any k t a aG.toArray n d sl)
    ⟨ho,rfl,⟨_,ho,rfl⟩,jv PySem.F.slot_list_mul ⟨_,ho,rfl⟩ PySem.F.entry_list_mul (PySem.F.args_list_mul_2 _ _)
     (lm_list_mul_any a aG.toArray n d sl k t (by simp[Builtin.List.listFitsIndex];omega) (by omega) (by simp[Builtin.List.listTooLong,qy];simpa using hsz))
     ⟨ho,?_⟩⟩)
 rw[listMul_foldl_if];exact⟨.ref _,_,I.lnew (t':=s.toks) (r1.rep k.toNat) (by rw[aPm,yHg];exact hz),rfl,q _ I.fresh⟩
theorem aVF{a b:qv}{ys:List V}(I:Inv X aB σ H s)(ha:bS X.K H a [])(hb:bS X.K H b ys)(q:Q (.ref b) H):qk (model X.prog X.w) X.A (zu .Add (.ref a) (.ref b)) (EP X aB σ Q) X.xe s:=by
 obtain⟨aG,r1,p1,_⟩:=I.tuple ha;obtain⟨eI,r2,p2,_⟩:=I.tuple hb;cases r1;obtain⟨⟨cls,dd,data,sl⟩,ho,hc,n,hd⟩:=p1;obtain⟨⟨cls2,dd2,data2,sl2⟩,ho2,hc2,n2,hd2⟩:=p2;simp only at hc hd hc2 hd2;subst hc hd hc2 hd2;exact concat_meets ⟨_,ho,rfl⟩ ⟨_,ho2,rfl⟩ noFill_tuple_add seq_tuple_add yFo yFe (yEz _ _) (tuple_addW0 a b _ eI.toArray n n2 dd dd2 sl sl2 rfl) ⟨ho,ho2,⟨.ref b,H,I,rfl,q⟩⟩
theorem aQE(I:Inv X aB σ H s)(rx:bC x v)(ry:bC y u)(R:Rel X.K F L S H)(nx:bP X.K F H dx x)(ny:bP X.K F H dy y)(e:aDR dx dy=qq z)(q:gI X F L S z Q) :
 qk (model X.prog X.w) X.A (zu .Add v u) (EP X aB σ Q) X.xe s:=by
 unfold aDR at e
 split at e
 ·rename_i i j;cases e;exact aRs aB s σ H x y v u Q I rx ry ⟨i,j,nx.int,ny.int,q.here R (.int _)⟩
 ·rename_i a b
  split at e
  ·rename_i c;cases e;exact aLT aB s σ H x y v u Q I rx ry ⟨a,b,nx.str,ny.str,c,q.here R (.str _)⟩
  ·cases e
 ·rename_i ys;cases e;obtain⟨a,vs,rfl,h1,d1⟩:=nx.tup R.sub;obtain⟨b,ws,rfl,h2,d2⟩:=ny.tup R.sub;cases d1;cases rx;cases ry;refine aVF I h1 h2 (q F H _ (cB.refl _) R ?_);rcases ny with ny | ⟨_,_,_,e,_⟩
  ·exact ny
  ·cases e
 ·rename_i xs ys _
  split at e
  ·rename_i c;cases e;obtain⟨a,vs,rfl,h1,d1⟩:=nx.tup R.sub;obtain⟨b,ws,rfl,h2,d2⟩:=ny.tup R.sub;have hne:vs≠[]:=λ z=>by
    have:=d1.length;rw[z] at this;cases xs with
    | nil=>simp at c
    | cons _ _=>simp at this
   refine aPp aB s σ H _ _ v u Q I rx ry ⟨a,b,vs,ws,rfl,rfl,h1,h2,hne,by rw[<- d1.length,<- d2.length];exact c.2,λ z=>?_,λ z p hp=>?_⟩
   ·have:ys=[]:=by
     have h:=d2.length;rw[z] at h;exact List.eq_nil_of_length_eq_zero h
    subst this;refine q F H _ (cB.refl _) R ?_;rw[yDd];rcases nx with nx | ⟨_,_,_,e,_⟩
    ·exact nx
    ·cases e
   ·exact q.tup R hp (d1.append d2)
  ·cases e
 ·rename_i xs ys
  split at e
  ·rename_i c;cases e;obtain⟨a,vs,rfl,h1,d1⟩:=nx.lst R.sub;obtain⟨b,ws,rfl,h2,d2⟩:=ny.lst R.sub;cases rx;cases ry;exact aV2 I h1 h2 (by rw[<- d1.length,<- d2.length];exact c) λ p hp=>aAW.out R q p _ hp (d1.append d2)
  ·cases e
 ·cases e
theorem aGZ{K:FrG}{F:Hp}{x:D}{v:V}(h:Den K F x v):∀ k:Nat,DenL K F (yAc k x) (yAc k v)
 | 0=>.nil
 | k+1=>.cons h (aGZ h k)
theorem aSU(I:Inv X aB σ H s)(rx:bC x v)(ry:bC y u)(R:Rel X.K F L S H)(nx:bP X.K F H dx x)(ny:bP X.K F H dy y)(e:aDv dx dy=qq z)(q:gI X F L S z Q) :
 qk (model X.prog X.w) X.A (zu .Mult v u) (EP X aB σ Q) X.xe s:=by
 unfold aDv at e
 split at e
 ·rename_i i j
  split at e
  ·rename_i c;cases e;obtain rfl:=nx.int;obtain rfl:=ny.int;obtain⟨t,rfl⟩:=rx;obtain⟨t',rfl⟩:=ry;refine PyProof.Rows.mul_int ⟨.int (i*j),H,I.tok _,⟨_,rfl⟩,q.here R (.int _)⟩ ?_;unfold IntMulOk;unfold oF at c;intro z;rw[z] at c;cases c
  ·cases e
 ·rename_i xs k
  split at e
  ·rename_i c;cases e;obtain⟨a,vs,rfl,h1,d1⟩:=nx.lst R.sub;obtain rfl:=ny.int;cases rx;obtain⟨t',rfl⟩:=ry;exact aKd I h1 c.2.1 c.1 (by rw[<- d1.length];exact c.2.2) λ p hp=>aAW.out R q p _ hp (d1.rep _)
  ·cases e
 ·rename_i xd k
  split at e
  ·rename_i c;cases e;obtain⟨a,vs,rfl,h1,d1⟩:=nx.tup R.sub;obtain rfl:=ny.int;cases rx;obtain⟨t',rfl⟩:=ry;obtain⟨kk,rfl⟩:∃ kk:Nat,k=(kk:Nat):=⟨k.toNat,by omega⟩
   rw[yAp] at q;cases d1 with
   | cons dx dn =>
     cases dn;refine aWT I h1 (by omega) (λ hk=>?_) λ p hp=>gI.tup R q hp (aGZ dx kk)
     subst hk;refine q F H _ (cB.refl _) R ?_;rcases nx with nx | ⟨_,_,_,z,_⟩
     ·exact nx
     ·cases z
  ·cases e
 ·cases e
theorem uR{op:jk}{C:Int->Int->Prop}{g:Int->Int->Int}(rule:cO X (zu op) (rI C λ i j=>.int (g i j))){i j:Int}(c:C i j)(I:Inv X aB σ H s)(rx:bC x v)(ry:bC y u)(R:Rel X.K F L S H)
 (nx:bP X.K F H (.int i) x) (ny:bP X.K F H (.int j) y) (q:gI X F L S (.int (g i j)) Q) :
 qk (model X.prog X.w) X.A (zu op v u) (EP X aB σ Q) X.xe s:=
 rule aB s σ H x y v u Q I rx ry ⟨i,j,nx.int,ny.int,c,q.here R (.int _)⟩
theorem zS{op:jk}{g:Int->Int->Int}(rule:cO X (zu op) (jI λ i j=>.int (g i j))){i j:Int}(I:Inv X aB σ H s)(rx:bC x v)(ry:bC y u)(R:Rel X.K F L S H)
 (nx:bP X.K F H (.int i) x) (ny:bP X.K F H (.int j) y) (q:gI X F L S (.int (g i j)) Q) :
 qk (model X.prog X.w) X.A (zu op v u) (EP X aB σ Q) X.xe s:=
 rule aB s σ H x y v u Q I rx ry ⟨i,j,nx.int,ny.int,q.here R (.int _)⟩
theorem aPW:cO X (zu .FloorDiv) (rI (λ i j=>j≠0/\yCt i j=false) λ i j=>.int (i.fdiv j)):=wY λ _ _ _ _ _ _ _ hc q=>floordiv_int hc.1 q (.inl hc.2)
theorem aU8:cO X (zu .LShift) (rI (λ i j=>0<=j/\(yAi i:Int)+j<=2^27) λ i j=>.int (i*2^j.toNat)):=wY λ _ _ _ _ _ _ _ hc q=>lshift_int hc.1 hc.2 q
theorem bind_some{α β:Type}{o:Option α}{f:α->Option β}{b:β}(h:o.bind f=qq b):∃ a,o=qq a/\f a=qq b:=by
 cases o with
 | none=>cases h
 | some a=>exact⟨a,rfl,h⟩
theorem jW{α:Type}{p:Prop} [Decidable p]{a z:α}(h:(if p then qq a else qz)=qq z):p/\a=z:=by
 split at h
 ·rename_i c;cases h;exact⟨c,rfl⟩
 ·cases h
theorem aS3{op:jk}(I:Inv X aB σ H s)(rx:bC x v)(ry:bC y u)(R:Rel X.K F L S H)(nx:bP X.K F H dx x)(ny:bP X.K F H dy y)(e:bY op dx dy=qq z)(q:gI X F L S z Q) :
 qk (model X.prog X.w) X.A (zu op v u) (EP X aB σ Q) X.xe s:=by
 cases op with
 | Add=>exact aQE I rx ry R nx ny e q
 | Mult=>exact aSU I rx ry R nx ny e q
 | MatMult=>cases e
 | Div=>cases e
 | Sub=>obtain⟨i,j,rfl,rfl,e⟩:=iP e;cases e;exact zS aSd I rx ry R nx ny q
 | BitAnd=>obtain⟨i,j,rfl,rfl,e⟩:=iP e;cases e;exact zS aQI I rx ry R nx ny q
 | BitOr=>obtain⟨i,j,rfl,rfl,e⟩:=iP e;cases e;exact zS aUt I rx ry R nx ny q
 | BitXor=>obtain⟨i,j,rfl,rfl,e⟩:=iP e;cases e;exact zS aQ2 I rx ry R nx ny q
 | FloorDiv=>obtain⟨i,j,rfl,rfl,e⟩:=iP e;obtain⟨c,rfl⟩:=jW e;exact uR aPW c I rx ry R nx ny q
 | Mod=>obtain⟨i,j,rfl,rfl,e⟩:=iP e;obtain⟨c,rfl⟩:=jW e;exact uR aQe c I rx ry R nx ny q
 | Pow=>obtain⟨i,j,rfl,rfl,e⟩:=iP e;obtain⟨c,rfl⟩:=jW e;exact uR aQz c I rx ry R nx ny q
 | LShift=>obtain⟨i,j,rfl,rfl,e⟩:=iP e;obtain⟨c,rfl⟩:=jW e;exact uR aU8 c I rx ry R nx ny q
 | RShift=>obtain⟨i,j,rfl,rfl,e⟩:=iP e;obtain⟨c,rfl⟩:=jW e;exact uR aSV c I rx ry R nx ny q
theorem aUz{op:yz}(I:Inv X aB σ H s)(rx:bC x v)(R:Rel X.K F L S H)(nx:bP X.K F H dx x)(e:nK op dx=qq z)(q:gI X F L S z Q) :
 qk (model X.prog X.w) X.A (unaryOp op v) (EP X aB σ Q) X.xe s:=by
 unfold nK at e
 split at e
 ·cases e;exact aSg aB s σ H x v Q I rx ⟨_,nx.int,q.here R (.int _)⟩
 ·cases e;exact aSp aB s σ H x v Q I rx ⟨_,nx.int,q.here R (.int _)⟩
 ·cases e
mutual
theorem aF0(I:Inv X aB σ H s)(sb:cB F H):∀ {d:D}{x:V}{v:qx},Den X.K F d x->bC x v->∃ as,Reads s.heap v d as
 | _,_,v,.non,r=>by cases (show v=Value.none from r);exact⟨_,.none⟩
 | _,_,v,.bl b,r=>by cases (show v=Value.bool b from r);exact⟨_,.bool b⟩
 | _,_,v,.int i,r=>by obtain⟨t,rfl⟩:=(show ∃ t,v=Value.int i t from r);exact⟨_,.int i t⟩
 | _,_,v,.str y,r=>by obtain⟨t,rfl⟩:=(show ∃ t,v=Value.str y t from r);exact⟨_,.str y t⟩
 | _,_,v,.lst (a:=a) h dl,r=>by
   cases (show v=Value.ref a from r)
   obtain⟨aG,rv,p1,_⟩:=I.list (sb.seq h);obtain⟨o,ho,hc,n,hd⟩:=p1.isList;obtain⟨as,ra⟩:=yI I sb dl rv;exact⟨_,.list ho hc hd (by simpa using ra)⟩
 | _,_,v,.tup (a:=a) h dl,r=>by
   cases (show v=Value.ref a from r)
   obtain⟨aG,rv,p1,_⟩:=I.tuple (iQ sb h);obtain⟨o,ho,hc,n,hd⟩:=p1;obtain⟨as,ra⟩:=yI I sb dl rv;exact⟨_,.tuple ho hc hd (by simpa using ra)⟩
theorem yI(I:Inv X aB σ H s)(sb:cB F H):∀ {ds:List D}{xs:List V}{us:List qx},DenL X.K F ds xs->aS xs us->∃ as,ReadsAll s.heap us ds as
 | _,_,_,.nil,r=>by cases r;exact⟨_,.nil⟩
 | _,_,_,.cons h dl,.cons r rs=>by
   obtain⟨as,ra⟩:=aF0 I sb h r;obtain⟨bs,rb⟩:=yI I sb dl rs;exact⟨_,.cons ra rb⟩
end
theorem yU(I:Inv X aB σ H s)(R:Rel X.K F L S H)(rx:bC x v)(nx:bP X.K F H dx x):∃ as,Reads s.heap v dx as:=by
 rcases nx with nx | ⟨ds,a,xs,rfl,rfl,e,dl⟩
 ·exact aF0 I R.sub nx rx
 ·cases rx;obtain⟨aG,rv,p1,_⟩:=I.list (bM.of e);obtain⟨o,ho,hc,n,hd⟩:=p1.isList;obtain⟨as,ra⟩:=yI I R.sub dl rv;exact⟨_,.list ho hc hd (by simpa using ra)⟩
theorem aUs(hu:X.A.units+64<cLine)(I:Inv X aB σ H s)(rx:bC x v)(ry:bC y u)(R:Rel X.K F L S H)(nx:bP X.K F H dx x)(ny:bP X.K F H dy y)
 (c1:dx.canLay0=true) (c2:dy.canLay0=true) (c3:dx.depth<=60) (q:Q (.bl (yCl dx dy)) H):qk (model X.prog X.w) X.A (xk .Eq v u) (EP X aB σ Q) X.xe s:=by
 obtain⟨as,ra⟩:=yU I R rx nx;obtain⟨bs,rb⟩:=yU I R ry ny;refine SeqAt.compareEq_reads ra rb c1 c2 ?_ ⟨.bl _,H,I,rfl,q⟩;have:min dx.depth dy.depth<=dx.depth:=Nat.min_le_left _ _;omega
theorem aUk(hu:X.A.units+64<cLine)(I:Inv X aB σ H s)(rx:bC x v)(ry:bC y u)(R:Rel X.K F L S H)(nx:bP X.K F H dx x)(ny:bP X.K F H dy y)
 (c1:dx.canLay0=true) (c2:dy.canLay0=true) (c3:dx.depth<=60) (q:Q (.bl (!yCl dx dy)) H):qk (model X.prog X.w) X.A (xk .NotEq v u) (EP X aB σ Q) X.xe s:=by
 obtain⟨as,ra⟩:=yU I R rx nx;obtain⟨bs,rb⟩:=yU I R ry ny;refine SeqAt.compareNe_reads ra rb c1 c2 ?_ ⟨.bl _,H,I,rfl,q⟩;have:min dx.depth dy.depth<=dx.depth:=Nat.min_le_left _ _;omega
end
theorem aOr{K:FrG}{F:Hp}{d e:D}{x y:V}(h1:Den K F d x)(h2:Den K F e y)(f1:fO d=true)(f2:fO e=true):mX x y=yCl d e:=by
 cases h1<;>first | (simp[fO] at f1;done) | skip
 all_goals cases h2<;>first | (simp[fO] at f2;done) | rfl | skip
theorem aBY{K:FrG}{F:Hp}{d:D}{x:V}(h1:Den K F d x)(f1:fO d=true):lE x=true:=by
 cases h1<;>first | rfl | (simp[fO] at f1;done)
theorem aBU{K:FrG}{F:Hp}:∀ {ds:List D}{xs:List V},DenL K F ds xs->hZ ds=true->xs.all lE=true
 | _,_,.nil,_=>rfl
 | _,_,.cons h r,f=>by
   simp only[hZ,yAk] at f;rw[List.all_cons,aBY h f.1,aBU r f.2];rfl
theorem aCF{K:FrG}{F:Hp}{e:D}{y:V}(h2:Den K F e y)(f2:fO e=true):∀ {ds:List D}{xs:List V},DenL K F ds xs->hZ ds=true->tG y xs=kD e ds
 | _,_,.nil,_=>rfl
 | _,_,.cons h r,f=>by
   simp only[hZ,yAk] at f;have ih:=aCF h2 f2 r f.2;unfold tG at ih ⊢;rw[List.any_cons,ih,aOr h h2 f.1 f2];rfl
section
variable {X : Cx}{aB : List (qv×Obj)}{s : qj}{σ : L2.St}{H : Hp}{x y : V}{v u : qx}{Q : VK}{F : Hp}{L : List qv}{S : aF}{dx dy : D}{b : Bool}
theorem bP.flat{d:D}{z:V}(h:bP X.K F H d z)(f:fO d=true):Den X.K F d z:=by
 rcases h with h | ⟨ds,_,_,rfl,_⟩
 ·exact h
 ·simp[fO] at f
theorem aCs{d:D}{ys:List D}{z:V}(sb:cB F H)(h:bP X.K F H d z)(e:vH d=qq ys):∃ p xs,z=.ref p/\(bM X.K H p xs\/bS X.K H p xs)/\DenL X.K F ys xs:=by
 cases d with
 | list l=>cases e;obtain⟨a,xs,e1,q,dl⟩:=h.lst sb;exact⟨a,xs,e1,.inl q,dl⟩
 | tuple l=>cases e;obtain⟨a,xs,e1,q,dl⟩:=h.tup sb;exact⟨a,xs,e1,.inr q,dl⟩
 | _=>cases e
theorem aHM(R:Rel X.K F L S H)(nx:bP X.K F H dx x):decide (x=.non)=sF dx:=by
 cases dx with
 | none=>rw[nx.non];rfl
 | bool c=>rw[nx.bl];rfl
 | int c=>rw[nx.int];rfl
 | str c=>rw[nx.str];rfl
 | list c=>obtain⟨a,xs,rfl,_⟩:=nx.lst R.sub;rfl
 | tuple c=>obtain⟨a,xs,rfl,_⟩:=nx.tup R.sub;rfl
 | dict c=>exact nx.dict.elim
theorem aRT{op:vz}(hu:X.A.units+64<cLine)(I:Inv X aB σ H s)(rx:bC x v)(ry:bC y u)(R:Rel X.K F L S H)(nx:bP X.K F H dx x)(ny:bP X.K F H dy y)(e:lI op dx dy=qq b)(q:Q (.bl b) H) :
 qk (model X.prog X.w) X.A (xk op v u) (EP X aB σ Q) X.xe s:=by
 cases op with
 | Lt=>obtain⟨i,j,rfl,rfl,e⟩:=iP e;cases e;exact aT0 aB s σ H x y v u Q I rx ry ⟨_,_,nx.int,ny.int,q⟩
 | LtE=>obtain⟨i,j,rfl,rfl,e⟩:=iP e;cases e;exact aVz aB s σ H x y v u Q I rx ry ⟨_,_,nx.int,ny.int,q⟩
 | Gt=>obtain⟨i,j,rfl,rfl,e⟩:=iP e;cases e;exact aTZ aB s σ H x y v u Q I rx ry ⟨_,_,nx.int,ny.int,q⟩
 | GtE=>obtain⟨i,j,rfl,rfl,e⟩:=iP e;cases e;exact aUN aB s σ H x y v u Q I rx ry ⟨_,_,nx.int,ny.int,q⟩
 | Eq=>obtain⟨c,rfl⟩:=jW e;exact aUs hu I rx ry R nx ny c.1 c.2.1 c.2.2 q
 | NotEq=>obtain⟨c,rfl⟩:=jW e;exact aUk hu I rx ry R nx ny c.1 c.2.1 c.2.2 q
 | Is =>
   obtain⟨c,rfl⟩:=jW e;cases aGs c;exact aST aB s σ H x y v u Q I rx ry ⟨ny.non,by rw[aHM R nx];exact q⟩
 | IsNot =>
   obtain⟨c,rfl⟩:=jW e;cases aGs c;exact aPN aB s σ H x y v u Q I rx ry ⟨ny.non,by rw[aHM R nx];exact q⟩
 | In =>
   obtain⟨ys,hs,e⟩:=bind_some e;obtain⟨c,rfl⟩:=jW e;obtain⟨p,xs,e1,sq,dl⟩:=aCs R.sub ny hs;refine aMz aB s σ H x y v u Q I rx ry ⟨p,xs,e1,sq,aBY (nx.flat c.1) c.1,aBU dl c.2,?_⟩;show Q (.bl (tG x xs)) H;rw[aCF (nx.flat c.1) c.1 dl c.2];exact q
 | NotIn =>
   obtain⟨ys,hs,e⟩:=bind_some e;obtain⟨c,rfl⟩:=jW e;obtain⟨p,xs,e1,sq,dl⟩:=aCs R.sub ny hs;refine aLg aB s σ H x y v u Q I rx ry ⟨p,xs,e1,sq,aBY (nx.flat c.1) c.1,aBU dl c.2,?_⟩;show Q (.bl (!tG x xs)) H;rw[aCF (nx.flat c.1) c.1 dl c.2];exact q
theorem aE4{K:FrG}{ds:List D}{xs:List V}(h:DenL K F ds xs):xs.isEmpty=ds.isEmpty:=by cases h<;>rfl
theorem aQj{b:Bool}(R:Rel X.K F L S H)(nx:bP X.K F H dx x)(e:qD dx=qq b):aDu X.K x H b:=by
 cases dx with
 | none=>cases e;rw[nx.non];exact rfl
 | bool c=>cases e;rw[nx.bl];exact rfl
 | int c=>cases e;rw[nx.int];exact rfl
 | str c =>
   rw[nx.str];have e':(if c.length<=qy then qq ((c.length:Int) != 0) else qz)=qq b:=e
   split at e'
   ·rename_i h;cases e';exact⟨h,rfl⟩
   ·cases e'
 | list c=>cases e;obtain⟨a,xs,rfl,sq,dl⟩:=nx.lst R.sub;exact .inl ⟨xs,sq,by rw[aE4 dl]⟩
 | tuple c=>cases e;obtain⟨a,xs,rfl,sq,dl⟩:=nx.tup R.sub;exact .inr (.inl ⟨xs,sq,by rw[aE4 dl]⟩)
 | dict c=>cases e
end
abbrev FE:=aU->aF->Option (W×aF)
abbrev FT:=aU->aF->Option (Bool×aF)
abbrev FA:=aU->aF->Option (List W×aF)
abbrev FL:=aU->aF->Option (List D×aF)
inductive Fl where
 | nx (env:aU) | rt (w:W) | bk (env:aU) | ct (env:aU)
abbrev FS:=aU->aF->Option (Fl×aF)
inductive WDenL (K:FrG) (F:Hp) (L:List qv):List W->List V->Prop
 | nil:WDenL K F L [] []
 | cons {w:W}{ws:List W}{x:V}{xs:List V}:eH K F L w x->WDenL K F L ws xs->WDenL K F L (w::ws) (x::xs)
theorem WDenL.mono{K:FrG}{F F':Hp}{L L':List qv}(g:Gr F L F' L'):∀ {ws:List W}{xs:List V},WDenL K F L ws xs->WDenL K F' L' ws xs
 | _,_,.nil=>.nil
 | _,_,.cons h r=>.cons (h.mono g) (r.mono g)
theorem WDenL.length{K:FrG}{F:Hp}{L:List qv}:∀ {ws:List W}{xs:List V},WDenL K F L ws xs->ws.length=xs.length
 | _,_,.nil=>rfl
 | _,_,.cons _ r=>congrArg (· + 1) r.length
section
variable (K : FrG)
def aW(f:FE):TE:=λ σ H Q=>∃ F L S env w S',Rel K F L S H/\EnvR K F L env σ/\f env S=qq (w,S')/\∀ F' L' H' v,Gr F L F' L'->Rel K F' L' S' H'->eH K F' L' w v->Q v H'
def eU(f:FT):TT:=λ σ H Q=>∃ F L S env b S',Rel K F L S H/\EnvR K F L env σ/\f env S=qq (b,S')/\∀ F' L' H',Gr F L F' L'->Rel K F' L' S' H'->Q b H'
def eT(f:FA):TA:=λ σ H Q=>∃ F L S env ws S',Rel K F L S H/\EnvR K F L env σ/\f env S=qq (ws,S')/\∀ F' L' H' vs,Gr F L F' L'->Rel K F' L' S' H'->WDenL K F' L' ws vs->Q vs H'
def iK(f:FL):TE:=λ σ H Q=>∃ F L S env ds S',Rel K F L S H/\EnvR K F L env σ/\f env S=qq (ds,S')/\∀ F' L' H' p xs,Gr F L F' L'->Rel K F' L' S' H'->F' p=qz->p ∉ L'->H' p=qq (.lst xs)->DenL K F' ds xs->Q (.ref p) H'
def dJ(f:FS):TS:=λ D σ H=>∃ F L S env fl S',Rel K F L S H/\EnvR K F L env σ/\f env S=qq (fl,S')/\∀ F' L' H',Gr F L F' L'->Rel K F' L' S' H'->match fl with
 | .nx aI=>∀ σ',EnvR K F' L' aI σ'->D.nx σ' H'
 | .rt w=>∀ v,eH K F' L' w v->D.rt v H'
 | .bk aI=>∀ σ',EnvR K F' L' aI σ'->D.bk σ' H'
 | .ct aI=>∀ σ',EnvR K F' L' aI σ'->D.ct σ' H'
end
section
variable {X : Cx}
theorem PE.weak{e:qw}{t t':TE}(h:PE X e t)(w:∀ σ H Q,t' σ H Q->t σ H Q):PE X e t':=λ aB s σ H Q I q=>h aB s σ H Q I (w σ H Q q)
theorem PT.weak{e:qw}{t t':TT}(h:PT X e t)(w:∀ σ H Q,t' σ H Q->t σ H Q):PT X e t':=λ aB s σ H Q I q=>h aB s σ H Q I (w σ H Q q)
theorem PW.weak{e:qw}{t t':TT}(h:PW X e t)(w:∀ σ H Q,t' σ H Q->t σ H Q):PW X e t':=λ wh aB s σ H Q I q=>h wh aB s σ H Q I (w σ H Q q)
theorem PA.weak{e:List qw}{t t':TA}(h:PA X e t)(w:∀ σ H Q,t' σ H Q->t σ H Q):PA X e t':=λ pos aB s σ H Q I q=>h pos aB s σ H Q I (w σ H Q q)
theorem PS.weak{e:xw}{t t':TS}(h:PS X e t)(w:∀ D σ H,t' D σ H->t D σ H):PS X e t':=λ aB s σ H D I q=>h aB s σ H D I (w D σ H q)
theorem dP.weak{e:List xw}{t t':TS}(h:dP X e t)(w:∀ D σ H,t' D σ H->t D σ H):dP X e t':=λ aB s σ H D I q=>h aB s σ H D I (w D σ H q)
abbrev sN(K:FrG)(F:Hp)(L:List qv)(S':aF)(w:W)(Q:VK):Prop:=∀ F' L' H' v,Gr F L F' L'->Rel K F' L' S' H'->eH K F' L' w v->Q v H'
noncomputable def f2(fa fb:FE)(g:aF->W->W->Option (W×aF)):FE:=λ env S=>(fa env S).bind λ p=>(fb env p.2).bind λ q=>g q.2 p.1 q.1
noncomputable def f1(fa:FE)(g:aF->W->Option (W×aF)):FE:=λ env S=>(fa env S).bind λ p=>g p.2 p.1
theorem aAK{K:FrG}{fa fb:FE}{g:aF->W->W->Option (W×aF)}{r:R2}
 (hr:∀ F L S H x y wx wy w S' Q,Rel K F L S H->eH K F L wx x->eH K F L wy y->g S wx wy=qq (w,S')->sN K F L S' w Q->r x y H Q)
 (σ:St) (H:Hp) (Q:VK) (h:aW K (f2 fa fb g) σ H Q):wS r (aW K fa) (aW K fb) σ H Q:=by
 obtain⟨F,L,S,env,w,S',R,E,e,q⟩:=h;unfold f2 at e;cases ea:fa env S with
 | none=>rw[ea] at e;cases e
 | some p =>
   obtain⟨wx,S1⟩:=p;rw[ea] at e;dsimp only[yDe] at e;cases eb:fb env S1 with
   | none=>rw[eb] at e;cases e
   | some p2 =>
     obtain⟨wy,S2⟩:=p2;rw[eb] at e;dsimp only at e;refine⟨F,L,S,env,wx,S1,R,E,ea,λ F1 L1 H1 x g1 R1 d1=>⟨F1,L1,S1,env,wy,S2,R1,E.mono g1,eb,λ F2 L2 H2 y g2 R2 d2=>?_⟩⟩
     exact hr F2 L2 S2 H2 x y wx wy w S' Q R2 (d1.mono g2) d2 e λ F3 L3 H3 v g3 R3 d3=>q F3 L3 H3 v ((g1.trans g2).trans g3) R3 d3
theorem aWO{K:FrG}{fa:FE}{g:aF->W->Option (W×aF)}{r:V->Hp->VK->Prop}
 (hr:∀ F L S H x wx w S' Q,Rel K F L S H->eH K F L wx x->g S wx=qq (w,S')->sN K F L S' w Q->r x H Q)
 (σ:St) (H:Hp) (Q:VK) (h:aW K (f1 fa g) σ H Q):tUn r (aW K fa) σ H Q:=by
 obtain⟨F,L,S,env,w,S',R,E,e,q⟩:=h;unfold f1 at e;cases ea:fa env S with
 | none=>rw[ea] at e;cases e
 | some p =>
   obtain⟨wx,S1⟩:=p;rw[ea] at e;dsimp only[yDe] at e;refine⟨F,L,S,env,wx,S1,R,E,ea,λ F1 L1 H1 x g1 R1 d1=>?_⟩
   exact hr F1 L1 S1 H1 x wx w S' Q R1 d1 e λ F3 L3 H3 v g3 R3 d3=>q F3 L3 H3 v (g1.trans g3) R3 d3
noncomputable def jH(i:Nat):FE:=λ env S=>match env[i]? with
 | some (qq w)=>qq (w,S)
 | _=>qz
theorem aMM{i:Nat}{env:aU}{S S':aF}{w:W}(h:jH i env S=qq (w,S')):env[i]? = qq (qq w)/\S'=S:=by
 unfold jH at h
 split at h
 ·rename_i w' e;cases h;exact⟨e,rfl⟩
 ·cases h
theorem aVl{i:Nat}{x:Str}{pos:Pos}(hN:X.N[i]? = qq x)(hv:wT X.env.scope x)(hd:(x==("__debug__" : Str))=false)(hcd:(x==("__classdict__" : Str))=false):PE X (.Name x pos) (aW X.K (jH i)):=
 PE.weak (aRA hN hv hd hcd) λ σ H Q aQ=>by
  obtain⟨F,L,S,env,w,S',R,E,e,q⟩:=aQ;obtain⟨e1,rfl⟩:=aMM e;obtain⟨v,e2,d⟩:=E.get i w e1;exact⟨v,e2,q F L H v Gr.refl R d⟩
noncomputable def fC(d:D):FE:=λ _ S=>qq (.d d,S)
theorem aT6{i j pos}:PE X (.Constant (.int i) j pos) (aW X.K (fC (.int i))):=
 PE.weak aSa λ σ H Q aQ=>by obtain⟨F,L,S,env,w,S',R,E,e,q⟩:=aQ;cases e;exact q F L H _ Gr.refl R (.int i)
theorem aWd{b j pos}:PE X (.Constant (.bool b) j pos) (aW X.K (fC (.bool b))):=
 PE.weak aTC λ σ H Q aQ=>by obtain⟨F,L,S,env,w,S',R,E,e,q⟩:=aQ;cases e;exact q F L H _ Gr.refl R (.bl b)
theorem aTA{j pos}:PE X (.Constant .none j pos) (aW X.K (fC .none)):=
 PE.weak aQD λ σ H Q aQ=>by obtain⟨F,L,S,env,w,S',R,E,e,q⟩:=aQ;cases e;exact q F L H _ Gr.refl R .non
theorem aVw{x j pos}:PE X (.Constant (.str x) j pos) (aW X.K (fC (.str x))):=
 PE.weak aSW λ σ H Q aQ=>by obtain⟨F,L,S,env,w,S',R,E,e,q⟩:=aQ;cases e;exact q F L H _ Gr.refl R (.str x)
noncomputable def hG(g:D->D->Option D)(S:aF)(x y:W):Option (W×aF):=(dr S x).bind λ a=>(dr S y).bind λ b=>(g a b).bind λ z=>qq (.d z,S)
noncomputable def nA(g:D->Option D)(S:aF)(x:W):Option (W×aF):=(dr S x).bind λ a=>(g a).bind λ z=>qq (.d z,S)
theorem aGl{g:D->D->Option D}{S S':aF}{x y w:W}(h:hG g S x y=qq (w,S')):∃ a b z,dr S x=qq a/\dr S y=qq b/\g a b=qq z/\w=.d z/\S'=S:=by
 unfold hG at h;cases e1:dr S x with
 | none=>rw[e1] at h;cases h
 | some a =>
   cases e2:dr S y with
   | none=>rw[e1,e2] at h;cases h
   | some b =>
     rw[e1,e2] at h;dsimp only[yDe] at h;cases e3:g a b with
     | none=>rw[e3] at h;cases h
     | some z=>rw[e3] at h;cases h;exact⟨a,b,z,rfl,rfl,e3,rfl,rfl⟩
theorem aBX{g:D->Option D}{S S':aF}{x w:W}(h:nA g S x=qq (w,S')):∃ a z,dr S x=qq a/\g a=qq z/\w=.d z/\S'=S:=by
 unfold nA at h;cases e1:dr S x with
 | none=>rw[e1] at h;cases h
 | some a =>
   rw[e1] at h;dsimp only[yDe] at h;cases e3:g a with
   | none=>rw[e3] at h;cases h
   | some z=>rw[e3] at h;cases h;exact⟨a,z,rfl,e3,rfl,rfl⟩
theorem aCd{K:FrG}{F:Hp}{L:List qv}{S:aF}{z:D}{Q:VK}(X:Cx)(hK:X.K=K)(q:sN K F L S (.d z) Q):gI X F L S z Q:=λ F' H' r sf R d=>by
 subst hK;exact q F' L H' r ⟨sf,[],by simp⟩ R d
noncomputable def rD2(X:Cx)(g:D->D->Option D):R2:=λ x y H Q=>∃ F L S dx dy z,Rel X.K F L S H/\bP X.K F H dx x/\bP X.K F H dy y/\g dx dy=qq z/\gI X F L S z Q
theorem aAj{g:D->D->Option D}(F:Hp)(L:List qv)(S:aF)(H:Hp)(x y:V)(wx wy w:W)(S':aF)(Q:VK)(R:Rel X.K F L S H)(h1:eH X.K F L wx x)(h2:eH X.K F L wy y)(e:hG g S wx wy=qq (w,S'))(q:sN X.K F L S' w Q):rD2 X g x y H Q:=by
 obtain⟨a,b,z,e1,e2,e3,rfl,rfl⟩:=aGl e;exact⟨F,L,S',a,b,z,R,jU R h1 e1,jU R h2 e2,e3,aCd X rfl q⟩
noncomputable def qC(op:jk)(fa fb:FE):FE:=f2 fa fb (hG (bY op))
theorem aUd{a b:qw}{op:jk}{pos:Pos}{fa fb:FE}(ha:PE X a (aW X.K fa))(hb:PE X b (aW X.K fb)):PE X (.BinOp a op b pos) (aW X.K (qC op fa fb)):=
 PE.weak (aJm (r:=rD2 X (bY op)) (λ aB s σ H x y v u Q I rx ry hPr2=>by obtain⟨F,L,S,dx,dy,z,R,nx,ny,e,q⟩:=hPr2;exact aS3 I rx ry R nx ny e q) ha hb) (aAK aAj)
noncomputable def xI(op:yz)(fa:FE):FE:=f1 fa (nA (nK op))
theorem aWK{a:qw}{op:yz}{pos:Pos}{fa:FE}(ha:PE X a (aW X.K fa)):PE X (.UnaryOp op a pos) (aW X.K (xI op fa)):=
 PE.weak (aTy (r:=λ x H Q=>∃ F L S dx z,Rel X.K F L S H/\bP X.K F H dx x/\nK op dx=qq z/\gI X F L S z Q) (λ aB s σ H x v Q I rx hPr3=>by obtain⟨F,L,S,dx,z,R,nx,e,q⟩:=hPr3;exact aUz I rx R nx e q) ha)
  (aWO λ F L S H x wx w S' Q R d e q=>by
    obtain⟨a,z,e1,e3,rfl,rfl⟩:=aBX e;exact⟨F,L,S',a,z,R,jU R d e1,e3,aCd X rfl q⟩)
noncomputable def aV(op:vz)(x y:D):Option D:=(lI op x y).map yBd
theorem aGy{op:vz}(hu:X.A.units+64<cLine):cO X (xk op) (rD2 X (aV op)):=λ aB s σ H x y v u Q I rx ry aQ=>by
 obtain⟨F,L,S,dx,dy,z,R,nx,ny,e,q⟩:=aQ;unfold aV at e;cases ec:lI op dx dy with
 | none=>rw[ec] at e;cases e
 | some b=>rw[ec] at e;cases e;exact aRT hu I rx ry R nx ny ec (q.here R (.bl b))
noncomputable def mS(op:vz)(fa fb:FE):FE:=f2 fa fb (hG (aV op))
theorem aVG{a b:qw}{op:vz}{pos:Pos}{fa fb:FE}(hu:X.A.units+64<cLine)(ha:PE X a (aW X.K fa))(hb:PE X b (aW X.K fb))(hm:jy op b=false):PE X (.Compare a [op] [b] pos) (aW X.K (mS op fa fb)):=
 PE.weak (aPi (aGy hu) ha hb hm) (aAK aAj)
noncomputable def dQ(fa:FE):FT:=λ env S=>(fa env S).bind λ p=>(dr p.2 p.1).bind λ d=>(qD d).bind λ b=>qq (b,p.2)
theorem aFF{fa:FE}{env:aU}{S S':aF}{b:Bool}(h:dQ fa env S=qq (b,S')):∃ w d,fa env S=qq (w,S')/\dr S' w=qq d/\qD d=qq b:=by
 unfold dQ at h;cases ea:fa env S with
 | none=>rw[ea] at h;cases h
 | some p =>
   obtain⟨w,S1⟩:=p;rw[ea] at h;dsimp only[yDe] at h;cases e1:dr S1 w with
   | none=>rw[e1] at h;cases h
   | some d =>
     rw[e1] at h;dsimp only at h;cases e2:qD d with
     | none=>rw[e2] at h;cases h
     | some c=>rw[e2] at h;cases h;exact⟨w,d,rfl,e1,e2⟩
theorem aUG{a:qw}{fa:FE}(ha:PE X a (aW X.K fa))(he:∀ eV,isTrue a X.env eV=(do let v <- eV;standAt a.pos;holding [v] (truthy v))):PT X a (eU X.K (dQ fa)):=
 PT.weak (aOd ha he) λ σ H Q aQ=>by
  obtain⟨F,L,S,env,b,S',R,E,e,q⟩:=aQ;obtain⟨w,d,e1,e2,e3⟩:=aFF e;exact⟨F,L,S,env,w,S',R,E,e1,λ F1 L1 H1 v g1 R1 d1=>⟨b,aQj R1 (jU R1 d1 e2) e3,q F1 L1 H1 g1 R1⟩⟩
theorem aSX{a b:qw}{op:vz}{pos:Pos}{fa fb:FE}(hu:X.A.units+64<cLine)(ha:PE X a (aW X.K fa))(hb:PE X b (aW X.K fb))(hm:jy op b=false):PT X (.Compare a [op] [b] pos) (eU X.K (dQ (mS op fa fb))):=
 PT.weak (aP4 (aGy hu) ha hb hm) λ σ H Q aQ=>by
  obtain⟨F,L,S,env,b,S',R,E,e,q⟩:=aQ;obtain⟨w,d,e1,e2,e3⟩:=aFF e;refine aAK (fa:=fa) (fb:=fb) (g:=hG (aV op)) aAj σ H _ ⟨F,L,S,env,w,S',R,E,e1,λ F1 L1 H1 v g1 R1 d1=>?_⟩
  have hc:∃ c,w=.d (.bool c):=by
   unfold mS f2 at e1;cases ea:fa env S with
   | none=>rw[ea] at e1;cases e1
   | some p =>
     rw[ea] at e1;dsimp only[yDe] at e1;cases eb:fb env p.2 with
     | none=>rw[eb] at e1;cases e1
     | some p2 =>
       rw[eb] at e1;dsimp only at e1;obtain⟨_,_,z,_,_,e6,rfl,_⟩:=aGl e1;unfold aV at e6;cases e7:lI op _ _ with
       | none=>rw[e7] at e6;cases e6
       | some c=>rw[e7] at e6;cases e6;exact⟨c,rfl⟩
  obtain⟨c,rfl⟩:=hc;cases e2;cases e3;have hv:v=.bl b:=by cases (show Den X.K F1 (.bool b) v from d1);rfl
  exact⟨b,hv,q F1 L1 H1 g1 R1⟩
end
section
variable {X : Cx}{pos : Pos}
noncomputable def wM(fa fb:FT):FT:=λ env S=>(fa env S).bind λ p=>if p.1=true then fb env p.2 else qq (false,p.2)
noncomputable def xG(fa fb:FT):FT:=λ env S=>(fa env S).bind λ p=>if p.1=true then qq (true,p.2) else fb env p.2
noncomputable def wO(fa:FT):FT:=λ env S=>(fa env S).bind λ p=>qq (!p.1,p.2)
theorem aJb{K:FrG}{fa fb:FT}(σ:St)(H:Hp)(Q:Bool->Hp->Prop)(h:eU K (wM fa fb) σ H Q):aKa (eU K fa) (eU K fb) σ H Q:=by
 obtain⟨F,L,S,env,b,S',R,E,e,q⟩:=h;obtain⟨⟨c,S1⟩,e1,e2⟩:=bind_some e;refine⟨F,L,S,env,c,S1,R,E,e1,λ F1 L1 H1 g1 R1=>?_⟩
 dsimp only at e2;cases c with
 | true=>exact qA ⟨F1,L1,S1,env,b,S',R1,E.mono g1,by simpa using e2,λ F2 L2 H2 g2 R2=>q F2 L2 H2 (g1.trans g2) R2⟩
 | false =>
   have e3:qq (false,S1)=qq (b,S'):=by simpa using e2
   cases e3;exact qI (q F1 L1 H1 g1 R1)
theorem aKi{K:FrG}{fa fb:FT}(σ:St)(H:Hp)(Q:Bool->Hp->Prop)(h:eU K (xG fa fb) σ H Q):tOr (eU K fa) (eU K fb) σ H Q:=by
 obtain⟨F,L,S,env,b,S',R,E,e,q⟩:=h;obtain⟨⟨c,S1⟩,e1,e2⟩:=bind_some e;refine⟨F,L,S,env,c,S1,R,E,e1,λ F1 L1 H1 g1 R1=>?_⟩
 dsimp only at e2;cases c with
 | false=>exact qI ⟨F1,L1,S1,env,b,S',R1,E.mono g1,by simpa using e2,λ F2 L2 H2 g2 R2=>q F2 L2 H2 (g1.trans g2) R2⟩
 | true =>
   have e3:qq (true,S1)=qq (b,S'):=by simpa using e2
   cases e3;exact qA (q F1 L1 H1 g1 R1)
theorem aTx{a:qw}{fa:FT}(ha:PT X a (eU X.K fa)):PT X (.UnaryOp .Not a pos) (eU X.K (wO fa)):=
 PT.weak (aRD ha) λ σ H Q aQ=>by
  obtain⟨F,L,S,env,b,S',R,E,e,q⟩:=aQ;obtain⟨⟨c,S1⟩,e1,e2⟩:=bind_some e;cases e2;exact⟨F,L,S,env,c,S1,R,E,e1,q⟩
noncomputable def vB(fa fb:FE):FE:=λ env S=>(fa env S).bind λ p=>match p.1 with
 | .d (.bool true)=>fb env p.2
 | .d (.bool false)=>qq (.d (.bool false),p.2)
 | _=>qz
noncomputable def vY(fa fb:FE):FE:=λ env S=>(fa env S).bind λ p=>match p.1 with
 | .d (.bool false)=>fb env p.2
 | .d (.bool true)=>qq (.d (.bool true),p.2)
 | _=>qz
noncomputable def vN(fa:FE):FE:=λ env S=>(fa env S).bind λ p=>match p.1 with
 | .d (.bool b)=>qq (.d (.bool (!b)),p.2)
 | _=>qz
theorem vC{K:FrG}{F:Hp}{L:List qv}{b:Bool}{v:V}(h:eH K F L (.d (.bool b)) v):v=.bl b:=by cases (show Den K F (.bool b) v from h);rfl
theorem aIl{K:FrG}{fa fb:FE}(σ:St)(H:Hp)(Q:VK)(h:aW K (vB fa fb) σ H Q):aJJ (aW K fa) (aW K fb) σ H Q:=by
 obtain⟨F,L,S,env,w,S',R,E,e,q⟩:=h;obtain⟨⟨c,S1⟩,e1,e2⟩:=bind_some e;dsimp only at e2
 split at e2
 ·exact⟨F,L,S,env,_,S1,R,E,e1,λ F1 L1 H1 v g1 R1 d1=>⟨true,vC d1,qA ⟨F1,L1,S1,env,w,S',R1,E.mono g1,e2,λ F2 L2 H2 v2 g2 R2 d2=>q F2 L2 H2 v2 (g1.trans g2) R2 d2⟩⟩⟩
 ·cases e2;exact⟨F,L,S,env,_,_,R,E,e1,λ F1 L1 H1 v g1 R1 d1=>⟨false,vC d1,qI (q F1 L1 H1 _ g1 R1 (Den.bl false))⟩⟩
 ·cases e2
theorem aJD{K:FrG}{fa fb:FE}(σ:St)(H:Hp)(Q:VK)(h:aW K (vY fa fb) σ H Q):aJZ (aW K fa) (aW K fb) σ H Q:=by
 obtain⟨F,L,S,env,w,S',R,E,e,q⟩:=h;obtain⟨⟨c,S1⟩,e1,e2⟩:=bind_some e;dsimp only at e2
 split at e2
 ·exact⟨F,L,S,env,_,S1,R,E,e1,λ F1 L1 H1 v g1 R1 d1=>⟨false,vC d1,qI ⟨F1,L1,S1,env,w,S',R1,E.mono g1,e2,λ F2 L2 H2 v2 g2 R2 d2=>q F2 L2 H2 v2 (g1.trans g2) R2 d2⟩⟩⟩
 ·cases e2;exact⟨F,L,S,env,_,_,R,E,e1,λ F1 L1 H1 v g1 R1 d1=>⟨true,vC d1,qA (q F1 L1 H1 _ g1 R1 (Den.bl true))⟩⟩
 ·cases e2
theorem aSo{a:qw}{fa:FE}(ha:PE X a (aW X.K fa)):PE X (.UnaryOp .Not a pos) (aW X.K (vN fa)):=
 PE.weak (aRx ha) λ σ H Q aQ=>by
  obtain⟨F,L,S,env,w,S',R,E,e,q⟩:=aQ;obtain⟨⟨c,S1⟩,e1,e2⟩:=bind_some e;dsimp only at e2
  split at e2
  ·cases e2;exact⟨F,L,S,env,_,_,R,E,e1,λ F1 L1 H1 v g1 R1 d1=>⟨_,vC d1,q F1 L1 H1 _ g1 R1 (Den.bl _)⟩⟩
  ·cases e2
noncomputable def wG(fc:FT)(fa fb:FE):FE:=λ env S=>(fc env S).bind λ p=>if p.1=true then fa env p.2 else fb env p.2
theorem aUX{c a b:qw}{fc:FT}{fa fb:FE}(hc:PT X c (eU X.K fc))(ha:PE X a (aW X.K fa))(hb:PE X b (aW X.K fb)):PE X (.IfExp c a b pos) (aW X.K (wG fc fa fb)):=
 PE.weak (aNG hc ha hb) λ σ H Q aQ=>by
  obtain⟨F,L,S,env,w,S',R,E,e,q⟩:=aQ;obtain⟨⟨c,S1⟩,e1,e2⟩:=bind_some e;refine⟨F,L,S,env,c,S1,R,E,e1,λ F1 L1 H1 g1 R1=>?_⟩
  dsimp only at e2;cases c with
  | true=>exact qA ⟨F1,L1,S1,env,w,S',R1,E.mono g1,by simpa using e2,λ F2 L2 H2 v g2 R2 d2=>q F2 L2 H2 v (g1.trans g2) R2 d2⟩
  | false=>exact qI ⟨F1,L1,S1,env,w,S',R1,E.mono g1,by simpa using e2,λ F2 L2 H2 v g2 R2 d2=>q F2 L2 H2 v (g1.trans g2) R2 d2⟩
noncomputable def gW:FA:=λ _ S=>qq ([],S)
noncomputable def cR(fa:FE)(fr:FA):FA:=λ env S=>(fa env S).bind λ p=>(fr env p.2).bind λ q=>qq (p.1::q.1,q.2)
theorem aDk:PA X [] (eT X.K gW):=PA.weak aRE λ σ H Q aQ=>by obtain⟨F,L,S,env,ws,S',R,E,e,q⟩:=aQ;cases e;exact q F L H [] Gr.refl R .nil
theorem nY{e:qw}{es:List qw}{fa:FE}{fr:FA}(ha:PE X e (aW X.K fa))(hr:PA X es (eT X.K fr))(hs:qo (e::es) X.env=(false,eval e X.env)::qo es X.env):PA X (e::es) (eT X.K (cR fa fr)):=
 PA.weak (aQf ha hr hs) λ σ H Q aQ=>by
  obtain⟨F,L,S,env,ws,S',R,E,e,q⟩:=aQ;obtain⟨⟨w,S1⟩,e1,e2⟩:=bind_some e;obtain⟨⟨wr,S2⟩,e3,e4⟩:=bind_some e2;cases e4;exact⟨F,L,S,env,w,S1,R,E,e1,λ F1 L1 H1 v g1 R1 d1=>⟨F1,L1,S1,env,wr,S2,R1,E.mono g1,e3,λ F2 L2 H2 vs g2 R2 d2=>q F2 L2 H2 _ (g1.trans g2) R2 (.cons (d1.mono g2) d2)⟩⟩
noncomputable def qF:List W->Option (List D)
 | []=>qq []
 | .d x::r=>(qF r).bind λ l=>qq (x::l)
 | .loc _::_=>qz
theorem aB9{K:FrG}{F:Hp}{L:List qv}:∀ {ws:List W}{xs:List V}{ds:List D},WDenL K F L ws xs->qF ws=qq ds->DenL K F ds xs
 | _,_,_,.nil,e=>by cases e;exact .nil
 | .d x::r,_,_,.cons h t,e=>by
   obtain⟨l,e1,e2⟩:=bind_some e;cases e2;exact .cons h (aB9 t e1)
 | .loc _::_,_,_,.cons _ _,e=>by cases e
noncomputable def wL(fs:FA):FE:=λ env S=>(fs env S).bind λ p=>(qF p.1).bind λ ds=>if ds.length<=qy then qq (.d (.tuple ds),p.2) else qz
theorem aUA{es:List qw}{k:Nat}{fs:FA}(h:PA X es (eT X.K fs)):PE X (.Tuple es k pos) (aW X.K (wL fs)):=
 PE.weak (aQv h) λ σ H Q aQ=>by
  obtain⟨F,L,S,env,w,S',R,E,e,q⟩:=aQ;obtain⟨⟨ws,S1⟩,e1,e2⟩:=bind_some e;obtain⟨ds,e3,e4⟩:=bind_some e2
  split at e4
  ·rename_i hz;cases e4;refine⟨F,L,S,env,ws,_,R,E,e1,λ F1 L1 H1 vs g1 R1 d1=>?_⟩
   have dl:=aB9 d1 e3;refine⟨by rw[<- dl.length];exact hz,λ p hp=>?_⟩
   exact q _ L1 _ _ (g1.trans (Gr.new (R1.sub.free hp))) (R1.new hp) (Den.tup (bS.of cY) (dl.mono (dW (R1.sub.free hp))))
  ·cases e4
noncomputable def vV(fs:FA):FL:=λ env S=>(fs env S).bind λ p=>(qF p.1).bind λ ds=>if ds.length<=qy then qq (ds,p.2) else qz
theorem aTP{es:List qw}{fs:FA}(h:PA X es (eT X.K fs)):PE X (.List es pos) (iK X.K (vV fs)):=
 PE.weak (aRy h) λ σ H Q aQ=>by
  obtain⟨F,L,S,env,ds,S',R,E,e,q⟩:=aQ;obtain⟨⟨ws,S1⟩,e1,e2⟩:=bind_some e;obtain⟨ds',e3,e4⟩:=bind_some e2
  split at e4
  ·rename_i hz;cases e4;refine⟨F,L,S,env,ws,_,R,E,e1,λ F1 L1 H1 vs g1 R1 d1=>?_⟩
   have dl:=aB9 d1 e3;exact⟨by rw[<- dl.length];exact hz,λ p hp=>q F1 L1 _ p vs g1 (R1.lay hp) (R1.sub.free hp) (R1.notin hp) cY dl⟩
  ·cases e4
noncomputable def hJ(f:FL):FE:=λ env S=>(f env S).bind λ p=>qq (.d (.list p.1),p.2)
theorem aJY{e:qw}{f:FL}(h:PE X e (iK X.K f)):PE X e (aW X.K (hJ f)):=
 PE.weak h λ σ H Q aQ=>by
  obtain⟨F,L,S,env,w,S',R,E,e,q⟩:=aQ;obtain⟨⟨ds,S1⟩,e1,e2⟩:=bind_some e;cases e2;exact⟨F,L,S,env,ds,_,R,E,e1,λ F1 L1 H1 p xs g1 R1 hF hL hH dl=>q _ L1 _ _ (g1.trans (Gr.new hF)) (R1.adopt hF hL hH) (Den.lst (bM.of cY) (dl.mono (dW hF)))⟩
noncomputable def fD(f:FL):FE:=λ env S=>(f env S).bind λ p=>qq (.loc p.2.length,p.2++[qq p.1])
theorem aVA{e:qw}{f:FL}(h:PE X e (iK X.K f)):PE X e (aW X.K (fD f)):=
 PE.weak h λ σ H Q aQ=>by
  obtain⟨F,L,S,env,w,S',R,E,e,q⟩:=aQ;obtain⟨⟨ds,S1⟩,e1,e2⟩:=bind_some e;cases e2;refine⟨F,L,S,env,ds,_,R,E,e1,λ F1 L1 H1 p xs g1 R1 hF hL hH dl=>q _ _ _ _ (g1.trans Gr.newLoc) (R1.adoptLoc hF hL hH dl) ⟨p,?_,rfl⟩⟩
  dsimp only;rw[<- R1.len,yAe (yAb _)];simp
noncomputable def aH:D->D->Option D
 | .list xs,.int i=>kH xs i
 | .tuple xs,.int i=>kH xs i
 | .str z,.int i=>if z.length<=qy then (kH z.cps.toList i).bind λ c=>qq (.str ⟨#[c]⟩) else qz
 | _,_=>qz
theorem aG4{K:FrG}{F:Hp}{ds:List D}{xs:List V}{i:Int}{d:D}(h:DenL K F ds xs)(e:kH ds i=qq d):∃ x,kH xs i=qq x/\Den K F d x:=by
 unfold kH at e ⊢;rw[<- h.length];obtain⟨j,e1,e2⟩:=bind_some e;obtain⟨x,e3,dx⟩:=h.get e2;exact⟨x,by rw[e1];exact e3,dx⟩
theorem aPV:lP X (rD2 X aH):=λ value iX aB s σ H x y v u Q I rx ry aQ hs=>by
 obtain⟨F,L,S,dx,dy,z,R,nx,ny,e,q⟩:=aQ;unfold aH at e
 split at e
 ·obtain⟨a,xs,rfl,sq,dl⟩:=nx.lst R.sub;obtain⟨r,e1,d1⟩:=aG4 dl e;exact aOG value iX aB s σ H _ y v u Q I rx ry ⟨a,xs,_,r,rfl,ny.int,sq,e1,q.here R d1⟩ hs
 ·obtain⟨a,xs,rfl,sq,dl⟩:=nx.tup R.sub;obtain⟨r,e1,d1⟩:=aG4 dl e;exact aSF value iX aB s σ H _ y v u Q I rx ry ⟨a,xs,_,r,rfl,ny.int,sq,e1,q.here R d1⟩ hs
 ·split at e
  ·rename_i hz;obtain⟨c,e1,e2⟩:=bind_some e;cases e2;exact aR8 value iX aB s σ H x y v u Q I rx ry ⟨_,_,c,nx.str,ny.int,hz,e1,q.here R (.str _)⟩ hs
  ·cases e
 ·cases e
noncomputable def oT(fa fb:FE):FE:=f2 fa fb (hG aH)
theorem aVR{a b:qw}{fa fb:FE}(ha:PE X a (aW X.K fa))(hb:PE X b (aW X.K fb))(hs:zK b):PE X (.Subscript a b pos) (aW X.K (oT fa fb)):=
 PE.weak (aI9 aPV ha hb hs) (aAK aAj)
abbrev FO:=aU->aF->Option (Option Int×aF)
noncomputable def xA:FO:=λ _ S=>qq (qz,S)
noncomputable def lG(fa:FE):FO:=λ env S=>(fa env S).bind λ p=>match p.1 with
 | .d (.int i)=>qq (qq i,p.2)
 | _=>qz
def lL(K:FrG)(f:FO):TO:=λ σ H Q=>∃ F L S env o S',Rel K F L S H/\EnvR K F L env σ/\f env S=qq (o,S')/\∀ F' L' H',Gr F L F' L'->Rel K F' L' S' H'->Q o H'
theorem aWJ:PO X qz (lL X.K xA):=λ aB s σ H Q I aQ=>by
 obtain⟨F,L,S,env,o,S',R,E,e,q⟩:=aQ;cases e;exact aQd aB s σ H Q I (q F L H Gr.refl R)
theorem aSK{a:qw}{fa:FE}(ha:PE X a (aW X.K fa)):PO X (qq a) (lL X.K (lG fa)):=λ aB s σ H Q I aQ=>by
 obtain⟨F,L,S,env,o,S',R,E,e,q⟩:=aQ;obtain⟨⟨w,S1⟩,e1,e2⟩:=bind_some e;dsimp only at e2
 split at e2
 ·cases e2;refine aOx ha aB s σ H Q I ⟨F,L,S,env,_,_,R,E,e1,λ F1 L1 H1 v g1 R1 d1=>?_⟩
  cases (show Den X.K F1 (.int _) v from d1)
  exact⟨_,rfl,q F1 L1 H1 g1 R1⟩
 ·cases e2
noncomputable def iG(xs:List D)(lo hi:Option Int):List D:=(xs.drop (HT.sIx xs.length 0 lo)).take (HT.sIx xs.length xs.length hi-HT.sIx xs.length 0 lo)
theorem aHs{K:FrG}{F:Hp}{ds:List D}{xs:List V}(h:DenL K F ds xs)(lo hi:Option Int):DenL K F (iG ds lo hi) (mR xs lo hi):=by
 unfold iG mR;rw[h.length];exact(h.drop _).take _
noncomputable def slL:D->Option Int->Option Int->Option (List D)
 | .list xs,lo,hi=>qq (iG xs lo hi)
 | _,_,_=>qz
noncomputable def aKh(fa:FE)(fl fh:FO):FL:=λ env S=>(fa env S).bind λ p=>(fl env p.2).bind λ q=>(fh env q.2).bind λ r=>(dr r.2 p.1).bind λ d=>(slL d q.1 r.1).bind λ z=>qq (z,r.2)
theorem aUU{a:qw}{lo hi:Option qw}{p2:Pos}{fa:FE}{fl fh:FO}(ha:PE X a (aW X.K fa))(hl:PO X lo (lL X.K fl))(hh:PO X hi (lL X.K fh)):PE X (.Subscript a (.Slice lo hi qz p2) pos) (iK X.K (aKh fa fl fh)):=
 PE.weak (aGM aPc ha hl hh) λ σ H Q aQ=>by
  obtain⟨F,L,S,env,ds,S',R,E,e,q⟩:=aQ;obtain⟨⟨w,S1⟩,e1,e⟩:=bind_some e;obtain⟨⟨l,S2⟩,e2,e⟩:=bind_some e;obtain⟨⟨h,S3⟩,e3,e⟩:=bind_some e;obtain⟨d,e4,e⟩:=bind_some e;obtain⟨z,e5,e⟩:=bind_some e;cases e;refine⟨F,L,S,env,w,S1,R,E,e1,λ F1 L1 H1 v g1 R1 d1=>⟨F1,L1,S1,env,l,S2,R1,E.mono g1,e2,λ F2 L2 H2 g2 R2=>⟨F2,L2,S2,env,h,S3,R2,E.mono (g1.trans g2),e3,λ F3 L3 H3 g3 R3=>?_⟩⟩⟩
  have n:=jU R3 (d1.mono (g2.trans g3)) e4;cases d with
  | list xs =>
    cases e5;obtain⟨a,vs,rfl,sq,dl⟩:=n.lst R3.sub;exact⟨a,vs,rfl,sq,λ p hp=>q F3 L3 _ p _ ((g1.trans g2).trans g3) (R3.lay hp) (R3.sub.free hp) (R3.notin hp) cY (aHs dl l h)⟩
  | _=>cases e5
noncomputable def sX(K:FrG)(np:Nat)(call:List W->aF->Option (W×aF)):Sp:=λ vs H Q _=>∃ F L S ws w S',ws.length=np/\Rel K F L S H/\WDenL K F L ws vs/\call ws S=qq (w,S')/\sN K F L S' w Q
noncomputable def aAo(fs:FA)(np:Nat)(call:List W->aF->Option (W×aF)):FE:=λ env S=>(fs env S).bind λ p=>if p.1.length=np then call p.1 p.2 else qz
theorem aQU{K:FrG}{fs:FA}{np:Nat}{call:List W->aF->Option (W×aF)}(σ:St)(H:Hp)(Q:VK)(h:aW K (aAo fs np call) σ H Q):aAz (sX K np call) [] E0 (eT K fs) σ H Q:=by
 obtain⟨F,L,S,env,w,S',R,E,e,q⟩:=h;obtain⟨⟨ws,S1⟩,e1,e⟩:=bind_some e
 split at e
 ·rename_i hn;refine⟨F,L,S,env,ws,S1,R,E,e1,λ F1 L1 H1 vs g1 R1 d1=>⟨F1,L1,S1,ws,w,S',hn,R1,by rw[yDd];exact d1,e,λ F2 L2 H2 v g2 R2 d2=>q F2 L2 H2 v (g1.trans g2) R2 d2⟩⟩
 ·cases e
inductive NowL (K:FrG) (F H:Hp):List D->List V->Prop
 | nil:NowL K F H [] []
 | cons {d:D}{ds:List D}{x:V}{xs:List V}:bP K F H d x->NowL K F H ds xs->NowL K F H (d::ds) (x::xs)
noncomputable def nG(S:aF):List W->Option (List D)
 | []=>qq []
 | w::r=>(dr S w).bind λ d=>(nG S r).bind λ l=>qq (d::l)
theorem aHA{K:FrG}{F H:Hp}{L:List qv}{S:aF}(R:Rel K F L S H):∀ {ws:List W}{xs:List V}{ds:List D},WDenL K F L ws xs->nG S ws=qq ds->NowL K F H ds xs
 | _,_,_,.nil,e=>by cases e;exact .nil
 | _,_,_,.cons h t,e=>by
   obtain⟨d,e1,e⟩:=bind_some e;obtain⟨l,e2,e⟩:=bind_some e;cases e;exact .cons (jU R h e1) (aHA R t e2)
noncomputable def lS(X:Cx)(g:List D->Option D):List V->Hp->VK->Prop:=λ xs H Q=>∃ F L S ds z,Rel X.K F L S H/\NowL X.K F H ds xs/\g ds=qq z/\gI X F L S z Q
noncomputable def qE(fs:FA)(g:List D->Option D):FE:=λ env S=>(fs env S).bind λ p=>(nG p.2 p.1).bind λ ds=>(g ds).bind λ z=>qq (.d z,p.2)
theorem mJ{fs:FA}{g:List D->Option D}(σ:St)(H:Hp)(Q:VK)(h:aW X.K (qE fs g) σ H Q):tCB (lS X g) (eT X.K fs) σ H Q:=by
 obtain⟨F,L,S,env,w,S',R,E,e,q⟩:=h;obtain⟨⟨ws,S1⟩,e1,e⟩:=bind_some e;obtain⟨ds,e2,e⟩:=bind_some e;obtain⟨z,e3,e⟩:=bind_some e;cases e;refine⟨F,L,S,env,ws,_,R,E,e1,λ F1 L1 H1 vs g1 R1 d1=>⟨F1,L1,S1,ds,z,R1,aHA R1 d1 e2,e3,aCd X rfl λ F2 L2 H2 v g2 R2 d2=>q F2 L2 H2 v (g1.trans g2) R2 d2⟩⟩
end
section
variable {prog : qu}{w : zq}{A : zv}{E : qx -> qj -> Prop}{s : qj}
theorem aFG{it t:qv}{aO:Array qx}(hne:t≠it):∀ (n i:Nat) (s:qj) (Q:List qx->qj->Prop),s.heap.IsListIter it t i->s.heap.IsList t aO->i+n<=aO.size ->
 (∀ h',h'.IsListIter it t (i+n)->yEb it s.heap h'->Q ((aO.toList.drop i).take n) {s with heap:=h' })->qk (model prog w) A (draw (.ref it) n) Q E s
 | 0,i,s,Q,bI,_,_,hQ=>wP (by simpa using hQ s.heap bI (Heap.SameBut.refl _ _))
 | n+1,i,s,Q,bI,hl,hle,hQ=>by
   have hlt:i<aO.size:=by omega
   show qk _ _ (vq (.ref it) >>= _) Q E s;refine wB (vy bI hl (x:=aO[i]) (by simp[hlt]) λ h1 hit1 hs1=>?_)
   refine wB (zy (aFG hne n (i+1) _ _ hit1 (hl.extBut hs1.extBut hne) (by omega) λ h2 hit2 hs2=>wP ?_))
   have q:=hQ h2 (by rw[show i+(n+1)=i+1+n by omega];exact hit2) (hs1.trans hs2)
   rw[yCa (by simpa using hlt),List.take_succ_cons] at q
   exact q
theorem aLB{env:Env}{elts:List qw}{x1}{pos:Pos}{t:qv}{aO:Array qx}{Q:Unit->qj->Prop}(hh:A.handled=qz)(hl:s.heap.IsList t aO)
 (hn:(zo elts env).length=aO.size) (hstar:(zo elts env).findIdx? (·.1)=qz)
 (h:∀ h',Heap.ExtBut s.heap.objs.size s.heap h'->qk (model prog w) A (assignInOrder ((zo elts env).map (·.2)) aO.toList) Q E {s with heap:=h' }) :
 qk (model prog w) A (assign (.Tuple elts x1 pos) env (.ref t)) Q E s:=by
 have hlt:t≠s.heap.objs.size:=by obtain⟨o,ho,_⟩:=hl;exact xAk (xAa ho)
 have hl1:∀ o,(s.heap.push o).IsList t aO:=λ o=>let ⟨u,hu,r⟩:=hl;⟨u,hpS _ hu,r⟩
 rw[arm_assign_Tuple];refine wB (yk ?_);unfold unpack;rw[hn,hstar];refine wB (zy ?_);unfold unpackItems;refine wB ?_;unfold notIterableAtAll;refine wB (kx hl.typeIs slot_list_iter.lookup (wP ?_));simp only[yAo,if_false];refine wB (zy (jj hl ?_));refine wB (zy (aFG hlt aO.size 0 _ _ ⟨_,xAe _ rfl,rfl,rfl⟩ (hl1 _) (by omega) λ h1 hit1 hs1=>?_))
 rw[show yDn aO.size (List.drop 0 aO.toList)=aO.toList by rw[yEp];exact yDh (by simp)]
 rw[if_neg (by simp)]
 have hl2:h1.IsList t aO:=(hl1 _).extBut hs1.extBut hlt;refine wB (zy (vo hh hit1 hl2 (by simp) λ h2 he2=>?_))
 simp only[Option.isSome_none,yAo,if_false];exact wP (h h2 λ b o hb e=>he2 b o hb (hs1.extBut b o hb (hpS _ e)))
end
section
variable {X : Cx}
def aDK(K:FrG)(n:Nat)(t:iW):TG:=λ v σ H Q=>∃ a xs,v=.ref a/\(bS K H a xs\/bM K H a xs)/\xs.length=n/\t xs σ H Q
theorem aRN{es:List qw}{k:Nat}{t:iW}{n:Nat}{pos:Pos}(hc:X.calm=true)(h:qK X es t)(hn:(zo es X.env).length=n)(hst:(zo es X.env).findIdx? (·.1)=qz):PG X (.Tuple es k pos) (aDK X.K n t):=by
 intro aB s σ H v u Q I r hw;obtain⟨a,xs,e1,hq,hl,hw⟩:=hw;rcases hq with hq | hq
 ·exact aSv hc h hn hst aB s σ H v u Q I r ⟨a,xs,e1,hq,hl,hw⟩
 ·subst e1;cases r;obtain⟨aG,rv,pl,hz⟩:=I.list hq;refine aLB (I.ok.hd hc) pl.isList (by simp[hn,<- hl,rv.length]) hst λ h' hx=>?_
  have I1:Inv X aB σ H {s with heap:=h' }:=I.kept (t':=s.toks) λ b o e=>hx b o (xAk (xAa e)) e
  exact h aB _ σ H xs _ Q I1 (by simpa using rv) hw
end
section
variable {X : Cx}{pos : Pos}
noncomputable def aJ5(K:FrG)(D:Ends)(F':Hp)(L':List qv)(H':Hp):Fl->Prop
 | .nx aI=>∀ σ',EnvR K F' L' aI σ'->D.nx σ' H'
 | .rt w=>∀ v,eH K F' L' w v->D.rt v H'
 | .bk aI=>∀ σ',EnvR K F' L' aI σ'->D.bk σ' H'
 | .ct aI=>∀ σ',EnvR K F' L' aI σ'->D.ct σ' H'
theorem kX{K:FrG}{f:FS}{D:Ends}{σ:St}{H F:Hp}{L:List qv}{S:aF}{env:aU}{fl:Fl}{S':aF}(R:Rel K F L S H)(E:EnvR K F L env σ)(e:f env S=qq (fl,S'))
 (q:∀ F' L' H',Gr F L F' L'->Rel K F' L' S' H'->aJ5 K D F' L' H' fl):dJ K f D σ H:=⟨F,L,S,env,fl,S',R,E,e,λ F' L' H' g R'=>by
 have:=q F' L' H' g R';cases fl<;>exact this⟩
theorem jQ{K:FrG}{f:FS}{D:Ends}{σ:St}{H:Hp}(h:dJ K f D σ H):∃ F L S env fl S',Rel K F L S H/\EnvR K F L env σ/\f env S=qq (fl,S')/\∀ F' L' H',Gr F L F' L'->Rel K F' L' S' H'->aJ5 K D F' L' H' fl:=by
 obtain⟨F,L,S,env,fl,S',R,E,e,q⟩:=h;exact⟨F,L,S,env,fl,S',R,E,e,λ F' L' H' g R'=>by
  have:=q F' L' H' g R';cases fl<;>exact this⟩
noncomputable def sG:FS:=λ env S=>qq (.nx env,S)
theorem aRm:dP X [] (dJ X.K sG):=dP.weak aOC λ D σ H h=>by
 obtain⟨F,L,S,env,fl,S',R,E,e,q⟩:=jQ h;cases e;exact q F L H Gr.refl R σ E
noncomputable def dR(fa fb:FS):FS:=λ env S=>(fa env S).bind λ p=>match p.1 with
 | .nx e=>fb e p.2
 | fl=>qq (fl,p.2)
theorem aVn{a:xw}{b:List xw}{fa fb:FS}(ha:PS X a (dJ X.K fa))(hb:dP X b (dJ X.K fb)):dP X (a::b) (dJ X.K (dR fa fb)):=dP.weak (aOf ha hb) λ D σ H h=>by
 obtain⟨F,L,S,env,fl,S',R,E,e,q⟩:=jQ h;obtain⟨⟨f1,S1⟩,e1,e2⟩:=bind_some e;cases f1 with
 | nx e'=>exact kX R E e1 λ F1 L1 H1 g1 R1 σ1 E1=>kX R1 E1 e2 λ F2 L2 H2 g2 R2=>q F2 L2 H2 (g1.trans g2) R2
 | rt w=>cases e2;exact kX R E e1 λ F1 L1 H1 g1 R1=>q F1 L1 H1 g1 R1
 | bk e'=>cases e2;exact kX R E e1 λ F1 L1 H1 g1 R1=>q F1 L1 H1 g1 R1
 | ct e'=>cases e2;exact kX R E e1 λ F1 L1 H1 g1 R1=>q F1 L1 H1 g1 R1
noncomputable def vI(fa:FE):FS:=λ env S=>(fa env S).bind λ p=>qq (.nx env,p.2)
theorem aR5{e:qw}{fa:FE}(h:PE X e (aW X.K fa))(hs:swapsWith e qz pos.line X.env=pure false):PS X (.Expr e pos) (dJ X.K (vI fa)):=PS.weak (aOz h hs) λ D σ H h=>by
 obtain⟨F,L,S,env,fl,S',R,E,e,q⟩:=jQ h;obtain⟨⟨w,S1⟩,e1,e2⟩:=bind_some e;cases e2;exact⟨F,L,S,env,w,_,R,E,e1,λ F1 L1 H1 v g1 R1 d1=>q F1 L1 H1 g1 R1 σ (E.mono g1)⟩
noncomputable def oO(fa:FE):FS:=λ env S=>(fa env S).bind λ p=>qq (.rt p.1,p.2)
theorem aVD{e:qw}{fa:FE}(h:PE X e (aW X.K fa)):PS X (.Return (qq e) pos) (dJ X.K (oO fa)):=PS.weak (aRX h) λ D σ H h=>by
 obtain⟨F,L,S,env,fl,S',R,E,e,q⟩:=jQ h;obtain⟨⟨w,S1⟩,e1,e2⟩:=bind_some e;cases e2;exact⟨F,L,S,env,w,_,R,E,e1,λ F1 L1 H1 v g1 R1 d1=>q F1 L1 H1 g1 R1 v d1⟩
noncomputable def aUv:FS:=λ env S=>qq (.rt (.d .none),S)
noncomputable def mW(fc:FT)(fa fb:FS):FS:=λ env S=>(fc env S).bind λ p=>if p.1=true then fa env p.2 else fb env p.2
theorem aVL{c:qw}{a b:List xw}{fc:FT}{fa fb:FS}(hc:PT X c (eU X.K fc))(ha:dP X a (dJ X.K fa))(hb:dP X b (dJ X.K fb)):PS X (.If c a b pos) (dJ X.K (mW fc fa fb)):=PS.weak (aUa hc ha hb) λ D σ H h=>by
 obtain⟨F,L,S,env,fl,S',R,E,e,q⟩:=jQ h;obtain⟨⟨c,S1⟩,e1,e2⟩:=bind_some e;refine⟨F,L,S,env,c,S1,R,E,e1,λ F1 L1 H1 g1 R1=>?_⟩
 cases c with
 | true=>exact qA (kX R1 (E.mono g1) (by simpa using e2) λ F2 L2 H2 g2 R2=>q F2 L2 H2 (g1.trans g2) R2)
 | false=>exact qI (kX R1 (E.mono g1) (by simpa using e2) λ F2 L2 H2 g2 R2=>q F2 L2 H2 (g1.trans g2) R2)
noncomputable def fR(i:Nat)(fa:FE):FS:=λ env S=>(fa env S).bind λ p=>qq (.nx (env.set i (qq p.1)),p.2)
theorem aJv{K:FrG}{i:Nat}{fa:FE}(D:Ends)(σ:St)(H:Hp)(h:dJ K (fR i fa) D σ H):wF (aW K fa) (oI i) D σ H:=by
 obtain⟨F,L,S,env,fl,S',R,E,e,q⟩:=jQ h;obtain⟨⟨w,S1⟩,e1,e2⟩:=bind_some e;cases e2;exact⟨F,L,S,env,w,_,R,E,e1,λ F1 L1 H1 v g1 R1 d1=>q F1 L1 H1 g1 R1 _ ((E.mono g1).set i d1)⟩
theorem aJx{i:Nat}{x:Str}{e:qw}{fa:FE}{pos':Pos}(hN:X.N.Nodup)(hi:X.N[i]? = qq x)(hx:Loc X.env.scope x)(he:PE X e (aW X.K fa))(hs:swapsWith e (qq (.Name x pos')) pos.line X.env=pure false)(hf:X.fn x=true\/X.env.scope.names.lookup x=qq .local) :
 PS X (.Assign [.Name x pos'] e pos) (dJ X.K (fR i fa)):=PS.weak (aQJ hN hi hx he hs hf) aJv
noncomputable def nX:List Nat->List D->aU->Option aU
 | [],[],env=>qq env
 | i::is,d::ds,env=>nX is ds (env.set i (qq (.d d)))
 | _,_,_=>qz
inductive Tg where
 | one (i:Nat) | many (is:List Nat)
noncomputable def Tg.put:Tg->D->aU->Option aU
 | .one i,d,env=>qq (env.set i (qq (.d d)))
 | .many is,.tuple ds,env=>nX is ds env
 | .many is,.list ds,env=>nX is ds env
 | .many _,_,_=>qz
def GA(K:FrG)(t:Tg)(g:TG):Prop:=∀ (d:D) (x:V) (σ:St) (H F:Hp) (L:List qv) (S:aF) (env aI:aU) (Q:St->Hp->Prop),
 Rel K F L S H->EnvR K F L env σ->Den K F d x->t.put d env=qq aI->(∀ σ',EnvR K F L aI σ'->Q σ' H)->g x σ H Q
theorem aSn{K:FrG}(i:Nat):GA K (.one i) (oI i):=λ d x σ H F L S env aI Q R E dn e q=>by
 cases e;exact q _ (E.set i (w:=.d d) dn)
def xD(K:FrG)(is:List Nat)(g:iW):Prop:=∀ (ds:List D) (xs:List V) (σ:St) (H F:Hp) (L:List qv) (S:aF) (env aI:aU) (Q:St->Hp->Prop),
 Rel K F L S H->EnvR K F L env σ->DenL K F ds xs->nX is ds env=qq aI->(∀ σ',EnvR K F L aI σ'->Q σ' H)->g xs σ H Q
theorem aPa{K:FrG}:xD K [] aDD:=λ ds xs σ H F L S env aI Q R E dn e q=>by
 cases dn with
 | nil=>cases e;exact⟨rfl,q σ E⟩
 | cons _ _=>cases e
theorem aNY{K:FrG}{i:Nat}{is:List Nat}{g:iW}(h:xD K is g):xD K (i::is) (aDc (oI i) g):=λ ds xs σ H F L S env aI Q R E dn e q=>by
 cases dn with
 | nil=>cases e
 | cons d1 dr=>exact⟨_,_,rfl,h _ _ _ H F L S _ aI Q R (E.set i (w:=.d _) d1) dr e q⟩
theorem aBz:∀ {is:List Nat}{ds:List D}{env aI:aU},nX is ds env=qq aI->is.length=ds.length
 | [],[],_,_,_=>rfl
 | _::is,_::ds,_,_,e=>congrArg (· + 1) (aBz (is:=is) (ds:=ds) e)
 | [],_::_,_,_,e=>by cases e
 | _::_,[],_,_,e=>by cases e
theorem aQa{K:FrG}{is:List Nat}{g:iW}(h:xD K is g):GA K (.many is) (aDK K is.length g):=λ d x σ H F L S env aI Q R E dn e q=>by
 cases d with
 | tuple ds =>
   cases dn with
   | tup sq dl=>exact⟨_,_,rfl,.inl (iQ R.sub sq),by rw[<- dl.length];exact(aBz e).symm,h _ _ σ H F L S env aI Q R E dl e q⟩
 | list ds =>
   cases dn with
   | lst sq dl=>exact⟨_,_,rfl,.inr (R.sub.seq sq),by rw[<- dl.length];exact(aBz e).symm,h _ _ σ H F L S env aI Q R E dl e q⟩
 | _=>cases e
noncomputable def aAp(t:Tg)(fa:FE):FS:=λ env S=>(fa env S).bind λ p=>match p.1 with
 | .d d=>(t.put d env).bind λ e=>qq (.nx e,p.2)
 | _=>qz
theorem aQF{K:FrG}{t:Tg}{g:TG}{fa:FE}(hg:GA K t g)(D:Ends)(σ:St)(H:Hp)(h:dJ K (aAp t fa) D σ H):wF (aW K fa) g D σ H:=by
 obtain⟨F,L,S,env,fl,S',R,E,e,q⟩:=jQ h;obtain⟨⟨w,S1⟩,e1,e2⟩:=bind_some e;dsimp only at e2
 split at e2
 ·obtain⟨e',e3,e4⟩:=bind_some e2;cases e4;exact⟨F,L,S,env,_,_,R,E,e1,λ F1 L1 H1 v g1 R1 d1=>hg _ v σ H1 F1 L1 _ env e' _ R1 (E.mono g1) d1 e3 λ σ' E'=>q F1 L1 H1 g1 R1 σ' E'⟩
 ·cases e2
noncomputable def iC(S:aF):W->W->W->Option aF
 | .loc n,.d (.int k),.d x=>match S[n]? with
   | some (qq ds)=>(hU ds.length k).bind λ j=>qq (S.set n (qq (ds.set j x)))
   | _=>qz
 | _,_,_=>qz
noncomputable def jE(fo fi fe:FE):FS:=λ env S=>(fe env S).bind λ p=>(fo env p.2).bind λ q=>(fi env q.2).bind λ r=>(iC r.2 q.1 r.1 p.1).bind λ S'=>qq (.nx env,S')
theorem aL1{S S':aF}{o i x:W}(h:iC S o i x=qq S'):∃ n k d ds j,o=.loc n/\i=.d (.int k)/\x=.d d/\S[n]? = qq (qq ds)/\hU ds.length k=qq j/\S'=S.set n (qq (ds.set j d)):=by
 unfold iC at h
 split at h
 ·split at h
  ·rename_i ds e;obtain⟨j,e1,e2⟩:=bind_some h;cases e2;exact⟨_,_,_,ds,j,rfl,rfl,rfl,e,e1,rfl⟩
  ·cases h
 ·cases h
theorem aU9{K:FrG}{fo fi fe:FE}(D:Ends)(σ:St)(H:Hp)(h:dJ K (jE fo fi fe) D σ H):wF (aW K fe) (aKt (aW K fo) (aW K fi) aJh) D σ H:=by
 obtain⟨F,L,S,env,fl,S',R,E,e,q⟩:=jQ h;obtain⟨⟨we,S1⟩,e1,e⟩:=bind_some e;obtain⟨⟨wo,S2⟩,e2,e⟩:=bind_some e;obtain⟨⟨wi,S3⟩,e3,e⟩:=bind_some e;obtain⟨S4,e4,e⟩:=bind_some e;cases e;obtain⟨n,k,d,ds,j,rfl,rfl,rfl,e5,e6,rfl⟩:=aL1 e4;refine⟨F,L,S,env,_,S1,R,E,e1,λ F1 L1 H1 v g1 R1 d1=>⟨F1,L1,S1,env,_,S2,R1,E.mono g1,e2,λ F2 L2 H2 o g2 R2 d2=>⟨F2,L2,S2,env,_,S3,R2,E.mono (g1.trans g2),e3,λ F3 L3 H3 i g3 R3 d3=>?_⟩⟩⟩
 obtain⟨a,ea,rfl⟩:=d2.mono g3;obtain⟨fa,xs,ha,dl⟩:=R3.loc n a ds ea e5;have hi:i=.int k:=by cases (show Den K F3 (.int k) i from d3);rfl
 refine⟨a,xs,k,j,rfl,hi,ha,by rw[<- dl.length];exact e6,?_⟩
 exact q F3 L3 _ ((g1.trans g2).trans g3) (R3.put ea fa (dl.set j (show Den K F3 d v from d1.mono (g2.trans g3)))) σ (E.mono ((g1.trans g2).trans g3))
theorem aTH{o i e:qw}{fo fi fe:FE}{pos':Pos}(ho:PE X o (aW X.K fo))(hi:PE X i (aW X.K fi))(he:PE X e (aW X.K fe))(ha:∀ v,assign (.Subscript o i pos') X.env v=(do
 let ov <- holding [v] (eval o X.env)
 let iv <- holding [v,ov] (eval i X.env)
 standAt pos'
 holding [v,ov,iv] (setItem ov iv v)
 release [v,ov,iv] [])) (hs:swapsWithSole [.Subscript o i pos'] e pos.line X.env=pure false) (hw:yw [.Subscript o i pos'] e X.env=pure qz):PS X (.Assign [.Subscript o i pos'] e pos) (dJ X.K (jE fo fi fe)):=
 PS.weak (aIz he (aSC ho hi aNM ha) hs hw) aU9
noncomputable def dF(S:aF):W->W->Option (W×aF)
 | .loc n,.d x=>match S[n]? with
   | some (qq ds)=>if ds.length<qy then qq (.d .none,S.set n (qq (ds++[x]))) else qz
   | _=>qz
 | _,_=>qz
theorem aFM{S S':aF}{o x w:W}(h:dF S o x=qq (w,S')):∃ n d ds,o=.loc n/\x=.d d/\S[n]? = qq (qq ds)/\ds.length<qy/\w=.d .none/\S'=S.set n (qq (ds++[d])):=by
 unfold dF at h
 split at h
 ·split at h
  ·rename_i ds e
   split at h
   ·rename_i hz;cases h;exact⟨_,_,ds,rfl,rfl,e,hz,rfl,rfl⟩
   ·cases h
  ·cases h
 ·cases h
noncomputable def fF(fo fe:FE):FE:=f2 fo fe dF
theorem aVK{K:FrG}{fo fe:FE}(σ:St)(H:Hp)(Q:VK)(h:aW K (fF fo fe) σ H Q):tBM K "list" aHw (aW K fo) (eT K (cR fe gW)) σ H Q:=by
 obtain⟨F,L,S,env,w,S',R,E,e,q⟩:=h;obtain⟨⟨wo,S1⟩,e1,e⟩:=bind_some e;obtain⟨⟨we,S2⟩,e2,e⟩:=bind_some e;obtain⟨n,d,ds,rfl,rfl,e5,hz,rfl,rfl⟩:=aFM e;refine⟨F,L,S,env,_,S1,R,E,e1,λ F1 L1 H1 o g1 R1 d1=>?_⟩
 obtain⟨a,ea,rfl⟩:=d1;refine⟨.inl ⟨rfl,?_⟩,F1,L1,S1,env,[.d d],S2,R1,E.mono g1,?_,λ F2 L2 H2 vs g2 R2 d2=>?_⟩
 ·obtain⟨xs,hx⟩:=R1.tr n a ea;exact⟨xs,bM.of hx⟩
 ·unfold cR;rw[e2];rfl
 ·cases d2 with
  | cons dd dr =>
    cases dr;have ea2:=g2.get ea;obtain⟨fa,xs,ha,dl⟩:=R2.loc n a ds ea2 e5;exact⟨a,xs,_,rfl,rfl,ha,by rw[<- dl.length];exact hz,q F2 L2 _ _ (g1.trans g2) (R2.put ea2 fa (dl.append (.cons dd .nil))) Den.non⟩
end
section
variable {X : Cx}{pos : Pos}
noncomputable def gY(fc:FT)(fb:FS):Nat->FS
 | 0=>λ _ _=>qz
 | n+1=>λ env S=>(fc env S).bind λ p=>if p.1=true then (fb env p.2).bind λ q=>(match q.1 with
    | .nx e=>gY fc fb n e q.2
    | .ct e=>gY fc fb n e q.2
    | .bk e=>qq (.nx e,q.2)
    | .rt w=>qq (.rt w,q.2)) else qq (.nx env,p.2)
theorem aWF{c:qw}{b:List xw}{fc:FT}{fb:FS}(n:Nat)(hp:PassesOwn (model X.prog X.w) X.A X.env X.xe)(hc:PT X c (eU X.K fc))(hb:dP X b (dJ X.K fb)):PS X (.While c b [] pos) (dJ X.K (gY fc fb n)):=
 PS.weak (aNK hp hc hb) λ D σ H h=>by
 obtain⟨F,L,S,env,fl,S',R,E,e,q⟩:=jQ h;refine⟨λ m σ1 H1=>∃ F1 L1 S1 env1,Gr F L F1 L1/\Rel X.K F1 L1 S1 H1/\EnvR X.K F1 L1 env1 σ1/\gY fc fb m env1 S1=qq (fl,S'),⟨n,F,L,S,env,Gr.refl,R,E,e⟩,?_⟩
 rintro m σ1 H1 ⟨F1,L1,S1,env1,g1,R1,E1,e1⟩;cases m with
 | zero=>cases e1
 | succ m =>
   obtain⟨⟨c,S2⟩,e2,e3⟩:=bind_some e1;refine⟨F1,L1,S1,env1,c,S2,R1,E1,e2,λ F2 L2 H2 g2 R2=>?_⟩
   dsimp only at e3;cases c with
   | false =>
     have e4:qq (Fl.nx env1,S2)=qq (fl,S'):=by simpa using e3
     cases e4;exact qI (q F2 L2 H2 (g1.trans g2) R2 σ1 (E1.mono g2))
   | true =>
     refine qA ⟨λ σ3 H3=>∃ F3 L3 S3 env3,Gr F L F3 L3/\Rel X.K F3 L3 S3 H3/\EnvR X.K F3 L3 env3 σ3/\gY fc fb m env3 S3=qq (fl,S'),λ σ3 H3 h3=>⟨m,yEs m,h3⟩,?_⟩
     rw[if_pos rfl] at e3;obtain⟨⟨f5,S5⟩,e5,e6⟩:=bind_some e3;refine kX R2 (E1.mono g2) e5 λ F3 L3 H3 g3 R3=>?_
     cases f5 with
     | nx e'=>exact λ σ3 E3=>⟨F3,L3,S5,e',(g1.trans g2).trans g3,R3,E3,e6⟩
     | ct e'=>exact λ σ3 E3=>⟨F3,L3,S5,e',(g1.trans g2).trans g3,R3,E3,e6⟩
     | bk e'=>cases e6;exact λ σ3 E3=>q F3 L3 H3 ((g1.trans g2).trans g3) R3 σ3 E3
     | rt w=>cases e6;exact λ v d=>q F3 L3 H3 ((g1.trans g2).trans g3) R3 v d
structure Wk(K:FrG)(F:Hp)(L:List qv)(J:It)(ds:List D):Prop where
 go:∀ (i:Nat) (H:Hp),cB F H->i<ds.length->J.go i H
 stop:∀ (H:Hp),cB F H->J.stop ds.length H
 yld:∀ (i:Nat) (H F1:Hp) (L1:List qv) (S:aF) (x:V) (H':Hp) (d:D),Gr F L F1 L1->Rel K F1 L1 S H->ds[i]? = qq d->J.yld i H x H'->∃ F2,cB F1 F2/\Rel K F2 L1 S H'/\Den K F2 d x
def iV(K:FrG)(f:FL):TI:=λ σ H R=>∃ F L S env ds S',Rel K F L S H/\EnvR K F L env σ/\f env S=qq (ds,S')/\∀ F' L' H' J,Gr F L F' L'->Rel K F' L' S' H'->Wk K F' L' J ds->R J H'
theorem PI.weak{tg iter:qw}{t t':TI}(h:PI X tg iter t)(w:∀ σ H R,t' σ H R->t σ H R):PI X tg iter t':=λ aB s σ H R I q=>h aB s σ H R I (w σ H R q)
theorem aPs{K:FrG}{F:Hp}{L:List qv}{a:qv}{xs:List V}{ds:List D}(sq:bM K F a xs)(dl:DenL K F ds xs):Wk K F L (Itl K a) ds where
 go:=λ i H s hi=>⟨xs,xs[i]'(by rw[<- dl.length];exact hi),s.seq sq,by simp[dl.length▸hi]⟩
 stop:=λ H s=>⟨xs,s.seq sq,yFx dl.length.symm⟩
 yld:=λ i H F1 L1 S x H' d g R e y=>by
  obtain⟨e1,y⟩:=y;subst e1;have h:=y xs ((g.f.trans R.sub).seq sq);obtain⟨x',e2,dx⟩:=dl.get e;rw[h] at e2;cases e2;exact⟨F1,cB.refl _,R,dx.mono g.f⟩
theorem aRC{K:FrG}{F:Hp}{L:List qv}{a:qv}{xs:List V}{ds:List D}(sq:bS K F a xs)(dl:DenL K F ds xs):Wk K F L (Itt K a) ds where
 go:=λ i H s hi=>⟨xs,xs[i]'(by rw[<- dl.length];exact hi),iQ s sq,by simp[dl.length▸hi]⟩
 stop:=λ H s=>⟨xs,iQ s sq,yFx dl.length.symm⟩
 yld:=λ i H F1 L1 S x H' d g R e y=>by
  obtain⟨e1,y⟩:=y;subst e1;have h:=y xs (iQ (g.f.trans R.sub) sq);obtain⟨x',e2,dx⟩:=dl.get e;rw[h] at e2;cases e2;exact⟨F1,cB.refl _,R,dx.mono g.f⟩
noncomputable def jZ(lo:Int):Nat->List D
 | 0=>[]
 | n+1=>.int lo::jZ (lo+1) n
theorem aBq(n:Nat):∀ lo:Int,(jZ lo n).length=n:=by
 induction n with
 | zero=>intro lo;rfl
 | succ n ih=>intro lo;simp[jZ,ih]
theorem aGR:∀ (n:Nat) (lo:Int) (i:Nat),i<n->(jZ lo n)[i]? = qq (.int (lo+i))
 | 0,_,_,h=>by omega
 | n+1,lo,0,_=>by simp[jZ]
 | n+1,lo,i+1,h=>by
   rw[jZ,yCu,aGR n (lo+1) i (by omega)]
   congr 2
   push_cast
   omega
theorem aGD{K:FrG}{F:Hp}{L:List qv}(lo:Int)(n:Nat):Wk K F L (xE lo n) (jZ lo n) where
 go:=λ i H s hi=>by rw[aBq] at hi;exact hi
 stop:=λ H s=>by rw[aBq];exact yAb _
 yld:=λ i H F1 L1 S x H' d g R e y=>by
  obtain⟨rfl,rfl⟩:=y;have hi:i<n:=by
   have:=(gIm e).1;rw[aBq] at this;exact this
  rw[aGR n lo i hi] at e;cases e;exact⟨F1,cB.refl _,R,.int _⟩
noncomputable def aJ2(fa:FE):FL:=λ env S=>(fa env S).bind λ p=>match p.1 with
 | .d (.list ds)=>qq (ds,p.2)
 | _=>qz
noncomputable def aJ6(fa:FE):FL:=λ env S=>(fa env S).bind λ p=>match p.1 with
 | .d (.tuple ds)=>qq (ds,p.2)
 | _=>qz
theorem aT8{tg a:qw}{fa:FE}(ha:PE X a (aW X.K fa)):PI X tg a (iV X.K (aJ2 fa)):=PI.weak (aOI ha) λ σ H Rr aQ=>by
 obtain⟨F,L,S,env,ds,S',R,E,e,q⟩:=aQ;obtain⟨⟨w,S1⟩,e1,e2⟩:=bind_some e;dsimp only at e2
 split at e2
 ·cases e2;refine⟨F,L,S,env,_,_,R,E,e1,λ F1 L1 H1 v g1 R1 d1=>?_⟩
  cases (show Den X.K F1 (.list ds) v from d1) with
  | lst sq dl=>exact⟨_,rfl,⟨_,R1.sub.seq sq⟩,q F1 L1 H1 _ g1 R1 (aPs sq dl)⟩
 ·cases e2
theorem aT4{tg a:qw}{fa:FE}(ha:PE X a (aW X.K fa)):PI X tg a (iV X.K (aJ6 fa)):=PI.weak (aRG ha) λ σ H Rr aQ=>by
 obtain⟨F,L,S,env,ds,S',R,E,e,q⟩:=aQ;obtain⟨⟨w,S1⟩,e1,e2⟩:=bind_some e;dsimp only at e2
 split at e2
 ·cases e2;refine⟨F,L,S,env,_,_,R,E,e1,λ F1 L1 H1 v g1 R1 d1=>?_⟩
  cases (show Den X.K F1 (.tuple ds) v from d1) with
  | tup sq dl=>exact⟨_,rfl,⟨_,iQ R1.sub sq⟩,q F1 L1 H1 _ g1 R1 (aRC sq dl)⟩
 ·cases e2
noncomputable def vE(fa:FE):FL:=λ env S=>(fa env S).bind λ p=>match p.1 with
 | .d (.int j)=>if -(2^62)<=j/\j<2^62 then qq (jZ 0 j.toNat,p.2) else qz
 | _=>qz
noncomputable def vM(fa fb:FE):FL:=λ env S=>(fa env S).bind λ p=>(fb env p.2).bind λ q=>match p.1,q.1 with
 | .d (.int i),.d (.int j)=>if (-(2^62)<=i/\i<2^62 /\ -(2^62)<=j/\j<2^62) then qq (jZ i (j-i).toNat,q.2) else qz
 | _,_=>qz
theorem aRF{K:FrG}{fa:FE}(σ:St)(H:Hp)(Rr:It->Hp->Prop)(h:iV K (vE fa) σ H Rr):aI7 (eT K (cR fa gW)) σ H Rr:=by
 obtain⟨F,L,S,env,ds,S',R,E,e,q⟩:=h;obtain⟨⟨w,S1⟩,e1,e2⟩:=bind_some e;dsimp only at e2
 split at e2
 ·split at e2
  ·rename_i j c;cases e2;refine⟨F,L,S,env,[.d (.int j)],_,R,E,by unfold cR;rw[e1];rfl,λ F1 L1 H1 vs g1 R1 d1=>?_⟩
   cases d1 with
   | cons dd dr =>
     cases dr;cases (show Den K F1 (.int j) _ from dd)
     exact⟨j,rfl,c.1,c.2,q F1 L1 H1 _ g1 R1 (aGD 0 j.toNat)⟩
  ·cases e2
 ·cases e2
theorem aTd{K:FrG}{fa fb:FE}(σ:St)(H:Hp)(Rr:It->Hp->Prop)(h:iV K (vM fa fb) σ H Rr):aJG (eT K (cR fa (cR fb gW))) σ H Rr:=by
 obtain⟨F,L,S,env,ds,S',R,E,e,q⟩:=h;obtain⟨⟨w,S1⟩,e1,e2⟩:=bind_some e;obtain⟨⟨w2,S2⟩,e3,e4⟩:=bind_some e2;dsimp only at e4
 split at e4
 ·split at e4
  ·rename_i i j _ _ c;cases e4;refine⟨F,L,S,env,[.d (.int _),.d (.int _)],_,R,E,by unfold cR;rw[e1];dsimp only[yDe];rw[e3];rfl,λ F1 L1 H1 vs g1 R1 d1=>?_⟩
   cases d1 with
   | cons dd dr =>
     cases dr with
     | cons dd2 dr =>
       cases dr;cases (show Den K F1 (.int _) _ from dd)
       cases (show Den K F1 (.int _) _ from dd2)
       exact⟨_,_,rfl,c,q F1 L1 H1 _ g1 R1 (aGD _ _)⟩
  ·cases e4
 ·cases e4
noncomputable def fB(t:Tg)(fb:FS):List D->FS
 | []=>λ env S=>qq (.nx env,S)
 | d::ds=>λ env S=>(t.put d env).bind λ e1=>(fb e1 S).bind λ q=>(match q.1 with
    | .nx e=>fB t fb ds e q.2
    | .ct e=>fB t fb ds e q.2
    | .bk e=>qq (.nx e,q.2)
    | .rt w=>qq (.rt w,q.2))
noncomputable def eB(t:Tg)(fi:FL)(fb:FS):FS:=λ env S=>(fi env S).bind λ p=>fB t fb p.1 env p.2
theorem aUr{tg iter:qw}{b:List xw}{t:Tg}{g:TG}{fi:FL}{fb:FS}(hp:PassesOwn (model X.prog X.w) X.A X.env X.xe)(hc:X.calm=true)(hi:PI X tg iter (iV X.K fi))(hg:PG X tg g)(ga:GA X.K t g)(hb:dP X b (dJ X.K fb))
 (hs:∀ x,jz iter X.env x=pure x):PS X (.For tg iter b [] pos) (dJ X.K (eB t fi fb)):=PS.weak (aQZ hp hc hi hg hb hs) λ D σ H h=>by
 obtain⟨F,L,S,env,fl,S',R,E,e,q⟩:=jQ h;obtain⟨⟨ds,S1⟩,e1,e2⟩:=bind_some e;refine⟨F,L,S,env,ds,S1,R,E,e1,λ F0 L0 H0 J g0 R0 wk=>?_⟩
 dsimp only at e2;refine⟨λ i m σ1 H1=>i+m=ds.length/\∃ F1 L1 S1 env1,Gr F0 L0 F1 L1/\Rel X.K F1 L1 S1 H1/\EnvR X.K F1 L1 env1 σ1/\fB t fb (ds.drop i) env1 S1=qq (fl,S'),
  ⟨ds.length,yEd _,F0,L0,S1,env,Gr.refl,R0,E.mono g0,by rw[yEp];exact e2⟩,?_⟩
 rintro i m σ1 H1 ⟨him,F1,L1,S1',env1,g1,R1,E1,e3⟩;cases m with
 | zero =>
   have hi:i=ds.length:=by omega
   subst hi;rw[yEt] at e3;cases e3;exact .inl ⟨wk.stop H1 (g1.f.trans R1.sub),q F1 L1 H1 (g0.trans g1) R1 σ1 E1⟩
 | succ m =>
   have hi:i<ds.length:=by omega
   refine .inr ⟨wk.go i H1 (g1.f.trans R1.sub) hi,λ σ3 H3=>∃ F3 L3 S3 env3,Gr F0 L0 F3 L3/\Rel X.K F3 L3 S3 H3/\EnvR X.K F3 L3 env3 σ3/\fB t fb (ds.drop (i+1)) env3 S3=qq (fl,S'),
    λ σ3 H3 h3=>⟨m,yEs m,by omega,h3⟩,λ x H2 y=>?_⟩
   rw[yCa hi] at e3;obtain⟨env2,e4,e5⟩:=bind_some e3;obtain⟨⟨f6,S6⟩,e6,e7⟩:=bind_some e5;obtain⟨F2,s2,R2,d2⟩:=wk.yld i H1 F1 L1 S1' x H2 ds[i] g1 R1 (yAa hi) y;have g2:Gr F1 L1 F2 L1:=⟨s2,[],by simp⟩
   refine ga ds[i] x σ1 H2 F2 L1 S1' env1 env2 _ R2 (E1.mono g2) d2 e4 λ σ2 E2=>?_
   refine kX R2 E2 e6 λ F3 L3 H3 g3 R3=>?_
   have g03:=(g1.trans g2).trans g3;cases f6 with
   | nx e'=>exact λ σ3 E3=>⟨F3,L3,S6,e',g03,R3,E3,e7⟩
   | ct e'=>exact λ σ3 E3=>⟨F3,L3,S6,e',g03,R3,E3,e7⟩
   | bk e'=>cases e7;exact λ σ3 E3=>q F3 L3 H3 (g0.trans g03) R3 σ3 E3
   | rt w=>cases e7;exact λ v d=>q F3 L3 H3 (g0.trans g03) R3 v d
noncomputable def jY(k:Nat)(S:aF):W->Option (W×aF)
 | .d x=>qq (.d x,S.take k)
 | .loc m=>if m<k then qq (.loc m,S.take k) else match S[m]? with
   | some (qq ds)=>qq (.d (.list ds),S.take k)
   | _=>qz
noncomputable def fQ(fb:FS)(n:Nat)(ws:List W)(S:aF):Option (W×aF):=(fb (ws.map qq++yAc (n-ws.length) qz) S).bind λ p=>match p.1 with
 | .rt w=>jY S.length p.2 w
 | .nx _=>qq (.d .none,p.2.take S.length)
 | _=>qz
theorem aLU{K:FrG}{F:Hp}{L:List qv}{N:List Str}:∀ {ws:List W}{vs:List V},WDenL K F L ws vs->EnvR K F L (ws.map qq++yAc (N.length-ws.length) qz) (L2.start N vs):=by
 intro ws vs h;unfold L2.start;rw[h.length];generalize N.length-vs.length=k;refine⟨by simp[h.length],?_⟩
 induction h with
 | nil =>
   intro i w e;have:=xAl e;simp at this
 | cons hd tl ih =>
   intro i w e;cases i with
   | zero=>simp at e;subst e;exact⟨_,rfl,hd⟩
   | succ i =>
     obtain⟨v,e1,d⟩:=ih i w (by simpa using e)
     exact⟨v,by simpa using e1,d⟩
theorem aID{K:FrG}{F F1 H1:Hp}{L L1:List qv}{S S1:aF}{w w':W}{S':aF}{v:V}{Q:VK}(R:L.length=S.length)(g:Gr F L F1 L1)(R1:Rel K F1 L1 S1 H1)(d:eH K F1 L1 w v)(e:jY S.length S1 w=qq (w',S'))(q:sN K F L S' w' Q):Q v H1:=by
 obtain⟨sf,M,rfl⟩:=g;cases w with
 | d x =>
   cases e;have R2:=R1.cut;rw[R] at R2;exact q F1 L H1 v ⟨sf,[],by simp⟩ R2 d
 | loc m =>
   have e':(if m<S.length then qq (W.loc m,S1.take S.length) else match S1[m]? with | some (qq ds)=>qq (W.d (.list ds),S1.take S.length) | _=>qz)=qq (w',S'):=e
   split at e'
   ·rename_i hm;cases e';have R2:=R1.cut;rw[R] at R2;obtain⟨a,ea,rfl⟩:=d;rw[xAn (by rw[R];exact hm)] at ea
    exact q F1 L H1 _ ⟨sf,[],by simp⟩ R2 ⟨a,ea,rfl⟩
   ·rename_i hm
    split at e'
    ·rename_i ds es;cases e';obtain⟨a,ea,rfl⟩:=d;obtain⟨F2,g2,R2,d2⟩:=R1.freeze ea es;have R3:=R2.cut;rw[R,List.take_set,yDx (by rw[yCc];omega)] at R3
     exact q F2 L H1 _ ⟨sf.trans g2.f,[],by simp⟩ R3 d2
    ·cases e'
theorem aRH{K:FrG}{fb:FS}{N:List Str}{np:Nat}{vs:List V}{H:Hp}{Q:VK}{E:XK}(h:sX K np (fQ fb N.length) vs H Q E):dJ K fb {nx:=λ _ H'=>Q .non H',rt:=Q } (L2.start N vs) H:=by
 obtain⟨F,L,S,ws,w,S',hn,R,dl,e,q⟩:=h;obtain⟨⟨fl,S1⟩,e1,e2⟩:=bind_some e;refine kX R (aLU dl) e1 λ F1 L1 H1 g1 R1=>?_
 cases fl with
 | nx aI =>
   cases e2;exact λ σ' E'=>aID (w:=.d .none) R.len g1 R1 Den.non rfl q
 | rt w'=>exact λ v d=>aID R.len g1 R1 d e2 q
 | bk aI=>cases e2
 | ct aI=>cases e2
end
theorem aEK{α β:Type}{f:α->β->Sem (ForInStep β)}{g:α->β->β}:∀ (l:List α) (c:β),(∀ x∈l,∀ c,f x c=pure (ForInStep.yield (g x c)))->forIn l c f=pure (l.foldl (λ c x=>g x c) c)
 | [],c,_=>rfl
 | x::l,c,h=>by
   rw[yFh,h x xAd c,pure_bind];exact aEK l (g x c) λ y hy=>h y (xAg _ hy)
noncomputable def jT(env:Env)(x:Str×jo)(cs:List (Str×qv)):List (Str×qv):=if (x.2==NameKind.free)=true then (x.1,(env.cells.lookup x.1).getD 0)::cs else cs
noncomputable def wN(scope:zw)(env:Env):List (Str×qv):=scope.names.foldl (λ c x=>jT env x c) []
theorem aLP{scope:zw}{env:Env}(h:∀ x∈scope.names,x.2=.free->∃ c,env.cells.lookup x.1=qq c):closureFor scope env=pure (wN scope env):=by
 unfold closureFor wN;dsimp only;rw[aEK (g:=jT env) scope.names [] (λ x hx c=>?_)]
 ·rfl
 ·obtain⟨n,k⟩:=x;unfold jT;dsimp only
  by_cases hk:k=.free
  ·obtain⟨a,ha⟩:=h (n,k) hx hk;rw[if_pos (by simp[hk]),if_pos (by simp[hk])]
   have:cellOf env n=pure a:=by unfold cellOf;rw[ha]
   rw[this,pure_bind,ha];rfl
  ·rw[if_neg (by simp[hk]),if_neg (by simp[hk])]
theorem aGc{env:Env}:∀ (l:List (Str×jo)) (aC:List (Str×qv)),(∀ x∈l,x.2=.free->∃ c,env.cells.lookup x.1=qq c)->(∀ x c,aC.lookup x=qq c->env.cells.lookup x=qq c) ->
 ∀ x c,(l.foldl (λ c x=>jT env x c) aC).lookup x=qq c->env.cells.lookup x=qq c
 | [],aC,_,ha,x,c,e=>ha x c e
 | y::l,aC,h,ha,x,c,e=>by
   refine aGc l (jT env y aC) (λ z hz=>h z (xAg _ hz)) (λ z d ez=>?_) x c e
   unfold jT at ez
   split at ez
   ·rename_i hk;obtain⟨a,hy⟩:=h y xAd (by simpa using hk)
    rw[yCd] at ez
    split at ez
    ·rename_i hz;cases ez;have:z=y.1:=by simpa using hz
     rw[this,hy];rfl
    ·exact ha z d ez
   ·exact ha z d ez
theorem aCP{env:Env}:∀ (l:List (Str×jo)) (aC:List (Str×qv)) (x:Str),((∃ k,(x,k)∈l/\k=.free)\/∃ c,aC.lookup x=qq c)->∃ c,(l.foldl (λ c x=>jT env x c) aC).lookup x=qq c
 | [],aC,x,h=>by
   rcases h with ⟨k,hk,_⟩ | h
   ·simp at hk
   ·exact h
 | y::l,aC,x,h=>by
   refine aCP l (jT env y aC) x ?_;have step:(∃ c,aC.lookup x=qq c)->∃ c,(jT env y aC).lookup x=qq c:=λ aQ=>by
    obtain⟨c,e⟩:=aQ;unfold jT
    split
    ·rw[yCd]
     split
     ·exact⟨_,rfl⟩
     ·exact⟨c,e⟩
    ·exact⟨c,e⟩
   rcases h with ⟨k,hk,e⟩ | h
   ·rcases List.mem_cons.mp hk with z | z
    ·right
     subst z e;unfold jT;rw[if_pos (by simp)]
     exact⟨(env.cells.lookup x).getD 0,by rw[yCd];simp⟩
    ·exact .inl ⟨k,z,e⟩
   ·exact .inr (step h)
theorem aES{x:Str}(h:Str->jo->jo):∀ l:List (Str×jo),(l.map λ p=>(p.1,h p.1 p.2)).lookup x=(l.lookup x).map (h x)
 | []=>rfl
 | (n,k)::r=>by
   have ih:=aES (x:=x) h r;rw[yAt,yCd,yCd];cases hx:x==n with
   | true =>
     have e:x=n:=by simpa using hx
     subst e;rfl
   | false=>exact ih
theorem aKZ{env:Env}{x:Str}(names:List (Str×jo)) :
 (names.map λ(n,k)=>if (k==NameKind.free&&env.scope.kind==.function&&env.kindOf n==qq .cell) then (n,NameKind.cell) else (n,k)).lookup x =
   (names.lookup x).map λ k=>if (k==NameKind.free&&env.scope.kind==.function&&env.kindOf x==qq .cell) then NameKind.cell else k:=by
 have e:(λ(p:Str×jo)=>match p with | (n,k)=>if (k==NameKind.free&&env.scope.kind==.function&&env.kindOf n==qq .cell)=true then (n,NameKind.cell) else (n,k)) =
  λ p=>(p.1,if (p.2==NameKind.free&&env.scope.kind==.function&&env.kindOf p.1==qq .cell)=true then NameKind.cell else p.2):=funext λ aQ=>by
  obtain⟨n,k⟩:=aQ;dsimp only
  split<;>rfl
 rw[e];exact aES (λ n k=>if (k==NameKind.free&&env.scope.kind==.function&&env.kindOf n==qq .cell)=true then NameKind.cell else k) names
section
variable {prog : qu}{w : zq}{A : zv}{R : Result -> qj -> Prop}{s : qj}
theorem aLh{elt target iter:qw}{ifs:List qw}{scope:zw}{pos:Pos}{it aC:qx}{env:Env}(I:Nat->qj->Prop)
 (turn:∀ n s,I n s->qk (model prog w) A (vq it) (λ r s₁=>match r with
   | none=>R (.ok .next) s₁
   | some v=>qk (model prog w) A (ww target it v) (λ _ s₀=>qk (model prog w) A (assign target env v) (λ _ s₂ =>
      qk (model prog w) A (forIn ifs true λ c r=>if r=true then do let ok <- isTrue c env (eval c env);pure (ForInStep.yield ok) else pure (ForInStep.yield r)) (λ ok s₃ =>
       if ok=true then qk (model prog w) A (eval elt env) (λ x s₄ =>
        qk (model prog w) A (call (.builtin "list.append") [aC,x]) (λ _ s₅=>∃ m,m<n/\I m s₅) (λ _ _=>False) s₄) (λ _ _=>False) s₃
       else ∃ m,m<n/\I m s₃) (λ _ _=>False) s₂) (λ _ _=>False) s₀) (λ _ _=>False) s₁) (λ _ _=>False) s)
 (n:Nat) (h:I n s):vx (model prog w) A (.compLoop (.ListComp elt [⟨target,iter,ifs,0⟩] scope pos) 0 it aC env) R s:=by
 have up:∀ {α:Type}{t:Sem α}{Q Q':α->qj->Prop}{E:qx->qj->Prop}{s:qj},qk (model prog w) A t Q (λ _ _=>False) s->(∀ a s,Q a s->Q' a s)->qk (model prog w) A t Q' E s:=
  λ h hq=>wpAny_mono h hq λ _ _ f=>f.elim
 refine codeAny_loop rfl I (λ n s hI=>?_) n h
 show qk _ A ((compTurn (.ListComp elt [⟨target,iter,ifs,0⟩] scope pos) 0 it aC env).onRaise (λ x=>do noteFrame x env;theTreesLotGoes x)) _ _ s
 refine wpAny_noted ?_;rw[compTurn_list];refine wB (yk (wB (up (turn n s hI) λ r s₁ h₁=>?_)))
 cases r with
 | none=>exact wP h₁
 | some v =>
   refine wB (up h₁ λ _ s₀ h₀=>?_)
   refine wB (up h₀ λ _ s₂ h₂=>wB (up h₂ λ ok s₃ h₃=>?_))
   cases ok with
   | false=>exact wP ⟨rfl,h₃⟩
   | true =>
     exact wB (wB (up h₃ λ x s₄ h₄=>wB (up h₄ λ _ s₅ h₅=>wP (wP ⟨rfl,h₅⟩))))
end
noncomputable def kI(X:Cx)(aB:List (qv×Obj))(fp:List qv)(scope:zw)(C:qv)(s₀:qj)(H₀:Hp):Cx:=
 {X with s₀:=s₀,H₀:=H₀,env:=compEnvC scope (wN scope X.env) C X.env,outer:=X.stack,stack:=X.stack,ex:=fp,fn:=λ _=>false,pn:=X.pn++aB,xe:=λ _ _=>False }
def jS(X:Cx)(scope:zw)(Y:Cx):Prop:=∃ aB fp C s₀ H₀,Y=kI X aB fp scope C s₀ H₀
structure ScOk(scope osc:zw):Prop where
 kind:scope.kind=.function
 nocell:∀ x∈scope.names,x.2≠.cell
 free:∀ x∈scope.names,x.2=.free->osc.names.lookup x.1=qq .cell\/osc.names.lookup x.1=qq .free
 loc:∀ x∈scope.names,x.2=.local->scope.names.lookup x.1=qq .local
theorem mem_of_lookup{α:Type}{x:Str}{k:α}:∀ {l:List (Str×α)},l.lookup x=qq k->(x,k)∈l
 | [],h=>by simp at h
 | (n,j)::r,h=>by
   rw[yCd] at h
   split at h
   ·rename_i hx;cases h;have:x=n:=by simpa using hx
    subst this;exact xAd
   ·exact xAg _ (mem_of_lookup h)
section
variable {X : Cx}{aB : List (qv×Obj)}{σ : L2.St}{H : Hp}{s : qj}{scope : zw}{fp : List qv}
theorem aF4{C:qv}{s₀:qj}{H₀:Hp}{x:Str}:(kI X aB fp scope C s₀ H₀).env.kindOf x=(scope.names.lookup x).map λ k=>if (k==NameKind.free&&X.env.scope.kind==.function&&X.env.kindOf x==qq .cell) then NameKind.cell else k:=
 aKZ scope.names
theorem aF5(ok:ScOk scope X.env.scope){C:qv}{s₀:qj}{H₀:Hp}{x:Str}(h:(kI X aB fp scope C s₀ H₀).env.kindOf x=qq .cell\/(kI X aB fp scope C s₀ H₀).env.kindOf x=qq .free):scope.names.lookup x=qq .free:=by
 rw[aF4] at h;cases e:scope.names.lookup x with
 | none=>rw[e] at h;simp at h
 | some k =>
   rw[e] at h;have nc:=ok.nocell (x,k) (mem_of_lookup e);cases k with
   | free=>rfl
   | cell=>exact absurd rfl nc
   | «local» => simp at h
   | globalExplicit=>simp at h
   | globalImplicit=>simp at h
theorem aG9(I:Inv X aB σ H s)(hfp:∀ b∈fp,gH X aB H b):∀ b∈fp,b ∉ iL X.stack:=λ b hb z=>by
 rcases List.mem_cons.mp (I.stkSub b z) with q | q
 ·exact(hfp b hb).2.1 q
 ·exact(hfp b hb).2.2.1 q
theorem aFT(I:Inv X aB σ H s)(ok:ScOk scope X.env.scope):∀ x∈scope.names,x.2=.free->∃ c,X.env.cells.lookup x.1=qq c:=λ x hx e=>by
 rcases ok.free x hx e with q | q
 ·exact I.ok.has x.1 (.inl q)
 ·exact I.ok.has x.1 (.inr q)
theorem pJ(I:Inv X aB σ H s)(ok:ScOk scope X.env.scope){x:Str}{c:qv}(h:(wN scope X.env).lookup x=qq c):X.env.cells.lookup x=qq c:=
 aGc scope.names [] (aFT I ok) (λ x c e=>by simp at e) x c h
theorem aPR(I:Inv X aB σ H s)(ok:ScOk scope X.env.scope)(hfp:∀ b∈fp,gH X aB H b)(hth:∀ b∈fp,b<s.heap.objs.size){C:qv}(hC:s.heap.objs.size<=C):(kI X aB fp scope C s H).Ok where
 mod:=I.ok.mod
 kind:=ok.kind
 glob:=I.ok.glob
 blt:=I.ok.blt
 above:=hC
 inj:=λ x y c h1 h2=>I.ok.inj x y c (pJ I ok h1) (pJ I ok h2)
 has:=λ x h=>aCP scope.names [] x (.inl ⟨.free,mem_of_lookup (aF5 ok h),rfl⟩)
 cab:=λ x c h _=>nomatch h
 hd:=I.ok.hd
 frames:=I.ok.frames
 stk:=.inl rfl
 exf:=λ b hb=>⟨λ z=>absurd (xAc (hth b hb) hC) (by have z':b=C:=z;rw[z'];exact yCb _),λ x c h=>(hfp b hb).2.2.2.2.1 x c (pJ I ok h)⟩
 bs:=I.bs
 bsz:=xAi I.ok.bsz I.sz
 noex:=λ b o e hb=>by
  rcases (hfp b hb).2.2.2.1 with z | z
  ·exact I.ok.noex b o e z
  ·exact absurd (xAc (xAa e) (xAi I.ok.bsz z)) (yCb _)
 exfs:=λ b hb=>aG9 I hfp b hb
 funs:=I.stack
 frf:=I.stkFree
end
noncomputable def clr{α:Type}(is:List Nat)(l:List (Option α)):List (Option α):=is.foldl (λ e i=>e.set i qz) l
theorem yG{α:Type}:∀ (is:List Nat) (l:List (Option α)),(clr is l).length=l.length
 | [],_=>rfl
 | i::is,l=>by
   show(clr is (l.set i qz)).length=_;rw[yG is,yAy]
theorem zI{α:Type}:∀ (is:List Nat) (l:List (Option α)) (j:Nat) (v:α),(clr is l)[j]? = qq (qq v)->l[j]? = qq (qq v)/\j ∉ is
 | [],_,_,_,h=>⟨h,by simp⟩
 | i::is,l,j,v,h=>by
   obtain⟨h1,h2⟩:=zI is (l.set i qz) j v h
   by_cases hj:i=j
   ·subst hj;rcases Nat.lt_or_ge i l.length with q | q
    ·rw[yAz q] at h1;cases h1
    ·rw[yEi (by rw[yAy];exact q)] at h1;cases h1
   ·rw[yBc hj] at h1;exact⟨h1,λ z=>(List.mem_cons.mp z).elim (λ e=>hj e.symm) h2⟩
theorem aGg{α:Type}:∀ (is:List Nat) (l:List (Option α)) (j:Nat),j ∉ is->(clr is l)[j]? = l[j]?
 | [],_,_,_=>rfl
 | i::is,l,j,h=>by
   show(clr is (l.set i qz))[j]? = _;rw[aGg is _ j (λ z=>h (xAg _ z)),yBc (λ z=>h (by rw[z];exact xAd))]
noncomputable def Tg.slots:Tg->List Nat
 | .one i=>[i]
 | .many is=>is
theorem EnvR.clr{K:FrG}{F:Hp}{L:List qv}{env:aU}{σ:St}(h:EnvR K F L env σ)(is:List Nat):EnvR K F L (EV.clr is env) (EV.clr is σ):=
 ⟨by rw[yG,yG];exact h.len,λ j w e=>by
  obtain⟨e1,hj⟩:=zI is env j w e;obtain⟨v,e2,d⟩:=h.get j w e1;exact⟨v,by rw[aGg is σ j hj];exact e2,d⟩⟩
theorem aBp:∀ {is:List Nat}{ds:List D}{env aI:aU}{j:Nat},nX is ds env=qq aI->j ∉ is->aI[j]? = env[j]?
 | [],[],_,_,_,e,_=>by cases e;rfl
 | i::is,d::ds,env,aI,j,e,h=>by
   rw[aBp (is:=is) (ds:=ds) e (λ z=>h (xAg _ z)),yBc (λ z=>h (by rw[z];exact xAd))]
 | [],_::_,_,_,_,e,_=>by cases e
 | _::_,[],_,_,_,e,_=>by cases e
theorem Tg.put_keep{t:Tg}{d:D}{env aI:aU}{j:Nat}(e:t.put d env=qq aI)(h:j ∉ t.slots):aI[j]? = env[j]?:=by
 cases t with
 | one i=>cases e;exact yBc (λ z=>h (by rw[z];exact xAd))
 | many is =>
   cases d with
   | tuple ds=>exact aBp e h
   | list ds=>exact aBp e h
   | _=>cases e
theorem aBl:∀ {is:List Nat}{ds:List D}{env aI:aU},nX is ds env=qq aI->aI.length=env.length
 | [],[],_,_,e=>by cases e;rfl
 | i::is,d::ds,env,aI,e=>by rw[aBl (is:=is) (ds:=ds) e,yAy]
 | [],_::_,_,_,e=>by cases e
 | _::_,[],_,_,e=>by cases e
theorem Tg.put_length{t:Tg}{d:D}{env aI:aU}(e:t.put d env=qq aI):aI.length=env.length:=by
 cases t with
 | one i=>cases e;exact yAy
 | many is =>
   cases d with
   | tuple ds=>exact aBl e
   | list ds=>exact aBl e
   | _=>cases e
theorem EnvR.back{K:FrG}{F:Hp}{L:List qv}{env aI:aU}{σ:St}{t:Tg}{d:D}(e:t.put d (EV.clr t.slots env)=qq aI)(h:EnvR K F L aI σ):EnvR K F L (EV.clr t.slots env) σ:=
 ⟨by rw[<- h.len,Tg.put_length e],λ j w q=>by
  obtain⟨_,hj⟩:=zI t.slots env j w q;exact h.get j w (by rw[Tg.put_keep e hj];exact q)⟩
noncomputable def iD(t:Tg)(fc:FT)(fe:FE)(n:Nat)(env:aU):List D->aF->Option aF
 | [],S=>qq S
 | d::ds,S=>(t.put d env).bind λ e1=>(fc e1 S).bind λ c=>if c.1=true then (fe e1 c.2).bind λ p=>(dF p.2 (.loc n) p.1).bind λ r=>iD t fc fe n env ds r.2 else iD t fc fe n env ds c.2
noncomputable def gS(t:Tg)(fi:FL)(fc:FT)(fe:FE):FL:=λ env S=>(fi env S).bind λ p=>(iD t fc fe p.2.length (clr t.slots env) p.1 (p.2++[qq []])).bind λ S'=>match S'[p.2.length]? with
 | some (qq zs)=>qq (zs,S'.take p.2.length)
 | _=>qz
def lX(Y:Cx)(ifs:List qw)(fc:FT):Prop:=∀ (aB:List (qv×Obj)) (s:qj) (σ:St) (H:Hp) (Q:Bool->Hp->Prop),Inv Y aB σ H s->eU Y.K fc σ H Q ->
 qk (model Y.prog Y.w) Y.A (forIn ifs true λ c r=>if r=true then do let ok <- isTrue c Y.env (eval c Y.env);pure (ForInStep.yield ok) else pure (ForInStep.yield r)) (TP Y aB σ Q) Y.xe s
noncomputable def lJ:FT:=λ _ S=>qq (true,S)
theorem aFH{Y:Cx}:lX Y [] lJ:=λ aB s σ H Q I aQ=>by
 obtain⟨F,L,S,env,b,S',R,E,e,q⟩:=aQ;cases e;exact wpAny_tests_nil ⟨H,I,q F L H Gr.refl R⟩
theorem aFs{Y:Cx}{c:qw}{fc:FT}(h:PT Y c (eU Y.K fc)):lX Y [c] fc:=λ aB s σ H Q I q=>wpAny_tests_one (h aB s σ H Q I q)
def aDh(N:List Str)(scope:zw)(is:List Nat):Prop:=∀ (i:Nat) (x:Str),N[i]? = qq x->scope.names.lookup x=qq .local->i∈is
section
variable {X : Cx}{scope : zw}{tg iter elt : qw}{ifs : List qw}{pos : Pos}{t : Tg}{g : TG}{fi : FL}{fc : FT}{fe : FE}
theorem aF2(use:Option (qx->Sem Unit))(hc:X.calm=true)(ok:ScOk scope X.env.scope)(own:aDh X.N scope t.slots)(hi:PI X tg iter (iV X.K fi))(hg:∀ Y,jS X scope Y->PG Y tg g)(ga:GA X.K t g)
 (ht:∀ Y,jS X scope Y->lX Y ifs fc) (he:∀ Y,jS X scope Y->PE Y elt (aW X.K fe)) (hs:∀ x,jz iter X.env x=pure x)
 {aB:List (qv×Obj)}{s:qj}{σ:St}{H:Hp}{Q:VK}{QQ:qx->qj->Prop}{pp:Pos} (I:Inv X aB σ H s) (h:iK X.K (gS t fi fc fe) σ H Q)
 (hend:∀ (p C:qv) (s1:qj) (H':Hp),gH X aB H' C->(∃ m,s1.heap.Ns C m)->(∀ h',yEb C s1.heap h'->Inv X aB σ H' {s1 with heap:=h' })->Q (.ref p) H' ->
   compPost (model X.prog X.w) X.A X.xe use QQ (.ref p) C (.ok .next) s1) :
 qk (model X.prog X.w) X.A (comprehension (.ListComp elt [⟨tg,iter,ifs,0⟩] scope pos) scope X.env pp (newList []) false (eval iter X.env) use) QQ X.xe s:=by
 obtain⟨F,L,S,env,zs,S',R,E,e,q⟩:=h;obtain⟨⟨ds,S1⟩,e1,e⟩:=bind_some e;obtain⟨S2,e2,e⟩:=bind_some e;dsimp only at e e2;have hz:S2[S1.length]? = qq (qq zs)/\S'=S2.take S1.length:=by
  split at e
  ·rename_i z ez;cases e;exact⟨ez,rfl⟩
  ·cases e
 obtain⟨hz,rfl⟩:=hz;refine wpAny_comprehension_free (use:=use) rfl hs (aLP (aFT I ok)) ok.kind ok.loc ?_;refine bE (hi aB s σ H (λ J H'=>∃ F' L',Gr F L F' L'/\Rel X.K F' L' S1 H'/\Wk X.K F' L' J ds) I ⟨F,L,S,env,ds,S1,R,E,e1,λ F' L' H' J g R' wk=>⟨F',L',g,R',wk⟩⟩) λ v s1 h1=>bE h1 λ itv s2 h2=>?_
 obtain⟨it,fp,tn,J,H2,rfl,I2,T,st2,f2,F1,L1,g1,R1,wk⟩:=h2;refine xx (wpAny_newFunctionEnv ok.nocell (by intro y hy;simp at hy) (λ h₁ hns₁ hsb₁=>?_) ok.kind)
 dsimp only at hns₁ hsb₁ ⊢;have I3:Inv X aB σ (bD H2 s2.heap.objs.size (.lst [])) {s2 with heap:=s2.heap.push {cls:=.type "list",dict:=qz,data:=.seq ([]:List qx).toArray } }:=I2.lnew (aG:=[]) (t':=s2.toks) .nil (yEx _)
 generalize hs3:({s2 with heap:=s2.heap.push {cls:=.type "list",dict:=qz,data:=.seq ([]:List qx).toArray } }:qj)=s3 at I3
 have hh3:s2.heap.push {cls:=.type "list",dict:=qz,data:=.seq ([]:List qx).toArray }=s3.heap:=by rw[<- hs3]
 generalize hD:s2.heap.objs.size=Dd at I3;generalize hH3:bD H2 Dd (.lst [])=H3 at I3;have hfr2:H2 Dd=qz:=by rw[<- hD];exact I2.fresh
 rw[hh3] at hns₁ hsb₁;rw[hh3];have hst:({heap:=h₁,gens:=s2.gens,drawn:=s2.drawn,toks:=s2.toks+([]:List (Str×qx)).length,os:=s2.os }:qj)={s3 with heap:=h₁,toks:=s3.toks+([]:List (Str×qx)).length }:=by rw[<- hs3]
 rw[hst];clear hst;generalize hC:s3.heap.objs.size=C at hns₁ hsb₁;have old:∀ b u,s3.heap.get? b=qq u->h₁.get? b=qq u:=λ b u q=>by
  have hb:b≠C:=by rw[<- hC];exact xAk (xAa q)
  exact hsb₁.extBut b u hb (hpS _ q)
 have lt2:∀ b∈fp,b<s2.heap.objs.size:=λ b hb=>by
  obtain⟨o,eo,_⟩:=T.obj 0 _ st2 b hb;exact xAa eo
 have up23:∀ b u,s2.heap.get? b=qq u->s3.heap.get? b=qq u:=λ b u q=>by rw[<- hh3];exact hpS _ q
 have lt3:∀ b∈fp,b<s3.heap.objs.size:=λ b hb=>by
  obtain⟨o,eo,_⟩:=T.obj 0 _ st2 b hb;exact xAa (up23 b o eo)
 have f3:∀ b∈fp,gH X aB H3 b:=λ b hb=>by
  refine⟨?_,(f2 b hb).2⟩;have ne:b≠Dd:=by rw[<- hD];exact xAk (lt2 b hb)
  rw[<- hH3,bL ne];exact(f2 b hb).1
 have okY:(kI X aB fp scope C s3 H3).Ok:=aPR I3 ok f3 lt3 (by rw[hC];exact yAb _)
 have hIC:jS X scope (kI X aB fp scope C s3 H3):=⟨aB,fp,C,s3,H3,rfl⟩;generalize hY:kI X aB fp scope C s3 H3=Y at okY hIC;have yE:Y.env=compEnvC scope (wN scope X.env) C X.env:=by rw[<- hY];rfl
 have I4:Inv Y [] (clr t.slots σ) H3 {s3 with heap:=h₁,toks:=s3.toks+([]:List (Str×qx)).length }:=by
  rw[<- hY] at okY ⊢;refine⟨okY,rfl,I3.bare,Un.kept old,⟨_,hns₁,λ i x v a1 a2 a3=>?_⟩,λ x c a=>?_,?_,λ x c a=>I3.freeC x c (pJ I3 ok a),λ p hp=>?_,I3.hok.kept old,by rw[yG];exact I3.len⟩
  ·obtain⟨a4,a5⟩:=zI t.slots σ i v a2;have nl:scope.names.lookup x≠qq .local:=λ z=>a5 (own i x a1 z)
   have qM:(kI X aB fp scope C s3 H3).env.kindOf x=qq .cell\/(kI X aB fp scope C s3 H3).env.kindOf x=qq .free:=by
    rcases a3 with z | z | z
    ·exfalso;have z':(kI X aB fp scope C s3 H3).env.kindOf x=qq .local:=z;rw[aF4] at z';cases ek:scope.names.lookup x with
     | none=>rw[ek] at z';cases z'
     | some k =>
       rw[ek] at z';cases k with
       | «local» => exact nl ek
       | free =>
         simp only[Option.map_some,Option.some.injEq] at z'
         split at z'<;>cases z'
       | cell=>exact ok.nocell (x,.cell) (mem_of_lookup ek) rfl
       | globalExplicit=>simp at z'
       | globalImplicit=>simp at z'
    ·exact .inl z
    ·exact .inr z
   have fr:=aF5 ok qM;have ov:=ok.free (x,.free) (mem_of_lookup fr) rfl;obtain⟨m,hm,hl⟩:=I3.loc;obtain⟨u,ru,lk⟩:=hl i x v a1 a4 (ov.elim (λ z=>.inr (.inl z)) λ z=>.inr (.inr z))
   refine⟨u,ru,.inr ⟨qM,?_⟩⟩;obtain⟨c,hcl⟩:=aCP (env:=X.env) scope.names [] x (.inl ⟨.free,mem_of_lookup fr,rfl⟩);have hc2:=pJ I3 ok hcl;rcases lk with ⟨z,_⟩ | ⟨_,c',e',o',ho',hd'⟩
   ·exfalso;have z':X.env.scope.names.lookup x=qq .local:=z;rcases ov with w | w
    ·rw[w] at z';cases z'
    ·rw[w] at z';cases z'
   ·rw[hc2] at e';cases e';exact⟨c,hcl,o',old _ _ ho',hd'⟩
  ·obtain⟨v,o,ho,hd⟩:=I3.cell x c (pJ I3 ok a);exact⟨v,o,old _ _ ho,hd⟩
  ·show H3 C=qz;rw[<- hC];exact I3.fresh
  ·have hp':p∈X.pn++aB:=by
    have:p∈(X.pn++aB)++[]:=hp;rwa [yDd] at this
   obtain⟨b1,b2,b3,b4,b5⟩:=I3.pin p hp';refine⟨old _ _ b1,b2,?_,λ z=>?_,b5⟩
   ·show p.1≠C;rw[<- hC];exact xAk (xAa b1)
   ·rcases List.mem_cons.mp (I3.stkSub p.1 z) with w | w
    ·exact b3 w
    ·exact b4 w
 have fpY:∀ {H':Hp},(∀ b∈fp,H' b=qz)->∀ b∈fp,gH Y [] H' b:=λ hn b hb=>by
  rw[<- hY];refine⟨hn b hb,?_,aG9 I3 f3 b hb,.inl hb,λ x c a=>(f3 b hb).2.2.2.2.1 x c (pJ I3 ok a),λ p hp=>?_⟩
  ·show b≠C;rw[<- hC];exact xAk (lt3 b hb)
  ·have hp':p∈X.pn++aB:=by
    have:p∈(X.pn++aB)++[]:=hp;rwa [yDd] at this
   exact(f3 b hb).2.2.2.2.2 p hp'
 have yA:Y.A=X.A:=by rw[<- hY];rfl
 have yP:Y.prog=X.prog:=by rw[<- hY];rfl
 have yW:Y.w=X.w:=by rw[<- hY];rfl
 have yK:Y.K=X.K:=by rw[<- hY];rfl
 have yC:Y.calm=true:=by rw[<- hY];exact hc
 have yX:Y.xe=λ _ _=>False:=by rw[<- hY];rfl
 have R3:Rel X.K F1 (L1++[Dd]) (S1++[qq []]) H3:=by rw[<- hH3];exact R1.newLoc hfr2 .nil
 obtain⟨PP,hPP⟩:∃ PP:Result->qj->Prop,PP=compPost (model X.prog X.w) X.A X.xe use QQ (.ref Dd) C:=⟨_,rfl⟩;have bR:∀ (s1:qj) (σ':L2.St) (H' F':Hp) (L':List qv),Inv Y [] σ' H' s1->Gr F1 (L1++[Dd]) F' L'->Rel X.K F' L' S2 H'->PP (.ok .next) s1:=by
  intro s1 σ' H' F' L' J' gg RR;rw[hPP];rw[<- hY] at J';obtain⟨m,hmC,_⟩:=J'.loc;have hCn:H' C=qz:=J'.free;have hfC:gH X aB H' C:=I3.fpOk (by rw[hC];exact yAb _) hCn
  obtain⟨sf,M,rfl⟩:=gg;have bZ:L1.length=S1.length:=R1.len;have eL:((L1++[Dd])++M)[S1.length]? = qq Dd:=by
   rw[yAq,yAe (by rw[bZ];exact yAb _),bZ,yBb];rfl
  obtain⟨hF,xs,hx,dl⟩:=RR.loc S1.length Dd zs eL hz;have RR2:Rel X.K F' (L1++([Dd]++M)) S2 H':=by rw[<- yAq];exact RR
  have Rc:=RR2.cut;rw[bZ] at Rc;have hnd:Dd ∉ L1:=λ z=>by
   have nd:=RR2.nd;rw[yGq] at nd;exact nd.2.2 Dd z Dd (by simp) rfl
  refine hend Dd C s1 H' hfC ⟨m,hmC⟩ (λ h' sb=>?_) (q F' L1 H' Dd xs (g1.trans ⟨sf,[],by simp⟩) Rc hF hnd hx dl)
  have neC:∀ b u,s3.heap.get? b=qq u->b≠C:=λ b u z=>by rw[<- hC];exact xAk (xAa z)
  have kp:∀ b u,b≠C->s1.heap.get? b=qq u->h'.get? b=qq u:=λ b u z w=>sb.extBut b u z w
  have bU:Un (iL X.stack) fp H3 H' s3.heap s1.heap:=J'.base;have u:Un (iL X.stack) fp H3 H' s3.heap h':=
   ⟨λ b o z n hb hx=>kp b o (neC b o z) (bU.keep b o z n hb hx),λ b o z n hb hx=>by obtain⟨sl,w⟩:=bU.slot b o z n hb hx;exact⟨sl,kp b _ (neC b o z) w⟩,bU.free,
    λ b o z hx=>by obtain⟨o',w⟩:=bU.there b o z hx;exact⟨o',kp b _ (neC b o z) w⟩,bU.tups,bU.frzs,bU.tbls⟩
  have hokY:dS X.prog X.w H' s1.heap:=J'.hok;have hok':dS X.prog X.w H' h':=λ b o z=>(hokY b o z).stay (λ c v hc2 w=>kp c v (λ zz=>by
   rcases hc2 with w2 | w2
   ·rw[w2] at zz;rw[zz,hCn] at z;cases z
   ·rw[zz,hCn] at w2;cases w2) w) (λ _ w=>w) λ _ _ w=>w
  have os1:s1.os=s3.os:=J'.os;exact I3.call' (s':={s1 with heap:=h' }) os1 u hok' J'.bare λ b hb=>⟨(f3 b hb).2.2.2.1,(f3 b hb).2.1,(f3 b hb).2.2.2.2.1,(f3 b hb).2.2.2.2.2⟩
 have loop:∀ s5:qj,Inv Y [] (clr t.slots σ) H3 s5->tn 0 s5.heap ->
  vx (model X.prog X.w) X.A (.compLoop (.ListComp elt [⟨tg,iter,ifs,0⟩] scope pos) 0 (.ref it) (.ref Dd) Y.env) PP s5:=by
  intro s5 I5 st5;have E0:EnvR X.K F1 (L1++[Dd]) (clr t.slots env) (clr t.slots σ):=(E.mono (g1.trans Gr.newLoc)).clr t.slots;obtain⟨Iv,hIv⟩:∃ Iv:Nat->qj->Prop,∀ n s',Iv n s' ↔ (∃ i σ' H' F' L' S',Inv Y [] σ' H' s'/\tn i s'.heap/\(∀ b∈fp,H' b=qz)/\Gr F1 (L1++[Dd]) F' L'/\Rel X.K F' L' S' H'/\EnvR X.K F' L' (clr t.slots env) σ'/\i+n=ds.length /\
   iD t fc fe S1.length (clr t.slots env) (ds.drop i) S'=qq S2):=⟨_,λ _ _=>Iff.rfl⟩
  refine aLh Iv ?_ ds.length ((hIv _ _).mpr ⟨0,clr t.slots σ,H3,F1,L1++[Dd],S1++[qq []],I5,st5,λ b hb=>(f3 b hb).1,Gr.refl,R3,E0,yEd _,by rw[yEp];exact e2⟩)
  intro n s6 h6;obtain⟨i,σ6,H6,F6,L6,S6,I6,st6,fr6,g6,R6,E6,hin,ec⟩:=(hIv _ _).mp h6;clear h6;have g16:Gr F1 L1 F6 L6:=Gr.newLoc.trans g6;have toA:∀ {α:Type}{tt:Sem α}{QQ:α->qj->Prop}{EE:qx->qj->Prop}{ss:qj},qk (model X.prog X.w) Y.A tt QQ EE ss->qk (model X.prog X.w) X.A tt QQ EE ss:=λ hh=>by rw[yA] at hh;exact hh
  cases n with
  | zero =>
    have hi':i=ds.length:=by omega
    subst hi';rw[yEt] at ec;cases ec;refine bE (toA (T.done Y yP yW yK yC ds.length [] s6 σ6 H6 _ I6 (fpY fr6) st6 (wk.stop H6 (g16.f.trans R6.sub)))) λ r s7 hPq32=>?_
    obtain⟨hr,I7⟩:=hPq32;subst hr;exact bR s7 σ6 H6 F6 L6 I7 g6 R6
  | succ n =>
    have hi':i<ds.length:=by omega
    refine bE (toA (T.item Y yP yW yK yC i [] s6 σ6 H6 _ I6 (fpY fr6) st6 (wk.go i H6 (g16.f.trans R6.sub) hi'))) λ r s7 hPq33=>?_
    obtain⟨u,hr,h7⟩:=hPq33;subst hr;refine bE (toA h7) λ _ s8 hPq34=>?_
    obtain⟨x,H8,I8,r8,y8,st8,fr8⟩:=hPq34;obtain⟨F8,sf8,R8,d8⟩:=wk.yld i H6 F6 L6 S6 x H8 ds[i] g16 R6 (yAa hi') y8;have g8:Gr F6 L6 F8 L6:=⟨sf8,[],by simp⟩
    rw[yCa hi'] at ec;obtain⟨env9,ep,ec⟩:=bind_some ec;obtain⟨⟨cb,S9⟩,et,ec⟩:=bind_some ec;have I8':=I8.pinned (fpY fr8) (T.obj _ _ st8);have toF:∀ {α:Type}{tt:Sem α}{QQ:α->qj->Prop}{ss:qj},qk (model Y.prog Y.w) Y.A tt QQ Y.xe ss->qk (model X.prog X.w) X.A tt QQ (λ _ _=>False) ss:=λ hh=>by rw[yX,yP,yW,yA] at hh;exact hh
    refine toF (bE (hg Y hIC _ s8 σ6 H8 x u (λ σ' H'=>H'=H8/\EnvR X.K F8 L6 env9 σ') I8' r8 (ga ds[i] x σ6 H8 F8 L6 S6 (clr t.slots env) env9 _ R8 (E6.mono g8) d8 ep λ σ' E'=>⟨rfl,E'⟩)) λ _ s9 hPq35=>?_)
    obtain⟨σ9,H9,I9,hH9,E9⟩:=hPq35;subst hH9;refine toF (bE (ht Y hIC _ s9 σ9 H9 (λ b H'=>∃ F' L',Gr F8 L6 F' L'/\Rel X.K F' L' S9 H'/\b=cb) I9 (by rw[yK];exact⟨F8,L6,S6,env9,cb,S9,R8,E9,et,λ F' L' H' g' R'=>⟨F',L',g',R',rfl⟩⟩)) λ ok2 s10 hPq36=>?_)
    obtain⟨H10,I10,F10,L10,g10,R10,hb10⟩:=hPq36;subst hb10;dsimp only at ec;have again:∀ {σ7:L2.St}{H7 F7:Hp}{L7:List qv}{S7:aF}{s7':qj},Inv Y ([]++uV fp s8.heap) σ7 H7 s7'->Gr F8 L6 F7 L7->Rel X.K F7 L7 S7 H7->EnvR X.K F7 L7 env9 σ7->iD t fc fe S1.length (clr t.slots env) (ds.drop (i+1)) S7=qq S2 ->
     ∃ m,m<n+1/\Iv m s7':=by
     intro σ7 H7 F7 L7 S7 s7' I7 g7 R7 E7 ec7;refine⟨n,yEs n,(hIv _ _).mpr ⟨i+1,σ7,H7,F7,L7,S7,I7.unpinned,T.keep _ _ _ st8 λ b hb o eo=>(I7.pin (b,o) (xAq _ (xAq _ (tQ hb eo)))).1,λ b hb=>?_,(g6.trans g8).trans g7,R7,EnvR.back ep E7,by omega,ec7⟩⟩
     obtain⟨o,eo,_⟩:=T.obj _ _ st8 b hb;exact(I7.pin (b,o) (xAq _ (xAq _ (tQ hb eo)))).2.1
    cases ok2 with
    | false =>
      rw[if_neg (by simp)] at ec
      rw[if_neg (by simp)]
      exact again I10 g10 R10 (E9.mono g10) ec
    | true =>
      rw[if_pos rfl] at ec;rw[if_pos rfl];obtain⟨⟨wv,S11⟩,ee,ec⟩:=bind_some ec;obtain⟨⟨wn,S12⟩,ea,ec⟩:=bind_some ec;obtain⟨n',dv,zs',hn',hw',es',hlt,hwn,rfl⟩:=aFM ea;cases hn';subst hw';refine toF (bE (he Y hIC _ s10 σ9 H10 (λ v H'=>∃ F' L',Gr F10 L10 F' L'/\Rel X.K F' L' S11 H'/\Den X.K F' dv v) I10 ⟨F10,L10,S9,env9,_,S11,R10,E9.mono g10,ee,λ F' L' H' v g' R' d'=>⟨F',L',g',R',d'⟩⟩) λ xv s11 hPq37=>?_)
      obtain⟨v11,H11,I11,r11,F11,L11,g11,R11,d11⟩:=hPq37;have gA:Gr F1 (L1++[Dd]) F11 L11:=((g6.trans g8).trans g10).trans g11;have eL:L11[S1.length]? = qq Dd:=gA.get (by rw[yAe (by rw[R1.len];exact yAb _),R1.len,yBb];rfl)
      obtain⟨hF,xs,hx,dl⟩:=R11.loc S1.length Dd zs' eL es';refine toF (bE (aFz (X:=Y) _ s11 σ9 H11 (.ref Dd) [v11] (.ref Dd) [xv] (λ _ H'=>Rel X.K F11 L11 (S11.set S1.length (qq (zs'++[dv]))) H') I11 rfl (.cons r11 .nil) ⟨Dd,xs,v11,rfl,rfl,hx,by rw[<- dl.length];exact hlt,R11.put eL hF (dl.append (.cons d11 .nil))⟩) λ _ s12 hPq38=>?_)
      obtain⟨_,H12,I12,_,R12⟩:=hPq38;exact again I12 (g10.trans g11) R12 (E9.mono (g10.trans g11)) ec
 rw[yE,hPP] at loop;have st4:tn 0 h₁:=T.keep 0 _ _ st2 λ b _ o eo=>old b o (up23 b o eo)
 exact codeAny_compStart_list (loop _ I4 st4) (T.self X.A 0 _ _ _ st4 (loop _ I4 st4))
theorem aHZ(hc:X.calm=true)(ok:ScOk scope X.env.scope)(own:aDh X.N scope t.slots)(hi:PI X tg iter (iV X.K fi))(hg:∀ Y,jS X scope Y->PG Y tg g)(ga:GA X.K t g)
 (ht:∀ Y,jS X scope Y->lX Y ifs fc) (he:∀ Y,jS X scope Y->PE Y elt (aW X.K fe)) (hs:∀ x,jz iter X.env x=pure x) :
 PE X (.ListComp elt [⟨tg,iter,ifs,0⟩] scope pos) (iK X.K (gS t fi fc fe)):=λ aB s σ H Q I h=>by
 rw[eval_ListComp];exact aF2 qz hc ok own hi hg ga ht he hs I h λ p C s1 H' _ hm hI q=>hm.elim λ m hm=>⟨m,hm,λ h' sb=>⟨.ref p,H',hI h' sb,rfl,q⟩⟩
theorem aMx{i:Nat}{x:Str}{pos' spos:Pos}{fa:FE}(hN:X.N.Nodup)(hx1:X.N[i]? = qq x)(hx2:L2.Loc X.env.scope x)(hf:X.fn x=true\/X.env.scope.names.lookup x=qq .local)
 (hc:X.calm=true) (ok:ScOk scope X.env.scope) (own:aDh X.N scope t.slots) (hi:PI X tg iter (iV X.K fi)) (hg:∀ Y,jS X scope Y->PG Y tg g) (ga:GA X.K t g)
 (ht:∀ Y,jS X scope Y->lX Y ifs fc) (he:∀ Y,jS X scope Y->PE Y elt (aW X.K fe)) (hs:∀ x,jz iter X.env x=pure x)
 (hw:∀ σ H Q,aW X.K fa σ H Q->iK X.K (gS t fi fc fe) σ H Q) :
 PS X (.Assign [.Name x pos'] (.ListComp elt [⟨tg,iter,ifs,0⟩] scope pos) spos) (dJ X.K (fR i fa)):=by
 have hb:∃ b,swapsWith (.ListComp elt [⟨tg,iter,ifs,0⟩] scope pos) (qq (.Name x pos')) spos.line X.env=pure b:=⟨_,rfl⟩;obtain⟨b,hb⟩:=hb;cases b with
 | false=>exact aJx hN hx1 hx2 (PE.weak (aHZ hc ok own hi hg ga ht he hs) hw) hb hf
 | true =>
   intro aB s σ H DD I h;have h2:=aJv DD σ H h;rw[exec_Assign_Name_used _ _ _ _ hb];refine wB (yk (wB ?_));show qk _ X.A (do let _ <- comprehension (.ListComp elt [⟨tg,iter,ifs,0⟩] scope pos) scope X.env _ (newList []) false (eval iter X.env) (qq (assign (.Name x pos') X.env))) _ _ s
   refine wB (bE (aF2 (QQ:=λ _ s'=>SP X aB DD .next s') (qq (assign (.Name x pos') X.env)) hc ok own hi hg ga ht he hs I (hw _ _ _ h2) λ p C s1 H' hC hm hI q=>?_) λ _ s' hq=>wP (wP hq))
   obtain⟨m,hm⟩:=hm;have I1:Inv X aB σ H' s1:=hI s1.heap (Heap.SameBut.refl _ _);obtain⟨o,es,ep,ho,hd,r⟩:=hm;have I2:=I1.pinned (fp:=[C]) (λ b hb=>by rw[List.mem_singleton.mp hb];exact hC) λ b hb=>by rw[List.mem_singleton.mp hb];exact⟨o,ho,λ v z=>by rw[hd] at z;cases z⟩
   refine bE (aCg (pos:=pos') hN hx1 hx2 hf _ s1 σ H' (.ref p) (.ref p) _ I2 rfl q) λ _ s2 hPq39=>?_
   obtain⟨σ2,H2,I3,q3⟩:=hPq39;obtain⟨b1,b2,_⟩:=I3.pin (C,o) (xAq _ (xAq _ (tQ (by simp) ho)))
   refine⟨m,⟨o,es,ep,b1,hd,r⟩,λ h' sb=>⟨σ2,H2,?_,q3⟩⟩
   exact I3.unpinned.turned (t':=s2.toks) (λ b o hb e=>sb.extBut b o hb e) b2 hC.2.1 hC.2.2.2.1 hC.2.2.2.2.1 hC.2.2.2.2.2
end
noncomputable def mH:List D->Option (List Int)
 | []=>qq []
 | .int i::r=>(mH r).bind λ l=>qq (i::l)
 | _::_=>qz
noncomputable def lY:List D->Option (List Bool)
 | []=>qq []
 | .bool i::r=>(lY r).bind λ l=>qq (i::l)
 | _::_=>qz
noncomputable def iT:List D->Option D
 | [.list xs]=>qq (.int xs.length)
 | [.tuple xs]=>qq (.int xs.length)
 | [.str z]=>if z.length<=qy then qq (.int z.length) else qz
 | _=>qz
noncomputable def qH:List D->Option D
 | [.int i,.int j]=>qq (.int (if j>i then j else i))
 | [.int i,.int j,.int k]=>qq (.int (if j>i then (if k>j then k else j) else (if k>i then k else i)))
 | [.list xs]=>match mH xs with
   | some (i::r)=>qq (.int (r.foldl max i))
   | _=>qz
 | _=>qz
noncomputable def pY:List D->Option D
 | [.int i,.int j]=>qq (.int (if j<i then j else i))
 | [.list xs]=>match mH xs with
   | some (i::r)=>qq (.int (r.foldl min i))
   | _=>qz
 | _=>qz
noncomputable def wH:List D->Option D
 | [.int i]=>qq (.int i)
 | [.bool k]=>qq (.int (if k then 1 else 0))
 | _=>qz
noncomputable def aDM:List D->Option D
 | [.int i]=>qq (.int (if i<0 then -i else i))
 | _=>qz
noncomputable def uY:List D->Option D
 | [.list xs]=>qq (.tuple xs)
 | [.tuple xs]=>qq (.tuple xs)
 | _=>qz
noncomputable def vW:List D->Option D
 | [.list xs]=>(mH xs).bind λ l=>qq (.int l.sum)
 | _=>qz
noncomputable def aDH:List D->Option D
 | [.list xs]=>(lY xs).bind λ l=>qq (.bool (l.all id))
 | _=>qz
noncomputable def vX:List D->Option D
 | [.list xs]=>(lY xs).bind λ l=>qq (.bool (l.any id))
 | _=>qz
section
variable {X : Cx}
theorem iU{F H:Hp}{d:D}{xs:List V}(h:NowL X.K F H [d] xs):∃ x,xs=[x]/\bP X.K F H d x:=by
 cases h with
 | cons a b=>cases b;exact⟨_,rfl,a⟩
theorem aJS{F H:Hp}{d e:D}{xs:List V}(h:NowL X.K F H [d,e] xs):∃ x y,xs=[x,y]/\bP X.K F H d x/\bP X.K F H e y:=by
 cases h with
 | cons a b =>
   cases b with
   | cons c d=>cases d;exact⟨_,_,rfl,a,c⟩
theorem aWx{F H:Hp}{d e f:D}{xs:List V}(h:NowL X.K F H [d,e,f] xs):∃ x y z,xs=[x,y,z]/\bP X.K F H d x/\bP X.K F H e y/\bP X.K F H f z:=by
 cases h with
 | cons a b=>cases b with
   | cons c d=>cases d with
     | cons e f=>cases f;exact⟨_,_,_,rfl,a,c,e⟩
theorem aVH{x y z:V}{us:List qx}(r:aS [x,y,z] us):∃ u v w',us=[u,v,w']/\bC x u/\bC y v/\bC z w':=by
 cases r with
 | cons r1 r2=>cases r2 with
   | cons r3 r4=>cases r4 with
     | cons r5 r6=>cases r6;exact⟨_,_,_,rfl,r1,r3,r5⟩
theorem aMI(hc:X.calm=true):dO X (.builtin "max") (λ xs H Q=>∃ i j k,xs=[.int i,.int j,.int k]/\Q (.int (if j>i then (if k>j then k else j) else (if k>i then k else i))) H):=by
 intro aB s σ H xs us Q I r h;obtain⟨i,j,k,rfl,q⟩:=h;obtain⟨u,v,w',rfl,⟨t,rfl⟩,⟨t',rfl⟩,⟨t2,rfl⟩⟩:=aVH r;refine max_three_ints (I.ok.hd hc) λ h' tk kk=>⟨_,H,I.kept kk,?_,q⟩
 by_cases h1:j>i<;>by_cases h2:k>j<;>by_cases h3:k>i<;>simp only[h1,h2,h3,if_true,if_false]<;>exact⟨_,rfl⟩
theorem tR{K:FrG}{F:Hp}:∀ {ds:List D}{xs:List V}{ns:List Int},DenL K F ds xs->mH ds=qq ns->xs=ns.map V.int
 | _,_,_,.nil,e=>by cases e;rfl
 | .int i::r,_,_,.cons h t,e=>by
   obtain⟨l,e1,e2⟩:=bind_some e;cases e2;cases h;rw[yAt,tR t e1]
 | .none::_,_,_,.cons _ _,e=>by cases e
 | .bool _::_,_,_,.cons _ _,e=>by cases e
 | .str _::_,_,_,.cons _ _,e=>by cases e
 | .list _::_,_,_,.cons _ _,e=>by cases e
 | .tuple _::_,_,_,.cons _ _,e=>by cases e
 | .dict _::_,_,_,.cons _ _,e=>by cases e
theorem aHa:∀ (l:List Int) (i:Int),(l.foldl max i∈i::l)/\∀ a∈i::l,a<=l.foldl max i
 | [],i=>⟨List.mem_singleton.mpr rfl,λ a h=>by rw[List.mem_singleton.mp h];exact Int.le_refl _⟩
 | b::l,i=>by
   obtain⟨h1,h2⟩:=aHa l (max i b);rw[yBl];refine⟨?_,λ a ha=>?_⟩
   ·rcases List.mem_cons.mp h1 with h | h
    ·rw[h];rcases Int.le_total i b with q | q
     ·rw[Int.max_eq_right q];simp
     ·rw[Int.max_eq_left q];simp
    ·simp[h]
   ·have h3:=h2 (max i b) xAd;simp only[yCv] at ha;rcases ha with rfl | rfl | ha
    ·exact yHh (Int.le_max_left _ _) h3
    ·exact yHh (Int.le_max_right _ _) h3
    ·exact h2 a (xAg _ ha)
theorem aHo:∀ (l:List Int) (i:Int),(l.foldl min i∈i::l)/\∀ a∈i::l,l.foldl min i<=a
 | [],i=>⟨List.mem_singleton.mpr rfl,λ a h=>by rw[List.mem_singleton.mp h];exact Int.le_refl _⟩
 | b::l,i=>by
   obtain⟨h1,h2⟩:=aHo l (min i b);rw[yBl];refine⟨?_,λ a ha=>?_⟩
   ·rcases List.mem_cons.mp h1 with h | h
    ·rw[h];rcases Int.le_total i b with q | q
     ·rw[Int.min_eq_left q];simp
     ·rw[Int.min_eq_right q];simp
    ·simp[h]
   ·have h3:=h2 (min i b) xAd;simp only[yCv] at ha;rcases ha with rfl | rfl | ha
    ·exact yHh h3 (Int.min_le_left _ _)
    ·exact yHh h3 (Int.min_le_right _ _)
    ·exact h2 a (xAg _ ha)
theorem aBu:∀ {l:List Int}{us:List qx},aS (l.map V.int) us->∃ ps:List (Int×Tok),us=ps.map (λ p=>Value.int p.1 p.2)/\ps.map (·.1)=l
 | [],us,r=>by cases r;exact⟨[],rfl,rfl⟩
 | i::l,us,r=>by
   cases r with
   | cons h t =>
     obtain⟨tk,rfl⟩:=h;obtain⟨ps,rfl,rfl⟩:=aBu t;exact⟨(i,tk)::ps,rfl,rfl⟩
theorem aNe(hc:X.calm=true):dO X (.builtin "max") (λ xs H Q=>∃ (a:qv) (l:List Int),xs=[.ref a]/\bM X.K H a (l.map V.int)/\0<l.length/\∀ M,M∈l->(∀ i∈l,i<=M)->Q (.int M) H):=by
 intro aB s σ H xs us Q I r h;obtain⟨a,l,rfl,sq,hl,q⟩:=h;obtain⟨u,rfl,ru⟩:=iR r;cases ru;obtain⟨aG,rv,pl,hz⟩:=I.list sq;obtain⟨ps,rfl,rfl⟩:=aBu rv;have hIL:s.heap.IsList a (intItems ps.toArray):=by
  have e:intItems ps.toArray=(ps.map (λ p=>Value.int p.1 p.2)).toArray:=by simp[intItems]
  rw[e];exact pl.isList
 refine max_intList (xs:=ps.toArray) (I.ok.hd hc) hIL (by simpa using hl) λ v h' tk hv hk=>?_
 obtain⟨t,rfl⟩:=intItems_at hv;obtain⟨h1,h2⟩:=argBest_gt (numAt ps.toArray) (ps.toArray.size-1);refine⟨.int _,H,I.kept hk,⟨_,rfl⟩,q _ ?_ λ i hi=>?_⟩
 ·rw[numAt_eq];have hz':0<ps.toArray.size:=by simpa using hl
  exact getD_mem (by rw[yAd,yEe];exact xAj h1 (Nat.sub_lt hz' Nat.one_pos))
 ·obtain⟨j,hj,rfl⟩:=mem_getD hi;rw[yAd] at hj;have:=h2 j (by rw[yAg];omega)
  rw[numAt_eq (j:=j)] at this;exact this
theorem aML(hc:X.calm=true):dO X (.builtin "min") (λ xs H Q=>∃ (a:qv) (l:List Int),xs=[.ref a]/\bM X.K H a (l.map V.int)/\0<l.length/\∀ M,M∈l->(∀ i∈l,M<=i)->Q (.int M) H):=by
 intro aB s σ H xs us Q I r h;obtain⟨a,l,rfl,sq,hl,q⟩:=h;obtain⟨u,rfl,ru⟩:=iR r;cases ru;obtain⟨aG,rv,pl,hz⟩:=I.list sq;obtain⟨ps,rfl,rfl⟩:=aBu rv;have hIL:s.heap.IsList a (intItems ps.toArray):=by
  have e:intItems ps.toArray=(ps.map (λ p=>Value.int p.1 p.2)).toArray:=by simp[intItems]
  rw[e];exact pl.isList
 refine min_intList (xs:=ps.toArray) (I.ok.hd hc) hIL (by simpa using hl) λ v h' tk hv hk=>?_
 obtain⟨t,rfl⟩:=intItems_at hv;obtain⟨h1,h2⟩:=argBest_lt (numAt ps.toArray) (ps.toArray.size-1);refine⟨.int _,H,I.kept hk,⟨_,rfl⟩,q _ ?_ λ i hi=>?_⟩
 ·rw[numAt_eq];have hz':0<ps.toArray.size:=by simpa using hl
  exact getD_mem (by rw[yAd,yEe];exact xAj h1 (Nat.sub_lt hz' Nat.one_pos))
 ·obtain⟨j,hj,rfl⟩:=mem_getD hi;rw[yAd] at hj;have:=h2 j (by rw[yAg];omega)
  rw[numAt_eq (j:=j)] at this;exact this
theorem aVg:dO X (.builtin "len") (lS X iT):=λ aB s σ H xs us Q I r aQ=>by
 obtain⟨F,L,S,ds,z,R,n,e,q⟩:=aQ;unfold iT at e
 split at e
 ·cases e;obtain⟨x,rfl,nx⟩:=iU n;obtain⟨a,ys,rfl,sq,dl⟩:=nx.lst R.sub;exact aEO aB s σ H _ us Q I r ⟨a,ys,rfl,.inl sq,by rw[<- dl.length];exact q.here R (.int _)⟩
 ·cases e;obtain⟨x,rfl,nx⟩:=iU n;obtain⟨a,ys,rfl,sq,dl⟩:=nx.tup R.sub;exact aEO aB s σ H _ us Q I r ⟨a,ys,rfl,.inr sq,by rw[<- dl.length];exact q.here R (.int _)⟩
 ·split at e
  ·rename_i hz;cases e;obtain⟨x,rfl,nx⟩:=iU n;exact aLk aB s σ H _ us Q I r ⟨_,by rw[nx.str],hz,q.here R (.int _)⟩
  ·cases e
 ·cases e
theorem aVr(hc:X.calm=true):dO X (.builtin "max") (lS X qH):=λ aB s σ H xs us Q I r aQ=>by
 obtain⟨F,L,S,ds,z,R,n,e,q⟩:=aQ;unfold qH at e
 split at e
 ·cases e;obtain⟨x,y,rfl,nx,ny⟩:=aJS n;exact aMD hc aB s σ H _ us Q I r ⟨_,_,by rw[nx.int,ny.int],q.here R (.int _)⟩
 ·cases e;obtain⟨x,y,u,rfl,nx,ny,nu⟩:=aWx n;exact aMI hc aB s σ H _ us Q I r ⟨_,_,_,by rw[nx.int,ny.int,nu.int],q.here R (.int _)⟩
 ·split at e
  ·rename_i xs' i r' hi;cases e;obtain⟨x,rfl,nx⟩:=iU n;obtain⟨a,ys,rfl,sq,dl⟩:=nx.lst R.sub;obtain rfl:=tR dl hi;refine aNe hc aB s σ H _ us Q I r ⟨a,i::r',rfl,sq,by simp,λ M h1 h2=>?_⟩
   have f:=aHa r' i;have:M=r'.foldl max i:=Int.le_antisymm (f.2 _ h1) (h2 _ f.1);rw[this];exact q.here R (.int _)
  ·cases e
 ·cases e
theorem aUM(hc:X.calm=true):dO X (.builtin "min") (lS X pY):=λ aB s σ H xs us Q I r aQ=>by
 obtain⟨F,L,S,ds,z,R,n,e,q⟩:=aQ;unfold pY at e
 split at e
 ·cases e;obtain⟨x,y,rfl,nx,ny⟩:=aJS n;exact aM9 hc aB s σ H _ us Q I r ⟨_,_,by rw[nx.int,ny.int],q.here R (.int _)⟩
 ·split at e
  ·rename_i xs' i r' hi;cases e;obtain⟨x,rfl,nx⟩:=iU n;obtain⟨a,ys,rfl,sq,dl⟩:=nx.lst R.sub;obtain rfl:=tR dl hi;refine aML hc aB s σ H _ us Q I r ⟨a,i::r',rfl,sq,by simp,λ M h1 h2=>?_⟩
   have f:=aHo r' i;have:M=r'.foldl min i:=Int.le_antisymm (h2 _ f.1) (f.2 _ h1);rw[this];exact q.here R (.int _)
  ·cases e
 ·cases e
theorem aU3:dO X (.type "int") (lS X wH):=λ aB s σ H xs us Q I r aQ=>by
 obtain⟨F,L,S,ds,z,R,n,e,q⟩:=aQ;unfold wH at e
 split at e
 ·cases e;obtain⟨x,rfl,nx⟩:=iU n;exact aFu aB s σ H _ us Q I r (.inl ⟨_,by rw[nx.int],q.here R (.int _)⟩)
 ·cases e;obtain⟨x,rfl,nx⟩:=iU n;exact aFu aB s σ H _ us Q I r (.inr ⟨_,by rw[nx.bl],q.here R (.int _)⟩)
 ·cases e
theorem aTv:dO X (.builtin "abs") (lS X aDM):=λ aB s σ H xs us Q I r aQ=>by
 obtain⟨F,L,S,ds,z,R,n,e,q⟩:=aQ;unfold aDM at e
 split at e
 ·cases e;obtain⟨x,rfl,nx⟩:=iU n;exact aNW aB s σ H _ us Q I r ⟨_,by rw[nx.int],q.here R (.int _)⟩
 ·cases e
theorem aQt:dO X (.type "tuple") (lS X uY):=λ aB s σ H xs us Q I r aQ=>by
 obtain⟨F,L,S,ds,z,R,n,e,q⟩:=aQ;unfold uY at e
 split at e
 ·cases e;obtain⟨x,rfl,nx⟩:=iU n;obtain⟨a,ys,rfl,sq,dl⟩:=nx.lst R.sub;exact aEv aB s σ H _ us Q I r ⟨a,ys,rfl,.inl ⟨sq,λ l hl=>q.tup R hl dl⟩⟩
 ·cases e;obtain⟨x,rfl,nx⟩:=iU n;have nx':=nx;obtain⟨a,ys,rfl,sq,dl⟩:=nx.tup R.sub;refine aEv aB s σ H _ us Q I r ⟨a,ys,rfl,.inr ⟨sq,q.here R ?_⟩⟩;rcases nx' with nx | ⟨_,_,_,e,_⟩
  ·exact nx
  ·cases e
 ·cases e
theorem aBr{prog:qu}{w:zq}{A:zv}(hh:A.handled=qz)(I ax:qv)(hne:ax≠I)(aO:Array qx) :
 WalksS prog w A I [I,ax] [I] (λ a b=>b=a) aO.size (λ i v=>aO[i]? = qq v) (λ i s=>s.heap.IsListIter I ax i/\s.heap.IsList ax aO) where
 sub:=λ b hb=>by simp at hb;simp[hb]
 grefl:=λ _=>rfl
 gtrans:=λ _ _ _ h1 h2=>h2.trans h1
 frame:=λ _ _ _ _ st _ hk=>⟨st.1.at λ o e=>hk I (by simp) o e,st.2.at λ o e=>hk ax (by simp) o e⟩
 item:=λ i s Q E hi st hQ=>by
  refine vy st.1 st.2 (x:=aO[i]) (by simp[hi]) λ h' hit' hs'=>?_
  exact hQ _ _ (by simp[hi]) ⟨hit',st.2.extBut hs'.extBut hne⟩ ⟨λ b o hb e=>hs'.extBut b o (λ h=>hb (by simp[h])) e,rfl,rfl,rfl,yAb _⟩
 done:=λ s Q E st hQ=>vo hh st.1 st.2 (by simp) λ h' he'=>hQ _ ⟨λ b o hb e=>he' b o (λ h=>hb (by simp[h])) e,rfl,rfl,rfl,yAb _⟩
 self:=λ _ _ _ _ st hQ=>wpAny_pyIter_listiter st.1 hQ
theorem aEX:∀ (ns:List Int) (k:Nat),k<=ns.length->preSum (λ i=>ns.getD i 0) k=(ns.take k).sum
 | _,0,_=>by simp[preSum]
 | ns,k+1,h=>by
   rw[preSum,aEX ns k (by omega),yFn (by omega),List.sum_append]
   have:ns.getD k 0=ns[k]:=by simp[yGr,yAa (show k<ns.length by omega)]
   rw[this];simp
theorem xW{K:FrG}{F:Hp}:∀ {ds:List D}{xs:List V}{ns:List Bool},DenL K F ds xs->lY ds=qq ns->xs=ns.map V.bl
 | _,_,_,.nil,e=>by cases e;rfl
 | .bool i::r,_,_,.cons h t,e=>by
   obtain⟨l,e1,e2⟩:=bind_some e;cases e2;cases h;rw[yAt,xW t e1]
 | .none::_,_,_,.cons _ _,e=>by cases e
 | .int _::_,_,_,.cons _ _,e=>by cases e
 | .str _::_,_,_,.cons _ _,e=>by cases e
 | .list _::_,_,_,.cons _ _,e=>by cases e
 | .tuple _::_,_,_,.cons _ _,e=>by cases e
 | .dict _::_,_,_,.cons _ _,e=>by cases e
theorem aLo{ns:List Int}{us:List qx}(r:aS (ns.map V.int) us){i:Nat}{v:qx}(e:us[i]? = qq v):∃ t,v=.int (ns.getD i 0) t:=by
 have hl:=r.length;rw[yAd] at hl;have hi:i<ns.length:=by rw[hl];exact(gIm e).1
 obtain⟨u,e1,ru⟩:=aS.get r (i:=i) (x:=.int ns[i]) (by rw[xAb,yAa hi];rfl)
 rw[e] at e1;cases e1;obtain⟨t,rfl⟩:=ru;exact⟨t,by simp[yGr,yAa hi]⟩
theorem aEI{ns:List Bool}{us:List qx}(r:aS (ns.map V.bl) us){i:Nat}{v:qx}(e:us[i]? = qq v):v=.bool (ns.getD i false):=by
 have hl:=r.length;rw[yAd] at hl;have hi:i<ns.length:=by rw[hl];exact(gIm e).1
 obtain⟨u,e1,ru⟩:=aS.get r (i:=i) (x:=.bl ns[i]) (by rw[xAb,yAa hi];rfl)
 rw[e] at e1;cases e1;obtain rfl:=ru;simp[yGr,yAa hi]
theorem aUp(hc:X.calm=true):dO X (.builtin "sum") (lS X vW):=λ aB s σ H xs us Q I r aQ=>by
 obtain⟨F,L,S,ds,z,R,n,e,q⟩:=aQ;unfold vW at e
 split at e
 ·obtain⟨ns,e1,e2⟩:=bind_some e;cases e2;obtain⟨x,rfl,nx⟩:=iU n;obtain⟨a,ys,rfl,sq,dl⟩:=nx.lst R.sub;obtain rfl:=tR dl e1;obtain⟨u,rfl,ru⟩:=iR r;cases ru;obtain⟨aG,rv,pl,hz⟩:=I.list sq;have hh:X.A.in1.handled=qz:=I.ok.hd hc;refine call_sum_walkAnyS (jj pl.isList ?_);have hne:a≠s.heap.objs.size:=by
   obtain⟨o,ho,_⟩:=pl.isList;exact xAk (xAa ho)
  have hl:=rv.length;rw[yAd] at hl;refine⟨_,_,_,_,_,_,_,λ i=>ns.getD i 0,rfl,aBr hh s.heap.objs.size a hne aG.toArray,⟨⟨_,xAe _ rfl,rfl,rfl⟩,?_⟩,λ b hb=>?_,λ i v e=>aLo rv (by simpa using e),λ s' t' mv=>?_⟩
  ·obtain⟨o,ho,r'⟩:=pl.isList;exact⟨o,hpS _ ho,r'⟩
  ·obtain⟨o,ho,_⟩:=pl.isList;have h1:=xAa ho;simp only[yCv,yCe,or_false] at hb;rw[yBz];rcases hb with rfl | rfl
   ·exact yEs _
   ·exact yFr h1
  ·obtain⟨h',g',d',t2,o'⟩:=s';obtain⟨mh,mg,md,mo,mt⟩:=mv;dsimp only at mh mg md mo;subst mg md mo;have I':Inv X aB σ H {s with heap:=h',toks:=t2 }:=I.kept λ b o e=>mh b o (λ z=>by
    have:b=s.heap.objs.size:=by simpa using z
    exact yCb _ (this▸xAa e)) (hpS _ e)
   have e3:preSum (λ i=>ns.getD i 0) aG.toArray.size=ns.sum:=by
    rw[yAg,<- hl,aEX ns ns.length (yAb _),yAf]
   rw[e3];exact⟨.int ns.sum,H,I',⟨_,rfl⟩,q.here R (.int _)⟩
 ·cases e
theorem aFc{prog:qu}{w:zq}{A:zv}{b:Bool}{s:qj}{Q:Bool->qj->Prop}{E:qx->qj->Prop}(h:Q b s):qk (model prog w) A (truthy (.bool b)) Q E s:=by
 first
  | exact jx h
  | exact PySem.wpAny_truthy_bool h
  | exact truthy_bool h
theorem aMF(bs:List Bool):(yAu bs.length).all (λ i=>bs.getD i false)=bs.all id:=by
 have h:(yAu bs.length).map (λ i=>bs.getD i false)=bs:=by
  apply yGy
  ·simp
  ·intro i h1 h2;simp[yGr,yAa h2]
 have h2:bs.all id=((yAu bs.length).map (λ i=>bs.getD i false)).all id:=by rw[h]
 rw[h2,List.all_map];rfl
theorem aM1(bs:List Bool):(yAu bs.length).any (λ i=>bs.getD i false)=bs.any id:=by
 have h:(yAu bs.length).map (λ i=>bs.getD i false)=bs:=by
  apply yGy
  ·simp
  ·intro i h1 h2;simp[yGr,yAa h2]
 have h2:bs.any id=((yAu bs.length).map (λ i=>bs.getD i false)).any id:=by rw[h]
 rw[h2,List.any_map];rfl
theorem aUh(hc:X.calm=true):dO X (.builtin "all") (lS X aDH):=λ aB s σ H xs us Q I r aQ=>by
 obtain⟨F,L,S,ds,z,R,n,e,q⟩:=aQ;unfold aDH at e
 split at e
 ·obtain⟨bs,e1,e2⟩:=bind_some e;cases e2;obtain⟨x,rfl,nx⟩:=iU n;obtain⟨a,ys,rfl,sq,dl⟩:=nx.lst R.sub;obtain rfl:=xW dl e1;obtain⟨u,rfl,ru⟩:=iR r;cases ru;obtain⟨aG,rv,pl,hz⟩:=I.list sq;have hh:X.A.in1.handled=qz:=I.ok.hd hc;refine call_all_walkS (jj pl.isList ?_);have hne:a≠s.heap.objs.size:=by
   obtain⟨o,ho,_⟩:=pl.isList;exact xAk (xAa ho)
  have hl:=rv.length;rw[yAd] at hl;refine⟨_,_,_,_,_,_,_,λ i=>bs.getD i false,rfl,aBr hh s.heap.objs.size a hne aG.toArray,⟨⟨_,xAe _ rfl,rfl,rfl⟩,?_⟩,λ i v s' Q' E' e hq=>?_,λ s' mv=>?_⟩
  ·obtain⟨o,ho,r'⟩:=pl.isList;exact⟨o,hpS _ ho,r'⟩
  ·obtain rfl:=aEI rv (i:=i) (by simpa using e)
   exact aFc hq
  ·obtain⟨h',g',d',t2,o'⟩:=s';obtain⟨mh,mg,md,mo,mt⟩:=mv;dsimp only at mh mg md mo;subst mg md mo;have I':Inv X aB σ H {s with heap:=h',toks:=t2 }:=I.kept λ b o e=>mh b o (λ z=>by
    have:b=s.heap.objs.size:=by simpa using z
    exact yCb _ (this▸xAa e)) (hpS _ e)
   rw[yAg,<- hl,aMF];exact⟨.bl (bs.all id),H,I',rfl,q.here R (.bl _)⟩
 ·cases e
theorem aUo(hc:X.calm=true):dO X (.builtin "any") (lS X vX):=λ aB s σ H xs us Q I r aQ=>by
 obtain⟨F,L,S,ds,z,R,n,e,q⟩:=aQ;unfold vX at e
 split at e
 ·obtain⟨bs,e1,e2⟩:=bind_some e;cases e2;obtain⟨x,rfl,nx⟩:=iU n;obtain⟨a,ys,rfl,sq,dl⟩:=nx.lst R.sub;obtain rfl:=xW dl e1;obtain⟨u,rfl,ru⟩:=iR r;cases ru;obtain⟨aG,rv,pl,hz⟩:=I.list sq;have hh:X.A.in1.handled=qz:=I.ok.hd hc;refine call_any_walkS (jj pl.isList ?_);have hne:a≠s.heap.objs.size:=by
   obtain⟨o,ho,_⟩:=pl.isList;exact xAk (xAa ho)
  have hl:=rv.length;rw[yAd] at hl;refine⟨_,_,_,_,_,_,_,λ i=>bs.getD i false,rfl,aBr hh s.heap.objs.size a hne aG.toArray,⟨⟨_,xAe _ rfl,rfl,rfl⟩,?_⟩,λ i v s' Q' E' e hq=>?_,λ s' mv=>?_⟩
  ·obtain⟨o,ho,r'⟩:=pl.isList;exact⟨o,hpS _ ho,r'⟩
  ·obtain rfl:=aEI rv (i:=i) (by simpa using e)
   exact aFc hq
  ·obtain⟨h',g',d',t2,o'⟩:=s';obtain⟨mh,mg,md,mo,mt⟩:=mv;dsimp only at mh mg md mo;subst mg md mo;have I':Inv X aB σ H {s with heap:=h',toks:=t2 }:=I.kept λ b o e=>mh b o (λ z=>by
    have:b=s.heap.objs.size:=by simpa using z
    exact yCb _ (this▸xAa e)) (hpS _ e)
   rw[yAg,<- hl,aM1];exact⟨.bl (bs.any id),H,I',rfl,q.here R (.bl _)⟩
 ·cases e
noncomputable def aAH(fa:FE):FL:=λ env S=>(fa env S).bind λ p=>(dr p.2 p.1).bind λ d=>(vH d).bind λ l=>qq (l,p.2)
theorem aT3{fa:FE}(σ:St)(H:Hp)(Q:VK)(h:iK X.K (aAH fa) σ H Q):tCB (λ xs H Q=>∃ p ys,xs=[.ref p]/\(bM X.K H p ys\/bS X.K H p ys)/\∀ l,H l=qz->Q (.ref l) (bD H l (.lst ys))) (eT X.K (cR fa gW)) σ H Q:=by
 obtain⟨F,L,S,env,ds,S',R,E,e,q⟩:=h;obtain⟨⟨w,S1⟩,e1,e⟩:=bind_some e;obtain⟨d,e2,e⟩:=bind_some e;obtain⟨l,e3,e⟩:=bind_some e;cases e;refine⟨F,L,S,env,[w],_,R,E,by unfold cR;rw[e1];rfl,λ F1 L1 H1 vs g1 R1 d1=>?_⟩
 cases d1 with
 | cons dd dr =>
   cases dr;obtain⟨p,xs,rfl,sq,dl⟩:=aCs R1.sub (jU R1 dd e2) e3;exact⟨p,xs,rfl,sq,λ l hl=>q F1 L1 _ l xs g1 (R1.lay hl) (R1.sub.free hl) (R1.notin hl) cY dl⟩
noncomputable def aJe:D->Option D
 | .int i=>qq (.int ((yAi i:Nat):Int))
 | _=>qz
noncomputable def aDa(fa:FE):FE:=f1 fa (nA aJe)
theorem aPI:nC X "int.bit_length" (λ x xs H Q=>∃ i,x=.int i/\xs=[]/\Q (.int ((yAi i:Nat):Int)) H):=λ aB s σ H x xs v us Q I rx rs aQ=>by
 obtain⟨i,e1,e2,q⟩:=aQ;subst e1 e2;obtain⟨t,rfl⟩:=rx;cases rs;exact call_gives yGd (yx s i t) PySem.F.entry_int_bit_length (PySem.F.args_int_bit_length_1 _) (PySem.AutoIntG2.int_bit_length_int_0 i t) (show EP X aB σ Q _ _ from ⟨.int _,H,I.tok _,⟨_,rfl⟩,q⟩)
end
section
variable {X : Cx}{aB : List (qv×Obj)}{σ : L2.St}{H : Hp}{s : qj}{h' : Heap}
theorem yB{ch:List qv}{p:qv}{o:HO}{t':Nat}(I:Inv X aB σ H s)(hch:∀ b∈ch,gH X aB H b)(k:∀ b u,b ∉ ch->s.heap.get? b=qq u->h'.get? b=qq u)(hp:s.heap.objs.size<=p)
 (new:gO X.prog X.w (bD H p o) h' p o):Inv X aB σ (bD H p o) {s with heap:=h',toks:=t' }:=by
 have hn:=I.hok.fresh hp;have nch:∀ b u,H b=qq u->b ∉ ch:=λ b u e z=>by rw[(hch b z).1] at e;cases e
 have nep:∀ b u,s.heap.get? b=qq u->b≠p:=λ b u e z=>absurd (xAc (xAa e) hp) (by rw[z];exact yCb _)
 refine I.step (g':=s.gens) (d':=s.drawn) (ch:=ch) (λ b hb=>⟨(hch b hb).2.2.2.1,(hch b hb).2.1,(hch b hb).2.2.2.2.1,(hch b hb).2.2.2.2.2⟩) (λ b o _ _ hc e _=>k b o hc e) (λ b o _ _ hc e _=>⟨o.slots,k b o hc e⟩) (λ b o _ e n=>by rw[bL (nep b o e)];exact n)
  (λ b o hc e=>⟨o,k b o hc e⟩) (λ b xs e=>by rw[bL (eD e hn)];exact e) (λ b u v e=>by rw[bL (eD e hn)];exact e) (λ b ps e=>⟨#[],by rw[bL (eD e hn),e];simp⟩) (λ m hm=>?_) (λ b u e=>?_) I.bare
 ·obtain⟨o,es,ep,ho,r⟩:=hm;exact⟨o,es,ep,k _ o (λ z=>(hch _ z).2.1 rfl) ho,r⟩
 ·by_cases hb:b=p
  ·subst hb;rw[cY] at e;cases e;exact new
  ·rw[bL hb] at e;refine(I.hok b u e).stay (λ c v hc q=>k c v ?_ q) (λ c q=>by rw[bL (eD q hn)];exact q) λ c xs q=>by rw[bL (eD q hn)];exact q
   rcases hc with z | z
   ·rw[z];exact nch b u e
   ·exact nch c _ z
end
noncomputable def Ite(K:FrG)(a:qv):It:=
 ⟨λ i H=>∃ xs x,bM K H a xs/\xs[i]? = qq x,λ i H x H'=>∃ p y,H p=qz/\H'=bD H p (.tup [.int i,y])/\x=.ref p/\∀ xs,bM K H a xs->xs[i]? = qq y,λ i H=>∃ xs,bM K H a xs/\xs.length<=i⟩
theorem aMr{P:qu}{w:zq}{K:FrG}{elts:List qw}{k:Nat}{pos:Pos}(a e it:qv)(hei:e≠it):Turn P w K (.Tuple elts k pos) (Ite K a) [e,it] e (λ i h=>(∃ old,IsEnum h e it (i:Nat) old)/\h.IsListIter it a i) where
 mem:=xAd
 obj:=λ i h aQ b hb=>by
  obtain⟨⟨old,he⟩,⟨o,ho,hc,hd⟩⟩:=aQ;rcases List.mem_cons.mp hb with rfl | hb
  ·exact⟨_,he,λ v=>by intro z;cases z⟩
  ·rw[yBr] at hb;subst hb;exact⟨o,ho,λ v z=>by rw[hd] at z;cases z⟩
 keep:=λ i h h' ⟨⟨old,he⟩,bI⟩ q=>⟨⟨old,q e xAd _ he⟩,bI.at λ o e=>q it (by simp) o e⟩
 item:=λ X hP hW hK hc i aB s σ H E I hf aQ kK=>by
  obtain⟨⟨old,he⟩,bI⟩:=aQ;obtain⟨xs,x,hq,hx⟩:=kK;subst hP hW hK;obtain⟨aG,rv,pl,hz⟩:=I.list hq;obtain⟨u,hu,ru⟩:=rv.get hx;refine wpAny_pyNext_enum_item he bI pl.isList (by simpa using hu) hei λ h₁ heo hit₁ ht₁ hz₁ hk₁=>⟨_,rfl,?_⟩
  refine yj heo λ h₂ he₂ hs₂=>?_
  have hs2:yEb e h₁ h₂:=hs₂;have eLt:e<s.heap.objs.size:=xAa he;have iLt:it<s.heap.objs.size:=by obtain⟨o,ho,_⟩:=bI;exact xAa ho
  have ht₂:h₂.get? s.heap.objs.size=qq {cls:=.type "tuple",data:=.seq #[.int i s.toks,u] }:=hs2.extBut _ _ (yEc eLt) ht₁;have I2:Inv X aB σ (bD H s.heap.objs.size (.tup [.int i,x])) {s with heap:=h₂,toks:=s.toks+1 }:=by
   refine yB I hf (λ b o hb e'=>?_) (yAb _) ⟨by show 2<=qy;decide,[.int i s.toks,u],.cons ⟨_,rfl⟩ (.cons ru .nil),⟨_,ht₂,rfl,0,rfl⟩⟩
   have b1:b≠e:=λ z=>hb (by simp[z])
   have b2:b≠it:=λ z=>hb (by simp[z])
   exact hs2.extBut b o b1 (hk₁ b o b1 b2 e')
  refine⟨.ref s.heap.objs.size,_,I2,rfl,⟨s.heap.objs.size,x,I.fresh,rfl,rfl,λ ys hy=>by rw[I.list_inj hy hq];exact hx⟩,⟨⟨u,by have:=he₂;rw[show((i+1:Nat):Int)=(i:Int)+1 by omega];exact this⟩,hit₁.extBut hs2.extBut (Ne.symm hei)⟩,λ b hb=>?_⟩
  have:b<s.heap.objs.size:=by
   rcases List.mem_cons.mp hb with rfl | hb
   ·exact eLt
   ·rw[yBr] at hb;subst hb;exact iLt
  rw[bL (xAk this)];exact(hf b hb).1
 done:=λ X hP hW hK hc i aB s σ H E I hf aQ kK=>by
  obtain⟨⟨old,he⟩,bI⟩:=aQ;obtain⟨xs,hq,hx⟩:=kK;subst hP hW hK;obtain⟨aG,rv,pl,hz⟩:=I.list hq;refine wpAny_pyNext_enum_end (I.ok.hd hc) he bI pl.isList (by have:=rv.length;simp;omega) λ h₁ he₁=>⟨rfl,?_⟩
  obtain⟨f1,f2,f3,f4,f5,f6⟩:=hf it (by simp)
  exact I.turned (t':=s.toks) (λ b o hb e'=>he₁ b o hb e') f1 f2 f4 f5 f6
 self:=λ A i s Q E ⟨⟨old,he⟩,_⟩ hq=>vk he hq
section
variable {X : Cx}
noncomputable def iS(k:Int):List D->List D
 | []=>[]
 | d::r=>.tuple [.int k,d]::iS (k+1) r
theorem tK:∀ (ds:List D) (k:Int),(iS k ds).length=ds.length
 | [],_=>rfl
 | _::r,k=>by simp[iS,tK r]
theorem aBF:∀ (ds:List D) (k:Int) (i:Nat) (e:D),(iS k ds)[i]? = qq e->∃ d,ds[i]? = qq d/\e=.tuple [.int (k+i),d]
 | [],_,_,_,h=>by simp[iS] at h
 | d::r,k,0,e,h=>by simp[iS] at h;subst h;exact⟨d,rfl,by simp⟩
 | d::r,k,i+1,e,h=>by
   obtain⟨d',e1,e2⟩:=aBF r (k+1) i e (by simpa [iS] using h)
   refine⟨d',by simpa using e1,?_⟩
   rw[e2];congr 3
   push_cast
   omega
theorem aPQ{K:FrG}{F:Hp}{L:List qv}{a:qv}{xs:List V}{ds:List D}(sq:bM K F a xs)(dl:DenL K F ds xs):Wk K F L (Ite K a) (iS 0 ds) where
 go:=λ i H s hi=>by
  rw[tK] at hi;exact⟨xs,xs[i]'(by rw[<- dl.length];exact hi),s.seq sq,by simp[dl.length▸hi]⟩
 stop:=λ H s=>⟨xs,s.seq sq,by rw[tK];exact yFx dl.length.symm⟩
 yld:=λ i H F1 L1 S x H' d g R e y=>by
  obtain⟨p,y',hp,rfl,rfl,hy⟩:=y;obtain⟨d',e1,rfl⟩:=aBF ds 0 i d e;obtain⟨x',e2,dx⟩:=dl.get e1;have h:=hy xs ((g.f.trans R.sub).seq sq);rw[h] at e2;cases e2;have hF:F1 p=qz:=R.sub.free hp;refine⟨bD F1 p (.tup [.int i,y']),dW hF,R.new hp,.tup (bS.of cY) ?_⟩;rw[Int.zero_add];exact .cons (.int _) (.cons (dx.mono (g.f.trans (dW hF))) .nil)
end
section
variable {prog : qu}{w : zq}{A : zv}{E : qx -> qj -> Prop}{s : qj}
theorem aKY{it t:qv}{i:Nat}{aO:Array qx}{x:qx}{Q:qx->qj->Prop}(bI:s.heap.IsTupleIter it t i)(ht:s.heap.IsTuple t aO)(hx:aO[i]? = qq x)
 (hQ:∀ h',h'.IsTupleIter it t (i+1)->yEb it s.heap h'->Q x {s with heap:=h' }):qk (model prog w) A (yAv (.ref it)) Q E s:=by
 obtain⟨o,ho,hc,hd⟩:=id bI;obtain⟨ol,hol,_,nl,hdl⟩:=ht;unfold yAv;refine wB (wpAny_callSpecial?_slot (name:=Str.ofString "__next__") bI.typeIs F.slot_tuple_iterator_next (xz F.slot_tuple_iterator_next bI.typeIs F.entry_tuple_iterator_next ?_ (F.args_tuple_iterator_next_1 _)));show qk _ _ (field (.ref it) 0 >>= _) _ _ s;refine wB (zj ho hd (x:=.ref t) rfl ?_);show qk _ _ (if (Value.ref t==Value.none)=true then _ else _) _ _ s
 rw[if_neg (show ¬ ((Value.ref t==Value.none)=true) from yBe)]
 show qk _ _ (field (.ref it) 1 >>= _) _ _ s;refine wB (zj ho hd (x:=.int i 0) rfl ?_);show qk _ _ (seqItems? (.ref t) >>= _) _ _ s;refine wB (xq hol hdl ?_);simp only[yAp,hx];refine wB (wpAny_setField ho hd (by simp) (wP ⟨x,rfl,wP (hQ _ ⟨_,yDl _ ho (Obj.isFreed_of_fields (Obj.data_mapFields hd _)),(Obj.cls_mapFields ..).trans hc,?_⟩ (Heap.SameBut.update ..))⟩))
 rw[Obj.data_mapFields hd];simp[yy]
theorem aEs{it t:qv}{i:Nat}{aO:Array qx}{Q:qx->qj->Prop}(hh:A.handled=qz)(bI:s.heap.IsTupleIter it t i)(ht:s.heap.IsTuple t aO)(hx:aO[i]? = qz)
 (hE:∀ h' e,Heap.ExtBut it s.heap h'->(∃ o,h'.get? e=qq o/\o.cls=.type "StopIteration")->E (.ref e) {s with heap:=h' }):qk (model prog w) A (yAv (.ref it)) Q E s:=by
 obtain⟨o,ho,hc,hd⟩:=id bI;obtain⟨ol,hol,_,nl,hdl⟩:=ht;unfold yAv;refine wB (wpAny_callSpecial?_slot (name:=Str.ofString "__next__") bI.typeIs F.slot_tuple_iterator_next (xz F.slot_tuple_iterator_next bI.typeIs F.entry_tuple_iterator_next ?_ (F.args_tuple_iterator_next_1 _)));show qk _ _ (field (.ref it) 0 >>= _) _ _ s;refine wB (zj ho hd (x:=.ref t) rfl ?_);show qk _ _ (if (Value.ref t==Value.none)=true then _ else _) _ _ s
 rw[if_neg (show ¬ ((Value.ref t==Value.none)=true) from yBe)]
 show qk _ _ (field (.ref it) 1 >>= _) _ _ s;refine wB (zj ho hd (x:=.int i 0) rfl ?_);show qk _ _ (seqItems? (.ref t) >>= _) _ _ s;refine wB (xq hol hdl ?_);simp only[yAp,hx];refine wB (wq (wB (wpAny_setField ho hd (by simp) ?_)))
 show qk _ _ (newExc (.type "StopIteration") [] >>= _) _ _ _;refine wB ?_;simp only[newExc,newTuple];refine wB (xx (wB (m:=firstArgMember _ _) (wpAny_of_eq (a:=Value.none) (by first | rfl | (simp only[firstArgMember];rfl)) (xx ?_ (by size_fits)))) (by size_fits))
 simp only[raiseNew];refine wB (wpAny_handled ?_)
 first | rw[show A.in1.handled=qz from hh] | rw[hh]
 exact wB (wP (wpAny_throw (hE _ _ (((Heap.SameBut.update ..).extBut.push _).push _) ⟨_,xAe _ rfl,rfl⟩)))
theorem aKP{e it t:qv}{i:Nat}{aO:Array qx}{old:qx}{Q:Option qx->qj->Prop}(hh:A.in1.handled=qz)
 (he:IsEnum s.heap e it i old) (bI:s.heap.IsTupleIter it t i) (ht:s.heap.IsTuple t aO) (hx:aO[i]? = qz)
 (hQ:∀ h',Heap.ExtBut it s.heap h'->Q qz {s with heap:=h' }):qk (model prog w) A (vq (.ref e)) Q E s:=by
 have hT:s.TypeIs (.ref e) "enumerate":=⟨_,he,rfl⟩;unfold vq;refine wB (wz (wpAny_callSpecial?_slot (name:=Str.ofString "__next__") hT F.slot_enumerate_next (xz F.slot_enumerate_next hT F.entry_enumerate_next ?_ (F.args_enumerate_next_1 _))));show qk _ _ (field (.ref e) 2 >>= _) _ _ _;refine wB (zj he rfl (x:=.ref it) rfl (wB (aEs hh bI ht hx λ h' x he' hx'=>?_)))
 obtain⟨o,ho,hc⟩:=hx';exact wB (yo (T:="StopIteration") (b:=true) ⟨o,ho,hc⟩ kv (wP (hQ _ he')))
theorem aFB(hh:A.handled=qz)(it t:qv)(hne:t≠it)(aO:Array qx):Draws prog w A it [it,t] aO.size (λ i v=>aO[i]? = qq v) (λ i h=>h.IsTupleIter it t i/\h.IsTuple t aO) where
 live:=λ _ _ st=>let ⟨o,ho,_⟩:=st.1;⟨o,ho⟩
 frame:=λ _ _ _ st hk=>⟨st.1.at λ o e=>hk it (by simp) o e,let ⟨u,hu,r⟩:=st.2;⟨u,hk t (by simp) u hu,r⟩⟩
 item:=λ i s Q E hi st hQ=>aKY st.1 st.2 (x:=aO[i]) (by simp[hi]) λ h' hit' hs'=>hQ _ h' s.toks (by simp[hi]) ⟨hit',let ⟨u,hu,r⟩:=st.2;⟨u,hs'.extBut t u hne hu,r⟩⟩ hs'
 done:=λ s Q E st hE=>aEs hh st.1 st.2 (by simp) hE
theorem aMJ(l:qv)(aO:Array qx)(n:Nat)(dct:Option qv)(sl:Array (Option qx)) :
 Meets (Builtin.«enumerate.__new__» ⟨[.type "enumerate",.ref l],[]⟩) (λ _ R s=>s.heap.get? l=qq {cls:=.type "tuple",dict:=dct,data:=.seq aO n,slots:=sl } /\
  R (.ok (.ret (.ref (s.heap.push {cls:=.type "tuple_iterator",data:=.fields #[.ref l,.int 0 0] }).objs.size)))
   {s with heap:=(s.heap.push {cls:=.type "tuple_iterator",data:=.fields #[.ref l,.int 0 0] }).push {cls:=.type "enumerate",data:=.fields #[.none,.bool false,.ref s.heap.objs.size,yy 0,.none,.none] } }):=
 .of_wp λ prog w A R s h=>by
  obtain⟨hp,g,d,tk,os⟩:=s;obtain⟨hl,h⟩:=h;have hsub:=sub_enumerate;have hL:Heap.IsTuple (Shared.heap ⟨hp,g,d,tk,os⟩) l aO:=⟨_,hl,rfl,n,rfl⟩
  wp_walk using AutoSeq1.wpAny_loadPart' hl
  refine wpAny_stack_any λ st=>wP ?_
  split
  ·rename_i c _ _ _ _ _;cases (c==Value.type "enumerate")
   ·wp_walk using AutoSeq1.wpAny_loadPart' hl,jw hL
    exact⟨_,rfl,h⟩
   ·wp_walk using AutoSeq1.wpAny_loadPart' hl,jw hL
    exact⟨_,rfl,h⟩
  ·wp_walk using AutoSeq1.wpAny_loadPart' hl,jw hL
   exact⟨_,rfl,h⟩
theorem aLX{l:qv}{aO:Array qx}{Q:qx->qj->Prop}(hL:s.heap.IsTuple l aO)
 (h:∀ h',IsEnum h' (s.heap.objs.size+1) s.heap.objs.size 0 .none->h'.IsTupleIter s.heap.objs.size l 0->h'.objs.size=s.heap.objs.size+2 ->
   (∀ b o,s.heap.get? b=qq o->h'.get? b=qq o)->Q (.ref (s.heap.objs.size+1)) {s with heap:=h' }) :
 qk (model prog w) A (call (.type "enumerate") [.ref l]) Q E s:=by
 obtain⟨⟨c,dct,dt,sl⟩,hl,hc,n,hd⟩:=hL
 replace hc:c=.type "tuple":=hc
 replace hd:dt=.seq aO n:=hd
 subst hc hd;refine callType_new F.called_enumerate (by decide) (F.typeCall_enumerate_1 _) (F.newCall_enumerate_1 _) (λ obj=>F.args_object_init_2 obj _) F.entry_enumerate_new (aMJ l aO n dct sl) ⟨hl,?_⟩
 have hz:(s.heap.push {cls:=.type "tuple_iterator",data:=.fields #[.ref l,.int 0 0] }).objs.size=s.heap.objs.size+1:=yBz ..;show _/\_;rw[hz];have he:IsEnum ((s.heap.push {cls:=.type "tuple_iterator",data:=.fields #[.ref l,.int 0 0] }).push {cls:=.type "enumerate",data:=.fields #[.none,.bool false,.ref s.heap.objs.size,yy 0,.none,.none] }) (s.heap.objs.size+1) s.heap.objs.size 0 .none:=by
  have:=xAe (s.heap.push {cls:=.type "tuple_iterator",data:=.fields #[.ref l,.int 0 0] }) (o:={cls:=.type "enumerate",data:=.fields #[.none,.bool false,.ref s.heap.objs.size,yy 0,.none,.none] }) rfl;rw[hz] at this;exact this
 exact⟨⟨_,he,rfl⟩,h _ he ⟨_,hpS _ (xAe _ rfl),rfl,rfl⟩ (by rw[yBz,hz]) λ b o x=>hpS _ (hpS _ x)⟩
end
noncomputable def aDU(K:FrG)(a:qv):It:=
 ⟨λ i H=>∃ xs x,bS K H a xs/\xs[i]? = qq x,λ i H x H'=>∃ p y,H p=qz/\H'=bD H p (.tup [.int i,y])/\x=.ref p/\∀ xs,bS K H a xs->xs[i]? = qq y,λ i H=>∃ xs,bS K H a xs/\xs.length<=i⟩
theorem aMh{P:qu}{w:zq}{K:FrG}{elts:List qw}{k:Nat}{pos:Pos}(a e it:qv)(hei:e≠it)(hea:e≠a)(hai:a≠it):Turn P w K (.Tuple elts k pos) (aDU K a) [e,it] e (λ i h=>(∃ old,IsEnum h e it (i:Nat) old)/\h.IsTupleIter it a i) where
 mem:=xAd
 obj:=λ i h aQ b hb=>by
  obtain⟨⟨old,he⟩,⟨o,ho,hc,hd⟩⟩:=aQ;rcases List.mem_cons.mp hb with rfl | hb
  ·exact⟨_,he,λ v=>by intro z;cases z⟩
  ·rw[yBr] at hb;subst hb;exact⟨o,ho,λ v z=>by rw[hd] at z;cases z⟩
 keep:=λ i h h' ⟨⟨old,he⟩,bI⟩ q=>⟨⟨old,q e xAd _ he⟩,bI.at λ o e=>q it (by simp) o e⟩
 item:=λ X hP hW hK hc i aB s σ H E I hf aQ kK=>by
  obtain⟨⟨old,he⟩,bI⟩:=aQ;obtain⟨xs,x,hq,hx⟩:=kK;subst hP hW hK;obtain⟨aG,rv,pl,hz⟩:=I.tuple hq;obtain⟨u,hu,ru⟩:=rv.get hx;have hlt:i<aG.toArray.size:=by
   rw[yAg];exact(gIm hu).1
  have hh:X.A.in1.handled=qz:=I.ok.hd hc;refine wpAny_pyNext_enum_itemD (aFB (prog:=X.prog) (w:=X.w) hh it a hai aG.toArray) he ⟨bI,pl⟩ hlt hei (by simp[hei,hea]) λ x' h₁ tk hP heo hit₁ ht₁ hz₁ hk₁=>⟨_,rfl,?_⟩
  have:x'=u:=by
   rw[yDo,hu] at hP;exact(Option.some.inj hP).symm
  subst this;refine yj heo λ h₂ he₂ hs₂=>?_
  have hs2:yEb e h₁ h₂:=hs₂;have eLt:e<s.heap.objs.size:=xAa he;have iLt:it<s.heap.objs.size:=by obtain⟨o,ho,_⟩:=bI;exact xAa ho
  have ht₂:h₂.get? s.heap.objs.size=qq {cls:=.type "tuple",data:=.seq #[.int i tk,x'] }:=hs2.extBut _ _ (yEc eLt) ht₁;have I2:Inv X aB σ (bD H s.heap.objs.size (.tup [.int i,x])) {s with heap:=h₂,toks:=tk+1 }:=by
   refine yB I hf (λ b o hb e'=>?_) (yAb _) ⟨by show 2<=qy;decide,[.int i tk,x'],.cons ⟨_,rfl⟩ (.cons ru .nil),⟨_,ht₂,rfl,0,rfl⟩⟩
   have b1:b≠e:=λ z=>hb (by simp[z])
   have b2:b≠it:=λ z=>hb (by simp[z])
   exact hs2.extBut b o b1 (hk₁ b o b1 b2 e')
  refine⟨.ref s.heap.objs.size,_,I2,rfl,⟨s.heap.objs.size,x,I.fresh,rfl,rfl,λ ys hy=>by rw[I.tuple_inj hy hq];exact hx⟩,⟨⟨x',by have:=he₂;rw[show((i+1:Nat):Int)=(i:Int)+1 by omega];exact this⟩,?_⟩,λ b hb=>?_⟩
  ·obtain⟨o,ho,r⟩:=hit₁.1;exact⟨o,hs2.extBut it o (Ne.symm hei) ho,r⟩
  ·have:b<s.heap.objs.size:=by
    rcases List.mem_cons.mp hb with rfl | hb
    ·exact eLt
    ·rw[yBr] at hb;subst hb;exact iLt
   rw[bL (xAk this)];exact(hf b hb).1
 done:=λ X hP hW hK hc i aB s σ H E I hf aQ kK=>by
  obtain⟨⟨old,he⟩,bI⟩:=aQ;obtain⟨xs,hq,hx⟩:=kK;subst hP hW hK;obtain⟨aG,rv,pl,hz⟩:=I.tuple hq;have hh:X.A.in1.handled=qz:=I.ok.hd hc;have hl:=rv.length;refine aKP hh he bI pl (by simp;omega) λ h₁ he₁=>⟨rfl,?_⟩
  obtain⟨f1,f2,f3,f4,f5,f6⟩:=hf it (by simp)
  exact I.turned (t':=s.toks) (λ b o hb e'=>he₁ b o hb e') f1 f2 f4 f5 f6
 self:=λ A i s Q E ⟨⟨old,he⟩,_⟩ hq=>vk he hq
section
variable {X : Cx}
def aIB(K:FrG)(ta:TA):TI:=λ σ H R=>ta σ H λ vs H1=>∃ a,vs=[.ref a]/\(((∃ xs,bM K H1 a xs)/\R (Ite K a) H1)\/((∃ xs,bS K H1 a xs)/\R (aDU K a) H1))
theorem aNj{elts:List qw}{k:Nat}{pp:Pos}{a:qw}{ta:TA}{p pos:Pos}(hg:Gl X "enumerate")(hm:X.mg "enumerate" = qz)(ha:PA X [a] ta)(hs:qo [a] X.env=[(false,eval a X.env)]):PI X (.Tuple elts k pp) (.Call (.Name "enumerate" p) [a] [] pos) (aIB X.K ta):=by
 intro aB s σ H R I h;refine Call_ (lZ I hg hm boot_enumerate (yBg (bE (ha pos aB s σ H _ I h) λ us s1 hPq40=>?_) hs rfl))
 obtain⟨vs,H1,I1,r1,q1⟩:=hPq40;obtain⟨l,rfl,q1⟩:=q1;obtain⟨u,rfl,ru⟩:=iR r1;cases ru;have hb':∀ b∈[s1.heap.objs.size+1,s1.heap.objs.size],s1.heap.objs.size<=b:=λ b hb=>by
  rcases List.mem_cons.mp hb with rfl | hb
  ·exact Nat.le_succ _
  ·rw[yBr] at hb;rw[hb];exact yAb _
 rcases q1 with ⟨⟨xs,sq⟩,q⟩ | ⟨⟨xs,sq⟩,q⟩
 ·obtain⟨aG,rv,pl,hz⟩:=I1.list sq;refine call_enumerate_list pl.isList λ h' he bI hsz hk=>vk he ?_
  have I2:Inv X aB σ H1 {s1 with heap:=h' }:=I1.kept (t':=s1.toks) hk
  exact⟨s1.heap.objs.size+1,[s1.heap.objs.size+1,s1.heap.objs.size],_,_,H1,rfl,I2,aMr l _ _ (Nat.succ_ne_self _),⟨⟨_,he⟩,bI⟩,λ b hb=>I1.fpOk (hb' b hb) (I1.hok.fresh (hb' b hb)),q⟩
 ·obtain⟨aG,rv,pl,hz⟩:=I1.tuple sq;have hlt:l<s1.heap.objs.size:=by obtain⟨o,ho,_⟩:=pl;exact xAa ho
  refine aLX pl λ h' he bI hsz hk=>vk he ?_
  have I2:Inv X aB σ H1 {s1 with heap:=h' }:=I1.kept (t':=s1.toks) hk
  exact⟨s1.heap.objs.size+1,[s1.heap.objs.size+1,s1.heap.objs.size],_,_,H1,rfl,I2,aMh l _ _ (Nat.succ_ne_self _) (yEc (yFr hlt)) (xAk hlt),⟨⟨_,he⟩,bI⟩,λ b hb=>I1.fpOk (hb' b hb) (I1.hok.fresh (hb' b hb)),q⟩
theorem aOo{K:FrG}{F:Hp}{L:List qv}{a:qv}{xs:List V}{ds:List D}(sq:bS K F a xs)(dl:DenL K F ds xs):Wk K F L (aDU K a) (iS 0 ds) where
 go:=λ i H s hi=>by
  rw[tK] at hi;exact⟨xs,xs[i]'(by rw[<- dl.length];exact hi),iQ s sq,by simp[dl.length▸hi]⟩
 stop:=λ H s=>⟨xs,iQ s sq,by rw[tK];exact yFx dl.length.symm⟩
 yld:=λ i H F1 L1 S x H' d g R e y=>by
  obtain⟨p,y',hp,rfl,rfl,hy⟩:=y;obtain⟨d',e1,rfl⟩:=aBF ds 0 i d e;obtain⟨x',e2,dx⟩:=dl.get e1;have h:=hy xs (iQ (g.f.trans R.sub) sq);rw[h] at e2;cases e2;have hF:F1 p=qz:=R.sub.free hp;refine⟨bD F1 p (.tup [.int i,y']),dW hF,R.new hp,.tup (bS.of cY) ?_⟩;rw[Int.zero_add];exact .cons (.int _) (.cons (dx.mono (g.f.trans (dW hF))) .nil)
noncomputable def uU(fa:FE):FL:=λ env S=>(fa env S).bind λ p=>match p.1 with
 | .d (.list ds)=>qq (iS 0 ds,p.2)
 | .d (.tuple ds)=>qq (iS 0 ds,p.2)
 | _=>qz
theorem aQp{K:FrG}{fa:FE}(σ:St)(H:Hp)(Rr:It->Hp->Prop)(h:iV K (uU fa) σ H Rr):aIB K (eT K (cR fa gW)) σ H Rr:=by
 obtain⟨F,L,S,env,ds,S',R,E,e,q⟩:=h;obtain⟨⟨w,S1⟩,e1,e2⟩:=bind_some e;dsimp only at e2
 split at e2
 ·rename_i ds';cases e2;refine⟨F,L,S,env,[.d (.list ds')],_,R,E,by unfold cR;rw[e1];rfl,λ F1 L1 H1 vs g1 R1 d1=>?_⟩
  cases d1 with
  | cons dd dr =>
    cases dr;cases (show Den K F1 (.list ds') _ from dd) with
    | lst sq dl=>exact⟨_,rfl,.inl ⟨⟨_,R1.sub.seq sq⟩,q F1 L1 H1 _ g1 R1 (aPQ sq dl)⟩⟩
 ·rename_i ds';cases e2;refine⟨F,L,S,env,[.d (.tuple ds')],_,R,E,by unfold cR;rw[e1];rfl,λ F1 L1 H1 vs g1 R1 d1=>?_⟩
  cases d1 with
  | cons dd dr =>
    cases dr;cases (show Den K F1 (.tuple ds') _ from dd) with
    | tup sq dl=>exact⟨_,rfl,.inr ⟨⟨_,iQ R1.sub sq⟩,q F1 L1 H1 _ g1 R1 (aOo sq dl)⟩⟩
 ·cases e2
end
inductive Tv where
 | int (i:Int) | str (x:Str) | bool (b:Bool)
 deriving DecidableEq
noncomputable def Tv.d:Tv->D
 | .int i=>.int i | .str x=>.str x | .bool b=>.bool b
noncomputable def Tv.v:Tv->V
 | .int i=>.int i | .str x=>.str x | .bool b=>.bl b
theorem Tv.den{K:FrG}{F:Hp}(t:Tv):Den K F t.d t.v:=by
 cases t
 ·exact .int _
 ·exact .str _
 ·exact .bl _
noncomputable def sE(w:zq):List DictEntry->List (Str×Tv)->Prop
 | [],[]=>True
 | e::r,(x,v)::aZ=>e.hash=hashStr w x/\(∃ t,e.key=.str x t)/\bC v.v e.val/\sE w r aZ
 | _,_=>False
def vK(K:FrG)(w:zq)(a:qv)(aZ:List (Str×Tv)):Prop:=∃ es ep,K.lookup a=qq {cls:=.type "dict",data:=.dict es ep }/\sE w es.toList aZ
noncomputable def aAJ(aZ:List (Str×Tv)):D->Option D
 | .str x=>(aZ.lookup x).map Tv.d
 | _=>qz
theorem aGx{P:qu}{w:zq}:∀ {l:List DictEntry}{aZ:List (Str×Tv)},sE w l aZ->∀ e∈l,∃ k,(nR P w).is k e.key=true/\e.hash=(nR P w).hash k
 | [],[],_,e,h=>by cases h
 | e::r,(x,v)::aZ,ok,e',h=>by
   obtain⟨h1,⟨t,h2⟩,_,h4⟩:=ok;rcases List.mem_cons.mp h with rfl | h
   ·exact⟨.inr x,by rw[h2];exact aFD x t,h1⟩
   ·exact aGx h4 e' h
 | [],_::_,ok,_,_=>ok.elim
 | _::_,[],ok,_,_=>ok.elim
theorem aOb(x y:Str)(t:Tok):pW (.inr x) (.str y t)=(x==y):=by
 have h:(y==x)=(x==y):=by
  rw[yEk];constructor<;>intro z<;>simp at z ⊢ <;> exact z.symm
 simp[pW,Value.isStrOf,h]
theorem aGS{w:zq}{k:Str}{v:Tv}:∀ {l:List DictEntry}{aZ:List (Str×Tv)},sE w l aZ->aZ.lookup k=qq v->∃ u,(l.find? λ e=>pW (.inr k) e.key).map (·.val)=qq u/\bC v.v u
 | [],[],_,h=>by cases h
 | e::r,(x,v')::aZ,ok,h=>by
   obtain⟨h1,⟨t,h2⟩,h3,h4⟩:=ok;rw[yCd] at h;rw[List.find?_cons,h2,aOb];cases q:k==x with
   | true =>
     rw[q] at h;cases h;exact⟨e.val,rfl,h3⟩
   | false =>
     rw[q] at h;exact aGS h4 h
 | [],_::_,ok,_=>ok.elim
 | _::_,[],ok,_=>ok.elim
section
variable {X : Cx}
theorem aRS{aZ:List (Str×Tv)}:lP X (λ x y H Q=>∃ a k v,x=.ref a/\vK X.K X.w a aZ/\y=.str k/\aZ.lookup k=qq v/\Q v.v H):=by
 intro value iX aB s σ H x y v u Q I rx ry h hs;obtain⟨a,k,tv,rfl,⟨es,ep,hl,ok⟩,rfl,hv,q⟩:=h;cases rx;obtain⟨t,rfl⟩:=ry;obtain⟨z,e1,e2⟩:=aGS ok hv;have hm:s.heap.MapOf (nR X.prog X.w) a (λ k=>findBy (nR X.prog X.w).is es k):=⟨_,es,ep,I.kIn a _ hl,⟨rfl,rfl,rfl⟩,rfl,λ e he=>aGx ok e (by simpa using he),λ _=>rfl⟩
 have hz:findBy (nR X.prog X.w).is es (.inr k)=qq z:=by
  unfold findBy;rw[<- Array.find?_toList];exact e1
 exact tail_any hm.typeIs PySem.F.slot_dict_getitem.lookup (wpAny_getItem_of (aFD k t) hm hz ⟨_,H,I.tok _,e2,q⟩) hs
theorem aUS{x:Str}{k:qw}{fk:FE}{p pos:Pos}{aZ:List (Str×Tv)}(hg:Gl X x)(hd:(x==("__debug__" : Str))=false)(ht:∃ a,X.mg x=qq (.ref a)/\vK X.K X.w a aZ)(hk:PE X k (aW X.K fk))(hs:zK k) :
 PE X (.Subscript (.Name x p) k pos) (aW X.K (f1 fk (nA (aAJ aZ)))):=by
 obtain⟨a,hm,ta⟩:=ht;refine PE.weak (aI9 (aRS (aZ:=aZ)) (aHt (v:=.ref a) hg hm rfl hd) hk hs) λ σ H Q hPq41=>?_
 obtain⟨F,L,S,env,w,S',R,E,e,q⟩:=hPq41;obtain⟨⟨w1,S1⟩,e1,e2⟩:=bind_some e;obtain⟨d,z,e3,e4,rfl,rfl⟩:=aBX e2;cases d with
 | str y =>
   obtain⟨v,hv,rfl⟩:=Option.map_eq_some_iff.mp (show(aZ.lookup y).map Tv.d=qq z from e4)
   refine⟨F,L,S,env,w1,_,R,E,e1,λ F1 L1 H1 u g1 R1 d1=>⟨a,y,v,rfl,ta,(jU R1 d1 e3).str,hv,?_⟩⟩
   exact q F1 L1 H1 v.v g1 R1 (show Den X.K F1 v.d v.v from v.den)
 | _=>cases e4
end
section
variable {prog : qu}{w : zq}{A : zv}{s : qj}{R : Result -> qj -> Prop}{J : qv}{fp wr : List qv}{Gg : Array GenState -> Array GenState -> Prop}{m : Nat}{P : Nat -> qx -> Prop}{St : Nat -> qj -> Prop}
end
section
variable {prog : qu}{w : zq}{A : zv}{E : qx -> qj -> Prop}{s : qj}{J : qv}{fp wr : List qv}{Gg : Array GenState -> Array GenState -> Prop}{m : Nat}{P : Nat -> qx -> Prop}{St : Nat -> qj -> Prop}
end
section
variable {X : Cx}
end
noncomputable def aAy:List qx->List Tv->Prop
 | [],[]=>True
 | u::us,t::ts=>bC t.v u/\aAy us ts
 | _,_=>False
theorem aGi:∀ {us:List qx}{ts:List Tv},aAy us ts->aS (ts.map Tv.v) us
 | [],[],_=>.nil
 | _::_,_::_,⟨h1,h2⟩=>.cons h1 (aGi h2)
 | [],_::_,h=>h.elim
 | _::_,[],h=>h.elim
theorem aHO{K:FrG}{F:Hp}:∀ ts:List Tv,DenL K F (ts.map Tv.d) (ts.map Tv.v)
 | []=>.nil
 | t::ts=>.cons t.den (aHO ts)
def sD(K:FrG)(a:qv)(ts:List Tv):Prop:=∃ (o:Obj) (aG:Array qx) (n:Nat),K.lookup a=qq o/\o.cls=.type "tuple" /\ o.data=.seq aG n/\aG.size<=qy/\aAy aG.toList ts
theorem aOL{K:FrG}{F:Hp}{a:qv}{ts:List Tv}(h:sD K a ts):Den K F (.tuple (ts.map Tv.d)) (.ref a):=by
 obtain⟨o,aG,n,h1,h2,h3,h4,h5⟩:=h;exact .tup (.inr ⟨o,aG,n,h1,h2,h3,h4,aGi h5⟩) (aHO ts)
section
variable {X : Cx}
theorem aTU{x:Str}{p:Pos}{ts:List Tv}(hg:Gl X x)(hd:(x==("__debug__" : Str))=false)(ht:∃ a,X.mg x=qq (.ref a)/\sD X.K a ts):PE X (.Name x p) (aW X.K (fC (.tuple (ts.map Tv.d)))):=by
 obtain⟨a,hm,ca⟩:=ht;refine PE.weak (aHt (v:=.ref a) hg hm rfl hd) λ σ H Q hPq42=>?_
 obtain⟨F,L,S,env,w,S',R,E,e,q⟩:=hPq42;cases e;exact q F L H _ Gr.refl R (aOL ca)
noncomputable def aQy(op op':vz)(fa fb fc:FE):FE:=λ env S=>(fa env S).bind λ p=>(fb env p.2).bind λ q=>(hG (aV op) q.2 p.1 q.1).bind λ r=>match r.1 with
 | .d (.bool true)=>(fc env r.2).bind λ t=>hG (aV op') t.2 q.1 t.1
 | .d (.bool false)=>qq (.d (.bool false),r.2)
 | _=>qz
theorem aKQ{prog:qu}{w:zq}{A:zv}{E:qx->qj->Prop}{s:qj}{t sl:qv}{aO:Array qx}{vl vu:qx}{lo hi:Option Int}{Q:qx->qj->Prop}(ht:IsTup s.heap t aO)(hs:s.heap.IsSliceOf sl vl vu .none)(pl:IsPart vl lo)(pu:IsPart vu hi)
 (hw:HT.sIx aO.size 0 lo=0/\HT.sIx aO.size aO.size hi=aO.size) (h:Q (.ref t) s):qk (model prog w) A (getItem (.ref t) (.ref sl)) Q E s:=by
 obtain⟨os,hos,hcs,hds⟩:=id hs;have hTs:s.TypeIs (.ref sl) "slice":=⟨os,hos,hcs⟩;unfold getItem
 try with_reducible refine zy ?_
 first | refine wB (wP ?_) | skip
 refine wB (wpAny_sequenceKey ht.typeIs (by decide) ?_)
 refine wB (wpAny_callSpecial?_slot (name:=Str.ofString "__getitem__") ht.typeIs yCk
  (xz yCk ht.typeIs entry_tuple_getitem ?_ (args_tuple_getitem _ _)))
 show qk _ _ (yGg (.ref t) >>= _) _ _ s;refine wB (tupleItemsOf_ ht ?_);refine wB (wpAny_typeOf hTs ?_);rw[if_pos (by decide)]
 refine wB (HT.sliceApplied_gen hs pl pu ?_);have hyes:(((HT.sIx aO.size 0 lo:Nat):Int)==0&&(1:Int)==1&&(HT.sIx aO.size aO.size hi-HT.sIx aO.size 0 lo)==aO.size)=true:=by
  rw[hw.1,hw.2];simp
 show qk _ _ (if (((HT.sIx aO.size 0 lo:Nat):Int)==0&&(1:Int)==1&&(HT.sIx aO.size aO.size hi-HT.sIx aO.size 0 lo)==aO.size)=true then _ else _) _ _ s
 rw[if_pos hyes];unfold Builtin.Tuple.tupleIsExact;refine wB (wB (wpAny_typeOf ht.typeIs (wP ?_)));rw[if_pos (by decide)]
 first
  | exact wB (wq (wP ⟨_,rfl,wP h⟩))
  | exact wB (wq (wB (wP (wP ⟨_,rfl,wP h⟩))))
  | exact wB (wq (wP ⟨_,rfl,h⟩))
noncomputable def aTK(K:FrG):V->Option Int->Option Int->Hp->VK->Prop:=λ x lo hi H Q=>∃ a xs,x=.ref a/\bS K H a xs /\
 (((HT.sIx xs.length 0 lo=0/\HT.sIx xs.length xs.length hi=xs.length)/\Q (.ref a) H)\/(¬ (HT.sIx xs.length 0 lo=0/\HT.sIx xs.length xs.length hi=xs.length)/\∀ p,H p=qz->Q (.ref p) (bD H p (.tup (mR xs lo hi)))))
theorem aO9:oQ X (aTK X.K):=by
 intro aB s σ H x v vl vu lo hi sl Q I rx hs pl pu h;obtain⟨a,xs,rfl,hx,⟨hw,q⟩ | ⟨hw,q⟩⟩:=h
 ·cases rx;obtain⟨aG,r,ht,hz⟩:=I.tuple hx;have bZ:aG.toArray.size=xs.length:=by rw[yAg];exact r.length.symm
  refine⟨"tuple",_,PyProof.Rows.slot_tuple_getitem.lookup,ht.typeIs,?_⟩;exact aKQ ht hs pl pu (by rw[bZ];exact hw) ⟨.ref a,H,I,rfl,q⟩
 ·exact aQ9 aB s σ H _ v vl vu lo hi sl Q I rx hs pl pu ⟨a,xs,rfl,hx,hw,q⟩
noncomputable def aKk:D->Option Int->Option Int->Option D
 | .tuple xs,lo,hi=>qq (.tuple (iG xs lo hi))
 | _,_,_=>qz
noncomputable def aI1(fa:FE)(fl fh:FO):FE:=λ env S=>(fa env S).bind λ p=>(fl env p.2).bind λ q=>(fh env q.2).bind λ r=>(dr r.2 p.1).bind λ d=>(aKk d q.1 r.1).bind λ z=>qq (.d z,r.2)
theorem aRq{a:qw}{lo hi:Option qw}{p2 pos:Pos}{fa:FE}{fl fh:FO}(ha:PE X a (aW X.K fa))(hl:PO X lo (lL X.K fl))(hh:PO X hi (lL X.K fh)):PE X (.Subscript a (.Slice lo hi qz p2) pos) (aW X.K (aI1 fa fl fh)):=
 PE.weak (aGM aO9 ha hl hh) λ σ H Q aQ=>by
  obtain⟨F,L,S,env,ds,S',R,E,e,q⟩:=aQ;obtain⟨⟨w,S1⟩,e1,e⟩:=bind_some e;obtain⟨⟨l,S2⟩,e2,e⟩:=bind_some e;obtain⟨⟨h,S3⟩,e3,e⟩:=bind_some e;obtain⟨d,e4,e⟩:=bind_some e;obtain⟨z,e5,e⟩:=bind_some e;cases e;refine⟨F,L,S,env,w,S1,R,E,e1,λ F1 L1 H1 v g1 R1 d1=>⟨F1,L1,S1,env,l,S2,R1,E.mono g1,e2,λ F2 L2 H2 g2 R2=>⟨F2,L2,S2,env,h,S3,R2,E.mono (g1.trans g2),e3,λ F3 L3 H3 g3 R3=>?_⟩⟩⟩
  have n:=jU R3 (d1.mono (g2.trans g3)) e4;cases d with
  | tuple xs =>
    cases e5;obtain⟨a,vs,rfl,sq,dl⟩:=n.tup R3.sub;refine⟨a,vs,rfl,sq,?_⟩
    by_cases hw:HT.sIx vs.length 0 l=0/\HT.sIx vs.length vs.length h=vs.length
    ·refine .inl ⟨hw,q F3 L3 H3 _ ((g1.trans g2).trans g3) R3 ?_⟩;have ec:iG xs l h=xs:=by
      unfold iG;rw[dl.length,hw.1,hw.2,yEp,Nat.sub_zero,<- dl.length,yAf]
     rw[ec];rcases n with n | ⟨_,_,_,z,_⟩
     ·exact n
     ·cases z
    ·exact .inr ⟨hw,λ p hp=>q _ L3 _ _ (((g1.trans g2).trans g3).trans (Gr.new (R3.sub.free hp))) (R3.new hp) (Den.tup (bS.of cY) ((aHs dl l h).mono (dW (R3.sub.free hp))))⟩
  | _=>cases e5
noncomputable def aUY(X:Cx):R2:=λ x y H Q=>∃ a k xs,x=.ref a/\y=.int k/\bM X.K H a xs /\ -(2^63)<=k/\k<2^63/\xs.length*k.toNat<=qy/\∀ p,H p=qz->Q (.ref p) (bD H p (.lst (yAc k.toNat xs).flatten))
noncomputable def wA(fa fb:FE):FL:=λ env S=>(fa env S).bind λ p=>(fb env p.2).bind λ q=>(dr q.2 p.1).bind λ d=>match d,q.1 with
 | .list xs,.d (.int k)=>if k<2^63 /\ -(2^63)<=k/\xs.length*k.toNat<=qy then qq (vP k.toNat xs,q.2) else qz
 | _,_=>qz
theorem aTY{a b:qw}{pos:Pos}{fa fb:FE}(ha:PE X a (aW X.K fa))(hb:PE X b (aW X.K fb)):PE X (.BinOp a .Mult b pos) (iK X.K (wA fa fb)):=by
 refine PE.weak (aJm (r:=aUY X) (λ aB s σ H x y v u Q I rx ry ⟨a,k,xs,hx,hy,sq,h1,h2,hz,q⟩=>?_) ha hb) λ σ H Q ⟨F,L,S,env,ds,S',R,E,e,q⟩=>?_
 ·subst hx hy;cases rx;obtain⟨t,rfl⟩:=ry;exact aKd I sq h1 h2 hz q
 ·obtain⟨⟨w1,S1⟩,e1,e⟩:=bind_some e;obtain⟨⟨w2,S2⟩,e2,e⟩:=bind_some e;obtain⟨d,e3,e⟩:=bind_some e;dsimp only at e e2 e3;refine⟨F,L,S,env,w1,S1,R,E,e1,λ F1 L1 H1 x g1 R1 d1=>⟨F1,L1,S1,env,w2,S2,R1,E.mono g1,e2,λ F2 L2 H2 y g2 R2 d2=>?_⟩⟩
  cases d with
  | list xs =>
    cases w2 with
    | loc n=>cases e
    | d v =>
      cases v with
      | int kk =>
        dsimp only at e
        split at e
        ·rename_i c;cases e;obtain⟨a,vs,rfl,sq,dl⟩:=(jU R2 (d1.mono g2) e3).lst R2.sub;cases (show Den X.K F2 (.int kk) y from d2)
         exact⟨a,kk,vs,rfl,rfl,sq,c.2.1,c.1,by rw[<- dl.length];exact c.2.2,λ p hp=>q F2 L2 _ p _ (g1.trans g2) (R2.lay hp) (R2.sub.free hp) (R2.notin hp) cY (dl.rep kk.toNat)⟩
        ·cases e
      | _=>cases e
  | _=>cases e
end
structure ZA(z TI TO i1 i2:qv)(dL dM:List qv):Prop where
 TIz:TI≠z
 TOz:TO≠z
 i1z:i1≠z
 i2z:i2≠z
 TITO:TI≠TO
 TIi1:TI≠i1
 TIi2:TI≠i2
 TOi1:TO≠i1
 TOi2:TO≠i2
 f1:∀ b∈dL,b≠z/\b≠TO/\b≠i2
 f2:∀ b∈dM,b≠z/\b≠TO/\b≠i1
section
variable {prog : qu}{w : zq}{A : zv}{E : qx -> qj -> Prop}{s : qj}
theorem aK3{z TI TO i1 i2:qv}{dL dM:List qv}{n1 n2 k:Nat}{P1 P2:Nat->qx->Prop}{cK cE:Nat->Heap->Prop}{a b:qx}{Q:qx->qj->Prop}
 (D1:Draws prog w A i1 dL n1 P1 cK) (D2:Draws prog w A i2 dM n2 P2 cE) (Z:ZA z TI TO i1 i2 dL dM)
 (hz:vv s.heap z TI TO .none) (cV:zk s.heap TI (.ref i1) (.ref i2)) (dU:zk s.heap TO a b) (s1:cK k s.heap) (s2:cE k s.heap) (k1:k<n1) (k2:k<n2)
 (hQ:∀ x y h' tk,P1 k x->P2 k y->vv h' z TI TO (yy s.heap.objs.size)->zk h' TO x y->zk h' TI (.ref i1) (.ref i2)->cK (k+1) h'->cE (k+1) h'->zk h' s.heap.objs.size x y->h'.objs.size=s.heap.objs.size+1 ->
   (∀ c o,c≠z->c≠TO->c≠i1->c≠i2->s.heap.get? c=qq o->h'.get? c=qq o)->Q (.ref s.heap.objs.size) {s with heap:=h',toks:=tk }) :
 qk (model prog w) A (Builtin.«zip.__next__» ⟨[.ref z],[]⟩) (λ bR s'=>∃ v,bR=.done (.ret v)/\Q v s') E s:=by
 show qk _ _ (field (.ref z) 2 >>= _) _ _ _;refine wB (zj hz rfl (x:=.bool false) rfl ?_);show qk _ _ (field (.ref z) 3 >>= _) _ _ _;refine wB (zj hz rfl (x:=.ref TI) rfl ?_);refine wB (xq cV rfl ?_);show qk _ _ (yAw (.ref z) >>= _) _ _ _;refine wB ?_;unfold yAw;refine wB (zj hz rfl (x:=.none) rfl (wP ?_));simp only[if_true];refine wB (wq ?_);refine wB (zj hz rfl (x:=.ref TO) rfl ?_);refine wB (xy hz (by simp) λ h₁ hz₁ hs₁=>?_)
 replace hz₁:vv h₁ z TI TO .ellipsis:=hz₁
 refine wB ?_;simp only[yGz,List.zipIdx_nil,yFh,yFv];have s11:cK k h₁:=D1.frame k _ _ s1 λ c hc o e=>hs₁.extBut _ _ (Z.f1 c hc).1 e
 have s21:cE k h₁:=D2.frame k _ _ s2 λ c hc o e=>hs₁.extBut _ _ (Z.f2 c hc).1 e
 refine wB (wB (yu ?_));show qk _ _ (yAv (.ref i1) >>= _) _ _ _;refine wB (D1.item k _ _ _ k1 s11 λ x h₂ tk₂ px s12 hs₂=>wP ?_)
 have s22:cE k h₂:=D2.frame k _ _ s21 λ c hc o e=>hs₂.extBut _ _ (Z.f2 c hc).2.2 e
 have hTO₂:zk h₂ TO a b:=hs₂.extBut _ _ Z.TOi1 (hs₁.extBut _ _ Z.TOz dU);refine wB (xq hTO₂ rfl ?_);refine wB (wj hTO₂ λ h₃ hTO₃ hs₃=>?_)
 replace hTO₃:zk h₃ TO x b:=hTO₃
 have s13:cK (k+1) h₃:=D1.frame _ _ _ s12 λ c hc o e=>hs₃.extBut _ _ (Z.f1 c hc).2.1 e
 have s23:cE k h₃:=D2.frame k _ _ s22 λ c hc o e=>hs₃.extBut _ _ (Z.f2 c hc).2.1 e
 refine wB (ky (wP ?_));refine wB (wB (yu ?_));show qk _ _ (yAv (.ref i2) >>= _) _ _ _;refine wB (D2.item k _ _ _ k2 s23 λ y h₄ tk₄ py s24 hs₄=>wP ?_)
 have s14:cK (k+1) h₄:=D1.frame _ _ _ s13 λ c hc o e=>hs₄.extBut _ _ (Z.f1 c hc).2.2 e
 have hTO₄:zk h₄ TO x b:=hs₄.extBut _ _ Z.TOi2 hTO₃;refine wB (xq hTO₄ rfl ?_);refine wB (wj hTO₄ λ h₅ hTO₅ hs₅=>?_)
 replace hTO₅:zk h₅ TO x y:=hTO₅
 have s15:cK (k+1) h₅:=D1.frame _ _ _ s14 λ c hc o e=>hs₅.extBut _ _ (Z.f1 c hc).2.1 e
 have s25:cE (k+1) h₅:=D2.frame _ _ _ s24 λ c hc o e=>hs₅.extBut _ _ (Z.f2 c hc).2.1 e
 refine wB (ky (wP (wP ?_)));refine wB (xq hTO₅ rfl ?_);refine wB (wpAny_newTuple ?_);have hsz:h₅.objs.size=s.heap.objs.size:=by rw[hs₅.1,hs₄.1,hs₃.1,hs₂.1,hs₁.1]
 have hz₅:vv h₅ z TI TO .ellipsis:=hs₅.extBut _ _ Z.TOz.symm (hs₄.extBut _ _ Z.i2z.symm (hs₃.extBut _ _ Z.TOz.symm (hs₂.extBut _ _ Z.i1z.symm hz₁)));have hk₅:∀ c o,c≠z->c≠TO->c≠i1->c≠i2->s.heap.get? c=qq o->h₅.get? c=qq o:=λ c o c1 c2 c3 c4 e =>
  hs₅.extBut _ _ c2 (hs₄.extBut _ _ c4 (hs₃.extBut _ _ c2 (hs₂.extBut _ _ c3 (hs₁.extBut _ _ c1 e))))
 have hzlt:z<h₅.objs.size:=xAa hz₅;show qk _ _ (yEq (.ref z) (.ref h₅.objs.size) >>= _) _ _ _;refine wB ?_;unfold yEq;have hz₆:vv (h₅.push {cls:=.type "tuple",data:=.seq #[x,y] }) z TI TO .ellipsis:=hpS _ hz₅;refine wB (xy hz₆ (by simp) λ h₇ hz₇ hs₇=>?_)
 replace hz₇:vv h₇ z TI TO (yy h₅.objs.size):=hz₇
 refine xy hz₇ (by simp) λ h₈ hz₈ hs₈=>?_
 replace hz₈:vv h₈ z TI TO (yy h₅.objs.size):=hz₈
 have up:∀ c o,c≠z->h₅.get? c=qq o->h₈.get? c=qq o:=λ c o c1 e=>hs₈.extBut _ _ c1 (hs₇.extBut _ _ c1 (hpS _ e))
 have hT₈:zk h₈ h₅.objs.size x y:=hs₈.extBut _ _ (yEc hzlt) (hs₇.extBut _ _ (yEc hzlt) (xAe _ rfl));have hz8:h₈.objs.size=h₅.objs.size+1:=by rw[hs₈.1,hs₇.1,yBz]
 rw[hsz] at hz₈ hT₈ hz8;refine wP ⟨_,rfl,?_⟩;show Q (.ref h₅.objs.size) _;rw[hsz];exact hQ x y h₈ _ px py hz₈ (up _ _ Z.TOz hTO₅) (up _ _ Z.TIz (hk₅ _ _ Z.TIz Z.TITO Z.TIi1 Z.TIi2 cV)) (D1.frame _ _ _ s15 λ c hc o e=>up c o (Z.f1 c hc).1 e) (D2.frame _ _ _ s25 λ c hc o e=>up c o (Z.f2 c hc).1 e) hT₈ hz8 λ c o c1 c2 c3 c4 e=>up c o c1 (hk₅ c o c1 c2 c3 c4 e)
theorem aLa{z TI TO i1 i2:qv}{dL dM:List qv}{n1 n2 k:Nat}{P1 P2:Nat->qx->Prop}{cK cE:Nat->Heap->Prop}{a b:qx}{Q:Fin->qj->Prop}
 (D1:Draws prog w A i1 dL n1 P1 cK) (D2:Draws prog w A i2 dM n2 P2 cE) (Z:ZA z TI TO i1 i2 dL dM)
 (hz:vv s.heap z TI TO .none) (cV:zk s.heap TI (.ref i1) (.ref i2)) (dU:zk s.heap TO a b) (s1:cK k s.heap) (s2:cE k s.heap) (hend:k=n1\/(k<n1/\k=n2))
 (hE:∀ h' tk e,(∀ c o,c≠z->c≠TO->c≠i1->c≠i2->s.heap.get? c=qq o->h'.get? c=qq o)->(∃ o,h'.get? e=qq o/\o.cls=.type "StopIteration")->E (.ref e) {s with heap:=h',toks:=tk }) :
 qk (model prog w) A (Builtin.«zip.__next__» ⟨[.ref z],[]⟩) Q E s:=by
 show qk _ _ (field (.ref z) 2 >>= _) _ _ _;refine wB (zj hz rfl (x:=.bool false) rfl ?_);show qk _ _ (field (.ref z) 3 >>= _) _ _ _;refine wB (zj hz rfl (x:=.ref TI) rfl ?_);refine wB (xq cV rfl ?_);show qk _ _ (yAw (.ref z) >>= _) _ _ _;refine wB ?_;unfold yAw;refine wB (zj hz rfl (x:=.none) rfl (wP ?_));simp only[if_true];refine wB (wq ?_);refine wB (zj hz rfl (x:=.ref TO) rfl ?_);refine wB (xy hz (by simp) λ h₁ hz₁ hs₁=>?_)
 replace hz₁:vv h₁ z TI TO .ellipsis:=hz₁
 refine wB ?_;simp only[yGz,List.zipIdx_nil,yFh,yFv];have s11:cK k h₁:=D1.frame k _ _ s1 λ c hc o e=>hs₁.extBut _ _ (Z.f1 c hc).1 e
 have s21:cE k h₁:=D2.frame k _ _ s2 λ c hc o e=>hs₁.extBut _ _ (Z.f2 c hc).1 e
 refine wB (wB (yu ?_));show qk _ _ (yAv (.ref i1) >>= _) _ _ _;rcases hend with rfl | ⟨k1,rfl⟩
 ·refine wB (D1.done _ _ _ s11 λ h₂ e hs₂ he=>?_)
  obtain⟨oe,hoe,hce⟩:=he;have hz₂:vv h₂ z TI TO .ellipsis:=hs₂ _ _ Z.i1z.symm hz₁;have hez:e≠z:=λ x=>by subst x;rw[hz₂] at hoe;cases hoe;simp at hce
  exact xy hz₂ (by simp) λ h₃ _ hs₃=>hE h₃ _ e (λ c o c1 _ c3 _ x=>hs₃.extBut _ _ c1 (hs₂ _ _ c3 (hs₁.extBut _ _ c1 x))) ⟨oe,hs₃.extBut _ _ hez hoe,hce⟩
 ·refine wB (D1.item k _ _ _ k1 s11 λ x h₂ tk₂ px s12 hs₂=>wP ?_)
  have s22:cE k h₂:=D2.frame k _ _ s21 λ c hc o e=>hs₂.extBut _ _ (Z.f2 c hc).2.2 e
  have hTO₂:zk h₂ TO a b:=hs₂.extBut _ _ Z.TOi1 (hs₁.extBut _ _ Z.TOz dU);refine wB (xq hTO₂ rfl ?_);refine wB (wj hTO₂ λ h₃ hTO₃ hs₃=>?_)
  have s23:cE k h₃:=D2.frame k _ _ s22 λ c hc o e=>hs₃.extBut _ _ (Z.f2 c hc).2.1 e
  refine wB (ky (wP ?_));refine wB (wB (yu ?_));show qk _ _ (yAv (.ref i2) >>= _) _ _ _;refine wB (D2.done _ _ _ s23 λ h₄ e hs₄ he=>?_)
  obtain⟨oe,hoe,hce⟩:=he;have hz₄:vv h₄ z TI TO .ellipsis:=hs₄ _ _ Z.i2z.symm (hs₃.extBut _ _ Z.TOz.symm (hs₂.extBut _ _ Z.i1z.symm hz₁));have hez:e≠z:=λ x=>by subst x;rw[hz₄] at hoe;cases hoe;simp at hce
  exact xy hz₄ (by simp) λ h₅ _ hs₅=>hE h₅ _ e (λ c o c1 c2 c3 c4 x=>hs₅.extBut _ _ c1 (hs₄ _ _ c4 (hs₃.extBut _ _ c2 (hs₂.extBut _ _ c3 (hs₁.extBut _ _ c1 x))))) ⟨oe,hs₅.extBut _ _ hez hoe,hce⟩
theorem aEp{z TI TO i1 i2:qv}{dL dM:List qv}{n1 n2 k:Nat}{P1 P2:Nat->qx->Prop}{cK cE:Nat->Heap->Prop}{a b:qx}{Q:Option qx->qj->Prop}
 (D1:Draws prog w A.in1 i1 dL n1 P1 cK) (D2:Draws prog w A.in1 i2 dM n2 P2 cE) (Z:ZA z TI TO i1 i2 dL dM)
 (hz:vv s.heap z TI TO .none) (cV:zk s.heap TI (.ref i1) (.ref i2)) (dU:zk s.heap TO a b) (s1:cK k s.heap) (s2:cE k s.heap) (k1:k<n1) (k2:k<n2)
 (hQ:∀ x y h' tk,P1 k x->P2 k y->vv h' z TI TO (yy s.heap.objs.size)->zk h' TO x y->zk h' TI (.ref i1) (.ref i2)->cK (k+1) h'->cE (k+1) h'->zk h' s.heap.objs.size x y->h'.objs.size=s.heap.objs.size+1 ->
   (∀ c o,c≠z->c≠TO->c≠i1->c≠i2->s.heap.get? c=qq o->h'.get? c=qq o)->Q (qq (.ref s.heap.objs.size)) {s with heap:=h',toks:=tk }) :
 qk (model prog w) A (vq (.ref z)) Q E s:=by
 have hT:s.TypeIs (.ref z) "zip":=⟨_,hz,rfl⟩;unfold vq;exact wB (wz (wpAny_callSpecial?_slot (name:=Str.ofString "__next__") hT F.slot_zip_next
  (xz F.slot_zip_next hT F.entry_zip_next
    (aK3 D1 D2 Z hz cV dU s1 s2 k1 k2 λ x y h' tk a0 b0 a1 a2 a3 a4 a5 a6 a7 a8=>wP (hQ x y h' tk a0 b0 a1 a2 a3 a4 a5 a6 a7 a8)) (F.args_zip_next_1 _))))
theorem aEr{z TI TO i1 i2:qv}{dL dM:List qv}{n1 n2 k:Nat}{P1 P2:Nat->qx->Prop}{cK cE:Nat->Heap->Prop}{a b:qx}{Q:Option qx->qj->Prop}
 (D1:Draws prog w A.in1 i1 dL n1 P1 cK) (D2:Draws prog w A.in1 i2 dM n2 P2 cE) (Z:ZA z TI TO i1 i2 dL dM)
 (hz:vv s.heap z TI TO .none) (cV:zk s.heap TI (.ref i1) (.ref i2)) (dU:zk s.heap TO a b) (s1:cK k s.heap) (s2:cE k s.heap) (hend:k=n1\/(k<n1/\k=n2))
 (hQ:∀ h' tk,(∀ c o,c≠z->c≠TO->c≠i1->c≠i2->s.heap.get? c=qq o->h'.get? c=qq o)->Q qz {s with heap:=h',toks:=tk }):qk (model prog w) A (vq (.ref z)) Q E s:=by
 have hT:s.TypeIs (.ref z) "zip":=⟨_,hz,rfl⟩;unfold vq;refine wB (wz (wpAny_callSpecial?_slot (name:=Str.ofString "__next__") hT F.slot_zip_next
  (xz F.slot_zip_next hT F.entry_zip_next (aLa D1 D2 Z hz cV dU s1 s2 hend λ h' tk e hk he=>?_) (F.args_zip_next_1 _))))
 obtain⟨o,ho,hc⟩:=he;refine wB (yo (T:="StopIteration") (b:=true) ⟨o,ho,hc⟩ kv ?_);exact wP (hQ _ _ hk)
end
noncomputable def aCV(t:Bool):String:=if t then "tuple_iterator" else "list_iterator"
def gT(t:Bool)(h:Heap)(a:qv)(aG:Array qx):Prop:=match t with
 | true=>h.IsTuple a aG
 | false=>h.IsList a aG
def fY(t:Bool)(h:Heap)(it a:qv)(i:Nat):Prop:=match t with
 | true=>h.IsTupleIter it a i
 | false=>h.IsListIter it a i
def Sq(t:Bool)(K:FrG)(H:Hp)(a:qv)(xs:List V):Prop:=match t with
 | true=>bS K H a xs
 | false=>bM K H a xs
theorem fY.at{t:Bool}{h h':Heap}{it a:qv}{i:Nat}(x:fY t h it a i)(q:∀ o,h.get? it=qq o->h'.get? it=qq o):fY t h' it a i:=by
 cases t with
 | true=>exact Heap.IsTupleIter.at (h:=h) x q
 | false=>exact Heap.IsListIter.at (h:=h) x q
theorem fY.obj{t:Bool}{h:Heap}{it a:qv}{i:Nat}(x:fY t h it a i):∃ o,h.get? it=qq o/\∀ v,o.data≠.cell v:=by
 cases t with
 | true=>obtain⟨o,ho,hc,hd⟩:=x;exact⟨o,ho,λ v z=>by rw[hd] at z;cases z⟩
 | false=>obtain⟨o,ho,hc,hd⟩:=x;exact⟨o,ho,λ v z=>by rw[hd] at z;cases z⟩
theorem gT.lt{t:Bool}{h:Heap}{a:qv}{aG:Array qx}(x:gT t h a aG):a<h.objs.size:=by
 cases t with
 | true=>obtain⟨o,ho,_⟩:=x;exact xAa ho
 | false=>obtain⟨o,ho,_⟩:=x;exact xAa ho
theorem nP{prog:qu}{w:zq}{A:zv}(hh:A.handled=qz)(t:Bool)(it l:qv)(hne:l≠it)(aO:Array qx):Draws prog w A it [it,l] aO.size (λ i v=>aO[i]? = qq v) (λ i h=>fY t h it l i/\gT t h l aO):=by
 cases t with
 | true=>exact aFB hh it l hne aO
 | false=>exact Draws.list hh it l hne aO
theorem jC{X:Cx}{aB:List (qv×Obj)}{σ:L2.St}{H:Hp}{s:qj}{t:Bool}{a:qv}{xs:List V}(I:Inv X aB σ H s)(h:Sq t X.K H a xs):∃ aG:List qx,aS xs aG/\gT t s.heap a aG.toArray:=by
 cases t with
 | true=>obtain⟨aG,rv,pl,hz⟩:=I.tuple h;exact⟨aG,rv,pl⟩
 | false=>obtain⟨aG,rv,pl,hz⟩:=I.list h;exact⟨aG,rv,pl.isList⟩
theorem aH7{X:Cx}{aB:List (qv×Obj)}{σ:L2.St}{H:Hp}{s:qj}{t:Bool}{a:qv}{xs ys:List V}(I:Inv X aB σ H s)(h:Sq t X.K H a xs)(h':Sq t X.K H a ys):xs=ys:=by
 cases t with
 | true=>exact I.tuple_inj h h'
 | false=>exact I.list_inj h h'
theorem hV{t:Bool}{K:FrG}{H H':Hp}{a:qv}{xs:List V}(e:cB H H')(h:Sq t K H a xs):Sq t K H' a xs:=by
 cases t with
 | true=>exact iQ e h
 | false=>exact e.seq h
theorem aE8{X:Cx}{aB:List (qv×Obj)}{σ:L2.St}{H:Hp}{s:qj}{h':Heap}{ch:List qv}{t':Nat}(I:Inv X aB σ H s)(hch:∀ b∈ch,gH X aB H b)(k:∀ b u,b ∉ ch->s.heap.get? b=qq u->h'.get? b=qq u) :
 Inv X aB σ H {s with heap:=h',toks:=t' }:=by
 have nch:∀ b u,H b=qq u->b ∉ ch:=λ b u e z=>by rw[(hch b z).1] at e;cases e
 refine I.step (g':=s.gens) (d':=s.drawn) (ch:=ch) (λ b hb=>⟨(hch b hb).2.2.2.1,(hch b hb).2.1,(hch b hb).2.2.2.2.1,(hch b hb).2.2.2.2.2⟩) (λ b o _ _ hc e _=>k b o hc e) (λ b o _ _ hc e _=>⟨o.slots,k b o hc e⟩) (λ _ _ _ _ n=>n)
  (λ b o hc e=>⟨o,k b o hc e⟩) (λ _ _ e=>e) (λ _ _ _ e=>e) (λ b ps e=>⟨#[],by rw[e];simp⟩) (λ m hm=>?_) (λ b u e=>?_) I.bare
 ·obtain⟨o,es,ep,ho,r⟩:=hm;exact⟨o,es,ep,k _ o (λ z=>(hch _ z).2.1 rfl) ho,r⟩
 ·refine(I.hok b u e).stay (λ c v hc q=>k c v ?_ q) (λ _ q=>q) λ _ _ q=>q
  rcases hc with z | z
  ·rw[z];exact nch b u e
  ·exact nch c _ z
noncomputable def aDA(K:FrG)(t u:Bool)(a b:qv):It:=
 ⟨λ i H=>∃ xs x ys y,Sq t K H a xs/\xs[i]? = qq x/\Sq u K H b ys/\ys[i]? = qq y,
  λ i H v H'=>∃ p x y,H p=qz/\H'=bD H p (.tup [x,y])/\v=.ref p/\(∀ xs,Sq t K H a xs->xs[i]? = qq x)/\∀ ys,Sq u K H b ys->ys[i]? = qq y,
  λ i H=>∃ xs ys,Sq t K H a xs/\Sq u K H b ys/\i=min xs.length ys.length⟩
theorem nH{a c:qv}{l:List qv}(h:c ∉ a::l):c≠a:=λ q=>h (q▸xAd)
theorem fH{a c:qv}{l:List qv}(h:c ∉ a::l):c ∉ l:=λ q=>h (xAg _ q)
theorem mT{a b:qv}{l:List qv}(h:a∈l):a∈b::l:=xAg _ h
theorem lQ{P:qv->Prop}{a:qv}{l:List qv}(h:P a)(t:∀ b∈l,P b):∀ b∈a::l,P b:=List.forall_mem_cons.mpr ⟨h,t⟩
theorem aln{P:qv->Prop}:∀ b∈([]:List qv),P b:=λ _ h=>nomatch h
theorem aOg{P:qu}{w:zq}{K:FrG}{elts:List qw}{k:Nat}{pos:Pos}(t u:Bool)(a b z TI TO i1 i2:qv)(Z:ZA z TI TO i1 i2 [i1,a] [i2,b])(h1:a≠i1)(h2:b≠i2) :
 Turn P w K (.Tuple elts k pos) (aDA K t u a b) [z,TI,TO,i1,i2] z (λ i h=>vv h z TI TO .none/\zk h TI (.ref i1) (.ref i2)/\(∃ x y,zk h TO x y)/\fY t h i1 a i/\fY u h i2 b i) where
 mem:=xAd
 obj:=λ i h ⟨hz,cV,⟨x,y,dU⟩,hi1,hi2⟩=>lQ ⟨_,hz,λ v=>by intro z;cases z⟩ (lQ ⟨_,cV,λ v=>by intro z;cases z⟩ (lQ ⟨_,dU,λ v=>by intro z;cases z⟩ (lQ hi1.obj (lQ hi2.obj aln))))
 keep:=λ i h h' ⟨hz,cV,⟨x,y,dU⟩,hi1,hi2⟩ q=>⟨q z xAd _ hz,q TI (mT xAd) _ cV,⟨x,y,q TO (mT (mT xAd)) _ dU⟩,hi1.at λ o e=>q i1 (mT (mT (mT xAd))) o e,hi2.at λ o e=>q i2 (mT (mT (mT (mT xAd)))) o e⟩
 item:=λ X hP hW hK hc i aB s σ H E I hf aQ kK=>by
  obtain⟨hz,cV,⟨x0,y0,dU⟩,hi1,hi2⟩:=aQ;obtain⟨xs,x,ys,y,sq1,hx,sq2,hy⟩:=kK;subst hP hW hK;have hh:X.A.in1.handled=qz:=I.ok.hd hc;obtain⟨gK,rv1,pl1⟩:=jC I sq1;obtain⟨eI,rv2,pl2⟩:=jC I sq2;obtain⟨u1,hu1,ru1⟩:=rv1.get hx;obtain⟨u2,hu2,ru2⟩:=rv2.get hy;have lt1:i<gK.toArray.size:=by rw[yAg];exact(gIm hu1).1
  have lt2:i<eI.toArray.size:=by rw[yAg];exact(gIm hu2).1
  refine aEp (nP (prog:=X.prog) (w:=X.w) hh t i1 a h1 gK.toArray) (nP (prog:=X.prog) (w:=X.w) hh u i2 b h2 eI.toArray) Z hz cV dU ⟨hi1,pl1⟩ ⟨hi2,pl2⟩ lt1 lt2 λ x' y' h₁ tk px py hz₁ hTO₁ hTI₁ s1 s2 hT₁ hsz hk=>⟨_,rfl,?_⟩
  have ex:x'=u1:=by rw[yDo,hu1] at px;exact(Option.some.inj px).symm
  have ey:y'=u2:=by rw[yDo,hu2] at py;exact(Option.some.inj py).symm
  subst ex ey;have zLt:z<s.heap.objs.size:=xAa hz;refine wpAny_letOwnedTupleGo_zip hz₁ λ h₂ hz₂ hs₂=>?_
  have hs2:yEb z h₁ h₂:=hs₂;have ht₂:zk h₂ s.heap.objs.size x' y':=hs2.extBut _ _ (yEc zLt) hT₁;have I2:Inv X aB σ (bD H s.heap.objs.size (.tup [x,y])) {s with heap:=h₂,toks:=tk }:=by
   refine yB I hf (λ c o hb e'=>?_) (yAb _) ⟨by show 2<=qy;decide,[x',y'],.cons ru1 (.cons ru2 .nil),⟨_,ht₂,rfl,0,rfl⟩⟩
   exact hs2.extBut c o (nH hb) (hk c o (nH hb) (nH (fH (fH hb))) (nH (fH (fH (fH hb)))) (nH (fH (fH (fH (fH hb))))) e')
  refine⟨.ref s.heap.objs.size,_,I2,rfl,⟨s.heap.objs.size,x,y,I.fresh,rfl,rfl,λ zs hy=>by rw[aH7 I hy sq1];exact hx,λ zs hz=>by rw[aH7 I hz sq2];exact hy⟩,⟨hz₂,hs2.extBut _ _ Z.TIz hTI₁,⟨_,_,hs2.extBut _ _ Z.TOz hTO₁⟩,s1.1.at λ o e=>hs2.extBut _ _ Z.i1z e,s2.1.at λ o e=>hs2.extBut _ _ Z.i2z e⟩,λ c hb=>?_⟩
  have:c<s.heap.objs.size:=lQ (P:=λ c=>c<s.heap.objs.size) zLt (lQ (xAa cV) (lQ (xAa dU) (lQ (let ⟨_,ho,_⟩:=hi1.obj;xAa ho) (lQ (let ⟨_,ho,_⟩:=hi2.obj;xAa ho) aln)))) c hb
  rw[bL (xAk this)];exact(hf c hb).1
 done:=λ X hP hW hK hc i aB s σ H E I hf aQ kK=>by
  obtain⟨hz,cV,⟨x0,y0,dU⟩,hi1,hi2⟩:=aQ;obtain⟨xs,ys,sq1,sq2,hi⟩:=kK;subst hP hW hK;have hh:X.A.in1.handled=qz:=I.ok.hd hc;obtain⟨gK,rv1,pl1⟩:=jC I sq1;obtain⟨eI,rv2,pl2⟩:=jC I sq2;have l1:=rv1.length;have l2:=rv2.length;have hend:i=gK.toArray.size\/(i<gK.toArray.size/\i=eI.toArray.size):=by
   rw[yAg,yAg];omega
  refine aEr (nP (prog:=X.prog) (w:=X.w) hh t i1 a h1 gK.toArray) (nP (prog:=X.prog) (w:=X.w) hh u i2 b h2 eI.toArray) Z hz cV dU ⟨hi1,pl1⟩ ⟨hi2,pl2⟩ hend λ h₁ tk hk=>⟨rfl,?_⟩
  exact aE8 I hf λ c o hb e'=>hk c o (nH hb) (nH (fH (fH hb))) (nH (fH (fH (fH hb)))) (nH (fH (fH (fH (fH hb))))) e'
 self:=λ A i s Q E ⟨hz,_⟩ hq=>kq hz hq
section
variable {prog : qu}{w : zq}{A : zv}{E : qx -> qj -> Prop}{s : qj}
noncomputable abbrev wQ(h:Heap)(t:Bool)(l1:qv):Heap:=h.push {cls:=.type (aCV t),data:=.fields #[.ref l1,.int 0 0] }
noncomputable abbrev zH2(h:Heap)(t u:Bool)(l1 l2:qv):Heap:=(wQ h t l1).push {cls:=.type (aCV u),data:=.fields #[.ref l2,.int 0 0] }
noncomputable abbrev zH3(h:Heap)(t u:Bool)(l1 l2:qv):Heap:=(zH2 h t u l1 l2).push {cls:=.type "tuple",data:=.seq #[.ref h.objs.size,.ref (wQ h t l1).objs.size] }
noncomputable abbrev zH4(h:Heap)(t u:Bool)(l1 l2:qv):Heap:=(zH3 h t u l1 l2).push {cls:=.type "tuple",data:=.seq #[.none,.none] }
noncomputable abbrev nF(h:Heap)(t u:Bool)(l1 l2:qv):Heap:=(zH4 h t u l1 l2).push {cls:=.type "zip",data:=.fields #[.none,.bool false,.bool false,.ref (zH2 h t u l1 l2).objs.size,.ref (zH3 h t u l1 l2).objs.size] }
theorem aFK{t:Bool}{l:qv}{aO:Array qx}{Q:qx->qj->Prop}(hl:gT t s.heap l aO)
 (h:Q (.ref s.heap.objs.size) {s with heap:=s.heap.push {cls:=.type (aCV t),data:=.fields #[.ref l,.int 0 0] } }):qk (model prog w) A (pyIter (.ref l)) Q E s:=by
 cases t with
 | true=>exact jw hl h
 | false=>exact jj hl h
theorem gT.push{t:Bool}{h:Heap}{a:qv}{aG:Array qx}(x:gT t h a aG)(o:Obj):gT t (h.push o) a aG:=by
 cases t with
 | true=>obtain⟨o,ho,r⟩:=x;exact⟨o,hpS _ ho,r⟩
 | false=>obtain⟨o,ho,r⟩:=x;exact⟨o,hpS _ ho,r⟩
theorem aK4(t u:Bool)(l1 l2:qv)(xs ys:Array qx) :
 Meets (Builtin.«zip.__new__» ⟨[.type "zip",.ref l1,.ref l2],[]⟩) (λ _ R s=>gT t s.heap l1 xs/\gT u s.heap l2 ys /\
  R (.ok (.ret (.ref (zH4 s.heap t u l1 l2).objs.size))) {s with heap:=nF s.heap t u l1 l2 }):=
 .of_wp λ prog w A R s h=>by
  obtain⟨hp,g,d,tk,os⟩:=s;obtain⟨hl1,hl2,h⟩:=h;have hsub:=sub_zip;have hL1:gT t (Shared.heap ⟨hp,g,d,tk,os⟩) l1 xs:=hl1;have hL2:gT u (Shared.heap ⟨wQ hp t l1,g,d,tk,os⟩) l2 ys:=gT.push hl2 _
  wp_walk using aFK hL1,aFK hL2
  exact⟨_,rfl,h⟩
theorem aFw{t u:Bool}{l1 l2:qv}{xs ys:Array qx}{Q:qx->qj->Prop}(hl1:gT t s.heap l1 xs)(hl2:gT u s.heap l2 ys)
 (h:∀ h',vv h' (s.heap.objs.size+4) (s.heap.objs.size+2) (s.heap.objs.size+3) .none->zk h' (s.heap.objs.size+2) (.ref s.heap.objs.size) (.ref (s.heap.objs.size+1)) ->
   zk h' (s.heap.objs.size+3) .none .none->fY t h' s.heap.objs.size l1 0->fY u h' (s.heap.objs.size+1) l2 0->h'.objs.size=s.heap.objs.size+5 ->
   (∀ c o,s.heap.get? c=qq o->h'.get? c=qq o)->Q (.ref (s.heap.objs.size+4)) {s with heap:=h' }) :
 qk (model prog w) A (call (.type "zip") [.ref l1,.ref l2]) Q E s:=by
 refine callType_new F.called_zip (by decide) (F.typeCall_zip_2 _ _) (F.newCall_zip_2 _ _) (λ obj=>F.args_object_init_3 obj _ _) F.entry_zip_new
  (aK4 t u l1 l2 xs ys) ⟨hl1,hl2,?_⟩
 have z1:(wQ s.heap t l1).objs.size=s.heap.objs.size+1:=yBz ..;have z2:(zH2 s.heap t u l1 l2).objs.size=s.heap.objs.size+2:=by rw[yBz,z1]
 have z3:(zH3 s.heap t u l1 l2).objs.size=s.heap.objs.size+3:=by rw[yBz,z2]
 have z4:(zH4 s.heap t u l1 l2).objs.size=s.heap.objs.size+4:=by rw[yBz,z3]
 have z5:(nF s.heap t u l1 l2).objs.size=s.heap.objs.size+5:=by rw[yBz,z4]
 have g5:(nF s.heap t u l1 l2).get? (zH4 s.heap t u l1 l2).objs.size=qq _:=xAe _ rfl;have g4:(nF s.heap t u l1 l2).get? (zH3 s.heap t u l1 l2).objs.size=qq _:=hpS _ (xAe _ rfl);have g3:(nF s.heap t u l1 l2).get? (zH2 s.heap t u l1 l2).objs.size=qq _:=hpS _ (hpS _ (xAe _ rfl));have g2:(nF s.heap t u l1 l2).get? (wQ s.heap t l1).objs.size=qq _:=hpS _ (hpS _ (hpS _ (xAe _ rfl)));have g1:(nF s.heap t u l1 l2).get? s.heap.objs.size=qq _:=hpS _ (hpS _ (hpS _ (hpS _ (xAe _ rfl))));show _/\_;rw[z2,z3,z4] at g5;rw[z1,z2] at g3;rw[z3] at g4;rw[z1] at g2;rw[z4];have i1:fY t (nF s.heap t u l1 l2) s.heap.objs.size l1 0:=by cases t<;>exact⟨_,g1,rfl,rfl⟩
 have i2:fY u (nF s.heap t u l1 l2) (s.heap.objs.size+1) l2 0:=by cases u<;>exact⟨_,g2,rfl,rfl⟩
 exact⟨⟨_,g5,rfl⟩,h _ g5 g3 g4 i1 i2 z5 λ c o x =>
  hpS _ (hpS _ (hpS _ (hpS _ (hpS _ x))))⟩
end
theorem aIe{n a b:Nat}(ha:a<n)(hb:b<n):ZA (n+4) (n+2) (n+3) n (n+1) [n,a] [n+1,b]:=by
 have h:∀ i j:Nat,i≠j->(n+i:Nat)≠(n+j:Nat):=λ i j h=>by omega
 have l:∀ (c i:Nat),c<n->(c:Nat)≠(n+i:Nat):=λ c i h=>by omega
 refine⟨h 2 4 (by decide),h 3 4 (by decide),h 0 4 (by decide),h 1 4 (by decide),h 2 3 (by decide),h 2 0 (by decide),h 2 1 (by decide),h 3 0 (by decide),h 3 1 (by decide),λ c hc=>?_,λ c hc=>?_⟩
 ·rcases List.mem_cons.mp hc with e | e
  ·rw[e];exact⟨h 0 4 (by decide),h 0 3 (by decide),h 0 1 (by decide)⟩
  ·rw[List.mem_singleton.mp e];exact⟨l a 4 ha,l a 3 ha,l a 1 ha⟩
 ·rcases List.mem_cons.mp hc with e | e
  ·rw[e];exact⟨h 1 4 (by decide),h 1 3 (by decide),h 1 0 (by decide)⟩
  ·rw[List.mem_singleton.mp e];exact⟨l b 4 hb,l b 3 hb,l b 0 hb⟩
section
variable {X : Cx}
def aKs(K:FrG)(ta:TA):TI:=λ σ H R=>ta σ H λ vs H1=>∃ a b t u,vs=[.ref a,.ref b]/\(∃ xs,Sq t K H1 a xs)/\(∃ ys,Sq u K H1 b ys)/\R (aDA K t u a b) H1
theorem aS9{elts:List qw}{k:Nat}{pp:Pos}{a b:qw}{ta:TA}{p pos:Pos}(hg:Gl X "zip")(hm:X.mg "zip" = qz)(ha:PA X [a,b] ta)(hs:qo [a,b] X.env=(false,eval a X.env)::qo [b] X.env)(hs2:qo [b] X.env=[(false,eval b X.env)]):PI X (.Tuple elts k pp) (.Call (.Name "zip" p) [a,b] [] pos) (aKs X.K ta):=by
 intro aB s σ H R I h;refine Call_ (lZ I hg hm boot_zip (yBg (bE (ha pos aB s σ H _ I h) λ us s1 hPq43=>?_) hs (by rw[hs2];rfl)))
 obtain⟨vs,H1,I1,r1,q1⟩:=hPq43;obtain⟨l1,l2,t,u,rfl,⟨xs,sq1⟩,⟨ys,sq2⟩,q⟩:=q1;obtain⟨u1,u2,rfl,ru1,ru2⟩:=aAt r1;cases ru1;cases ru2;obtain⟨gK,rv1,pl1⟩:=jC I1 sq1;obtain⟨eI,rv2,pl2⟩:=jC I1 sq2;have a1:=pl1.lt;have a2:=pl2.lt;refine aFw pl1 pl2 λ h' hz cV dU hi1 hi2 hsz hk=>kq hz ?_
 have I2:Inv X aB σ H1 {s1 with heap:=h' }:=I1.kept (t':=s1.toks) hk
 have hb':∀ b∈[s1.heap.objs.size+4,s1.heap.objs.size+2,s1.heap.objs.size+3,s1.heap.objs.size,s1.heap.objs.size+1],s1.heap.objs.size<=b:=λ b hb=>by
  simp only[yCv,yCe,or_false] at hb;omega
 have Z:=aIe (n:=s1.heap.objs.size) (a:=l1) (b:=l2) a1 a2;exact⟨s1.heap.objs.size+4,[s1.heap.objs.size+4,s1.heap.objs.size+2,s1.heap.objs.size+3,s1.heap.objs.size,s1.heap.objs.size+1],_,_,H1,rfl,I2,aOg t u l1 l2 _ _ _ _ _ Z (xAk a1) (xAk (yFr a2)),⟨hz,cV,⟨_,_,dU⟩,hi1,hi2⟩,λ b hb=>I1.fpOk (hb' b hb) (I1.hok.fresh (hb' b hb)),q⟩
noncomputable def cX:List D->List D->List D
 | a::as,b::bs=>.tuple [a,b]::cX as bs
 | _,_=>[]
theorem tM:∀ as bs:List D,(cX as bs).length=min as.length bs.length
 | [],_=>by simp[cX]
 | _::_,[]=>by simp[cX]
 | _::as,_::bs=>by simp[cX,tM as bs]
theorem zG:∀ (as bs:List D) (i:Nat) (d:D),(cX as bs)[i]? = qq d->∃ a b,as[i]? = qq a/\bs[i]? = qq b/\d=.tuple [a,b]
 | [],_,i,d,h=>by simp[cX] at h
 | _::_,[],i,d,h=>by simp[cX] at h
 | a::as,b::bs,0,d,h=>by simp[cX] at h;exact⟨a,b,rfl,rfl,h.symm⟩
 | a::as,b::bs,i+1,d,h=>by
   obtain⟨x,y,h1,h2,h3⟩:=zG as bs i d (by simpa [cX] using h)
   exact⟨x,y,by simpa using h1,by simpa using h2,h3⟩
theorem aRb{K:FrG}{F:Hp}{L:List qv}{t u:Bool}{a b:qv}{xs ys:List V}{ds es:List D}(sq1:Sq t K F a xs)(dl1:DenL K F ds xs)(sq2:Sq u K F b ys)(dl2:DenL K F es ys):Wk K F L (aDA K t u a b) (cX ds es) where
 go:=λ i H s hi=>by
  rw[tM] at hi;have h1:i<xs.length:=by rw[<- dl1.length];omega
  have h2:i<ys.length:=by rw[<- dl2.length];omega
  exact⟨xs,xs[i],ys,ys[i],hV s sq1,by simp[h1],hV s sq2,by simp[h2]⟩
 stop:=λ H s=>⟨xs,ys,hV s sq1,hV s sq2,by rw[tM,dl1.length,dl2.length]⟩
 yld:=λ i H F1 L1 S x H' d g R e y=>by
  obtain⟨p,x',y',hp,rfl,rfl,hx,hy⟩:=y;obtain⟨d1,d2,e1,e2,rfl⟩:=zG ds es i d e;obtain⟨x1,e3,dx⟩:=dl1.get e1;obtain⟨y1,e4,dy⟩:=dl2.get e2;have q1:=hx xs (hV (g.f.trans R.sub) sq1);rw[q1] at e3;cases e3;have q2:=hy ys (hV (g.f.trans R.sub) sq2);rw[q2] at e4;cases e4;have hF:F1 p=qz:=R.sub.free hp;exact⟨bD F1 p (.tup [x',y']),dW hF,R.new hp,.tup (bS.of cY) (.cons (dx.mono (g.f.trans (dW hF))) (.cons (dy.mono (g.f.trans (dW hF))) .nil))⟩
end
section
variable {X : Cx}
noncomputable def vS:W->Option (List D)
 | .d (.list ds)=>qq ds
 | .d (.tuple ds)=>qq ds
 | _=>qz
noncomputable def qB(fa fb:FE):FL:=λ env S=>(fa env S).bind λ p=>(fb env p.2).bind λ q=>(vS p.1).bind λ ds=>(vS q.1).bind λ es=>qq (cX ds es,q.2)
theorem yR{K:FrG}{F:Hp}{L:List qv}{w:W}{ds:List D}{v:V}(h:vS w=qq ds)(d:eH K F L w v):∃ t a xs,v=.ref a/\Sq t K F a xs/\DenL K F ds xs:=by
 unfold vS at h
 split at h
 ·cases h;cases (show Den K F (.list ds) v from d) with
  | lst sq dl=>exact⟨false,_,_,rfl,sq,dl⟩
 ·cases h;cases (show Den K F (.tuple ds) v from d) with
  | tup sq dl=>exact⟨true,_,_,rfl,sq,dl⟩
 ·cases h
theorem aVI{K:FrG}{fa fb:FE}(σ:L2.St)(H:Hp)(Rr:It->Hp->Prop)(h:iV K (qB fa fb) σ H Rr):aKs K (eT K (cR fa (cR fb gW))) σ H Rr:=by
 obtain⟨F,L,S,env,ds,S',R,E,e,q⟩:=h;obtain⟨⟨w1,S1⟩,e1,e⟩:=bind_some e;obtain⟨⟨w2,S2⟩,e2,e⟩:=bind_some e;obtain⟨ds1,e3,e⟩:=bind_some e;obtain⟨ds2,e4,e⟩:=bind_some e;dsimp only at e e2 e3 e4;cases e;refine⟨F,L,S,env,[w1,w2],S',R,E,by unfold cR;simp only[e1,e2,gW,yBp],λ F1 L1 H1 vs g1 R1 d1=>?_⟩
 cases d1 with
 | cons da dr =>
   cases dr with
   | cons db dn =>
     cases dn;obtain⟨t,a,xs,rfl,sq1,dl1⟩:=yR e3 da;obtain⟨u,b,ys,rfl,sq2,dl2⟩:=yR e4 db;exact⟨a,b,t,u,rfl,⟨xs,hV R1.sub sq1⟩,⟨ys,hV R1.sub sq2⟩,q F1 L1 H1 _ g1 R1 (aRb sq1 dl1 sq2 dl2)⟩
end
structure ZB(z TI TO i1 i2 i3:qv)(dL dM fp3:List qv):Prop where
 TIz:TI≠z
 TOz:TO≠z
 i1z:i1≠z
 i2z:i2≠z
 i3z:i3≠z
 TITO:TI≠TO
 TIi1:TI≠i1
 TIi2:TI≠i2
 TIi3:TI≠i3
 TOi1:TO≠i1
 TOi2:TO≠i2
 TOi3:TO≠i3
 f1:∀ b∈dL,b≠z/\b≠TO/\b≠i2/\b≠i3
 f2:∀ b∈dM,b≠z/\b≠TO/\b≠i1/\b≠i3
 f3:∀ b∈fp3,b≠z/\b≠TO/\b≠i1/\b≠i2
section
variable {prog : qu}{w : zq}{A : zv}{E : qx -> qj -> Prop}{s : qj}
end
section
variable {prog : qu}{w : zq}{A : zv}{E : qx -> qj -> Prop}{s : qj}
end
section
variable {X : Cx}
end
section
variable {X : Cx}
noncomputable def sJ(S:aF):W->W->Option (W×aF)
 | .loc n,.d (.int 0)=>match S[n]? with
   | some (qq (d::r))=>qq (.d d,S.set n (qq r))
   | _=>qz
 | _,_=>qz
theorem aMH{S S':aF}{o x w:W}(h:sJ S o x=qq (w,S')):∃ n d r,o=.loc n/\x=.d (.int 0)/\S[n]? = qq (qq (d::r))/\w=.d d/\S'=S.set n (qq r):=by
 unfold sJ at h
 split at h
 ·split at h
  ·rename_i d r e;cases h;exact⟨_,_,_,rfl,rfl,e,rfl,rfl⟩
  ·cases h
 ·cases h
noncomputable def aAN(fo fe:FE):FE:=f2 fo fe sJ
theorem aVo{K:FrG}{fo fe:FE}(σ:L2.St)(H:Hp)(Q:VK)(h:aW K (aAN fo fe) σ H Q):tBM K "list" aIG (aW K fo) (eT K (cR fe gW)) σ H Q:=by
 obtain⟨F,L,S,env,w,S',R,E,e,q⟩:=h;obtain⟨⟨wo,S1⟩,e1,e⟩:=bind_some e;obtain⟨⟨we,S2⟩,e2,e⟩:=bind_some e;obtain⟨n,d,r,rfl,rfl,e5,rfl,rfl⟩:=aMH e;refine⟨F,L,S,env,_,S1,R,E,e1,λ F1 L1 H1 o g1 R1 d1=>?_⟩
 obtain⟨a,ea,rfl⟩:=d1;refine⟨.inl ⟨rfl,?_⟩,F1,L1,S1,env,[.d (.int 0)],S2,R1,E.mono g1,?_,λ F2 L2 H2 vs g2 R2 d2=>?_⟩
 ·obtain⟨xs,hx⟩:=R1.tr n a ea;exact⟨xs,bM.of hx⟩
 ·unfold cR;rw[e2];rfl
 ·cases d2 with
  | cons dd dr =>
    cases dr;cases (show Den K F2 (.int 0) _ from dd)
    have ea2:=g2.get ea;obtain⟨fa,xs,ha,dl⟩:=R2.loc n a (d::r) ea2 e5;cases dl with
    | cons dx dl =>
      rename_i x xs;exact⟨a,x::xs,0,0,x,rfl,rfl,ha,by decide,by decide,by simp[seqIndex?],rfl,q F2 L2 _ _ (g1.trans g2) (R2.put ea2 fa dl) dx⟩
end
section
open PySem.SeqAt
open PySem.AutoSeq1 (wpAny_loadPart')
open PySem.MeetsSeq PySem.MeetsSeq2 PySem.MeetsSeq3
theorem rN:∀ {vs:List qx}{ns:List Int}{i:Nat},IntsAre vs ns->i<vs.length->∃ a t,vs[i]? = qq (.int a t)/\ns.drop i=a::ns.drop (i+1)
 | _,_,i,.nil,h=>absurd h (yDy i)
 | _,_,0,.cons a t _,_=>⟨a,t,rfl,rfl⟩
 | _,_,i+1,.cons a t r,h=>by
   obtain⟨b,u,h1,h2⟩:=rN (i:=i) r (by simpa using h)
   exact⟨b,u,by simpa using h1,by simpa using h2⟩
end
section
variable {prog : qu}{w : zq}{A : zv}{E : qx -> qj -> Prop}{s : qj}
end
section
variable {X : Cx}
end
section
variable {X : Cx}
end
noncomputable def aJ7(f:FL):FL:=λ env S=>(f env S).bind λ p=>if p.1.length<=1000000 then qq p else qz
theorem aMc:1000000<=qy:=by rw[zx];decide
section
variable {X : Cx}
end
section
variable {X : Cx}
end
noncomputable def Itd(hi:Int)(n:Nat):It:=⟨λ i _=>i<n,λ i H x H'=>H'=H/\x=.int (hi-i),λ i _=>n<=i⟩
theorem aM2{P:qu}{w:zq}{K:FrG}{tg:qw}(it:qv)(hi:Int)(n:Nat):Turn P w K tg (Itd hi n) [it] it (λ i h=>kj h it (hi+(i:Nat)*(-1)) ((n:Int)-(i:Nat)) (-1)) where
 mem:=by simp
 obj:=λ i h st b hb=>by
  have e:b=it:=by simpa using hb
  subst e;exact⟨_,st,λ v z=>by
   have z':Data.fields _=Data.cell v:=z;cases z'⟩
 keep:=λ i h h' st k=>k it (by simp) _ st
 item:=by
  intro X hP hw hK hc i aB s σ H E I hf st hg;subst hP hw hK;obtain⟨f0,f1,f2,f3,f4,f5⟩:=hf it (by simp)
  have W:=Walks.range (prog:=X.prog) (w:=X.w) (I.ok.hd hc) it hi (-1) n;refine W.item i s _ _ hg st λ v h' tk hv st' kk=>?_
  obtain⟨t,rfl⟩:=hv;have I1:Inv X aB σ H {s with heap:=h',toks:=tk }:=I.turned (λ b o hb e=>kk b o (by simpa using hb) e) f0 f1 f3 f4 f5
  refine⟨_,rfl,aAC (s:={s with heap:=h',toks:=tk }) (n:="range_iterator") st' rfl rfl (by decide) ⟨.int (hi-i),H,I1,⟨t,?_⟩,⟨rfl,rfl⟩,st',λ b hb=>(hf b hb).1⟩⟩
  congr 1;omega
 done:=by
  intro X hP hw hK hc i aB s σ H E I hf st hg;subst hP hw hK;obtain⟨f0,f1,f2,f3,f4,f5⟩:=hf it (by simp)
  exact wpAny_pyNext_range_end (I.ok.hd hc) st (by have:n<=i:=hg;omega) λ h' eb=>⟨rfl,I.turned (t':=s.toks) (λ b o hb e=>eb b o hb e) f0 f1 f3 f4 f5⟩
 self:=λ _ _ _ _ _ st h=>kz st h
theorem aEt(a b:Int):yEf a b (-1)=if b<a then a-b else 0:=by
 unfold yEf;simp only[show ¬ ((-1:Int)>0) by decide,if_false,Int.neg_neg,Int.ediv_one,gt_iff_lt]
 split<;>omega
theorem aMa{a b:Int}(ha : -(2^62)<=a)(ha':a<2^62)(hb : -(2^62)<=b)(hb':b<2^62):yHn a b (-1)=true:=by
 unfold yHn;rw[aEt];simp only[Builtin.Range.rangeFitsLong,yAk,yDz,decide_eq_true_eq,beq_iff_eq,show ¬ ((-1:Int)>0) by decide,if_false]
 split<;>omega
section
variable {X : Cx}{tg : qw}
theorem aOA{aB:List (qv×Obj)}{σ:L2.St}{H:Hp}{s:qj}{R:It->Hp->Prop}{E:qx->qj->Prop}{hi lo:Int}{t u v:Tok}{tk:Nat}(I:Inv X aB σ H s)(h1 : -(2^62)<=hi)(h2:hi<2^62)(h3 : -(2^62)<=lo)(h4:lo<2^62)
 (q:R (Itd hi (hi-lo).toNat) H):qk (model X.prog X.w) X.A (pyIter (.ref s.heap.objs.size)) (PIE X aB σ tg R) E {s with heap:=s.heap.push {cls:=.type "range",data:=.fields #[.int hi t,.int lo u,.int (-1) v] },toks:=tk }:=by
 refine wpAny_pyIter_range (IsRange.new ..) (aMa h1 h2 h3 h4) ?_;have I1:Inv X aB σ H {s with heap:=s.heap.push {cls:=.type "range",data:=.fields #[.int hi t,.int lo u,.int (-1) v] },toks:=tk }:=I.kept λ b o e=>hpS _ e
 refine⟨(s.heap.push {cls:=.type "range",data:=.fields #[.int hi t,.int lo u,.int (-1) v] }).objs.size,[(s.heap.push {cls:=.type "range",data:=.fields #[.int hi t,.int lo u,.int (-1) v] }).objs.size],_,_,H,rfl,
  I1.kept (t':=tk) λ b o e=>hpS _ e,aM2 _ hi (hi-lo).toNat,?_,λ b hb=>?_,q⟩
 ·have e1:hi+((0:Nat):Int)*(-1)=hi:=by simp
  have e2:(((hi-lo).toNat:Nat):Int)-((0:Nat):Int)=yEf hi lo (-1):=by rw[aEt];split<;>omega
  show kj _ _ (hi+((0:Nat):Int)*(-1)) ((((hi-lo).toNat:Nat):Int)-((0:Nat):Int)) (-1);rw[e1,e2];exact xAe _ rfl
 ·have e:b=(s.heap.push {cls:=.type "range",data:=.fields #[.int hi t,.int lo u,.int (-1) v] }).objs.size:=by simpa using hb
  subst e;exact I1.fpOk (yAb _) (I1.hok.fresh (yAb _))
def aI5(ta:TA):TI:=λ σ H R=>ta σ H λ vs H1=>∃ i j:Int,vs=[.int i,.int j,.int (-1)]/\(-(2^62)<=i/\i<2^62 /\ -(2^62)<=j/\j<2^62)/\R (Itd i (i-j).toNat) H1
theorem aMi{a b c:qw}{ta:TA}{p pos:Pos}(hg:Gl X "range")(hm:X.mg "range" = qz)(ha:PA X [a,b,c] ta)(hs:qo [a,b,c] X.env=(false,eval a X.env)::qo [b,c] X.env)(hs2:qo [b,c] X.env=[(false,eval b X.env),(false,eval c X.env)]) :
 PI X tg (.Call (.Name "range" p) [a,b,c] [] pos) (aI5 ta):=by
 intro aB s σ H R I h;refine Call_ (lZ I hg hm boot_range (yBg (bE (ha pos aB s σ H _ I h) λ us s1 hPq44=>?_) hs (by rw[hs2];rfl)))
 obtain⟨vs,H1,I1,r1,q1⟩:=hPq44;obtain⟨i,j,e,⟨q1,q2,q3,q4⟩,q⟩:=q1;subst e;cases r1 with
 | cons r rr =>
   cases rr with
   | cons r' rr =>
     cases rr with
     | cons r'' rr =>
       cases rr;obtain⟨t,rfl⟩:=r;obtain⟨t',rfl⟩:=r';obtain⟨t'',rfl⟩:=r'';exact call_range_3 (by decide) (aOA I1 q1 q2 q3 q4 q)
noncomputable def kY(hi:Int):Nat->List D
 | 0=>[]
 | n+1=>.int hi::kY (hi-1) n
theorem qQ:∀ (n:Nat) (hi:Int),(kY hi n).length=n
 | 0,_=>rfl
 | n+1,hi=>by rw[kY,yBf,qQ n]
theorem aBv:∀ (n:Nat) (hi:Int) (i:Nat),i<n->(kY hi n)[i]? = qq (.int (hi-i))
 | 0,_,_,h=>by omega
 | n+1,hi,0,_=>by simp[kY]
 | n+1,hi,i+1,h=>by
   rw[kY,yCu,aBv n (hi-1) i (by omega)]
   congr 2
   push_cast
   omega
theorem aOw{K:FrG}{F:Hp}{L:List qv}(hi:Int)(n:Nat):Wk K F L (Itd hi n) (kY hi n) where
 go:=λ i H s hi=>by rw[qQ] at hi;exact hi
 stop:=λ H s=>by rw[qQ];exact yAb _
 yld:=λ i H F1 L1 S x H' d g R e y=>by
  obtain⟨rfl,rfl⟩:=y;have hi:i<n:=by
   have:=(gIm e).1;rw[qQ] at this;exact this
  rw[aBv n _ i hi] at e;cases e;exact⟨F1,cB.refl _,R,.int _⟩
noncomputable def aAq(fa fb fc:FE):FL:=λ env S=>(fa env S).bind λ p=>(fb env p.2).bind λ q=>(fc env q.2).bind λ r=>match p.1,q.1,r.1 with
 | .d (.int i),.d (.int j),.d (.int k)=>if (-(2^62)<=i/\i<2^62 /\ -(2^62)<=j/\j<2^62)/\k = -1 then qq (kY i (i-j).toNat,r.2) else qz
 | _,_,_=>qz
theorem aSz{K:FrG}{fa fb fc:FE}(σ:L2.St)(H:Hp)(Rr:It->Hp->Prop)(h:iV K (aAq fa fb fc) σ H Rr):aI5 (eT K (cR fa (cR fb (cR fc gW)))) σ H Rr:=by
 obtain⟨F,L,S,env,ds,S',R,E,e,q⟩:=h;obtain⟨⟨w,S1⟩,e1,e2⟩:=bind_some e;obtain⟨⟨w2,S2⟩,e3,e4⟩:=bind_some e2;obtain⟨⟨w3,S3⟩,e5,e6⟩:=bind_some e4;dsimp only at e6 e3 e5
 split at e6
 ·split at e6
  ·rename_i c;obtain⟨c,rfl⟩:=c;cases e6;refine⟨F,L,S,env,[.d (.int _),.d (.int _),.d (.int _)],_,R,E,by unfold cR;rw[e1];dsimp only[yDe];rw[e3];dsimp only[yDe];rw[e5];rfl,λ F1 L1 H1 vs g1 R1 d1=>?_⟩
   cases d1 with
   | cons dd dr =>
     cases dr with
     | cons dd2 dr =>
       cases dr with
       | cons dd3 dr =>
         cases dr;cases (show Den K F1 (.int _) _ from dd)
         cases (show Den K F1 (.int _) _ from dd2)
         cases (show Den K F1 (.int _) _ from dd3)
         exact⟨_,_,rfl,c,q F1 L1 H1 _ g1 R1 (aOw _ _)⟩
  ·cases e6
 ·cases e6
end
abbrev jV(h:Heap)(z TI TO a:qv)(f:Bool):Prop:=
 h.get? z=qq {cls:=.type "zip",dict:=qz,data:=.fields #[yy a,.bool f,.bool false,.ref TI,.ref TO],slots:=#[] }
section
variable {prog : qu}{w : zq}{A : zv}{E : qx -> qj -> Prop}{s : qj}
theorem aMG{a:qv}{Q:Option Obj->qj->Prop}(h:Q (s.heap.get? a) s):qk (model prog w) A (loadIfAlive a) Q E s:=λ _ _ _=>h
theorem aFg{z TI TO a:qv}{f:Bool}{Q:Bool->qj->Prop}(hz:jV s.heap z TI TO a f)(ha:∃ o,s.heap.get? a=qq o)
 (hQ:∀ h',jV h' z TI TO a true->yEb z s.heap h'->Q false {s with heap:=h' }):qk (model prog w) A (yAw (.ref z)) Q E s:=by
 unfold yAw;refine wB (zj hz rfl (x:=yy a) rfl ?_);obtain⟨o,ho⟩:=ha;have hn:((s.heap.get? ((a:Int)).toNat).isNone)=false:=by
  rw[yAp,ho];rfl
 show qk _ _ (loadIfAlive ((a:Int)).toNat >>= _) _ _ _;refine wB (aMG ?_);rw[hn];simp only[yAo,if_false];cases f with
 | true =>
   refine wB (zj hz rfl (x:=.bool true) rfl ?_);rw[if_neg (by decide)]
   exact wP (hQ s.heap hz (Heap.SameBut.refl _ _))
 | false =>
   refine wB (zj hz rfl (x:=.bool false) rfl ?_);rw[if_pos (by decide)]
   exact wB (xy hz (by simp) λ h₁ hz₁ hs₁=>wP (hQ h₁ hz₁ hs₁))
theorem aK1{z TI TO i1 i2 a:qv}{f:Bool}{dL dM:List qv}{n1 n2 k:Nat}{P1 P2:Nat->qx->Prop}{cK cE:Nat->Heap->Prop}{Q:qx->qj->Prop}
 (D1:Draws prog w A i1 dL n1 P1 cK) (D2:Draws prog w A i2 dM n2 P2 cE) (Z:ZA z TI TO i1 i2 dL dM)
 (hz:jV s.heap z TI TO a f) (ha:∃ o,s.heap.get? a=qq o) (cV:zk s.heap TI (.ref i1) (.ref i2)) (s1:cK k s.heap) (s2:cE k s.heap) (k1:k<n1) (k2:k<n2)
 (hQ:∀ x y h' tk,P1 k x->P2 k y->jV h' z TI TO a true->zk h' TI (.ref i1) (.ref i2)->cK (k+1) h'->cE (k+1) h'->zk h' s.heap.objs.size x y->h'.objs.size=s.heap.objs.size+1 ->
   (∀ c o,c≠z->c≠i1->c≠i2->s.heap.get? c=qq o->h'.get? c=qq o)->Q (.ref s.heap.objs.size) {s with heap:=h',toks:=tk }) :
 qk (model prog w) A (Builtin.«zip.__next__» ⟨[.ref z],[]⟩) (λ bR s'=>∃ v,bR=.done (.ret v)/\Q v s') E s:=by
 show qk _ _ (field (.ref z) 2 >>= _) _ _ _;refine wB (zj hz rfl (x:=.bool false) rfl ?_);show qk _ _ (field (.ref z) 3 >>= _) _ _ _;refine wB (zj hz rfl (x:=.ref TI) rfl ?_);refine wB (xq cV rfl ?_);show qk _ _ (yAw (.ref z) >>= _) _ _ _;refine wB (aFg hz ha λ h₁ hz₁ hs₁=>?_)
 have s11:cK k h₁:=D1.frame k _ _ s1 λ c hc o e=>hs₁.extBut _ _ (Z.f1 c hc).1 e
 have s21:cE k h₁:=D2.frame k _ _ s2 λ c hc o e=>hs₁.extBut _ _ (Z.f2 c hc).1 e
 simp only[yAo,if_false];rw[<- Array.forIn_toList];simp only[yFh,yFv];refine wB ?_;refine wB (wB (zy ?_));show qk _ _ (yAv (.ref i1) >>= _) _ _ _;refine wB (D1.item k _ _ _ k1 s11 λ x h₂ tk₂ px s12 hs₂=>wP ?_)
 have s22:cE k h₂:=D2.frame k _ _ s21 λ c hc o e=>hs₂.extBut _ _ (Z.f2 c hc).2.2 e
 refine wP ?_;refine wB (wB (zy ?_));show qk _ _ (yAv (.ref i2) >>= _) _ _ _;refine wB (D2.item k _ _ _ k2 s22 λ y h₃ tk₃ py s23 hs₃=>wP ?_)
 have s13:cK (k+1) h₃:=D1.frame _ _ _ s12 λ c hc o e=>hs₃.extBut _ _ (Z.f1 c hc).2.2 e
 refine wP (wP ?_);refine wB (wpAny_newTuple (hsz:=show 2<=qy by decide) ?_)
 have hsz:h₃.objs.size=s.heap.objs.size:=by rw[hs₃.1,hs₂.1,hs₁.1]
 have up:∀ c o,c≠z->c≠i1->c≠i2->s.heap.get? c=qq o->h₃.get? c=qq o:=λ c o c1 c3 c4 e=>hs₃.extBut _ _ c4 (hs₂.extBut _ _ c3 (hs₁.extBut _ _ c1 e))
 have hz₃:jV h₃ z TI TO a true:=hs₃.extBut _ _ Z.i2z.symm (hs₂.extBut _ _ Z.i1z.symm hz₁);refine wP ⟨_,rfl,?_⟩;show Q (.ref h₃.objs.size) _;rw[hsz];have ps:∀ c o,h₃.get? c=qq o->(h₃.push {cls:=.type "tuple",data:=.seq #[x,y] }).get? c=qq o:=λ c o e=>hpS _ e
 have hT:zk (h₃.push {cls:=.type "tuple",data:=.seq #[x,y] }) s.heap.objs.size x y:=by rw[<- hsz];exact xAe _ rfl
 exact hQ x y _ _ px py (ps _ _ hz₃) (ps _ _ (up _ _ Z.TIz Z.TIi1 Z.TIi2 cV)) (D1.frame _ _ _ s13 λ c hc o e=>ps c o e) (D2.frame _ _ _ s23 λ c hc o e=>ps c o e) hT (by rw[yBz,hsz]) λ c o c1 c3 c4 e=>ps c o (up c o c1 c3 c4 e)
theorem aLb{z TI TO i1 i2 a:qv}{f:Bool}{dL dM:List qv}{n1 n2 k:Nat}{P1 P2:Nat->qx->Prop}{cK cE:Nat->Heap->Prop}{Q:Fin->qj->Prop}
 (D1:Draws prog w A i1 dL n1 P1 cK) (D2:Draws prog w A i2 dM n2 P2 cE) (Z:ZA z TI TO i1 i2 dL dM)
 (hz:jV s.heap z TI TO a f) (ha:∃ o,s.heap.get? a=qq o) (cV:zk s.heap TI (.ref i1) (.ref i2)) (s1:cK k s.heap) (s2:cE k s.heap) (hend:k=n1\/(k<n1/\k=n2))
 (hE:∀ h' tk e,(∀ c o,c≠z->c≠i1->c≠i2->s.heap.get? c=qq o->h'.get? c=qq o)->(∃ o,h'.get? e=qq o/\o.cls=.type "StopIteration")->E (.ref e) {s with heap:=h',toks:=tk }) :
 qk (model prog w) A (Builtin.«zip.__next__» ⟨[.ref z],[]⟩) Q E s:=by
 show qk _ _ (field (.ref z) 2 >>= _) _ _ _;refine wB (zj hz rfl (x:=.bool false) rfl ?_);show qk _ _ (field (.ref z) 3 >>= _) _ _ _;refine wB (zj hz rfl (x:=.ref TI) rfl ?_);refine wB (xq cV rfl ?_);show qk _ _ (yAw (.ref z) >>= _) _ _ _;refine wB (aFg hz ha λ h₁ hz₁ hs₁=>?_)
 have s11:cK k h₁:=D1.frame k _ _ s1 λ c hc o e=>hs₁.extBut _ _ (Z.f1 c hc).1 e
 have s21:cE k h₁:=D2.frame k _ _ s2 λ c hc o e=>hs₁.extBut _ _ (Z.f2 c hc).1 e
 simp only[yAo,if_false];rw[<- Array.forIn_toList];simp only[yFh,yFv];refine wB ?_;refine wB (wB (zy ?_));show qk _ _ (yAv (.ref i1) >>= _) _ _ _;rcases hend with rfl | ⟨k1,rfl⟩
 ·exact wB (D1.done _ _ _ s11 λ h₂ e hs₂ he=>hE h₂ _ e (λ c o c1 c3 _ x=>hs₂ _ _ c3 (hs₁.extBut _ _ c1 x)) he)
 ·refine wB (D1.item k _ _ _ k1 s11 λ x h₂ tk₂ px s12 hs₂=>wP ?_)
  have s22:cE k h₂:=D2.frame k _ _ s21 λ c hc o e=>hs₂.extBut _ _ (Z.f2 c hc).2.2 e
  refine wP ?_;refine wB (wB (zy ?_));show qk _ _ (yAv (.ref i2) >>= _) _ _ _;exact wB (D2.done _ _ _ s22 λ h₃ e hs₃ he=>hE h₃ _ e (λ c o c1 c3 c4 x=>hs₃ _ _ c4 (hs₂.extBut _ _ c3 (hs₁.extBut _ _ c1 x))) he)
theorem aKR{z TI TO i1 i2 a:qv}{f:Bool}{dL dM:List qv}{n1 n2 k:Nat}{P1 P2:Nat->qx->Prop}{cK cE:Nat->Heap->Prop}{Q:Option qx->qj->Prop}
 (D1:Draws prog w A.in1 i1 dL n1 P1 cK) (D2:Draws prog w A.in1 i2 dM n2 P2 cE) (Z:ZA z TI TO i1 i2 dL dM)
 (hz:jV s.heap z TI TO a f) (ha:∃ o,s.heap.get? a=qq o) (cV:zk s.heap TI (.ref i1) (.ref i2)) (s1:cK k s.heap) (s2:cE k s.heap) (k1:k<n1) (k2:k<n2)
 (hQ:∀ x y h' tk,P1 k x->P2 k y->jV h' z TI TO a true->zk h' TI (.ref i1) (.ref i2)->cK (k+1) h'->cE (k+1) h'->zk h' s.heap.objs.size x y->h'.objs.size=s.heap.objs.size+1 ->
   (∀ c o,c≠z->c≠i1->c≠i2->s.heap.get? c=qq o->h'.get? c=qq o)->Q (qq (.ref s.heap.objs.size)) {s with heap:=h',toks:=tk }) :
 qk (model prog w) A (vq (.ref z)) Q E s:=by
 have hT:s.TypeIs (.ref z) "zip":=⟨_,hz,rfl⟩;unfold vq;exact wB (wz (wpAny_callSpecial?_slot (name:=Str.ofString "__next__") hT F.slot_zip_next
  (xz F.slot_zip_next hT F.entry_zip_next
    (aK1 D1 D2 Z hz ha cV s1 s2 k1 k2 λ x y h' tk a0 b0 a1 a3 a4 a5 a6 a7 a8=>wP (hQ x y h' tk a0 b0 a1 a3 a4 a5 a6 a7 a8)) (F.args_zip_next_1 _))))
theorem aKW{z TI TO i1 i2 a:qv}{f:Bool}{dL dM:List qv}{n1 n2 k:Nat}{P1 P2:Nat->qx->Prop}{cK cE:Nat->Heap->Prop}{Q:Option qx->qj->Prop}
 (D1:Draws prog w A.in1 i1 dL n1 P1 cK) (D2:Draws prog w A.in1 i2 dM n2 P2 cE) (Z:ZA z TI TO i1 i2 dL dM)
 (hz:jV s.heap z TI TO a f) (ha:∃ o,s.heap.get? a=qq o) (cV:zk s.heap TI (.ref i1) (.ref i2)) (s1:cK k s.heap) (s2:cE k s.heap) (hend:k=n1\/(k<n1/\k=n2))
 (hQ:∀ h' tk,(∀ c o,c≠z->c≠i1->c≠i2->s.heap.get? c=qq o->h'.get? c=qq o)->Q qz {s with heap:=h',toks:=tk }):qk (model prog w) A (vq (.ref z)) Q E s:=by
 have hT:s.TypeIs (.ref z) "zip":=⟨_,hz,rfl⟩;unfold vq;refine wB (wz (wpAny_callSpecial?_slot (name:=Str.ofString "__next__") hT F.slot_zip_next
  (xz F.slot_zip_next hT F.entry_zip_next (aLb D1 D2 Z hz ha cV s1 s2 hend λ h' tk e hk he=>?_) (F.args_zip_next_1 _))))
 obtain⟨o,ho,hc⟩:=he;refine wB (yo (T:="StopIteration") (b:=true) ⟨o,ho,hc⟩ kv ?_);exact wP (hQ _ _ hk)
end
theorem Rel.relay{K:FrG}{F:Hp}{L:List qv}{S:aF}{H:Hp}(r:Rel K F L S H){p:qv}{o:HO}(hF:F p=qz)(hL:p ∉ L):Rel K F L S (bD H p o):=by
 refine⟨λ b u q=>by rw[bL (eD q hF)];exact r.sub _ _ q,r.nd,r.len,λ n a ds e1 e2=>?_,λ n a e=>?_⟩
 ·obtain⟨f,xs,e3,dl⟩:=r.loc n a ds e1 e2;have ne:a≠p:=λ z=>hL (by rw[<- z];exact xAl e1)
  exact⟨f,xs,by rw[bL ne];exact e3,dl⟩
 ·obtain⟨xs,hx⟩:=r.tr n a e;have ne:a≠p:=λ z=>hL (by rw[<- z];exact xAl e)
  exact⟨xs,by rw[bL ne];exact hx⟩
theorem aFW{K:FrG}{F:Hp}{d:D}{v:V}(k:Den K F d v):∀ {ds:List D}{xs:List V},DenL K F ds xs->DenL K F (ds++[d]) (xs++[v])
 | _,_,.nil=>.cons k .nil
 | _,_,.cons a b=>.cons a (aFW k b)
structure ZW(X:Cx)(aB:List (qv×Obj))(σ:L2.St)(F1:Hp)(L1:List qv)(S1:aF)(SA z TI TO i1 i2:qv)(ds:List D)(H F:Hp)(vs:List V)(s:qj):Prop where
 inv:Inv X aB σ H s
 same:cB F1 F
 rel:Rel X.K F L1 S1 H
 free:F SA=qz
 lst:H SA=qq (.lst vs)
 den:DenL X.K F ds vs
 fp:∀ c∈[z,TI,TO,i1,i2],gH X aB H c
structure ZH(z TI TO i1 i2 a b:qv)(t u:Bool)(i:Nat)(h:Heap):Prop where
 ti:zk h TI (.ref i1) (.ref i2)
 q1:fY t h i1 a i
 q2:fY u h i2 b i
 to:∃ o,h.get? TO=qq o
 z:(vv h z TI TO .none/\∃ x y,zk h TO x y)\/∃ a0 f,jV h z TI TO a0 f/\∃ o,h.get? a0=qq o
theorem ZH.zlt{z TI TO i1 i2 a b:qv}{t u:Bool}{i:Nat}{h:Heap}(x:ZH z TI TO i1 i2 a b t u i h):∃ o,h.get? z=qq o:=by
 rcases x.z with ⟨y,_⟩ | ⟨_,_,y,_⟩
 ·exact⟨_,y⟩
 ·exact⟨_,y⟩
theorem ZH.keep{z TI TO i1 i2 a b:qv}{t u:Bool}{i:Nat}{h h':Heap}(x:ZH z TI TO i1 i2 a b t u i h)(k:∀ c o,c∈[z,TI,TO,i1,i2]->h.get? c=qq o->h'.get? c=qq o)(k2:∀ c o,h.get? c=qq o->∃ o',h'.get? c=qq o'):ZH z TI TO i1 i2 a b t u i h':=by
 refine⟨k _ _ (by simp) x.ti,x.q1.at λ o e=>k _ _ (by simp) e,x.q2.at λ o e=>k _ _ (by simp) e,let ⟨o,e⟩:=x.to;k2 _ _ e,?_⟩
 rcases x.z with ⟨y,p,q,r⟩ | ⟨a0,f,y,o,e⟩
 ·exact .inl ⟨k _ _ (by simp) y,p,q,k _ _ (by simp) r⟩
 ·exact .inr ⟨a0,f,k _ _ (by simp) y,k2 _ _ e⟩
section
variable {X : Cx}{aB : List (qv×Obj)}{σ : L2.St}{F1 : Hp}{L1 : List qv}{S1 : aF}{SA z TI TO i1 i2 a b : qv}{t u : Bool}{ds : List D}{H F : Hp}{vs : List V}{s : qj}{xs ys : List V}{ds1 ds2 : List D}{A : zv}{E : qx -> qj -> Prop}{i : Nat}
theorem aOk{Q:Option qx->qj->Prop}(hh:A.in1.handled=qz)(Z:ZA z TI TO i1 i2 [i1,a] [i2,b])(n1:a≠i1)(n2:b≠i2)(sq1:Sq t X.K F1 a xs)(dl1:DenL X.K F1 ds1 xs)(sq2:Sq u X.K F1 b ys)(dl2:DenL X.K F1 ds2 ys)
 (hw:ZW X aB σ F1 L1 S1 SA z TI TO i1 i2 ds H F vs s) (hz:ZH z TI TO i1 i2 a b t u i s.heap) {d:D} (hd:(cX ds1 ds2)[i]? = qq d)
 (hQ:∀ s' p H' F',ZW X aB σ F1 L1 S1 SA z TI TO i1 i2 ds H' F' vs s'->ZH z TI TO i1 i2 a b t u (i+1) s'.heap->Den X.K F' d (.ref p)->Q (qq (.ref p)) s'):qk (model X.prog X.w) A (vq (.ref z)) Q E s:=by
 obtain⟨d1,d2,e1,e2,rfl⟩:=zG ds1 ds2 i d hd;obtain⟨x,hx,dx⟩:=dl1.get e1;obtain⟨y,hy,dy⟩:=dl2.get e2;have I:=hw.inv;obtain⟨gK,rv1,pl1⟩:=jC I (hV (hw.same.trans hw.rel.sub) sq1);obtain⟨eI,rv2,pl2⟩:=jC I (hV (hw.same.trans hw.rel.sub) sq2);obtain⟨u1,hu1,ru1⟩:=rv1.get hx;obtain⟨u2,hu2,ru2⟩:=rv2.get hy;have lt1:i<gK.toArray.size:=by rw[yAg];exact(gIm hu1).1
 have lt2:i<eI.toArray.size:=by rw[yAg];exact(gIm hu2).1
 have D1:=nP (prog:=X.prog) (w:=X.w) (A:=A.in1) hh t i1 a n1 gK.toArray;have D2:=nP (prog:=X.prog) (w:=X.w) (A:=A.in1) hh u i2 b n2 eI.toArray;have hp:H s.heap.objs.size=qz:=I.fresh;have bR:∀ x' y' h' tk,gK.toArray[i]? = qq x'->eI.toArray[i]? = qq y'->zk h' TI (.ref i1) (.ref i2)->fY t h' i1 a (i+1)->fY u h' i2 b (i+1)->zk h' s.heap.objs.size x' y' ->
  (∀ c o,c≠z->c≠TO->c≠i1->c≠i2->s.heap.get? c=qq o->h'.get? c=qq o)->(∃ o,h'.get? TO=qq o)->(∃ a0 f,jV h' z TI TO a0 f/\∃ o,h'.get? a0=qq o)->Q (qq (.ref s.heap.objs.size)) {s with heap:=h',toks:=tk }:=λ x' y' h' tk px py ti q1 q2 hT hk hto hzb=>by
  have ex:x'=u1:=by rw[yDo,hu1] at px;exact(Option.some.inj px).symm
  have ey:y'=u2:=by rw[yDo,hu2] at py;exact(Option.some.inj py).symm
  subst ex ey;have I2:Inv X aB σ (bD H s.heap.objs.size (.tup [x,y])) {s with heap:=h',toks:=tk }:=by
   refine yB I hw.fp (λ c o hb e'=>?_) (yAb _) ⟨by show 2<=qy;decide,[x',y'],.cons ru1 (.cons ru2 .nil),⟨_,hT,rfl,0,rfl⟩⟩
   exact hk c o (λ q=>hb (by simp[q])) (λ q=>hb (by simp[q])) (λ q=>hb (by simp[q])) (λ q=>hb (by simp[q])) e'
  have hF:F s.heap.objs.size=qz:=hw.rel.sub.free hp;have neS:SA≠s.heap.objs.size:=λ q=>by rw[<- q,hw.lst] at hp;cases hp
  refine hQ _ s.heap.objs.size _ (bD F s.heap.objs.size (.tup [x,y])) ⟨I2,hw.same.trans (dW hF),hw.rel.new hp,by rw[bL neS];exact hw.free,by rw[bL neS];exact hw.lst,hw.den.mono (dW hF),λ c hc=>?_⟩ ⟨ti,q1,q2,hto,.inr hzb⟩ ?_
  ·have f:=hw.fp c hc;have:c≠s.heap.objs.size:=by
    have hc':∃ o,s.heap.get? c=qq o:=by
     simp only[yCv,yCe,or_false] at hc;rcases hc with rfl | rfl | rfl | rfl | rfl
     ·exact hz.zlt
     ·exact⟨_,hz.ti⟩
     ·exact hz.to
     ·obtain⟨o,ho,_⟩:=hz.q1.obj;exact⟨o,ho⟩
     ·obtain⟨o,ho,_⟩:=hz.q2.obj;exact⟨o,ho⟩
    obtain⟨o,ho⟩:=hc';exact xAk (xAa ho)
   exact⟨by rw[bL this];exact f.1,f.2⟩
  ·exact .tup (bS.of cY) (.cons (dx.mono (hw.same.trans (dW hF))) (.cons (dy.mono (hw.same.trans (dW hF))) .nil))
 rcases hz.z with ⟨hz0,p,q,dU⟩ | ⟨a0,f,hzb,ha0⟩
 ·refine aEp D1 D2 Z hz0 hz.ti dU ⟨hz.q1,pl1⟩ ⟨hz.q2,pl2⟩ lt1 lt2 λ x' y' h₁ tk px py hz₁ hTO₁ hTI₁ s1 s2 hT₁ hsz hk=>?_
  exact bR x' y' h₁ tk px py hTI₁ s1.1 s2.1 hT₁ hk ⟨_,hTO₁⟩ ⟨s.heap.objs.size,false,hz₁,_,hT₁⟩
 ·refine aKR D1 D2 Z hzb ha0 hz.ti ⟨hz.q1,pl1⟩ ⟨hz.q2,pl2⟩ lt1 lt2 λ x' y' h₁ tk px py hz₁ hTI₁ s1 s2 hT₁ hsz hk=>?_
  refine bR x' y' h₁ tk px py hTI₁ s1.1 s2.1 hT₁ (λ c o c1 _ c3 c4 e=>hk c o c1 c3 c4 e) (let ⟨o,e⟩:=hz.to;⟨o,hk _ o Z.TOz Z.TOi1 Z.TOi2 e⟩) ⟨a0,true,hz₁,?_⟩
  obtain⟨o,ho⟩:=ha0
  by_cases c1:a0=z
  ·rw[c1];exact⟨_,hz₁⟩
  by_cases c2:a0=i1
  ·rw[c2];obtain⟨o,ho,_⟩:=s1.1.obj;exact⟨o,ho⟩
  by_cases c3:a0=i2
  ·rw[c3];obtain⟨o,ho,_⟩:=s2.1.obj;exact⟨o,ho⟩
  exact⟨o,hk a0 o c1 c2 c3 ho⟩
theorem aPY{p:qv}{d:D}{aG:List qx}{n:Nat}{tk:Nat}(hL:SA ∉ L1)(hw:ZW X aB σ F1 L1 S1 SA z TI TO i1 i2 ds H F vs s)(hz:ZH z TI TO i1 i2 a b t u i s.heap)(hd:Den X.K F d (.ref p))(hl:vs.length+1<=qy)
 (rv:aS vs aG) (e:s.heap.get? SA=qq {cls:=.type "list",data:=.seq aG.toArray n }) :
 ∃ H',ZW X aB σ F1 L1 S1 SA z TI TO i1 i2 (ds++[d]) H' F (vs++[.ref p]) {s with heap:=s.heap.update SA (Obj.mapSeq (·.push (.ref p))),toks:=tk }/\ZH z TI TO i1 i2 a b t u i (s.heap.update SA (Obj.mapSeq (·.push (.ref p)))):=by
 have I3:Inv X aB σ (bD H SA (.lst (vs++[.ref p]))) {s with heap:=s.heap.update SA (Obj.mapSeq (·.push (.ref p))),toks:=tk }:=hw.inv.lset (its':=aG++[.ref p]) hw.lst e (by simp) (aS.append rv (.cons (show bC (.ref p) (Value.ref p) from rfl) .nil)) (by rw[xAo];exact hl)
 have ne:∀ c∈[z,TI,TO,i1,i2],c≠SA:=λ c hc q=>by
  have:=(hw.fp c hc).1;rw[q,hw.lst] at this;cases this
 refine⟨_,⟨I3,hw.same,Rel.relay hw.rel hw.free hL,hw.free,cY,aFW hd hw.den,λ c hc=>⟨by rw[bL (ne c hc)];exact(hw.fp c hc).1,(hw.fp c hc).2⟩⟩,hz.keep (λ c o hc q=>(yBy _ _ (Ne.symm (ne c hc))).trans q) λ c o q=>?_⟩
 by_cases c1:c=SA
 ·subst c1;exact⟨_,PySem.IsL.update e _⟩
 ·exact⟨o,(yBy _ _ (Ne.symm c1)).trans q⟩
theorem aNT{R:Result->qj->Prop}{res:qx}(hh:A.in1.in1.handled=qz)(Z:ZA z TI TO i1 i2 [i1,a] [i2,b])(n1:a≠i1)(n2:b≠i2)(sq1:Sq t X.K F1 a xs)(dl1:DenL X.K F1 ds1 xs)(sq2:Sq u X.K F1 b ys)(dl2:DenL X.K F1 ds2 ys)(hL:SA ∉ L1)(bZ:(cX ds1 ds2).length<=1000000)
 (hR:∀ s' H' F' vs',ZW X aB σ F1 L1 S1 SA z TI TO i1 i2 (cX ds1 ds2) H' F' vs' s'->R (.ok (.ret res)) s') :
 ∀ (k i:Nat) (s:qj) (H F:Hp) (vs:List V),(cX ds1 ds2).length-i=k->i<=(cX ds1 ds2).length->ZW X aB σ F1 L1 S1 SA z TI TO i1 i2 ((cX ds1 ds2).take i) H F vs s->ZH z TI TO i1 i2 a b t u i s.heap ->
 vx (model X.prog X.w) A (.builtin "list.extend.loop" ⟨[.ref SA,.ref z,res],[]⟩) R s:=by
 intro k
 induction k with
 | zero =>
   intro i s H F vs hk hi hw hz;have hin:i=(cX ds1 ds2).length:=by omega
   refine codeAny_builtin yGm ?_;rw[Around.under_plainId yDr _];show qk _ A.in1 (vq (.ref z) >>= _) _ _ s;rw[hin,yAf] at hw;have I:=hw.inv;obtain⟨gK,rv1,pl1⟩:=jC I (hV (hw.same.trans hw.rel.sub) sq1);obtain⟨eI,rv2,pl2⟩:=jC I (hV (hw.same.trans hw.rel.sub) sq2);have D1:=nP (prog:=X.prog) (w:=X.w) (A:=A.in1.in1) hh t i1 a n1 gK.toArray;have D2:=nP (prog:=X.prog) (w:=X.w) (A:=A.in1.in1) hh u i2 b n2 eI.toArray;have l1:=rv1.length;have l2:=rv2.length;have m1:=dl1.length;have m2:=dl2.length;rw[tM] at hin;have hend:i=gK.toArray.size\/(i<gK.toArray.size/\i=eI.toArray.size):=by
    rw[yAg,yAg];omega
   have bR:∀ h' tk,(∀ c o,c≠z->c≠TO->c≠i1->c≠i2->s.heap.get? c=qq o->h'.get? c=qq o)->R (.ok (.ret res)) {s with heap:=h',toks:=tk }:=λ h' tk hk' =>
    hR _ H F vs ⟨aE8 I hw.fp λ c o hb e'=>hk' c o (λ q=>hb (by simp[q])) (λ q=>hb (by simp[q])) (λ q=>hb (by simp[q])) (λ q=>hb (by simp[q])) e',hw.same,hw.rel,hw.free,hw.lst,hw.den,hw.fp⟩
   rcases hz.z with ⟨hz0,p,q,dU⟩ | ⟨a0,f,hzb,ha0⟩
   ·exact wB (aEr D1 D2 Z hz0 hz.ti dU ⟨hz.q1,pl1⟩ ⟨hz.q2,pl2⟩ hend λ h₁ tk hk'=>wP (bR h₁ tk hk'))
   ·exact wB (aKW D1 D2 Z hzb ha0 hz.ti ⟨hz.q1,pl1⟩ ⟨hz.q2,pl2⟩ hend λ h₁ tk hk'=>wP (bR h₁ tk λ c o c1 _ c3 c4 e=>hk' c o c1 c3 c4 e))
 | succ k ih =>
   intro i s H F vs hk hi hw hz;have hlt:i<(cX ds1 ds2).length:=by omega
   refine codeAny_builtin yGm ?_;rw[Around.under_plainId yDr _];show qk _ A.in1 (vq (.ref z) >>= _) _ _ s;refine wB (aOk hh Z n1 n2 sq1 dl1 sq2 dl2 hw hz (yAa hlt) λ s' p H' F' hw' hz' hd=>?_)
   obtain⟨hv,aG,n,rv,hl,e⟩:=hw'.inv.lstM hw'.lst;have vl:vs.length=i:=by
    have:=hw'.den.length;rw[yCc] at this;omega
   have hs:1000000<=qy:=aMc;show qk _ A.in1 (updateSeq SA (·.push (.ref p)) >>= _) _ _ _;obtain⟨H3,hw3,hz3⟩:=aPY (tk:=s'.toks) hL hw' hz' hd (by omega) rv e
   rw[show(cX ds1 ds2).take i++[(cX ds1 ds2)[i]]=(cX ds1 ds2).take (i+1) from (yFn hlt).symm] at hw3
   refine wB (yq e rfl (wP ⟨plainId_quiet yDr _,ih (i+1) _ H3 F' _ (by omega) hlt hw3 hz3⟩) (by simp;omega) (by simp;omega))
end
theorem aMe:typeLookup (.type "zip") "__len__" = pure qz:=by rw[typeLookup_type,builtinLookup_eq_fast];kernel_rfl
theorem aLv:typeLookup (.type "zip") "__length_hint__" = pure qz:=by rw[typeLookup_type,builtinLookup_eq_fast];kernel_rfl
section
variable {prog : qu}{w : zq}{A : zv}{s : qj}{R : Result -> qj -> Prop}{z TI TO : qv}{f0 : qx}
theorem aLN(S:qv)(res:qx)(c₀:Nat)(hz:vv s.heap z TI TO f0)(hSz:S≠z)(hS:s.heap.get? S=qq {cls:=.type "list",data:=.seq #[] c₀ })
 (hR:∀ h' c,(∀ b o,b≠S->s.heap.get? b=qq o->h'.get? b=qq o)->h'.get? S=qq {cls:=.type "list",data:=.seq #[] c }->vx (model prog w) A (.builtin "list.extend.loop" ⟨[.ref S,.ref z,res],[]⟩) R {s with heap:=h' }) :
 qk (model prog w) A.in1 (yDf (.ref S) (.ref z) res)
  (λ bR s'=>match bR with | .done f=>R (.ok f) s' | .again c'=>c'.quiet=true/\vx (model prog w) A c' R s') (λ e s'=>R (.error e) s') s:=by
 have hT:s.TypeIs (.ref z) "zip":=⟨_,hz,rfl⟩;unfold yDf;refine wB (wpAny_typeOf hT ?_);have h1:yGs (.ref S) (.ref z)=false:=by simp[yGs,hSz]
 have h2:(Value.type "zip" == Value.type "list")=false:=by decide
 have h3:(Value.type "zip" == Value.type "tuple")=false:=by decide
 simp only[h1,h2,h3,yFf,yAo,if_false];refine wB (kq hz ?_);refine wB (zy ?_);unfold Builtin.List.listLengthHint;refine wB (kx hT aMe ?_);show qk _ A.in1 (specialOf (Value.ref z) (Str.ofString "__length_hint__") >>= _) _ _ _;refine wB (kx hT aLv ?_);refine wP ?_;show qk _ A.in1 (rule "list.extend.makes-room" >>= λ _=>Builtin.List.listTouch (.ref S) >>= λ _ =>
  again (.builtin "list.extend.loop" ⟨[.ref S,.ref z,res],[]⟩)) _ _ _
 refine wB (wq ?_);refine wB ?_;show qk _ A.in1 (updateSeq S (·.push .none) >>= λ _=>updateSeq S (·.pop)) _ _ _
 refine wB (yq hS rfl ?_);have hS₂:=yDl (Obj.mapSeq (·.push Value.none)) hS rfl;refine yq (hz:=by seq_fits) hS₂ rfl ?_
 have hS₃:=yDl (Obj.mapSeq (·.pop)) hS₂ rfl;have oth:∀ b o,b≠S->s.heap.get? b=qq o->((s.heap.update S (Obj.mapSeq (·.push Value.none))).update S (Obj.mapSeq (·.pop))).get? b=qq o:=
  λ b o hb e=>(yBy _ _ (Ne.symm hb)).trans ((yBy _ _ (Ne.symm hb)).trans e)
 exact wP ⟨plainId_quiet yDr _,hR _ _ oth hS₃⟩
theorem aNN(S:qv)(hz:vv s.heap z TI TO f0)(hSz:S≠z)(hS:s.heap.get? S=qq {cls:=.type "list",data:=.seq #[] })
 (hR:∀ h' c,(∀ b o,b≠S->s.heap.get? b=qq o->h'.get? b=qq o)->h'.get? S=qq {cls:=.type "list",data:=.seq #[] c }->vx (model prog w) A (.builtin "list.extend.loop" ⟨[.ref S,.ref z,.none],[]⟩) R {s with heap:=h' }) :
 qk (model prog w) A.in1 (Builtin.«list.__init__» ⟨[.ref S,.ref z],[]⟩)
  (λ bR s'=>match bR with | .done f=>R (.ok f) s' | .again c'=>c'.quiet=true/\vx (model prog w) A c' R s') (λ e s'=>R (.error e) s') s:=by
 show qk _ A.in1 (yHe (.ref S) >>= λ old=>Builtin.List.listUpdate (.ref S) (λ _=>#[]) >>= λ _=>letGo old.toList.reverse >>= λ _=>yDf (.ref S) (.ref z) .none) _ _ s
 refine wB ?_;unfold yHe;refine wB (xq hS rfl (wP ?_));show qk _ A.in1 (updateSeq S (λ _=>#[]) >>= λ _=>letGo (#[]:Array qx).toList.reverse >>= λ _=>yDf (.ref S) (.ref z) .none) _ _ s
 have hS2:=yDl (Obj.mapSeq (λ _=>(#[]:Array qx))) hS rfl
 have oth:∀ b o,b≠S->s.heap.get? b=qq o->(s.heap.update S (Obj.mapSeq (λ _=>(#[]:Array qx)))).get? b=qq o:=λ b o hb e=>(yBy _ _ (Ne.symm hb)).trans e
 refine wB (yq hS rfl (wB (ky ?_)));exact aLN S .none _ (oth _ _ (Ne.symm hSz) hz) hSz hS2 λ h' c hk hS'=>hR h' c (λ b o hb e=>hk b o hb (oth b o hb e)) hS'
end
section
variable {prog : qu}{w : zq}{A : zv}{E : qx -> qj -> Prop}{s : qj}{z TI TO : qv}{f0 : qx}
theorem aK7{Q:qx->qj->Prop}(hz:vv s.heap z TI TO f0)
 (hQ:∀ h' c (R:Result->qj->Prop),(∀ b o,s.heap.get? b=qq o->h'.get? b=qq o)->h'.get? s.heap.objs.size=qq {cls:=.type "list",data:=.seq #[] c }->(∀ s',Q (.ref s.heap.objs.size) s'->R (.ok (.ret .none)) s')->vx (model prog w) A.in1 (.builtin "list.extend.loop" ⟨[.ref s.heap.objs.size,.ref z,.none],[]⟩) R {s with heap:=h' }) :
 qk (model prog w) A (call (.type "list") [.ref z]) Q E s:=by
 have hSz:s.heap.objs.size≠z:=yEc (xAa hz);have hS:(s.heap.push {cls:=.type "list",data:=.seq #[] }).get? s.heap.objs.size=qq {cls:=.type "list",data:=.seq #[] }:=xAe _ rfl;refine callType_codes (Q₁:=λ ob s1=>ob=.ref s.heap.objs.size/\s1={s with heap:=s.heap.push {cls:=.type "list",data:=.seq #[] } }) PySem.F.called_list (PySem.F.typeCall_list_1 _) PySem.F.entry_list_init (code_list_new _ ⟨rfl,rfl⟩) λ ob s1 h1=>?_
 obtain⟨rfl,rfl⟩:=h1;refine⟨⟨_,hS,rfl⟩,PySem.F.args_list_init_2 _ _,aNN _ (hpS _ hz) hSz hS λ h' c hk hS'=>?_⟩
 exact hQ h' c _ (λ b o e=>hk b o (xAk (xAa e)) (hpS _ e)) hS' λ s' q=>⟨rfl,q⟩
end
noncomputable def sB(fa fb:FE):FL:=aJ7 (qB fa fb)
section
variable {X : Cx}
theorem aQC{a b:qw}{fa fb:FE}{p p2 pos pos2:Pos}(ha:PE X a (aW X.K fa))(hb:PE X b (aW X.K fb))(hc:X.calm=true)(hg:Gl X "list")(hm:X.mg "list" = qz)(hg2:Gl X "zip")(hm2:X.mg "zip" = qz)
 (hs:qo [a,b] X.env=(false,eval a X.env)::qo [b] X.env) (hs2:qo [b] X.env=[(false,eval b X.env)]):PE X (.Call (.Name "list" p) [.Call (.Name "zip" p2) [a,b] [] pos2] [] pos) (iK X.K (sB fa fb)):=by
 rintro aB s σ H Q I ⟨F,L,S,env,ds,S',R,E,e,q⟩;obtain⟨⟨ds',S1'⟩,e0,e⟩:=bind_some e;obtain⟨⟨w1,S1⟩,e1,e2⟩:=bind_some e0;obtain⟨⟨w2,S2⟩,e3,e4⟩:=bind_some e2;obtain⟨ds1,e5,e6⟩:=bind_some e4;obtain⟨ds2,e7,e8⟩:=bind_some e6;dsimp only at e e3 e5 e7;cases e8
 split at e
 ·rename_i bZ;cases e;refine xu (lZ I hg hm (show vw "list" = qq (.type "list") by decide +kernel) ?_)
  refine yBg ?_ rfl rfl;show qk _ _ (spliced ((false,eval (.Call (.Name "zip" p2) [a,b] [] pos2) X.env)::[])) _ _ s;refine Calls.spliced_cons ?_;refine xu (lZ I hg2 hm2 boot_zip ?_);refine yBg ?_ hs (by rw[hs2];rfl)
  refine bE (nY ha (nY hb aDk hs2) hs pos2 aB s σ H (λ vs H1=>∃ v v2 F1 L1,vs=[v,v2]/\Gr F L F1 L1/\Rel X.K F1 L1 S2 H1/\eH X.K F1 L1 w1 v/\eH X.K F1 L1 w2 v2) I ⟨F,L,S,env,[w1,w2],_,R,E,by unfold cR;rw[e1];dsimp only[yDe];rw[e3];rfl,λ F1 L1 H1 vs g1 R1 d1=>by
   cases d1 with
   | cons d0 dr =>
     cases dr with
     | cons d2 dr=>cases dr;exact⟨_,_,F1,L1,rfl,g1,R1,d0,d2⟩⟩) λ us s1 ⟨vs,H1,I1,r1,v,v2,F1,L1,ev,g1,R1,d1,d2⟩=>?_
  subst ev;obtain⟨u1,u2,rfl,ru1,ru2⟩:=aAt r1;obtain⟨t,l1,xs,rfl,sq1,dl1⟩:=yR e5 d1;obtain⟨u,l2,ys,rfl,sq2,dl2⟩:=yR e7 d2;cases ru1;cases ru2;obtain⟨gK,rv1,pl1⟩:=jC I1 (hV R1.sub sq1);obtain⟨eI,rv2,pl2⟩:=jC I1 (hV R1.sub sq2);have a1:=pl1.lt;have a2:=pl2.lt;refine aFw pl1 pl2 λ h' hz cV dU hi1 hi2 hsz hk=>?_
  refine Calls.spliced_nil ?_;have I2:Inv X aB σ H1 {s1 with heap:=h' }:=I1.kept (t':=s1.toks) hk
  have hb':∀ b∈[s1.heap.objs.size+4,s1.heap.objs.size+2,s1.heap.objs.size+3,s1.heap.objs.size,s1.heap.objs.size+1],s1.heap.objs.size<=b/\b<s1.heap.objs.size+5:=λ b hb=>by
   simp only[yCv,yCe,or_false] at hb;omega
  have Z:=aIe (n:=s1.heap.objs.size) (a:=l1) (b:=l2) a1 a2;refine aK7 hz λ h2 c R2 hk2 hS hR2=>?_
  dsimp only at hk2 hS hR2 ⊢;have fr:H1 h'.objs.size=qz:=I2.hok.fresh (yAb _);have I3:Inv X aB σ (bD H1 h'.objs.size (.lst [])) {s1 with heap:=h2 }:=I2.laid (t':=s1.toks) hk2 (yAb _) ⟨yEx _,[],c,.nil,hS⟩
  have nS:h'.objs.size ∉ L1:=R1.notin fr;have fpk:∀ b∈[s1.heap.objs.size+4,s1.heap.objs.size+2,s1.heap.objs.size+3,s1.heap.objs.size,s1.heap.objs.size+1],gH X aB (bD H1 h'.objs.size (.lst [])) b:=λ b hb=>by
   have f:=I1.fpOk (hb' b hb).1 (I1.hok.fresh (hb' b hb).1);exact⟨by rw[bL (by rw[hsz];exact xAk (hb' b hb).2)];exact f.1,f.2⟩
  refine aNT (X:=X) (A:=X.A.in1) (aB:=aB) (σ:=σ) (F1:=F1) (L1:=L1) (S1:=S2) (ds1:=ds1) (ds2:=ds2) (show X.A.in1.in1.in1.handled=qz from I.ok.hd hc) Z (xAk a1) (xAk (yFr a2)) sq1 dl1 sq2 dl2 nS bZ (λ s' H' F' vs' hw=>hR2 s' ?_) _ 0 _ (bD H1 h'.objs.size (.lst [])) F1 [] rfl (yEx _)
   ⟨I3,cB.refl _,R1.lay fr,R1.sub.free fr,cY,.nil,fpk⟩ ⟨hk2 _ _ cV,hi1.at λ o e=>hk2 _ _ e,hi2.at λ o e=>hk2 _ _ e,⟨_,hk2 _ _ dU⟩,.inl ⟨hk2 _ _ hz,_,_,hk2 _ _ dU⟩⟩
  exact⟨.ref h'.objs.size,H',hw.inv,rfl,q F' L1 H' _ vs' (g1.trans ⟨hw.same,[],by simp⟩) hw.rel hw.free nS hw.lst hw.den⟩
 ·cases e
end
section
variable {prog : qu}{w : zq}{A : zv}{E : qx -> qj -> Prop}{s : qj}
end
section
variable {X : Cx}{tg : qw}
end
section
variable {X : Cx}
noncomputable def aKe(K:FrG):V->List V->Hp->VK->Prop:=λ x vs H Q=>(∃ (a:qv) (ns:List Int) (k:Int),x=.ref a/\vs=[.int k]/\bM K H a (ns.map V.int)/\k∈ns/\Q (.int (ns.idxOf k:Nat)) H)\/(∃ (a:qv) (bs:List Bool) (k:Bool),x=.ref a/\vs=[.bl k]/\bM K H a (bs.map V.bl)/\k∈bs/\Q (.int (bs.idxOf k:Nat)) H)
noncomputable def aDQ(k:Bool):qx->Bool
 | .bool b=>b==k
 | _=>false
theorem aT5{bs:List Bool}:∀ {us:List qx},aS (bs.map V.bl) us->us=bs.map Value.bool:=by
 induction bs with
 | nil=>intro us r;rw[yFa] at r;cases r;rfl
 | cons b bs ih =>
   intro us r;rw[yAt] at r;cases r with
   | cons r1 r2 =>
     cases r1;rw[ih r2];rfl
theorem aWb(aB:List (qv×Obj))(s:qj)(σ:L2.St)(H:Hp)(v:qx)(us:List qx)(Q:VK)(I:Inv X aB σ H s)(a:qv)(bs:List Bool)(k:Bool)(rx:bC (.ref a) v)(rv:aS [.bl k] us)(sq:bM X.K H a (bs.map V.bl))(hk:k∈bs)(q:Q (.int (bs.idxOf k:Nat)) H):qk (model X.prog X.w) X.A (call (.builtin "list.index") (v::us)) (EP X aB σ Q) X.xe s:=by
 cases rx;obtain⟨u,rfl,ru⟩:=rv.one;cases ru;obtain⟨aG,r,pl,hz⟩:=I.list sq;obtain rfl:=aT5 r;obtain⟨⟨cls,dd,data,sl⟩,ho,hc,n,hd⟩:=pl.isList;simp only at hc hd;subst hc hd;have hn:=mF;have hj:bs.idxOf k<bs.length:=List.idxOf_lt_length_iff.mpr hk;rw[yAd] at hz;refine jv yFi ⟨_,ho,rfl⟩ PySem.F.entry_list_index (yGn _ _)
  (SeqAt.list_indexAt a (bs.map Value.bool).toArray n dd sl (.bool k) (aDQ k) (bs.idxOf k) (by simpa using hj) (by omega) ?_ ?_) ⟨ho,λ y hy=>?_,⟨.int (bs.idxOf k:Nat),H,I.tok _,⟨_,rfl⟩,q⟩⟩
 ·simp[aDQ]
 ·intro j hjs hlt;have:=List.not_of_lt_findIdx (p:=(· == k)) (xs:=bs) hlt;simp only[List.getElem_toArray,yEu,aDQ];simpa using this
 ·have hy':y∈bs.map Value.bool:=by simpa using hy
  obtain⟨b,_,rfl⟩:=List.mem_map.mp hy';exact SeqAt.EqAt.bool_bool b k
theorem aNy:MtM X "list.index" (aKe X.K):=by
 intro aB s σ H x vs v us Q I rx rv h;rcases h with h | ⟨a,bs,k,rfl,rfl,sq,hk,q⟩
 case inr=>exact aWb aB s σ H v us Q I a bs k rx rv sq hk q
 obtain⟨a,ns,k,rfl,rfl,sq,hk,q⟩:=h;cases rx;obtain⟨u,rfl,ru⟩:=rv.one;obtain⟨t,rfl⟩:=ru;obtain⟨aG,r,pl,hz⟩:=I.list sq;have hi:=aL3 r;obtain⟨⟨cls,dd,data,sl⟩,ho,hc,n,hd⟩:=pl.isList;simp only at hc hd;subst hc hd;have bZ:=hi.length;have hn:=mF;have hj:ns.idxOf k<ns.length:=List.idxOf_lt_length_iff.mpr hk;rw[yAd] at hz;refine jv yFi ⟨_,ho,rfl⟩ PySem.F.entry_list_index (yGn _ _)
  (SeqAt.list_indexAt a aG.toArray n dd sl (.int k t) (isInt k) (ns.idxOf k) (by simpa [bZ] using hj) (by omega) ?_ ?_) ⟨ho,λ y hy=>(eq_isInt k t hi y (by simpa using hy)).at _ _,⟨.int (ns.idxOf k:Nat),H,I.tok _,⟨_,rfl⟩,q⟩⟩
 ·show isInt k aG[ns.idxOf k]=true;rw[isInt_at k hi _ (by omega) hj]
  simpa using List.getElem_idxOf hj
 ·intro j hjs hlt;show isInt k aG[j]=false;rw[isInt_at k hi j (by simpa using hjs) (by omega)]
  exact ne_of_lt_idxOf hlt _
noncomputable def aAX(S:aF):W->W->Option (W×aF)
 | .d (.list xs),.d (.int k)=>(mH xs).bind λ ns=>if k∈ns then qq (.d (.int ((ns.idxOf k:Nat):Int)),S) else qz
 | .d (.list xs),.d (.bool k)=>(lY xs).bind λ ns=>if k∈ns then qq (.d (.int ((ns.idxOf k:Nat):Int)),S) else qz
 | _,_=>qz
theorem aMX{S S':aF}{o x w:W}(h:aAX S o x=qq (w,S')):(∃ xs k ns,o=.d (.list xs)/\x=.d (.int k)/\mH xs=qq ns/\k∈ns/\w=.d (.int ((ns.idxOf k:Nat):Int))/\S'=S)\/(∃ xs k ns,o=.d (.list xs)/\x=.d (.bool k)/\lY xs=qq ns/\k∈ns/\w=.d (.int ((ns.idxOf k:Nat):Int))/\S'=S):=by
 unfold aAX at h
 split at h
 case h_2 =>
  rename_i xs k;obtain⟨ns,e1,e⟩:=bind_some h
  by_cases c:k∈ns
  ·rw[if_pos c] at e;cases e;exact .inr ⟨xs,k,ns,rfl,rfl,e1,c,rfl,rfl⟩
  ·rw[if_neg c] at e;cases e
 ·rename_i xs k;obtain⟨ns,e1,e⟩:=bind_some h
  by_cases c:k∈ns
  ·rw[if_pos c] at e;cases e;exact .inl ⟨xs,k,ns,rfl,rfl,e1,c,rfl,rfl⟩
  ·rw[if_neg c] at e;cases e
 ·cases h
noncomputable def aAS(fo fe:FE):FE:=f2 fo fe aAX
theorem aU6{K:FrG}{fo fe:FE}(σ:L2.St)(H:Hp)(Q:VK)(h:aW K (aAS fo fe) σ H Q):tBM K "list" (aKe K) (aW K fo) (eT K (cR fe gW)) σ H Q:=by
 obtain⟨F,L,S,env,w,S',R,E,e,q⟩:=h;obtain⟨⟨wo,S1⟩,e1,e⟩:=bind_some e;obtain⟨⟨we,S2⟩,e2,e⟩:=bind_some e;rcases aMX e with ⟨xs,k,ns,rfl,rfl,e5,hk,rfl,rfl⟩ | ⟨xs,k,ns,rfl,rfl,e5,hk,rfl,rfl⟩
 case inr =>
  refine⟨F,L,S,env,_,S1,R,E,e1,λ F1 L1 H1 o g1 R1 d1=>?_⟩
  cases (show Den K F1 (.list xs) o from d1) with
  | lst sq dl =>
    obtain rfl:=xW dl e5;refine⟨.inl ⟨rfl,_,R1.sub.seq sq⟩,F1,L1,S1,env,[.d (.bool k)],S',R1,E.mono g1,?_,λ F2 L2 H2 vs g2 R2 d2=>?_⟩
    ·unfold cR;rw[e2];rfl
    ·cases d2 with
     | cons dd dr =>
       cases dr;cases (show Den K F2 (.bool k) _ from dd)
       exact .inr ⟨_,ns,k,rfl,rfl,R2.sub.seq (g2.f.seq sq),hk,q F2 L2 H2 _ (g1.trans g2) R2 (.int _)⟩
 refine⟨F,L,S,env,_,S1,R,E,e1,λ F1 L1 H1 o g1 R1 d1=>?_⟩
 cases (show Den K F1 (.list xs) o from d1) with
 | lst sq dl =>
   obtain rfl:=tR dl e5;refine⟨.inl ⟨rfl,_,R1.sub.seq sq⟩,F1,L1,S1,env,[.d (.int k)],S',R1,E.mono g1,?_,λ F2 L2 H2 vs g2 R2 d2=>?_⟩
   ·unfold cR;rw[e2];rfl
   ·cases d2 with
    | cons dd dr =>
      cases dr;cases (show Den K F2 (.int k) _ from dd)
      exact .inl ⟨_,ns,k,rfl,rfl,R2.sub.seq (g2.f.seq sq),hk,q F2 L2 H2 _ (g1.trans g2) R2 (.int _)⟩
end
noncomputable def oR(fa:FE)(fl fh:FO):FE:=λ env S=>(fa env S).bind λ p=>(fl env p.2).bind λ q=>(fh env q.2).bind λ r=>(dr r.2 p.1).bind λ d=>match d with
 | .list xs=>qq (.d (.list (iG xs q.1 r.1)),r.2)
 | .tuple xs=>qq (.d (.tuple (iG xs q.1 r.1)),r.2)
 | _=>qz
noncomputable def fV(fa:FE):FL:=λ env S=>(fa env S).bind λ p=>match p.1 with
 | .d (.list ds)=>qq (ds,p.2)
 | .d (.tuple ds)=>qq (ds,p.2)
 | _=>qz
section
variable {X : Cx}{pos : Pos}
theorem aWk{a:qw}{lo hi:Option qw}{p2:Pos}{fa:FE}{fl fh:FO}(ha:PE X a (aW X.K fa))(hl:PO X lo (lL X.K fl))(hh:PO X hi (lL X.K fh)):PE X (.Subscript a (.Slice lo hi qz p2) pos) (aW X.K (oR fa fl fh)):=by
 rintro aB s σ H Q I ⟨F,L,S,env,w,S',R,E,e,q⟩;obtain⟨⟨w1,S1⟩,e1,e⟩:=bind_some e;obtain⟨⟨l,S2⟩,e2,e⟩:=bind_some e;obtain⟨⟨h,S3⟩,e3,e⟩:=bind_some e;obtain⟨d,e4,e⟩:=bind_some e;dsimp only at e e2 e3 e4;cases d with
 | list xs =>
   cases e;refine aJY (aUU ha hl hh) aB s σ H Q I ⟨F,L,S,env,_,_,R,E,?_,q⟩;unfold hJ aKh;rw[e1];dsimp only[yDe];rw[e2];dsimp only;rw[e3];dsimp only;rw[e4];rfl
 | tuple xs =>
   cases e;refine aRq ha hl hh aB s σ H Q I ⟨F,L,S,env,_,_,R,E,?_,q⟩;unfold aI1;rw[e1];dsimp only[yDe];rw[e2];dsimp only;rw[e3];dsimp only;rw[e4];dsimp only[aKk]
 | _=>cases e
theorem aW1{tg a:qw}{fa:FE}(ha:PE X a (aW X.K fa)):PI X tg a (iV X.K (fV fa)):=by
 rintro aB s σ H Rr I ⟨F,L,S,env,ds,S',R,E,e,q⟩;obtain⟨⟨w1,S1⟩,e1,e⟩:=bind_some e;dsimp only at e
 split at e
 ·rename_i ds';cases e;refine aT8 ha aB s σ H Rr I ⟨F,L,S,env,_,_,R,E,?_,q⟩;unfold aJ2;rw[e1];rfl
 ·cases e;refine aT4 ha aB s σ H Rr I ⟨F,L,S,env,_,_,R,E,?_,q⟩;unfold aJ6;rw[e1];rfl
 ·cases e
end
inductive Ty where
 | int | bool | str | lst | tup
 deriving DecidableEq
noncomputable def Ty.s:Ty->String
 | .int => "int" | .bool => "bool" | .str => "str" | .lst => "list" | .tup => "tuple"
noncomputable def Ty.n:Ty->Str
 | .int => "int" | .bool => "bool" | .str => "str" | .lst => "list" | .tup => "tuple"
inductive B where
 | len | mx | mn | int | abs | tup | sum | all | any
 deriving DecidableEq
noncomputable def B.g:B->List D->Option D
 | .len=>iT | .mx=>qH | .mn=>pY | .int=>wH | .abs=>aDM | .tup=>uY | .sum=>vW | .all=>aDH | .any=>vX
noncomputable def B.n:B->Str
 | .len => "len" | .mx => "max" | .mn => "min" | .int => "int" | .abs => "abs" | .tup => "tuple" | .sum => "sum" | .all => "all" | .any => "any"
inductive E where
 | var (i:Nat) | int (i:Int) | bl (b:Bool) | non | str (x:Str)
 | bin (op:jk) (a b:E) | un (op:yz) (a:E) | cmp (op:vz) (a b:E) | ltl (a b:E)
 | and (a b:E) | or (a b:E) | not (a:E) | ite (c a b:E)
 | tup (es:E) | lst (es:E) | nil | cons (a r:E)
 | chn (op op':vz) (a b c:E) | con (x:Str) (ts:List Tv)
 | ix (a b:E) | dsp (k l m:Str) (a b c i:E) | tab (x:Str) (aZ:List (Str×Tv)) (k:E) | slL (a lo hi:E) | sl (a lo hi:E) | no
 | call (f:Nat) (es:E) | blt (b:B) (es:E) | isi (a:E) (n:Ty) | bits (a:E) | app (o a:E) | pop (o a:E) | idx (o a:E)
 | lof (a:E) | lzip (a b:E) | lrg1 (a:E) | lrg2 (a b:E) | srt (a:E) | lrev (a:E) | lrep (a b:E) | comp (elt:E) (t:Tg) (it:E) (cond:E)
 | it (a:E) | rng1 (a:E) | rng2 (a b:E) | rng3 (a b c:E) | rrng (a:E) | enm (a:E) | zip (a b:E) | zip3 (a b c:E)
 | fz (a:E) | new (a:E)
abbrev Calls:=Nat->Option (Nat×(List W->aF->Option (W×aF)))
noncomputable def kW(C:Calls)(f:Nat)(fs:FA):FE:=λ env S=>match C f with
 | some (np,call)=>aAo fs np call env S
 | none=>qz
section
variable (C : Calls)
mutual
noncomputable def ev:E->FE
 | .var i=>jH i
 | .int i=>fC (.int i)
 | .bl b=>fC (.bool b)
 | .non=>fC .none
 | .str x=>fC (.str x)
 | .bin op a b=>qC op (ev a) (ev b)
 | .un op a=>xI op (ev a)
 | .cmp op a b=>mS op (ev a) (ev b)
 | .and a b=>vB (ev a) (ev b)
 | .or a b=>vY (ev a) (ev b)
 | .not a=>vN (ev a)
 | .ite c a b=>wG (tv c) (ev a) (ev b)
 | .tup es=>wL (av es)
 | .ix a b=>oT (ev a) (ev b)
 | .tab _ aZ k=>f1 (ev k) (nA (aAJ aZ))
 | .con _ ts=>fC (.tuple (ts.map Tv.d))
 | .sl a lo hi=>oR (ev a) (ov lo) (ov hi)
 | .call f es=>kW C f (av es)
 | .blt b es=>qE (av es) b.g
 | .bits a=>aDa (ev a)
 | .app o a=>fF (ev o) (ev a)
 | .pop o a=>aAN (ev o) (ev a)
 | .idx o a=>aAS (ev o) (ev a)
 | .fz a=>hJ (lv a)
 | .new a=>fD (lv a)
 | _=>λ _ _=>qz
noncomputable def tv:E->FT
 | .and a b=>wM (tv a) (tv b)
 | .or a b=>xG (tv a) (tv b)
 | .not a=>wO (tv a)
 | .var i=>dQ (jH i)
 | .cmp op a b=>dQ (mS op (ev a) (ev b))
 | .ix a b=>dQ (oT (ev a) (ev b))
 | .call f es=>dQ (kW C f (av es))
 | .blt b es=>dQ (qE (av es) b.g)
 | .bin op a b=>dQ (qC op (ev a) (ev b))
 | .bl b=>dQ (fC (.bool b))
 | .no=>lJ
 | _=>λ _ _=>qz
noncomputable def av:E->FA
 | .nil=>gW
 | .cons a r=>cR (ev a) (av r)
 | _=>λ _ _=>qz
noncomputable def ov:E->FO
 | .no=>xA
 | .cons a .nil=>lG (ev a)
 | _=>λ _ _=>qz
noncomputable def lv:E->FL
 | .lst es=>vV (av es)
 | .lof a=>aAH (ev a)
 | .lzip a b=>sB (ev a) (ev b)
 | .lrep a b=>wA (ev a) (ev b)
 | .comp elt t it cond=>gS t (lv it) (tv cond) (ev elt)
 | .it a=>fV (ev a)
 | .rng1 a=>vE (ev a)
 | .rng2 a b=>vM (ev a) (ev b)
 | .rng3 a b c=>aAq (ev a) (ev b) (ev c)
 | .enm a=>uU (ev a)
 | .zip a b=>qB (ev a) (ev b)
 | _=>λ _ _=>qz
end
inductive Sx where
 | skip | seq (a b:Sx) | expr (e:E) | ret (e:E) | nev
 | ifs (c:E) (a b:Sx) | set (i:Nat) (e:E) | setC (nw:Bool) (i:Nat) (e:E) | setT (t:Tg) (e:E) | put (o i e:E)
 | wh (n:Nat) (c:E) (b:Sx) | loop (t:Tg) (it:E) (b:Sx)
noncomputable def xs:Sx->FS
 | .skip=>sG
 | .nev=>λ _ _=>qz
 | .seq a b=>dR (xs a) (xs b)
 | .expr e=>vI (ev C e)
 | .ret e=>oO (ev C e)
 | .ifs c a b=>mW (tv C c) (xs a) (xs b)
 | .set i e=>fR i (ev C e)
 | .setC nw i e=>fR i (match nw with | true=>fD (lv C e) | false=>hJ (lv C e))
 | .setT t e=>aAp t (ev C e)
 | .put o i e=>jE (ev C o) (ev C i) (ev C e)
 | .wh n c b=>gY (tv C c) (xs b) n
 | .loop t it b=>eB t (lv C it) (xs b)
theorem aCS{i}:ev C (.var i)=jH i:=rfl
theorem aR7{i}:ev C (.int i)=fC (.int i):=rfl
theorem aVc{b}:ev C (.bl b)=fC (.bool b):=rfl
theorem aR0:ev C .non=fC .none:=rfl
theorem aSP{x}:ev C (.str x)=fC (.str x):=rfl
theorem aIo{op a b}:ev C (.bin op a b)=qC op (ev C a) (ev C b):=rfl
theorem aJf{op a}:ev C (.un op a)=xI op (ev C a):=rfl
theorem aC5{op a b}:ev C (.cmp op a b)=mS op (ev C a) (ev C b):=rfl
theorem aIc{a b}:ev C (.and a b)=vB (ev C a) (ev C b):=rfl
theorem aIY{a b}:ev C (.or a b)=vY (ev C a) (ev C b):=rfl
theorem aIm{a}:ev C (.not a)=vN (ev C a):=rfl
theorem aH8{c a b}:ev C (.ite c a b)=wG (tv C c) (ev C a) (ev C b):=rfl
theorem aH2{es}:ev C (.tup es)=wL (av C es):=rfl
theorem aDb{a b}:ev C (.ix a b)=oT (ev C a) (ev C b):=rfl
theorem aS0{n0 aZ k}:ev C (.tab n0 aZ k)=f1 (ev C k) (nA (aAJ aZ)):=rfl
theorem aTk{n0 ts}:ev C (.con n0 ts)=fC (.tuple (ts.map Tv.d)):=rfl
theorem aAn{a lo hi}:ev C (.sl a lo hi)=oR (ev C a) (ov C lo) (ov C hi):=rfl
theorem aHV{f es}:ev C (.call f es)=kW C f (av C es):=rfl
theorem aII{b es}:ev C (.blt b es)=qE (av C es) b.g:=rfl
theorem aPo{a}:ev C (.bits a)=aDa (ev C a):=rfl
theorem aIv{o a}:ev C (.app o a)=fF (ev C o) (ev C a):=rfl
theorem aQ4{o a}:ev C (.pop o a)=aAN (ev C o) (ev C a):=rfl
theorem aRV{o a}:ev C (.idx o a)=aAS (ev C o) (ev C a):=rfl
theorem aJE{a}:ev C (.fz a)=hJ (lv C a):=rfl
theorem aAf{a}:ev C (.new a)=fD (lv C a):=rfl
theorem aIQ{a b}:tv C (.and a b)=wM (tv C a) (tv C b):=rfl
theorem aI3{a b}:tv C (.or a b)=xG (tv C a) (tv C b):=rfl
theorem aIi{a}:tv C (.not a)=wO (tv C a):=rfl
theorem aRd{i}:tv C (.var i)=dQ (jH i):=rfl
theorem aH1{op a b}:tv C (.cmp op a b)=dQ (mS op (ev C a) (ev C b)):=rfl
theorem aUF{a b}:tv C (.ix a b)=dQ (oT (ev C a) (ev C b)):=rfl
theorem aO1{f es}:tv C (.call f es)=dQ (kW C f (av C es)):=rfl
theorem aRY{b es}:tv C (.blt b es)=dQ (qE (av C es) b.g):=rfl
theorem aQ1{op a b}:tv C (.bin op a b)=dQ (qC op (ev C a) (ev C b)):=rfl
theorem aTJ{b}:tv C (.bl b)=dQ (fC (.bool b)):=rfl
theorem aUT:tv C .no=lJ:=rfl
theorem aRl:av C .nil=gW:=rfl
theorem aG5{a r}:av C (.cons a r)=cR (ev C a) (av C r):=rfl
theorem aUb:ov C .no=xA:=rfl
theorem aHD{a}:ov C (.cons a .nil)=lG (ev C a):=rfl
theorem aH3{es}:lv C (.lst es)=vV (av C es):=rfl
theorem aRQ{a}:lv C (.lof a)=aAH (ev C a):=rfl
theorem aO6{a b}:lv C (.lzip a b)=sB (ev C a) (ev C b):=rfl
theorem kS{a b c}:lv C (.rng3 a b c)=aAq (ev C a) (ev C b) (ev C c):=rfl
theorem aCu{a b}:lv C (.lrep a b)=wA (ev C a) (ev C b):=rfl
theorem aOY{elt t it cond}:lv C (.comp elt t it cond)=gS t (lv C it) (tv C cond) (ev C elt):=rfl
theorem lH{a}:lv C (.it a)=fV (ev C a):=rfl
theorem kQ{a}:lv C (.rng1 a)=vE (ev C a):=rfl
theorem kU{a b}:lv C (.rng2 a b)=vM (ev C a) (ev C b):=rfl
theorem lA{a}:lv C (.enm a)=uU (ev C a):=rfl
theorem kZ{a b}:lv C (.zip a b)=qB (ev C a) (ev C b):=rfl
theorem aHv:xs C .skip=sG:=rfl
theorem lB{a b}:xs C (.seq a b)=dR (xs C a) (xs C b):=rfl
theorem aHP{e}:xs C (.expr e)=vI (ev C e):=rfl
theorem aC6{e}:xs C (.ret e)=oO (ev C e):=rfl
theorem rX{c a b}:xs C (.ifs c a b)=mW (tv C c) (xs C a) (xs C b):=rfl
theorem uW{i e}:xs C (.set i e)=fR i (ev C e):=rfl
theorem rJ{nw i e}:xs C (.setC nw i e)=fR i (match nw with | true=>fD (lv C e) | false=>hJ (lv C e)):=rfl
theorem aPM{t e}:xs C (.setT t e)=aAp t (ev C e):=rfl
theorem aIw{o i e}:xs C (.put o i e)=jE (ev C o) (ev C i) (ev C e):=rfl
theorem aUq{n c b}:xs C (.wh n c b)=gY (tv C c) (xs C b) n:=rfl
theorem aPD{t it b}:xs C (.loop t it b)=eB t (lv C it) (xs C b):=rfl
end
theorem no{P:Prop}(h:false=true):P:=by cases h
theorem gU{a b:Bool}(h:(a&&b)=true):a=true/\b=true:=by
 cases a with
 | false=>exact no h
 | true=>exact⟨rfl,h⟩
theorem aL{a b:Bool}(h:(a&&b)=true):a=true:=(gU h).1
theorem aR{a b:Bool}(h:(a&&b)=true):b=true:=(gU h).2
theorem eK{c:Prop}{d:Decidable c}{f:c->Bool}(h:(@dite _ c d f λ _=>false)=true):c:=by
 cases d with
 | isTrue k=>exact k
 | isFalse _=>exact no h
noncomputable def kJ(k:Str->Pos->Bool)(x:qw):Bool:=if h:x.ctorIdx=23 then @Expr.Name.elim (λ _=>Bool) x h k else false
theorem oJ{P:qw->Prop}{k:Str->Pos->Bool}{x:qw}(h:kJ k x=true)(g:∀ a b,k a b=true->P (.Name a b)):P x:=@Expr.Name.elim (λ e=>kJ k e=true->P e) x (eK h) g h
noncomputable def kCo(k:Const->Nat->Pos->Bool)(x:qw):Bool:=if h:x.ctorIdx=19 then @Expr.Constant.elim (λ _=>Bool) x h k else false
theorem aVZ{P:qw->Prop}{k:Const->Nat->Pos->Bool}{x:qw}(h:kCo k x=true)(g:∀ a b c,k a b c=true->P (.Constant a b c)):P x:=@Expr.Constant.elim (λ e=>kCo k e=true->P e) x (eK h) g h
noncomputable def wZ(k:qw->jk->qw->Pos->Bool)(x:qw):Bool:=if h:x.ctorIdx=2 then @Expr.BinOp.elim (λ _=>Bool) x h k else false
theorem aKr{P:qw->Prop}{k:qw->jk->qw->Pos->Bool}{x:qw}(h:wZ k x=true)(g:∀ a b c d,k a b c d=true->P (.BinOp a b c d)):P x:=@Expr.BinOp.elim (λ e=>wZ k e=true->P e) x (eK h) g h
noncomputable def wV(k:yz->qw->Pos->Bool)(x:qw):Bool:=if h:x.ctorIdx=3 then @Expr.UnaryOp.elim (λ _=>Bool) x h k else false
theorem aDB{P:qw->Prop}{k:yz->qw->Pos->Bool}{x:qw}(h:wV k x=true)(g:∀ a b c,k a b c=true->P (.UnaryOp a b c)):P x:=@Expr.UnaryOp.elim (λ e=>wV k e=true->P e) x (eK h) g h
noncomputable def kCm(k:qw->List vz->List qw->Pos->Bool)(x:qw):Bool:=if h:x.ctorIdx=15 then @Expr.Compare.elim (λ _=>Bool) x h k else false
theorem aWg{P:qw->Prop}{k:qw->List vz->List qw->Pos->Bool}{x:qw}(h:kCm k x=true)(g:∀ a b c d,k a b c d=true->P (.Compare a b c d)):P x:=@Expr.Compare.elim (λ e=>kCm k e=true->P e) x (eK h) g h
noncomputable def kBo(k:BoolOp->List qw->Pos->Bool)(x:qw):Bool:=if h:x.ctorIdx=0 then @Expr.BoolOp.elim (λ _=>Bool) x h k else false
theorem aWp{P:qw->Prop}{k:BoolOp->List qw->Pos->Bool}{x:qw}(h:kBo k x=true)(g:∀ a b c,k a b c=true->P (.BoolOp a b c)):P x:=@Expr.BoolOp.elim (λ e=>kBo k e=true->P e) x (eK h) g h
noncomputable def kIe(k:qw->qw->qw->Pos->Bool)(x:qw):Bool:=if h:x.ctorIdx=5 then @Expr.IfExp.elim (λ _=>Bool) x h k else false
theorem aWE{P:qw->Prop}{k:qw->qw->qw->Pos->Bool}{x:qw}(h:kIe k x=true)(g:∀ a b c d,k a b c d=true->P (.IfExp a b c d)):P x:=@Expr.IfExp.elim (λ e=>kIe k e=true->P e) x (eK h) g h
noncomputable def wX(k:List qw->Nat->Pos->Bool)(x:qw):Bool:=if h:x.ctorIdx=25 then @Expr.Tuple.elim (λ _=>Bool) x h k else false
theorem vR{P:qw->Prop}{k:List qw->Nat->Pos->Bool}{x:qw}(h:wX k x=true)(g:∀ a b c,k a b c=true->P (.Tuple a b c)):P x:=@Expr.Tuple.elim (λ e=>wX k e=true->P e) x (eK h) g h
noncomputable def kLi(k:List qw->Pos->Bool)(x:qw):Bool:=if h:x.ctorIdx=24 then @Expr.List.elim (λ _=>Bool) x h k else false
theorem aWw{P:qw->Prop}{k:List qw->Pos->Bool}{x:qw}(h:kLi k x=true)(g:∀ a b,k a b=true->P (.List a b)):P x:=@Expr.List.elim (λ e=>kLi k e=true->P e) x (eK h) g h
noncomputable def kSu(k:qw->qw->Pos->Bool)(x:qw):Bool:=if h:x.ctorIdx=21 then @Expr.Subscript.elim (λ _=>Bool) x h k else false
theorem aKc{P:qw->Prop}{k:qw->qw->Pos->Bool}{x:qw}(h:kSu k x=true)(g:∀ a b c,k a b c=true->P (.Subscript a b c)):P x:=@Expr.Subscript.elim (λ e=>kSu k e=true->P e) x (eK h) g h
noncomputable def kSl(k:Option qw->Option qw->Option qw->Pos->Bool)(x:qw):Bool:=if h:x.ctorIdx=26 then @Expr.Slice.elim (λ _=>Bool) x h k else false
theorem aV3{P:qw->Prop}{k:Option qw->Option qw->Option qw->Pos->Bool}{x:qw}(h:kSl k x=true)(g:∀ a b c d,k a b c d=true->P (.Slice a b c d)):P x:=@Expr.Slice.elim (λ e=>kSl k e=true->P e) x (eK h) g h
noncomputable def kCa(k:qw->List qw->List Keyword->Pos->Bool)(x:qw):Bool:=if h:x.ctorIdx=16 then @Expr.Call.elim (λ _=>Bool) x h k else false
theorem aJM{P:qw->Prop}{k:qw->List qw->List Keyword->Pos->Bool}{x:qw}(h:kCa k x=true)(g:∀ a b c d,k a b c d=true->P (.Call a b c d)):P x:=@Expr.Call.elim (λ e=>kCa k e=true->P e) x (eK h) g h
noncomputable def kAt(k:qw->Str->Pos->Bool)(x:qw):Bool:=if h:x.ctorIdx=20 then @Expr.Attribute.elim (λ _=>Bool) x h k else false
theorem aWM{P:qw->Prop}{k:qw->Str->Pos->Bool}{x:qw}(h:kAt k x=true)(g:∀ a b c,k a b c=true->P (.Attribute a b c)):P x:=@Expr.Attribute.elim (λ e=>kAt k e=true->P e) x (eK h) g h
noncomputable def kLc(k:qw->List Comprehension->zw->Pos->Bool)(x:qw):Bool:=if h:x.ctorIdx=8 then @Expr.ListComp.elim (λ _=>Bool) x h k else false
theorem aV5{P:qw->Prop}{k:qw->List Comprehension->zw->Pos->Bool}{x:qw}(h:kLc k x=true)(g:∀ a b c d,k a b c d=true->P (.ListComp a b c d)):P x:=@Expr.ListComp.elim (λ e=>kLc k e=true->P e) x (eK h) g h
noncomputable def kEx(k:qw->Pos->Bool)(x:xw):Bool:=if h:x.ctorIdx=24 then @Stmt.Expr.elim (λ _=>Bool) x h k else false
theorem aWH{P:xw->Prop}{k:qw->Pos->Bool}{x:xw}(h:kEx k x=true)(g:∀ a b,k a b=true->P (.Expr a b)):P x:=@Stmt.Expr.elim (λ e=>kEx k e=true->P e) x (eK h) g h
noncomputable def kRe(k:Option qw->Pos->Bool)(x:xw):Bool:=if h:x.ctorIdx=3 then @Stmt.Return.elim (λ _=>Bool) x h k else false
theorem aWv{P:xw->Prop}{k:Option qw->Pos->Bool}{x:xw}(h:kRe k x=true)(g:∀ a b,k a b=true->P (.Return a b)):P x:=@Stmt.Return.elim (λ e=>kRe k e=true->P e) x (eK h) g h
noncomputable def kSf(k:qw->List xw->List xw->Pos->Bool)(x:xw):Bool:=if h:x.ctorIdx=12 then @Stmt.If.elim (λ _=>Bool) x h k else false
theorem aWr{P:xw->Prop}{k:qw->List xw->List xw->Pos->Bool}{x:xw}(h:kSf k x=true)(g:∀ a b c d,k a b c d=true->P (.If a b c d)):P x:=@Stmt.If.elim (λ e=>kSf k e=true->P e) x (eK h) g h
noncomputable def sZ(k:List qw->qw->Pos->Bool)(x:xw):Bool:=if h:x.ctorIdx=5 then @Stmt.Assign.elim (λ _=>Bool) x h k else false
theorem aAU{P:xw->Prop}{k:List qw->qw->Pos->Bool}{x:xw}(h:sZ k x=true)(g:∀ a b c,k a b c=true->P (.Assign a b c)):P x:=@Stmt.Assign.elim (λ e=>sZ k e=true->P e) x (eK h) g h
noncomputable def kWh(k:qw->List xw->List xw->Pos->Bool)(x:xw):Bool:=if h:x.ctorIdx=11 then @Stmt.While.elim (λ _=>Bool) x h k else false
theorem aVW{P:xw->Prop}{k:qw->List xw->List xw->Pos->Bool}{x:xw}(h:kWh k x=true)(g:∀ a b c d,k a b c d=true->P (.While a b c d)):P x:=@Stmt.While.elim (λ e=>kWh k e=true->P e) x (eK h) g h
noncomputable def kFo(k:qw->qw->List xw->List xw->Pos->Bool)(x:xw):Bool:=if h:x.ctorIdx=9 then @Stmt.For.elim (λ _=>Bool) x h k else false
theorem aV7{P:xw->Prop}{k:qw->qw->List xw->List xw->Pos->Bool}{x:xw}(h:kFo k x=true)(g:∀ a b c d e,k a b c d e=true->P (.For a b c d e)):P x:=@Stmt.For.elim (λ e=>kFo k e=true->P e) x (eK h) g h
noncomputable def jX{α:Type}(k:α->Bool)(l:List α):Bool:=match l with
 | [a]=>k a
 | _=>false
theorem lF{α:Type}{P:List α->Prop}{k:α->Bool}:∀ {l:List α},jX k l=true->(∀ a,k a=true->P [a])->P l
 | [],h,_=>no h
 | [a],h,g=>g a h
 | _::_::_,h,_=>no h
noncomputable def aDL{α:Type}(k:α->α->Bool)(l:List α):Bool:=match l with
 | a::r=>jX (k a) r
 | []=>false
theorem aJk{α:Type}{P:List α->Prop}{k:α->α->Bool}:∀ {l:List α},aDL k l=true->(∀ a b,k a b=true->P [a,b])->P l
 | [],h,_=>no h
 | a::_,h,g=>lF (P:=λ r=>P (a::r)) h (g a)
noncomputable def aKq{α:Type}(k:α->α->α->Bool)(l:List α):Bool:=match l with
 | a::r=>aDL (k a) r
 | []=>false
theorem aT7{α:Type}{P:List α->Prop}{k:α->α->α->Bool}:∀ {l:List α},aKq k l=true->(∀ a b c,k a b c=true->P [a,b,c])->P l
 | [],h,_=>no h
 | a::_,h,g=>aJk (P:=λ r=>P (a::r)) h (g a)
theorem mL{α:Type}{P:List α->Prop}:∀ {l:List α},l.isEmpty=true->P []->P l
 | [],_,g=>g
 | _::_,h,_=>no h
noncomputable def aDE{α:Type}(o:Option α):Bool:=match o with
 | none=>true
 | some _=>false
theorem aIW{α:Type}{P:Option α->Prop}:∀ {o:Option α},aDE o=true->P qz->P o
 | none,_,g=>g
 | some _,h,_=>no h
theorem aJy{α:Type}{P:Option α->Prop}{k:α->Bool}:∀ {o:Option α},o.any k=true->(∀ a,k a=true->P (qq a))->P o
 | none,h,_=>no h
 | some a,h,g=>g a h
theorem dT{p:Prop}{d:Decidable p}(h:decide p=true):p:=oqT h
noncomputable def qM(sc:zw)(x:Str):Bool:=match sc.names.lookup x with
 | some .local=>true | some .cell=>true | some .free=>true | _=>false
noncomputable def loc(sc:zw)(x:Str):Bool:=match sc.names.lookup x with
 | some .local=>true | some .cell=>true | _=>false
noncomputable def aJC(e:E):Bool:=decide (e.ctorIdx=E.nil.ctorIdx)
theorem aV8{P:E->Prop}{e:E}(h:aJC e=true)(g:P .nil):P e:=@E.nil.elim P e (dT h) g
noncomputable def lo(sc:zw)(x:Str):Bool:=decide (sc.names.lookup x=qq .local)
noncomputable def gl(sc:zw)(x:Str):Bool:=decide (sc.names.lookup x=qq .globalImplicit)
noncomputable def cT(e:qw):Bool:=![7,22,26].contains e.ctorIdx
noncomputable def mQ(e:qw):Bool:=![0,3,5,15].contains e.ctorIdx
noncomputable def aAa(e:qw):Bool:=![16].contains e.ctorIdx
noncomputable def rP(e:qw):Bool:=![8,9,10].contains e.ctorIdx
noncomputable def uZ(e:qw):Bool:=wX (λ _ _ _=>true) e
noncomputable def rC:List qw->Bool
 | []=>true
 | e::r=>cT e&&rC r
noncomputable def qG(scope osc:zw):zw:={scope with names:=scope.names.map λ(n,k)=>if (k==.free&&osc.kind==.function&&osc.names.lookup n==qq .cell) then (n,.cell) else (n,k) }
noncomputable def aDg(scope osc:zw):Bool:=decide (scope.kind=.function)&&scope.names.all λ x=>(!decide (x.2=.cell))&&(!decide (x.2=.free)||decide (osc.names.lookup x.1=qq .cell)||decide (osc.names.lookup x.1=qq .free))&&(!decide (x.2=.local)||decide (scope.names.lookup x.1=qq .local))
noncomputable def aAQ(N:List Str)(scope:zw)(is:List Nat):Nat->Bool
 | 0=>true
 | n+1=>aAQ N scope is n&&(match N[n]? with
   | some x=>!decide (scope.names.lookup x=qq .local)||is.contains n
   | none=>true)
noncomputable def aCN(b:Bool)(N:List Str)(sc:zw)(i:Nat)(x:Str):Bool:=decide (N[i]? = qq x)&&(match b with
 | true=>decide (sc.names.lookup x=qq .local)
 | false=>loc sc x)
noncomputable def aCz(b:Bool)(N:List Str)(sc:zw):List Nat->List qw->Bool
 | [],es=>es.isEmpty
 | i::is,es=>(match es with
   | e::r=>kJ (λ x _=>aCN b N sc i x&&aCz b N sc is r) e
   | []=>false)
noncomputable def vT(b:Bool)(N:List Str)(sc:zw)(t:Tg)(e:qw):Bool:=match t with
 | .one i=>kJ (λ x _=>aCN b N sc i x) e
 | .many is=>wX (λ es _ _=>aCz b N sc is es) e
noncomputable def aG6(e:E):Bool:=decide (e.ctorIdx=(E.comp .no (.one 0) .no .no).ctorIdx)
theorem aVM{P:E->Prop}{e:E}(h:aG6 e=true)(g:∀ a t b c,P (.comp a t b c)):P e:=@E.comp.elim P e (dT h) g
noncomputable def aDG(e:E):Bool:=decide (e.ctorIdx=E.no.ctorIdx)
theorem aKj{P:E->Prop}{e:E}(h:aDG e=true)(g:P .no):P e:=@E.no.elim P e (dT h) g
noncomputable def sS(c:Const)(e:qw):Bool:=kCo (λ d _ _=>decide (d=c)) e
theorem aAk{P:qw->Prop}{c:Const}{x:qw}(h:sS c x=true)(g:∀ k p,P (.Constant c k p)):P x:=
 aVZ h λ _ k p z=>(dT z)▸g k p
noncomputable def aDr(k:qw->vz->qw->Bool)(e:qw):Bool:=kCm (λ x os ys _=>jX (λ o=>jX (λ y=>k x o y&&cT y) ys) os) e
theorem aJH{P:qw->Prop}{k:qw->vz->qw->Bool}{x:qw}(h:aDr k x=true)(g:∀ a o b p,k a o b=true->cT b=true->P (.Compare a [o] [b] p)):P x:=
 aWg h λ a os _ p z=>lF (P:=λ os=>P (.Compare a os _ p)) z λ o z=>lF (P:=λ ys=>P (.Compare a [o] ys p)) z λ b z=>g a o b p (aL z) (aR z)
noncomputable def vF(op:BoolOp)(k:qw->qw->Bool)(e:qw):Bool:=kBo (λ o es p=>decide (o=op)&&(match es with
 | [x,y]=>k x y
 | x::y::z::r=>k x (.BoolOp op (y::z::r) p)
 | _=>false)) e
theorem aAc{P:qw->Prop}{op:BoolOp}{k:qw->qw->Bool}{x:qw}(h:vF op k x=true)(g:∀ a b p,k a b=true->P (.BoolOp op [a,b] p))(f:∀ a b c r p,k a (.BoolOp op (b::c::r) p)=true->P (.BoolOp op (a::b::c::r) p)):P x:=
 aWp h λ o es p z=>by
  obtain rfl:=dT (aL z)
  match es,aR z with
  | [a,b],z=>exact g a b p z
  | a::b::c::r,z=>exact f a b c r p z
  | [],z=>exact no z
  | [_],z=>exact no z
noncomputable def wU(k:qw->qw->Bool)(e:qw):Bool:=kSu (λ x y _=>k x y&&cT y) e
theorem aDF{P:qw->Prop}{k:qw->qw->Bool}{x:qw}(h:wU k x=true)(g:∀ a b p,k a b=true->cT b=true->P (.Subscript a b p)):P x:=aKc h λ a b p z=>g a b p (aL z) (aR z)
noncomputable def aKb(k:qw->Option qw->Option qw->Bool)(e:qw):Bool:=kSu (λ x s _=>kSl (λ l h t _=>aDE t&&k x l h) s) e
theorem aUL{P:qw->Prop}{k:qw->Option qw->Option qw->Bool}{x:qw}(h:aKb k x=true)(g:∀ a l u p q,k a l u=true->P (.Subscript a (.Slice l u qz p) q)):P x:=
 aKc h λ a _ q z=>aV3 (P:=λ s=>P (.Subscript a s q)) z λ l u _ p z=>aIW (P:=λ t=>P (.Subscript a (.Slice l u t p) q)) (aL z) (g a l u p q (aR z))
noncomputable def oG(k:Str->List qw->Bool)(e:qw):Bool:=kCa (λ f xs ks _=>kJ (λ n _=>ks.isEmpty&&k n xs) f) e
theorem uX{P:qw->Prop}{k:Str->List qw->Bool}{x:qw}(h:oG k x=true)(g:∀ n p xs q,k n xs=true->P (.Call (.Name n p) xs [] q)):P x:=
 aJM h λ _ xs ks q z=>oJ (P:=λ f=>P (.Call f xs ks q)) z λ n p z=>mL (P:=λ ks=>P (.Call (.Name n p) xs ks q)) (aL z) (g n p xs q (aR z))
noncomputable def xC(nm:Str)(sc:zw)(k:qw->Bool)(e:qw):Bool:=oG (λ n xs=>decide (n=nm)&&gl sc n&&jX (λ y=>k y&&cT y) xs) e
theorem aAY{P:qw->Prop}{nm:Str}{sc:zw}{k:qw->Bool}{x:qw}(h:xC nm sc k x=true)(g:∀ p y q,gl sc nm=true->k y=true->cT y=true->P (.Call (.Name nm p) [y] [] q)):P x:=
 uX h λ n p xs q z=>by
  obtain rfl:=dT (aL (aL z));exact lF (P:=λ xs=>P (.Call (.Name n p) xs [] q)) (aR z) λ y u=>g p y q (aR (aL z)) (aL u) (aR u)
noncomputable def kB2(nm:Str)(sc:zw)(k l:qw->Bool)(e:qw):Bool:=oG (λ n xs=>decide (n=nm)&&gl sc n&&aDL (λ y z=>(k y&&cT y)&&(l z&&cT z)) xs) e
theorem aDt{P:qw->Prop}{nm:Str}{sc:zw}{k l:qw->Bool}{x:qw}(h:kB2 nm sc k l x=true)(g:∀ p y z q,gl sc nm=true->k y=true->cT y=true->l z=true->cT z=true->P (.Call (.Name nm p) [y,z] [] q)):P x:=
 uX h λ n p xs q z=>by
  obtain rfl:=dT (aL (aL z));exact aJk (P:=λ xs=>P (.Call (.Name n p) xs [] q)) (aR z) λ y w u=>g p y w q (aR (aL z)) (aL (aL u)) (aR (aL u)) (aL (aR u)) (aR (aR u))
noncomputable def kB3(nm:Str)(sc:zw)(k l m:qw->Bool)(e:qw):Bool:=oG (λ n xs=>decide (n=nm)&&gl sc n&&aKq (λ y z w=>(k y&&cT y)&&((l z&&cT z)&&(m w&&cT w))) xs) e
theorem aWa{P:qw->Prop}{nm:Str}{sc:zw}{k l m:qw->Bool}{x:qw}(h:kB3 nm sc k l m x=true)(g:∀ p y z w q,gl sc nm=true->k y=true->cT y=true->l z=true->cT z=true->m w=true->cT w=true->P (.Call (.Name nm p) [y,z,w] [] q)):P x:=
 uX h λ n p xs q z=>by
  obtain rfl:=dT (aL (aL z));exact aT7 (P:=λ xs=>P (.Call (.Name n p) xs [] q)) (aR z) λ y w v u=>g p y w v q (aR (aL z)) (aL (aL u)) (aR (aL u)) (aL (aL (aR u))) (aR (aL (aR u))) (aL (aR (aR u))) (aR (aR (aR u)))
noncomputable def kMe(nm:Str)(k:qw->List qw->Bool)(e:qw):Bool:=kCa (λ f xs ks cp=>kAt (λ o m ap=>ks.isEmpty&&(ap.endLine==cp.line)&&decide (m=nm)&&aAa o&&k o xs) f) e
theorem aKg{P:qw->Prop}{nm:Str}{k:qw->List qw->Bool}{x:qw}(h:kMe nm k x=true)(g:∀ o ap xs cp,(ap.endLine==cp.line)=true->aAa o=true->k o xs=true->P (.Call (.Attribute o nm ap) xs [] cp)):P x:=
 aJM h λ _ xs ks cp z=>aWM (P:=λ f=>P (.Call f xs ks cp)) z λ o m ap z=>by
  obtain rfl:=dT (aR (aL (aL z)));exact mL (P:=λ ks=>P (.Call (.Attribute o m ap) xs ks cp)) (aL (aL (aL (aL z)))) (g o ap xs cp (aR (aL (aL (aL z)))) (aR (aL z)) (aR z))
noncomputable def aAR(nm:Str)(k l:qw->Bool)(e:qw):Bool:=kMe nm (λ o xs=>k o&&jX (λ y=>l y&&cT y) xs) e
theorem aDe{P:qw->Prop}{nm:Str}{k l:qw->Bool}{x:qw}(h:aAR nm k l x=true)(g:∀ o ap y cp,(ap.endLine==cp.line)=true->aAa o=true->k o=true->l y=true->cT y=true->P (.Call (.Attribute o nm ap) [y] [] cp)):P x:=
 aKg h λ o ap xs cp h1 h2 z=>lF (P:=λ xs=>P (.Call (.Attribute o nm ap) xs [] cp)) (aR z) λ y u=>g o ap y cp h1 h2 (aL z) (aL u) (aR u)
noncomputable def aI0(k:qw->qw->qw->List qw->zw->Bool)(e:qw):Bool:=kLc (λ el gs sc _=>jX (λ g=>decide (g.is_async=0)&&k el g.target g.iter g.ifs sc) gs) e
theorem aS5{P:qw->Prop}{k:qw->qw->qw->List qw->zw->Bool}{x:qw}(h:aI0 k x=true)(g:∀ e tg it ifs sc p,k e tg it ifs sc=true->P (.ListComp e [⟨tg,it,ifs,0⟩] sc p)):P x:=
 aV5 h λ e _ sc p z=>lF (P:=λ gs=>P (.ListComp e gs sc p)) z λ aQ z=>by
  obtain⟨tg,it,ifs,as⟩:=aQ;obtain rfl:as=0:=dT (aL z);exact g e tg it ifs sc p (aR z)
noncomputable def aJV(N:List Str)(t:Tg)(cond:E)(sc:zw)(fI:qw->qw->Bool)(fT fE:zw->qw->Bool)(x:qw):Bool:=aI0 (λ e tg iter ifs scope=>aDg scope sc&&aAQ N scope t.slots N.length&&vT true N (qG scope sc) t tg&&fI tg iter&&cT iter &&
 (match ifs with | []=>aDG cond | y::r=>r.isEmpty&&fT (qG scope sc) y)&&fE (qG scope sc) e) x
theorem aKo{P:qw->Prop}{N:List Str}{t:Tg}{cond:E}{sc:zw}{fI:qw->qw->Bool}{fT fE:zw->qw->Bool}{x:qw}(h:aJV N t cond sc fI fT fE x=true)(g:∀ e tg iter ifs scope p,aDg scope sc=true->aAQ N scope t.slots N.length=true->vT true N (qG scope sc) t tg=true->fI tg iter=true->cT iter=true->(match ifs with | []=>aDG cond | y::r=>r.isEmpty&&fT (qG scope sc) y)=true->fE (qG scope sc) e=true->P (.ListComp e [⟨tg,iter,ifs,0⟩] scope p)):P x:=
 aS5 h λ e tg iter ifs scope p h=>g e tg iter ifs scope p (aL (aL (aL (aL (aL (aL h)))))) (aR (aL (aL (aL (aL (aL h)))))) (aR (aL (aL (aL (aL h))))) (aR (aL (aL (aL h)))) (aR (aL (aL h))) (aR (aL h)) (aR h)
structure Tx where
 fn:List (Str×Nat)
 tb:List (Str×List (Str×Tv))
 cn:List (Str×List Tv)
section
variable (T : Tx)(N : List Str)
mutual
noncomputable def bJ:E->zw->qw->Bool
 | .var i,sc,x=>kJ (λ x _=>decide (N[i]? = qq x)&&qM sc x && !(x==("__debug__" : Str)) && !(x==("__classdict__" : Str))) x
 | .int i,_,x=>sS (.int i) x
 | .bl i,_,x=>sS (.bool i) x
 | .non,_,x=>sS .none x
 | .str i,_,x=>sS (.str i) x
 | .bin op a b,sc,x=>wZ (λ x op' y _=>decide (op'=op)&&bJ a sc x&&bJ b sc y) x
 | .un op a,sc,x=>wV (λ op' x _=>decide (op'=op) && !decide (op=.Not)&&bJ a sc x) x
 | .cmp op a b,sc,x=>aDr (λ x op' y=>decide (op'=op)&&bJ a sc x&&bJ b sc y) x
 | .and a b,sc,x=>vF .And (λ x y=>bJ a sc x&&bJ b sc y) x
 | .or a b,sc,x=>vF .Or (λ x y=>bJ a sc x&&bJ b sc y) x
 | .not a,sc,x=>wV (λ o x _=>decide (o=.Not)&&bJ a sc x) x
 | .ite c a b,sc,x=>kIe (λ x y z _=>kF c sc x&&bJ a sc y&&bJ b sc z) x
 | .tup es,sc,x=>wX (λ xs _ _=>mY es sc xs) x
 | .ix a b,sc,x=>wU (λ x y=>bJ a sc x&&bJ b sc y) x
 | .con n ts,sc,x=>kJ (λ x _=>decide (x=n)&&T.cn.contains (n,ts)&&gl sc x && !(x==("__debug__" : Str))) x
 | .tab n aZ k,sc,x=>wU (λ x y=>bJ k sc y&&kJ (λ x _=>decide (x=n)&&T.tb.contains (n,aZ)&&gl sc x && !(x==("__debug__" : Str))) x) x
 | .sl a lo hi,sc,x=>aKb (λ x l h=>bJ a sc x&&okO lo sc l&&okO hi sc h) x
 | .call f es,sc,x=>oG (λ x xs=>decide ((T.fn[f]?).map (·.1)=qq x)&&gl sc x && !(x==("__debug__" : Str))&&mY es sc xs&&rC xs) x
 | .blt b es,sc,x=>oG (λ x ys=>!ys.isEmpty&&decide (x=b.n)&&gl sc x&&mY es sc ys&&rC ys) x
 | .bits a,sc,x=>kMe "bit_length" (λ x ys=>bJ a sc x&&ys.isEmpty) x
 | .app o a,sc,x=>aAR "append" (λ x=>bJ o sc x) (λ y=>bJ a sc y) x
 | .pop o a,sc,x=>aAR "pop" (λ x=>bJ o sc x) (λ y=>bJ a sc y) x
 | .idx o a,sc,x=>aAR "index" (λ x=>bJ o sc x) (λ y=>bJ a sc y) x
 | .fz a,sc,e=>xH a sc e
 | .new a,sc,e=>xH a sc e
 | _,_,_=>false
noncomputable def kF:E->zw->qw->Bool
 | .and a b,sc,x=>vF .And (λ x y=>kF a sc x&&kF b sc y) x
 | .or a b,sc,x=>vF .Or (λ x y=>kF a sc x&&kF b sc y) x
 | .not a,sc,x=>wV (λ o x _=>decide (o=.Not)&&kF a sc x) x
 | .cmp op a b,sc,x=>aDr (λ x op' y=>decide (op'=op)&&bJ a sc x&&bJ b sc y) x
 | .var i,sc,x=>kJ (λ x _=>decide (N[i]? = qq x)&&qM sc x && !(x==("__debug__" : Str)) && !(x==("__classdict__" : Str))) x&&mQ x
 | .bl i,_,x=>sS (.bool i) x&&mQ x
 | .bin op a b,sc,x=>wZ (λ x op' y _=>decide (op'=op)&&bJ a sc x&&bJ b sc y) x&&mQ x
 | .ix a b,sc,x=>wU (λ x y=>bJ a sc x&&bJ b sc y) x&&mQ x
 | .call f es,sc,x=>oG (λ x xs=>decide ((T.fn[f]?).map (·.1)=qq x)&&gl sc x && !(x==("__debug__" : Str))&&mY es sc xs&&rC xs) x&&mQ x
 | .blt b es,sc,x=>oG (λ x ys=>!ys.isEmpty&&decide (x=b.n)&&gl sc x&&mY es sc ys&&rC ys) x&&mQ x
 | _,_,_=>false
noncomputable def mY:E->zw->List qw->Bool
 | .nil,_,xs=>xs.isEmpty
 | .cons a r,sc,xs=>(match xs with
   | x::xs=>bJ a sc x&&cT x&&mY r sc xs
   | []=>false)
 | _,_,_=>false
noncomputable def okO:E->zw->Option qw->Bool
 | .no,_,x=>aDE x
 | .cons a r,sc,x=>aJC r&&x.any λ x=>bJ a sc x
 | _,_,_=>false
noncomputable def xH:E->zw->qw->Bool
 | .lst es,sc,x=>kLi (λ xs _=>mY es sc xs) x
 | .lof a,sc,x=>xC "list" sc (λ y=>bJ a sc y) x
 | .lzip a b,sc,x=>xC "list" sc (λ y=>kB2 "zip" sc (λ z=>bJ a sc z) (λ w=>bJ b sc w) y) x
 | .lrep a b,sc,x=>wZ (λ x o y _=>decide (o=.Mult)&&bJ a sc x&&bJ b sc y) x
 | .comp elt t it cond,sc,x=>aJV N t cond sc (λ g y=>okI it sc g y) (λ s y=>kF cond s y) (λ s y=>bJ elt s y) x
 | _,_,_=>false
noncomputable def okI:E->zw->qw->qw->Bool
 | .it a,sc,_,x=>bJ a sc x
 | .rng1 a,sc,_,x=>xC "range" sc (λ y=>bJ a sc y) x
 | .rng2 a b,sc,_,x=>kB2 "range" sc (λ y=>bJ a sc y) (λ z=>bJ b sc z) x
 | .rng3 a b c,sc,_,x=>kB3 "range" sc (λ y=>bJ a sc y) (λ z=>bJ b sc z) (λ w=>bJ c sc w) x
 | .zip a b,sc,tg,x=>uZ tg&&kB2 "zip" sc (λ y=>bJ a sc y) (λ z=>bJ b sc z) x
 | .enm a,sc,tg,x=>uZ tg&&xC "enumerate" sc (λ y=>bJ a sc y) x
 | _,_,_,_=>false
end
mutual
noncomputable def okS:Sx->zw->xw->Bool
 | .nev,_,_=>true
 | .expr e,sc,st=>kEx (λ x _=>bJ T N e sc x&&rP x) st
 | .ret e,sc,st=>kRe (λ v _=>v.any λ x=>bJ T N e sc x) st
 | .ifs c a b,sc,st=>kSf (λ x y z _=>kF T N c sc x&&mU a sc y&&mU b sc z) st
 | .set i e,sc,st=>sZ (λ ts y _=>bJ T N e sc y&&rP y&&jX (λ t=>kJ (λ x _=>decide (N[i]? = qq x)&&loc sc x) t) ts) st
 | .setC _ i e,sc,st=>sZ (λ ts y _=>aG6 e&&xH T N e sc y&&jX (λ t=>kJ (λ x _=>decide (N[i]? = qq x)&&loc sc x) t) ts) st
 | .setT t e,sc,st=>sZ (λ ts y _=>bJ T N e sc y&&rP y && !uZ y&&jX (λ tg=>uZ tg&&vT false N sc t tg) ts) st
 | .put o i e,sc,st=>sZ (λ ts z _=>bJ T N e sc z&&rP z&&jX (λ t=>wU (λ x y=>bJ T N o sc x&&bJ T N i sc y) t) ts) st
 | .wh _ c b,sc,st=>kWh (λ x y z _=>z.isEmpty&&kF T N c sc x&&mU b sc y) st
 | .loop t it b,sc,st=>kFo (λ tg x y z _=>z.isEmpty&&vT false N sc t tg&&okI T N it sc tg x&&cT x&&mU b sc y) st
 | _,_,_=>false
noncomputable def mU:Sx->zw->List xw->Bool
 | .skip,_,l=>l.isEmpty
 | .seq a b,sc,l=>(match l with
   | st::r=>okS a sc st&&mU b sc r
   | []=>false)
 | _,_,_=>false
end
end
noncomputable def bltNames:List Str:=["len", "max", "min", "int", "abs", "tuple", "sum", "all", "any", "isinstance", "list", "range", "enumerate", "bool", "str", "reversed", "zip", "sorted"]
structure Ctx(T:Tx)(C:Calls)(X:Cx):Prop where
 nd:X.N.Nodup
 calm:X.calm=true
 xe:X.xe=λ _ _=>False
 kind:X.env.scope.kind=.function
 room:∃ k,Room k X.A/\∀ f np call x,C f=qq (np,call)->(T.fn[f]?).map (·.1)=qq x->∃ fa fd ps,X.mg x=qq (.ref fa)/\yCx X.K (.ref fa)=true/\mO X.K fd ps []/\FnOk X.prog X.w X.K X.mg X.base tF k fa fd ps (sX X.K np call)
 blt:∀ x∈bltNames,X.mg x=qz
 tbs:∀ x aZ,(x,aZ)∈T.tb->∃ a,X.mg x=qq (.ref a)/\vK X.K X.w a aZ
 cns:∀ x ts,(x,ts)∈T.cn->∃ a,X.mg x=qq (.ref a)/\sD X.K a ts
theorem Ctx.units{T:Tx}{C:Calls}{X:Cx}(h:Ctx T C X):X.A.units+64<cLine:=let ⟨_,r,_⟩:=h.room;r.units
theorem Ctx.own{T:Tx}{C:Calls}{X:Cx}(h:Ctx T C X):PassesOwn (model X.prog X.w) X.A X.env X.xe:=by rw[h.xe];exact PassesOwn.never
theorem Ctx.comp{T:Tx}{C:Calls}{X Y:Cx}{scope:zw}(h:Ctx T C X)(hk:scope.kind=.function)(hy:jS X scope Y):Ctx T C Y/\Y.env.scope=qG scope X.env.scope/\Y.N=X.N/\Y.K=X.K:=by
 obtain⟨aB,fp,Ca,s₀,H₀,rfl⟩:=hy;exact⟨⟨h.nd,h.calm,rfl,hk,h.room,h.blt,h.tbs,h.cns⟩,rfl,rfl,rfl⟩
theorem jP{e:qw}(h:cT e=true)(es:List qw)(env:Env):qo (e::es) env=(false,eval e env)::qo es env:=by
 cases e<;>first | rfl | exact no h
theorem aB4:∀ {es:List qw} (h:rC es=true) (env:Env) (pos:Pos),(backTo pos (qo es env)).any (·.1)=false
 | [],_,_,_=>rfl
 | e::es,h,env,pos=>by
   obtain⟨h1,h2⟩:=gU h;rw[jP h1];show(false||(backTo pos (qo es env)).any (·.1))=false
   rw[aB4 h2 env pos];rfl
theorem aJA{e:qw}(h:cT e=true):zK e:=by
 intro o i;cases e<;>first | rfl | exact no h
theorem aGP{e:qw}(h:cT e=true)(op:vz):jy op e=false:=by
 cases e<;>first | rfl | exact no h
theorem aBH{e:qw}(h:cT e=true)(env:Env)(x:qx):jz e env x=pure x:=by
 cases e<;>first | rfl | exact no h
theorem pH{e:qw}(h:aAa e=true)(m:Str)(env:Env):attributeBase e m env (eval e env)=eval e env:=by
 cases e<;>first | rfl | exact no h
theorem aB1{e:qw}(h:rP e=true)(t:Option qw)(line:Nat)(env:Env):swapsWith e t line env=pure false:=by
 cases e<;>first | rfl | exact no h
theorem aR9{e:qw}(h:mQ e=true)(env:Env)(eV:Sem qx):isTrue e env eV=(do let v <- eV;standAt e.pos;holding [v] (truthy v)):=by
 cases e<;>first | rfl | exact no h
theorem aM4{o i:qw}{pos:Pos}{env:Env}(h:cT i=true)(v:qx):assign (.Subscript o i pos) env v=(do
 let ov <- holding [v] (eval o env)
 let iv <- holding [v,ov] (eval i env)
 standAt pos
 holding [v,ov,iv] (setItem ov iv v)
 release [v,ov,iv] []):=by
 cases i<;>first | rfl | exact no h
section
variable {X : Cx}
theorem aRn{x:Str}(h:qM X.env.scope x=true):wT X.env.scope x:=by
 unfold qM at h;unfold wT
 split at h<;>first | exact .inl (by assumption) | exact .inr (.inl (by assumption)) | exact .inr (.inr (by assumption)) | exact no h
theorem aCU{x:Str}(h:loc X.env.scope x=true):L2.Loc X.env.scope x:=by
 unfold loc at h;unfold L2.Loc
 split at h<;>first | exact .inl (by assumption) | exact .inr (by assumption) | exact no h
theorem jA{x:Str}(h:gl X.env.scope x=true):Gl X x:=(oqT h:X.env.scope.names.lookup x=qq .globalImplicit)
theorem tU{x y:Str}(h:(!(x==y))=true):(x==y)=false:=by
 cases e:x==y with
 | false=>rfl
 | true=>rw[e] at h;exact no h
def aC2(b:Bool)(X:Cx):Prop:=b=true\/∀ x,X.fn x=true
theorem aG0{b:Bool}(st:aC2 b X){i:Nat}{x:Str}(h:aCN b X.N X.env.scope i x=true):X.N[i]? = qq x/\L2.Loc X.env.scope x/\(X.fn x=true\/X.env.scope.names.lookup x=qq .local):=by
 obtain⟨h1,h2⟩:=gU h;cases b with
 | true =>
   have h3:=oqT h2;exact⟨oqT h1,.inl h3,.inr h3⟩
 | false =>
   refine⟨oqT h1,aCU h2,?_⟩;rcases st with z | z
   ·cases z
   ·exact .inl (z x)
noncomputable def wK:List Nat->iW
 | []=>aDD
 | i::is=>aDc (oI i) (wK is)
noncomputable def tE(K:FrG):Tg->TG
 | .one i=>oI i
 | .many is=>aDK K is.length (wK is)
theorem aIq(K:FrG):∀ is:List Nat,xD K is (wK is)
 | []=>aPa
 | _::is=>aNY (aIq K is)
theorem aAB(K:FrG)(t:Tg):GA K t (tE K t):=by
 cases t with
 | one i=>exact aSn i
 | many is=>exact aQa (aIq K is)
theorem aGC{b:Bool}(st:aC2 b X)(nd:X.N.Nodup):∀ {is:List Nat}{es:List qw},aCz b X.N X.env.scope is es=true->qK X es (wK is)/\(zo es X.env).length=is.length/\(zo es X.env).findIdx? (·.1)=qz
 | [],[],_=>⟨aQq,rfl,rfl⟩
 | [],_::_,h=>no h
 | _::_,[],h=>no h
 | i::is,e::r,h=>oJ (P:=λ e=>qK X (e::r) (wK (i::is))/\(zo (e::r) X.env).length=(i::is).length/\(zo (e::r) X.env).findIdx? (·.1)=qz) h λ x p h=>by
   obtain⟨a1,a2,a3⟩:=aG0 st (aL h);obtain⟨pg,hl2,hf⟩:=aGC st nd (aR h);refine⟨aNO (aCg nd a1 a2 a3) pg rfl,?_,?_⟩
   ·show((false,assign (.Name x p) X.env)::zo r X.env).length=_;rw[yBf,yBf,hl2]
   ·show((false,assign (.Name x p) X.env)::zo r X.env).findIdx? (·.1)=qz;rw[List.findIdx?_cons,hf];rfl
theorem aAD{b:Bool}(st:aC2 b X)(nd:X.N.Nodup)(hc:X.calm=true){t:Tg}{tg:qw}(h:vT b X.N X.env.scope t tg=true):PG X tg (tE X.K t):=by
 cases t with
 | one i=>exact oJ (P:=λ e=>PG X e (oI i)) h λ x p h=>let ⟨a1,a2,a3⟩:=aG0 st h;aCg nd a1 a2 a3
 | many is=>exact vR (P:=λ e=>PG X e (tE X.K (.many is))) h λ es k p h=>let ⟨pg,hl2,hf⟩:=aGC st nd h;aRN hc pg hl2 hf
end
section
variable (T : Tx)(C : Calls)
def SE(c:E):Prop:=∀ X,Ctx T C X->∀ x,bJ T X.N c X.env.scope x=true->PE X x (aW X.K (ev C c))
def ST(c:E):Prop:=∀ X,Ctx T C X->∀ x,kF T X.N c X.env.scope x=true->PT X x (eU X.K (tv C c))/\∀ op es p,x=.BoolOp op es p->PW X x (eU X.K (tv C c))
def SA(c:E):Prop:=∀ X,Ctx T C X->∀ x,mY T X.N c X.env.scope x=true->PA X x (eT X.K (av C c))
def SO(c:E):Prop:=∀ X,Ctx T C X->∀ x,okO T X.N c X.env.scope x=true->PO X x (lL X.K (ov C c))
def SL(c:E):Prop:=∀ X,Ctx T C X->∀ x,xH T X.N c X.env.scope x=true->PE X x (iK X.K (lv C c))
def SI(c:E):Prop:=∀ X,Ctx T C X->∀ tg x,okI T X.N c X.env.scope tg x=true->PI X tg x (iV X.K (lv C c))
end
section
variable {T : Tx}{C : Calls}
theorem aOF{X:Cx}{x:qw}{f:FE}(h:∀ env S,f env S=qz):PE X x (aW X.K f):=λ aB s σ H Q I aQ=>by
 obtain⟨F,L,S,env,w,S',R,E,e,q⟩:=aQ;rw[h] at e;cases e
theorem aUc{X:Cx}{x:qw}{f:FE}(h:PE X x (aW X.K f))(ht:mQ x=true):PT X x (eU X.K (dQ f))/\∀ op es p,x=.BoolOp op es p->PW X x (eU X.K (dQ f)):=
 ⟨aUG h λ eV=>aR9 ht X.env eV,λ op es p e=>by subst e;exact no ht⟩
theorem aH0(i:Nat):SE T C (.var i):=λ X hX x hx=>oJ (P:=λ x=>PE X x _) hx λ y p h=>aVl (dT (aL (aL (aL h)))) (aRn (aR (aL (aL h)))) (tU (aR (aL h))) (tU (aR h))
theorem aTi(i:Int):SE T C (.int i):=λ X hX x h=>aAk (P:=λ x=>PE X x _) h λ k p=>aT6
theorem aJt(i:Bool):SE T C (.bl i):=λ X hX x h=>aAk (P:=λ x=>PE X x _) h λ k p=>aWd
theorem aSj:SE T C .non:=λ X hX x h=>aAk (P:=λ x=>PE X x _) h λ k p=>aTA
theorem aQY(i:Str):SE T C (.str i):=λ X hX x h=>aAk (P:=λ x=>PE X x _) h λ k p=>aVw
theorem aIp{op:jk}{a b:E}(ha:SE T C a)(hb:SE T C b):SE T C (.bin op a b):=λ X hX x hx=>aKr (P:=λ x=>PE X x _) hx λ l o r p h=>by
 obtain rfl:=dT (aL (aL h));exact aUd (ha X hX _ (aR (aL h))) (hb X hX _ (aR h))
theorem aUR{op:yz}{a:E}(ha:SE T C a):SE T C (.un op a):=λ X hX x hx=>aDB (P:=λ x=>PE X x _) hx λ o r p h=>by
 obtain rfl:=dT (aL (aL h));exact aWK (ha X hX _ (aR h))
theorem aQG{op:vz}{a b:E}(ha:SE T C a)(hb:SE T C b):SE T C (.cmp op a b):=λ X hX x hx=>aJH (P:=λ x=>PE X x _) hx λ l o r p h h4=>by
 obtain rfl:=dT (aL (aL h));exact aVG hX.units (ha X hX _ (aR (aL h))) (hb X hX _ (aR h)) (aGP h4 o)
theorem aI8{X:Cx}{x:qw}{t:TT}(h:PT X x t)(n:x.ctorIdx≠0):PT X x t/\∀ op es p,x=.BoolOp op es p->PW X x t:=
 ⟨h,λ op es p e=>absurd (congrArg Expr.ctorIdx e) n⟩
theorem aSS{op:vz}{a b:E}(ha:SE T C a)(hb:SE T C b):ST T C (.cmp op a b):=λ X hX x hx=>aJH (P:=λ x=>PT X x _/\∀ op es p,x=.BoolOp op es p->PW X x _) hx λ l o r p h h4=>by
 obtain rfl:=dT (aL (aL h));exact aI8 (aSX hX.units (ha X hX _ (aR (aL h))) (hb X hX _ (aR h)) (aGP h4 o)) (Nat.succ_ne_zero 14)
theorem aTg{n:Str}{ts:List Tv}:SE T C (.con n ts):=λ X hX x hx=>oJ (P:=λ x=>PE X x _) hx λ y p h=>by
 obtain rfl:=dT (aL (aL (aL h)));exact aTU (jA (aR (aL h))) (tU (aR h)) (hX.cns _ _ (List.contains_iff_mem.mp (aR (aL (aL h)))))
theorem aSY{a b:E}(ha:SE T C a)(hb:SE T C b):SE T C (.and a b):=λ X hX x hx=>aAc (P:=λ x=>PE X x _) hx
 (λ l r p h=>PE.weak (aH9 (ha X hX _ (aL h)) (aIP (hb X hX _ (aR h)))) aIl) λ l b c r p h=>PE.weak (aH9 (ha X hX _ (aL h)) (hb X hX _ (aR h))) aIl
theorem aTD{a b:E}(ha:SE T C a)(hb:SE T C b):SE T C (.or a b):=λ X hX x hx=>aAc (P:=λ x=>PE X x _) hx
 (λ l r p h=>PE.weak (aJz (ha X hX _ (aL h)) (aIP (hb X hX _ (aR h)))) aJD) λ l b c r p h=>PE.weak (aJz (ha X hX _ (aL h)) (hb X hX _ (aR h))) aJD
theorem aIV{X:Cx}{x:qw}{t:TT}(k:PW X x t):PT X x t/\∀ op es p,x=.BoolOp op es p->PW X x t:=⟨k.pt,λ _ _ _ _=>k⟩
theorem aRp{a b:E}(ha:ST T C a)(hb:ST T C b):ST T C (.and a b):=λ X hX x hx=>aIV (aAc (P:=λ x=>PW X x _) hx
 (λ l r p h=>PW.weak (aHX (ha X hX _ (aL h)).1 (aOy (hb X hX _ (aR h)).1)) aJb) λ l b c r p h=>PW.weak (aHX (ha X hX _ (aL h)).1 ((hb X hX _ (aR h)).2 _ _ _ rfl)) aJb)
theorem aTB{a b:E}(ha:ST T C a)(hb:ST T C b):ST T C (.or a b):=λ X hX x hx=>aIV (aAc (P:=λ x=>PW X x _) hx
 (λ l r p h=>PW.weak (aIX (ha X hX _ (aL h)).1 (aSy (hb X hX _ (aR h)).1)) aKi) λ l b c r p h=>PW.weak (aIX (ha X hX _ (aL h)).1 ((hb X hX _ (aR h)).2 _ _ _ rfl)) aKi)
theorem aTb{a:E}(ha:SE T C a):SE T C (.not a):=λ X hX x hx=>aDB (P:=λ x=>PE X x _) hx λ o y p h=>by
 obtain rfl:=dT (aL h);exact aSo (ha X hX _ (aR h))
theorem aQW{a:E}(ha:ST T C a):ST T C (.not a):=λ X hX x hx=>aDB (P:=λ x=>PT X x _/\∀ op es p,x=.BoolOp op es p->PW X x _) hx λ o y p h=>by
 obtain rfl:=dT (aL h);exact aI8 (aTx (ha X hX _ (aR h)).1) (Nat.succ_ne_zero 2)
theorem aSZ{c a b:E}(hc:ST T C c)(ha:SE T C a)(hb:SE T C b):SE T C (.ite c a b):=λ X hX x hx=>aWE (P:=λ x=>PE X x _) hx λ x y z p h=>aUX (hc X hX _ (aL (aL h))).1 (ha X hX _ (aR (aL h))) (hb X hX _ (aR h))
theorem aRe{a:E}(ha:SA T C a):SE T C (.tup a):=λ X hX x hx=>vR (P:=λ x=>PE X x _) hx λ xs k p h=>aUA (ha X hX _ h)
theorem aRv{a:E}(ha:SA T C a):SL T C (.lst a):=λ X hX x hx=>aWw (P:=λ x=>PE X x _) hx λ xs p h=>aTP (ha X hX _ h)
theorem aSH:SA T C .nil:=λ X hX x h=>mL (P:=λ x=>PA X x _) h aDk
theorem aPT{a r:E}(ha:SE T C a)(hr:SA T C r):SA T C (.cons a r):=λ X hX x h=>by
 cases x with
 | nil=>exact no h
 | cons y ys=>exact nY (ha X hX _ (aL (aL h))) (hr X hX _ (aR h)) (jP (aR (aL h)) _ _)
theorem aU7:SO T C .no:=λ X hX x h=>aIW (P:=λ x=>PO X x _) h aWJ
theorem aPg{a r:E}(ha:SE T C a):SO T C (.cons a r):=λ X hX x h=>aV8 (P:=λ r=>PO X x (lL X.K (ov C (.cons a r)))) (aL h) (aJy (P:=λ x=>PO X x _) (aR h) λ y h=>aSK (ha X hX _ h))
theorem aJn{a b:E}(ha:SE T C a)(hb:SE T C b):SE T C (.ix a b):=λ X hX x hx=>aDF (P:=λ x=>PE X x _) hx λ l r p h h3=>aVR (ha X hX _ (aL h)) (hb X hX _ (aR h)) (aJA h3)
theorem aSt{n:Str}{aZ:List (Str×Tv)}{k:E}(hk:SE T C k):SE T C (.tab n aZ k):=λ X hX x hx=>aDF (P:=λ x=>PE X x _) hx λ y z p g h6=>oJ (P:=λ y=>PE X (.Subscript y z p) _) (aR g) λ u q h=>by
 obtain rfl:=dT (aL (aL (aL h)));exact aUS (jA (aR (aL h))) (tU (aR h)) (hX.tbs _ _ (List.contains_iff_mem.mp (aR (aL (aL h))))) (hk X hX _ (aL g)) (aJA h6)
theorem aUJ{a lo hi:E}(ha:SE T C a)(hl:SO T C lo)(hh:SO T C hi):SE T C (.sl a lo hi):=λ X hX x hx=>aUL (P:=λ x=>PE X x _) hx λ y l u p q h=>aWk (ha X hX _ (aL (aL h))) (hl X hX _ (aR (aL h))) (hh X hX _ (aR h))
theorem aOZ{N:List Str}{a:E}{sc:zw}(h:mY T N a sc []=true):a=.nil:=by
 cases a<;>first | rfl | exact no h
theorem aMo{f np:Nat}{call:List W->aF->Option (W×aF)}{fs:FA}(h:C f=qq (np,call)):kW C f fs=aAo fs np call:=by
 funext env S
 unfold kW;rw[h]
theorem aHz{f:Nat}{a:E}(ha:SA T C a):SE T C (.call f a):=λ X hX x hx=>uX (P:=λ x=>PE X x _) hx λ y p zs q h=>by
 cases hC:C f with
 | none=>exact aOF λ env S=>by show kW C f (av C a) env S=qz;unfold kW;rw[hC]
 | some nc =>
   obtain⟨k,rm,fs⟩:=hX.room;obtain⟨fa,fd,ps,m1,m2,m3,m4⟩:=fs f nc.1 nc.2 y hC (dT (aL (aL (aL (aL h)))));have hw:∀ σ H Q,aW X.K (ev C (.call f a)) σ H Q->aAz (sX X.K nc.1 nc.2) [] E0 (eT X.K (av C a)) σ H Q:=λ σ H Q hq=>aQU σ H Q (aMo (fs:=av C a) hC▸hq)
   have h2:=jA (aR (aL (aL (aL h))));have h3:=tU (aR (aL (aL h)));cases zs with
   | nil =>
     refine PE.weak (aNI m4 rm h2 m1 m2 m3 .nil aJq h3) λ σ H Q hq=>?_
     obtain⟨F,L,S,env,ws,S',R,E,e,q2⟩:=hw σ H Q hq;cases aOZ (aR (aL h));cases e;exact q2 F L H [] Gr.refl R .nil
   | cons z zr=>exact PE.weak (aOO m4 rm h2 m1 m2 m3 .nil aJq (ha X hX _ (aR (aL h))) h3 (jP (aL (aR h)) _ _) (aB4 (aR (aR h)) _ _)) hw
theorem aIA{b:B}{a:E}(ha:SA T C a):SE T C (.blt b a):=λ X hX x hx=>uX (P:=λ x=>PE X x _) hx λ y p zs q h=>by
 obtain rfl:=dT (aR (aL (aL (aL h))));cases zs with
 | nil=>exact no (aL (aL (aL (aL h))))
 | cons z zr =>
 have A:=ha X hX _ (aR (aL h));have G:=jA (aR (aL (aL h)));have s1:=jP (aL (aR h)) zr X.env;have s2:=aB4 (aR (aR h)) X.env q;cases b with
 | len=>exact PE.weak (pB aVg G (hX.blt _ (by decide)) (by decide +kernel) A (by decide) (by decide) s1 s2) mJ
 | mx=>exact PE.weak (pB (aVr hX.calm) G (hX.blt _ (by decide)) (by decide +kernel) A (by decide) (by decide) s1 s2) mJ
 | mn=>exact PE.weak (pB (aUM hX.calm) G (hX.blt _ (by decide)) (by decide +kernel) A (by decide) (by decide) s1 s2) mJ
 | abs=>exact PE.weak (pB aTv G (hX.blt _ (by decide)) (by decide +kernel) A (by decide) (by decide) s1 s2) mJ
 | sum=>exact PE.weak (pB (aUp hX.calm) G (hX.blt _ (by decide)) (by decide +kernel) A (by decide) (by decide) s1 s2) mJ
 | all=>exact PE.weak (pB (aUh hX.calm) G (hX.blt _ (by decide)) (by decide +kernel) A (by decide) (by decide) s1 s2) mJ
 | any=>exact PE.weak (pB (aUo hX.calm) G (hX.blt _ (by decide)) (by decide +kernel) A (by decide) (by decide) s1 s2) mJ
 | int=>exact PE.weak (aBJ aU3 G (hX.blt _ (by decide)) (by decide +kernel) A (by decide) (by decide) s1 s2) mJ
 | tup=>exact PE.weak (aBJ aQt G (hX.blt _ (by decide)) (by decide +kernel) A (by decide) (by decide) s1 s2) mJ
theorem aOW{a:E}(ha:SE T C a):SE T C (.bits a):=λ X hX x hx=>aKg (P:=λ x=>PE X x _) hx λ o ap xs cp h4 h3 h=>mL (P:=λ xs=>PE X (.Call (.Attribute o "bit_length" ap) xs [] cp) _) (aR h) (by
 refine PE.weak (aSQ PySem.F.plainAttrs_int yGd PySem.F.type_int_bit_length aPI (ha X hX _ (aL h)) (pH h3 _ _) h4) λ σ H Q hPq45=>?_
 obtain⟨F,L,S,env,w,S',R,E,e,q⟩:=hPq45;obtain⟨⟨w1,S1⟩,e1,e2⟩:=bind_some e;obtain⟨d,z,e3,e4,rfl,rfl⟩:=aBX e2;refine⟨F,L,S,env,w1,_,R,E,e1,λ F1 L1 H1 v g1 R1 d1=>?_⟩
 have nw:=jU R1 d1 e3;cases d<;>first | (cases e4;done) | skip
 cases e4;obtain rfl:=nw.int;exact⟨rfl,_,rfl,rfl,q F1 L1 H1 _ g1 R1 (Den.int _)⟩)
theorem gZ{X:Cx}{z:qw}(h:cT z=true):qo [z] X.env=(false,eval z X.env)::qo [] X.env:=jP h [] X.env
theorem nJ{X:Cx}{a:E}{z:qw}(ha:SE T C a)(hX:Ctx T C X)(h:bJ T X.N a X.env.scope z=true)(hp:cT z=true):PA X [z] (eT X.K (cR (ev C a) gW)):=nY (ha X hX _ h) aDk (gZ hp)
theorem aQL{o a:E}(ho:SE T C o)(ha:SE T C a):SE T C (.app o a):=λ X hX x hx=>aDe (P:=λ x=>PE X x _) hx λ y ap z cp h4 h3 h2 h5 h6 =>
 PE.weak (aDj yFj PySem.F.slot_list_append PySem.F.type_list_append aFz (ho X hX _ h2) (nJ ha hX h5 h6) (pH h3 _ _) (by rw[gZ h6];rfl) h4 (gZ h6) rfl) aVK
theorem aQA{o a:E}(ho:SE T C o)(ha:SE T C a):SE T C (.pop o a):=λ X hX x hx=>aDe (P:=λ x=>PE X x _) hx λ y ap z cp h4 h3 h2 h5 h6 =>
 PE.weak (aDj yFj PySem.F.slot_list_pop PySem.F.type_list_pop aNn (ho X hX _ h2) (nJ ha hX h5 h6) (pH h3 _ _) (by rw[gZ h6];rfl) h4 (gZ h6) rfl) aVo
theorem aSf{o a:E}(ho:SE T C o)(ha:SE T C a):SE T C (.idx o a):=λ X hX x hx=>aDe (P:=λ x=>PE X x _) hx λ y ap z cp h4 h3 h2 h5 h6 =>
 PE.weak (aDj yFj yFi PySem.F.type_list_index aNy (ho X hX _ h2) (nJ ha hX h5 h6) (pH h3 _ _) (by rw[gZ h6];rfl) h4 (gZ h6) rfl) aU6
theorem aQ8{a:E}(ha:SE T C a):SL T C (.lof a):=λ X hX x hx=>aAY (P:=λ x=>PE X x _) hx λ p z q h2 h3 h4 =>
 PE.weak (aBJ aLf (jA h2) (hX.blt _ (by decide)) (by decide +kernel) (nJ ha hX h3 h4) (by decide) (by decide) (gZ h4) rfl) aT3
theorem aP3{a b:E}(ha:SE T C a)(hb:SE T C b):SL T C (.lzip a b):=λ X hX x hx=>aAY (P:=λ x=>PE X x _) hx λ p y q h2 h3 _=>aDt (P:=λ y=>PE X (.Call (.Name "list" p) [y] [] q) _) h3 λ p' z w q' h4 h5 h6 h7 h8 =>
 aQC (ha X hX _ h5) (hb X hX _ h7) hX.calm (jA h2) (hX.blt _ (by decide)) (jA h4) (hX.blt _ (by decide)) (jP h6 [w] X.env) (gZ h8)
theorem aOS{a b:E}(ha:SE T C a)(hb:SE T C b):SL T C (.lrep a b):=λ X hX x hx=>aKr (P:=λ x=>PE X x _) hx λ l o r p h=>by
 obtain rfl:=dT (aL (aL h));exact aTY (ha X hX _ (aR (aL h))) (hb X hX _ (aR h))
theorem aVB{a:E}(ha:SE T C a):SI T C (.it a):=λ X hX tg x h=>aW1 (ha X hX _ h)
theorem aP7{a:E}(ha:SE T C a):SI T C (.rng1 a):=λ X hX tg x hx=>aAY (P:=λ x=>PI X tg x _) hx λ p z q h2 h3 h4 =>
 PI.weak (aMs (jA h2) (hX.blt _ (by decide)) (nJ ha hX h3 h4) (gZ h4)) aRF
theorem aOK{a b c:E}(ha:SE T C a)(hb:SE T C b)(hc:SE T C c):SI T C (.rng3 a b c):=λ X hX tg x hx=>aWa (P:=λ x=>PI X tg x _) hx λ p z w v q h2 h3 h4 h5 h6 h7 h8=>by
 have st:=jP h4 [w,v] X.env;have st2:=jP h6 [v] X.env;exact PI.weak (aMi (jA h2) (hX.blt _ (by decide)) (nY (ha X hX _ h3) (nY (hb X hX _ h5) (nJ hc hX h7 h8) st2) st) st (by rw[st2,gZ h8];rfl)) aSz
theorem aPe{a b:E}(ha:SE T C a)(hb:SE T C b):SI T C (.rng2 a b):=λ X hX tg x hx=>aDt (P:=λ x=>PI X tg x _) hx λ p z z2 q h2 h3 h4 h5 h6=>by
 have st:=jP h4 [z2] X.env;exact PI.weak (aMw (jA h2) (hX.blt _ (by decide)) (nY (ha X hX _ h3) (nJ hb hX h5 h6) st) (by rw[st,gZ h6];rfl) (gZ h6)) aTd
theorem aSL{a:E}(ha:SE T C a):SI T C (.enm a):=λ X hX tg x hx=>vR (P:=λ tg=>PI X tg x _) (aL hx) λ ts k tp _=>aAY (P:=λ x=>PI X _ x _) (aR hx) λ p z q h2 h3 h4 =>
 PI.weak (aNj (jA h2) (hX.blt _ (by decide)) (nJ ha hX h3 h4) (gZ h4)) aQp
theorem aRw{a b:E}(ha:SE T C a)(hb:SE T C b):SI T C (.zip a b):=λ X hX tg x hx=>vR (P:=λ tg=>PI X tg x _) (aL hx) λ ts k tp _=>aDt (P:=λ x=>PI X _ x _) (aR hx) λ p z z2 q h2 h3 h4 h5 h6 =>
 PI.weak (aS9 (jA h2) (hX.blt _ (by decide)) (nY (ha X hX _ h3) (nJ hb hX h5 h6) (jP h4 [z2] X.env)) (jP h4 [z2] X.env) (gZ h6)) aVI
theorem or2{a b:Bool}(h:(a||b)=true)(n:a=false):b=true:=by
 rw[n] at h;exact h
theorem aG3{scope osc:zw}(h:aDg scope osc=true):ScOk scope osc:=by
 have h2:=List.all_eq_true.mp (aR h);refine⟨dT (aL h),λ x hx e=>?_,λ x hx e=>?_,λ x hx e=>?_⟩
 ·have:=h2 x hx;simp[e] at this
 ·have:=h2 x hx;simp[e] at this;exact this
 ·have:=h2 x hx;simp[e] at this;exact this
theorem aCJ{N:List Str}{scope:zw}{is:List Nat}:∀ {n:Nat},aAQ N scope is n=true->∀ i,i<n->∀ x,N[i]? = qq x->scope.names.lookup x=qq .local->i∈is
 | 0,_,i,hi,_,_,_=>absurd hi (yDy i)
 | n+1,h,i,hi,x,e,el=>by
   rcases Nat.lt_succ_iff_lt_or_eq.mp hi with z | z
   ·exact aCJ (aL h) i z x e el
   ·subst z;have h2:=aR h;rw[e] at h2;exact List.contains_iff_mem.mp (or2 h2 (by rw[el];rfl))
theorem aPB{elt it cond:E}{t:Tg}(he:SE T C elt)(hi:SI T C it)(hc:ST T C cond):SL T C (.comp elt t it cond):=λ X hX x hx=>aKo (P:=λ x=>PE X x _) hx λ e tg iter ifs scope p h1 h2 h3 h4 h5 h6 h7=>by
 have sok:=aG3 h1;refine aHZ (g:=tE X.K t) hX.calm sok (λ i x a1 a2=>aCJ h2 i (gIm a1).1 x a1 a2) (hi X hX tg iter h4) (λ Y hY=>?_) (aAB X.K t) (λ Y hY=>?_) (λ Y hY=>?_) (aBH h5 X.env)
 ·obtain⟨c1,c2,c3,c4⟩:=hX.comp sok.kind hY;rw[<- c4];exact aAD (.inl rfl) c1.nd c1.calm (by rw[c2,c3];exact h3)
 ·obtain⟨c1,c2,c3,c4⟩:=hX.comp sok.kind hY;cases ifs with
  | nil=>exact aKj (P:=λ cond=>lX Y [] (tv C cond)) h6 aFH
  | cons y r=>exact mL (P:=λ r=>lX Y (y::r) _) (aL h6) (aFs (hc Y c1 y (by rw[c2,c3];exact aR h6)).1)
 ·obtain⟨c1,c2,c3,c4⟩:=hX.comp sok.kind hY;rw[<- c4];exact he Y c1 e (by rw[c2,c3];exact h7)
theorem aU0{a:E}(ha:SL T C a):SE T C (.fz a):=λ X hX x h=>aJY (ha X hX x h)
theorem aQM{a:E}(ha:SL T C a):SE T C (.new a):=λ X hX x h=>aVA (ha X hX x h)
theorem sH{c:E}(h:SE T C c)(ht:tv C c=dQ (ev C c))(hk:∀ N sc x,kF T N c sc x=(bJ T N c sc x&&mQ x)):ST T C c:=λ X hX x q=>by
 rw[hk] at q;rw[ht];exact aUc (h X hX x (aL q)) (aR q)
structure Sn(T:Tx)(C:Calls)(c:E):Prop where
 e:SE T C c:=by exact λ _ _ _ h=>no h
 t:ST T C c:=by exact λ _ _ _ h=>no h
 a:SA T C c:=by exact λ _ _ _ h=>no h
 o:SO T C c:=by exact λ _ _ _ h=>no h
 l:SL T C c:=by exact λ _ _ _ h=>no h
 i:SI T C c:=by exact λ _ _ _ _ h=>no h
theorem sn(c:E):Sn T C c:=by
 induction c with
 | var i=>exact {e:=aH0 i,t:=sH (aH0 i) rfl λ _ _ _=>rfl }
 | int i=>exact {e:=aTi i }
 | bl b=>exact {e:=aJt b,t:=sH (aJt b) rfl λ _ _ _=>rfl }
 | non=>exact {e:=aSj }
 | str x=>exact {e:=aQY x }
 | bin op a b bA cD=>exact {e:=aIp bA.e cD.e,t:=sH (aIp bA.e cD.e) rfl λ _ _ _=>rfl }
 | un op a bA=>exact {e:=aUR bA.e }
 | cmp op a b bA cD=>exact {e:=aQG bA.e cD.e,t:=aSS bA.e cD.e }
 | ltl a b bA cD=>exact {}
 | and a b bA cD=>exact {e:=aSY bA.e cD.e,t:=aRp bA.t cD.t }
 | or a b bA cD=>exact {e:=aTD bA.e cD.e,t:=aTB bA.t cD.t }
 | not a bA=>exact {e:=aTb bA.e,t:=aQW bA.t }
 | ite c a b ihc bA cD=>exact {e:=aSZ ihc.t bA.e cD.e }
 | tup a bA=>exact {e:=aRe bA.a }
 | lst a bA=>exact {l:=aRv bA.a }
 | nil=>exact {a:=aSH }
 | cons a r bA ihr=>exact {a:=aPT bA.e ihr.a,o:=aPg bA.e }
 | chn op hG a b c bA cD ihc=>exact {}
 | con x ts=>exact {e:=aTg }
 | ix a b bA cD=>exact {e:=aJn bA.e cD.e,t:=sH (aJn bA.e cD.e) rfl λ _ _ _=>rfl }
 | dsp k l m a b c i bA cD ihc ihi=>exact {}
 | tab x aZ k ihk=>exact {e:=aSt ihk.e }
 | slL a lo hi bA ihlo ihhi=>exact {}
 | sl a lo hi bA ihlo ihhi=>exact {e:=aUJ bA.e ihlo.o ihhi.o }
 | no=>exact {o:=aU7 }
 | call f a bA=>exact {e:=aHz bA.a,t:=sH (aHz bA.a) rfl λ _ _ _=>rfl }
 | blt b a bA=>exact {e:=aIA bA.a,t:=sH (aIA bA.a) rfl λ _ _ _=>rfl }
 | isi a n bA=>exact {}
 | bits a bA=>exact {e:=aOW bA.e }
 | app o a iho bA=>exact {e:=aQL iho.e bA.e }
 | pop o a iho bA=>exact {e:=aQA iho.e bA.e }
 | idx o a iho bA=>exact {e:=aSf iho.e bA.e }
 | lof a bA=>exact {l:=aQ8 bA.e }
 | lzip a b bA cD=>exact {l:=aP3 bA.e cD.e }
 | lrg1 a bA=>exact {}
 | lrg2 a b bA cD=>exact {}
 | srt a bA=>exact {}
 | lrev a bA=>exact {}
 | lrep a b bA cD=>exact {l:=aOS bA.e cD.e }
 | comp elt t it cond ihelt ihit ihcond=>exact {l:=aPB ihelt.e ihit.i ihcond.t }
 | it a bA=>exact {i:=aVB bA.e }
 | rng1 a bA=>exact {i:=aP7 bA.e }
 | rng2 a b bA cD=>exact {i:=aPe bA.e cD.e }
 | rng3 a b c bA cD ihc=>exact {i:=aOK bA.e cD.e ihc.e }
 | rrng a bA=>exact {}
 | enm a bA=>exact {i:=aSL bA.e }
 | zip a b bA cD=>exact {i:=aRw bA.e cD.e }
 | zip3 a b c bA cD ihc=>exact {}
 | fz a bA=>exact {e:=aU0 bA.l }
 | new a bA=>exact {e:=aQM bA.l }
end
section
variable (T : Tx)(C : Calls)
def SS(c:Sx):Prop:=∀ X,Ctx T C X->(∀ x,X.fn x=true)->∀ st,okS T X.N c X.env.scope st=true->PS X st (dJ X.K (xs C c))
def nI(c:Sx):Prop:=∀ X,Ctx T C X->(∀ x,X.fn x=true)->∀ st,mU T X.N c X.env.scope st=true->dP X st (dJ X.K (xs C c))
end
section
variable {T : Tx}{C : Calls}
theorem aHF{e t:qw}(h:rP e=true)(line:Nat)(env:Env):swapsWithSole [t] e line env=pure false:=aB1 h _ _ _
theorem aLL{e:qw}{ts:List qw}{k:Nat}{p:Pos}{env:Env}(h:uZ e=false):yw [.Tuple ts k p] e env=pure qz:=by
 cases e<;>first | rfl | exact no h.symm
theorem aLt{o i e:qw}{p:Pos}{env:Env}:yw [.Subscript o i p] e env=pure qz:=by
 cases e<;>rfl
theorem aQw{a b:Sx}(ha:SS T C a)(hb:nI T C b):nI T C (.seq a b):=λ X hX hf st h=>by
 cases st with
 | nil=>exact no h
 | cons s r =>
   obtain⟨h1,h2⟩:=gU h;exact aVn (ha X hX hf _ h1) (hb X hX hf _ h2)
theorem aP9:nI T C .skip:=λ X hX hf st h=>mL (P:=λ st=>dP X st _) h aRm
theorem aRB:SS T C .nev:=λ X hX hf st h aB s σ H D I t=>by
 obtain⟨F,L,S,env,fl,S',R,E,e,q⟩:=jQ t;cases e
theorem aQn{e:E}:SS T C (.expr e):=λ X hX hf st h=>aWH (P:=λ st=>PS X st _) h λ x p h=>aR5 ((sn e).e X hX _ (aL h)) (aB1 (aR h) _ _ _)
theorem aSi{e:E}:SS T C (.ret e):=λ X hX hf st h=>aWv (P:=λ st=>PS X st _) h λ _ p h=>aJy (P:=λ v=>PS X (.Return v p) _) h λ x h=>aVD ((sn e).e X hX _ h)
theorem aRh{c:E}{a b:Sx}(ha:nI T C a)(hb:nI T C b):SS T C (.ifs c a b):=λ X hX hf st h=>aWr (P:=λ st=>PS X st _) h λ x y z p h=>aVL ((sn c).t X hX _ (aL (aL h))).1 (ha X hX hf _ (aR (aL h))) (hb X hX hf _ (aR h))
theorem aSw{i:Nat}{e:E}:SS T C (.set i e):=λ X hX hf st h=>aAU (P:=λ st=>PS X st _) h λ _ y p h=>lF (P:=λ ts=>PS X (.Assign ts y p) _) (aR h) λ _ g=>oJ (P:=λ t=>PS X (.Assign [t] y p) _) g λ x q g =>
 aJx hX.nd (dT (aL g)) (aCU (aR g)) ((sn e).e X hX _ (aL (aL h))) (aB1 (aR (aL h)) _ _ _) (.inl (hf _))
theorem aWl{K:FrG}{f:FL}(σ:St)(H:Hp)(Q:VK)(h:aW K (hJ f) σ H Q):iK K f σ H Q:=by
 obtain⟨F,L,S,env,w,S',R,E,e,q⟩:=h;obtain⟨⟨ds,S1⟩,e1,e2⟩:=bind_some e;cases e2;exact⟨F,L,S,env,ds,_,R,E,e1,λ F1 L1 H1 p xs g1 R1 hF hL hH dl=>q _ L1 _ _ (g1.trans (Gr.new hF)) (R1.adopt hF hL hH) (Den.lst (bM.of cY) (dl.mono (dW hF)))⟩
theorem aTR{K:FrG}{f:FL}(σ:St)(H:Hp)(Q:VK)(h:aW K (fD f) σ H Q):iK K f σ H Q:=by
 obtain⟨F,L,S,env,w,S',R,E,e,q⟩:=h;obtain⟨⟨ds,S1⟩,e1,e2⟩:=bind_some e;cases e2;refine⟨F,L,S,env,ds,_,R,E,e1,λ F1 L1 H1 p xs g1 R1 hF hL hH dl=>q _ _ _ _ (g1.trans Gr.newLoc) (R1.adoptLoc hF hL hH dl) ⟨p,?_,rfl⟩⟩
 dsimp only;rw[<- R1.len,yAe (yAb _)];simp
theorem aV6{K:FrG}{f:FL}(nw:Bool):∀ (σ:St) (H:Hp) (Q:VK),aW K (match nw with | true=>fD f | false=>hJ f) σ H Q->iK K f σ H Q:=by
 cases nw
 ·exact aWl
 ·exact aTR
theorem aP2{nw:Bool}{i:Nat}{e:E}:SS T C (.setC nw i e):=λ X hX hf st h=>aAU (P:=λ st=>PS X st _) h λ _ y p h=>lF (P:=λ ts=>PS X (.Assign ts y p) _) (aR h) λ _ g=>oJ (P:=λ t=>PS X (.Assign [t] y p) _) g λ x q g=>by
 refine aVM (P:=λ e=>xH T X.N e X.env.scope y=true->PS X (.Assign [.Name x q] y p) (dJ X.K (xs C (.setC nw i e)))) (aL (aL h)) (λ elt t it cond hL=>aKo (P:=λ y=>PS X (.Assign [.Name x q] y p) (dJ X.K (xs C (.setC nw i (.comp elt t it cond))))) hL λ e tg iter ifs scope r h1 h2 h3 h4 h5 h6 h7=>?_) (aR (aL h))
 have sok:=aG3 h1;refine aMx (g:=tE X.K t) hX.nd (dT (aL g)) (aCU (aR g)) (.inl (hf _)) hX.calm sok (λ i x a1 a2=>aCJ h2 i (gIm a1).1 x a1 a2) ((sn it).i X hX tg iter h4) (λ Y hY=>?_) (aAB X.K t) (λ Y hY=>?_) (λ Y hY=>?_) (aBH h5 X.env) (aV6 nw)
 ·obtain⟨c1,c2,c3,c4⟩:=hX.comp sok.kind hY;rw[<- c4];exact aAD (.inl rfl) c1.nd c1.calm (by rw[c2,c3];exact h3)
 ·obtain⟨c1,c2,c3,c4⟩:=hX.comp sok.kind hY;cases ifs with
  | nil=>exact aKj (P:=λ cond=>lX Y [] (tv C cond)) h6 aFH
  | cons y r=>exact mL (P:=λ r=>lX Y (y::r) _) (aL h6) (aFs ((sn cond).t Y c1 y (by rw[c2,c3];exact aR h6)).1)
 ·obtain⟨c1,c2,c3,c4⟩:=hX.comp sok.kind hY;rw[<- c4];exact(sn elt).e Y c1 e (by rw[c2,c3];exact h7)
theorem aVT{b:Bool}(h:(!b)=true):b=false:=by
 cases b with
 | false=>rfl
 | true=>exact no h
theorem aP5{t:Tg}{e:E}:SS T C (.setT t e):=λ X hX hf st h=>aAU (P:=λ st=>PS X st _) h λ _ v p h=>lF (P:=λ ts=>PS X (.Assign ts v p) _) (aR h) λ tg g=>by
 have h1:=aAD (.inr hf) hX.nd hX.calm (aR g)
 revert h1
 exact vR (P:=λ tg=>PG X tg (tE X.K t)->PS X (.Assign [tg] v p) (dJ X.K (xs C (.setT t e)))) (aL g) λ ts k q _ h1=>PS.weak (aIz ((sn e).e X hX _ (aL (aL (aL h)))) h1 (aHF (aR (aL (aL h))) _ _) (aLL (aVT (aR (aL h)))) rfl) (aQF (aAB X.K t))
theorem aQQ{o i e:E}:SS T C (.put o i e):=λ X hX hf st h=>aAU (P:=λ st=>PS X st _) h λ _ z p h=>lF (P:=λ ts=>PS X (.Assign ts z p) _) (aR h) λ _ g=>aDF (P:=λ t=>PS X (.Assign [t] z p) _) g λ x y q g h3 =>
 aTH ((sn o).e X hX _ (aL g)) ((sn i).e X hX _ (aR g)) ((sn e).e X hX _ (aL (aL h))) (aM4 h3) (aHF (aR (aL h)) _ _) aLt
theorem aUf{n:Nat}{c:E}{b:Sx}(hb:nI T C b):SS T C (.wh n c b):=λ X hX hf st h=>aVW (P:=λ st=>PS X st _) h λ x y z p h=>mL (P:=λ z=>PS X (.While x y z p) _) (aL (aL h)) (aWF n hX.own ((sn c).t X hX _ (aR (aL h))).1 (hb X hX hf _ (aR h)))
theorem aOU{t:Tg}{it:E}{b:Sx}(hb:nI T C b):SS T C (.loop t it b):=λ X hX hf st h=>aV7 (P:=λ st=>PS X st _) h λ tg x y z p h=>mL (P:=λ z=>PS X (.For tg x y z p) _) (aL (aL (aL (aL h))))
 (aUr hX.own hX.calm ((sn it).i X hX _ _ (aR (aL (aL h)))) (aAD (.inr hf) hX.nd hX.calm (aR (aL (aL (aL h))))) (aAB X.K t) (hb X hX hf _ (aR h)) (aBH (aR (aL h)) X.env))
theorem ss(c:Sx):SS T C c/\nI T C c:=by
 have N2:∀ {c:Sx},SS T C c->(∀ N sc st,mU T N c sc st=false)->SS T C c/\nI T C c:=λ q hh=>⟨q,λ X hX hf st h=>by rw[hh] at h;exact no h⟩
 induction c with
 | skip=>exact⟨λ X hX hf st h=>no h,aP9⟩
 | seq a b bA cD=>exact⟨λ X hX hf st h=>no h,aQw bA.1 cD.2⟩
 | expr e=>exact N2 aQn λ _ _ _=>rfl
 | ret e=>exact N2 aSi λ _ _ _=>rfl
 | nev=>exact N2 aRB λ _ _ _=>rfl
 | ifs c a b bA cD=>exact N2 (aRh bA.2 cD.2) λ _ _ _=>rfl
 | set i e=>exact N2 aSw λ _ _ _=>rfl
 | setC nw i e=>exact N2 aP2 λ _ _ _=>rfl
 | setT t e=>exact N2 aP5 λ _ _ _=>rfl
 | put o i e=>exact N2 aQQ λ _ _ _=>rfl
 | wh n c b cD=>exact N2 (aUf cD.2) λ _ _ _=>rfl
 | loop t it b cD=>exact N2 (aOU cD.2) λ _ _ _=>rfl
end
structure Fn where
 name:Str
 np:Nat
 N:List Str
 body:Sx
 st:xw
noncomputable def aE(fs:List Fn):Nat->Calls
 | 0=>λ _=>qz
 | d+1=>λ f=>(fs[f]?).map λ F=>(F.np,fQ (xs (aE fs d) F.body) F.N.length)
structure Tbs where
 tb:List (Str×List (Str×Tv))
 cn:List (Str×List Tv)
noncomputable def tab(fs:List Fn)(tb:Tbs):Tx:=⟨fs.map λ F=>(F.name,F.np),tb.tb,tb.cn⟩
noncomputable def aCG:List Str->Bool
 | []=>true
 | x::r=>!r.contains x&&aCG r
theorem aGn:∀ {l:List Str},aCG l=true->l.Nodup
 | [],_=>List.nodup_nil
 | x::r,h=>by
   obtain⟨h1,h2⟩:=gU h;refine List.nodup_cons.mpr ⟨λ z=>?_,aGn h2⟩
   have:r.contains x=true:=by simpa using z
   rw[this] at h1;exact no h1
noncomputable def aAO(fs:List Fn)(tb:Tbs)(F:Fn):Bool:=
 decide ((eJ F.st).kind=.function) && !(eJ F.st).isCoroutine && !(eJ F.st).isGenerator&&aCG F.N&&decide (F.np<=F.N.length)&&(F.N.take F.np).all (loc (eJ F.st))&&(eJ F.st).names.all (λ y=>!decide (y.2=.free)) &&
  mU (tab fs tb) F.N F.body (eJ F.st) (kR F.st)
theorem aRI{sc:zw}{x:Str}(h:loc sc x=true):sc.names.lookup x=qq .local\/sc.names.lookup x=qq .cell:=by
 unfold loc at h
 split at h<;>first | exact .inl (by assumption) | exact .inr (by assumption) | exact no h
theorem aOt{fs:List Fn}{tb:Tbs}{F:Fn}(h:aAO fs tb F=true):FnScope F.N (F.N.take F.np) (eJ F.st)/\mU (tab fs tb) F.N F.body (eJ F.st) (kR F.st)=true/\(F.N.take F.np).length=F.np:=by
 obtain⟨h,h8⟩:=gU h;obtain⟨h,h7⟩:=gU h;obtain⟨h,h6⟩:=gU h;obtain⟨h,h5⟩:=gU h;obtain⟨h,h4⟩:=gU h;obtain⟨h,h3⟩:=gU h;obtain⟨h1,h2⟩:=gU h;have hl:(F.N.take F.np).length=F.np:=by
  rw[yCc];have:=oqT h5;omega
 refine⟨⟨oqT h1,?_,?_,aGn h4,by rw[hl],λ x hx=>aRI (List.all_eq_true.mp h6 x hx),λ y hy=>?_⟩,h8,hl⟩
 ·cases q:(eJ F.st).isCoroutine with
  | false=>rfl
  | true=>rw[q] at h2;exact no h2
 ·cases q:(eJ F.st).isGenerator with
  | false=>rfl
  | true=>rw[q] at h3;exact no h3
 ·have:=List.all_eq_true.mp h7 y hy;intro z;rw[dqT z] at this;exact no this
section
variable {P : qu}{w : zq}{K : FrG}{mg : Str -> Option qx}{base : Heap}
theorem aHr(fs:List Fn)(tb:Tbs)(hk:∀ F∈fs,aAO fs tb F=true)(top:∀ F∈fs,∃ fa fd,Fun K F.name F.name F.st fa fd/\mg F.name=qq (.ref fa)/\mO K fd (F.N.take F.np) [])(hb:∀ x∈bltNames,mg x=qz)(ht:∀ x aZ,(x,aZ)∈tb.tb->∃ a,mg x=qq (.ref a)/\vK K w a aZ)(hcn:∀ x ts,(x,ts)∈tb.cn->∃ a,mg x=qq (.ref a)/\sD K a ts) :
 ∀ d f F np call fa fd,fs[f]? = qq F->aE fs d f=qq (np,call)->Fun K F.name F.name F.st fa fd->FnOk P w K mg base tF d fa fd (F.N.take F.np) (sX K np call)
 | 0,f,F,np,call,fa,fd,eF,e,Fu=>by cases e
 | d+1,f,F,np,call,fa,fd,eF,e,Fu=>by
   have ih:=aHr fs tb hk top hb ht hcn d;have e2:(F.np,fQ (xs (aE fs d) F.body) F.N.length)=(np,call):=by
    have e':(fs[f]?).map (λ F=>(F.np,fQ (xs (aE fs d) F.body) F.N.length))=qq (np,call):=e
    rw[eF] at e';exact Option.some.inj e'
   cases e2;have hm:F∈fs:=xAl eF;obtain⟨sc,hok,hl⟩:=aOt (hk F hm);refine Fu.ok sc (λ vs H Q E h=>?_) λ cdv A outer s H vs Q E hr h=>?_
   ·obtain⟨F1,L,S,ws,w1,S',hn,R,dl,_⟩:=h;rw[hl,<- hn];exact dl.length.symm
   ·refine⟨_,(ss (T:=tab fs tb) (C:=aE fs d) F.body).2 _ ⟨sc.nd,rfl,rfl,sc.kind,⟨d,hr,λ f' np' call' x' e1 e2=>?_⟩,hb,λ x aZ hx=>ht x aZ hx,λ x ts hx=>hcn x ts hx⟩ (λ _=>rfl) _ hok,aRH h⟩
    have e2:((fs.map λ F=>(F.name,F.np))[f']?).map (·.1)=qq x':=e2
    rw[xAb] at e2;cases q:fs[f']? with
    | none=>rw[q] at e2;cases e2
    | some F' =>
      rw[q] at e2;have hx:F'.name=x':=Option.some.inj e2;subst hx;obtain⟨fa',fd',Fu',hmg',hbi'⟩:=top F' (xAl q);exact⟨fa',fd',_,hmg',Fu'.kp,hbi',ih f' F' np' call' fa' fd' q e1 Fu'⟩
end
structure TopFn(K:FrG)(F:Fn):Prop where
 ex:∃ (f:qv) (oc:qx) (od an:Option qv) (sl:Array (Option qx)) (kV dc pm cd ct:qx),yFc K xj F.name=qq (qq (.ref f)) /\
  K.lookup f=qq ⟨oc,od,.func (yDk F.name F.name (nT F.st) (kR F.st) (eJ F.st) .none kV dc pm an cd ct),sl⟩/\yFu K cd F.name=true/\yCx K (.ref f)=true
theorem top_mk{K:FrG}{F:Fn}{f:qv}{oc:qx}{od an:Option qv}{sl:Array (Option qx)}{kV dc pm cd ct:qx}(a:yFc K xj F.name=qq (qq (.ref f)))
 (l:K.lookup f=qq ⟨oc,od,.func (yDk F.name F.name (nT F.st) (kR F.st) (eJ F.st) .none kV dc pm an cd ct),sl⟩) (c:yFu K cd F.name=true) (k:yCx K (.ref f)=true):TopFn K F:=
 ⟨f,oc,od,an,sl,kV,dc,pm,cd,ct,a,l,c,k⟩
structure TabTop(K:FrG)(w:zq)(t:Str×List (Str×Tv)):Prop where
 ex:∃ (a:qv) (es:Array DictEntry) (ep:Nat),yFc K xj t.1=qq (qq (.ref a))/\K.lookup a=qq {cls:=.type "dict",data:=.dict es ep }/\sE w es.toList t.2
theorem tab_mk{K:FrG}{w:zq}{t:Str×List (Str×Tv)}{a:qv}{es:Array DictEntry}{ep:Nat}(a1:yFc K xj t.1=qq (qq (.ref a)))
 (l1:K.lookup a=qq {cls:=.type "dict",data:=.dict es ep }) (c1:sE w es.toList t.2):TabTop K w t:=⟨a,es,ep,a1,l1,c1⟩
structure ConTop(K:FrG)(t:Str×List Tv):Prop where
 ex:∃ a:qv,yFc K xj t.1=qq (qq (.ref a))/\sD K a t.2
theorem con_mk{K:FrG}{t:Str×List Tv}{a:qv}{aG:Array qx}{n:Nat}{od:Option qv}{sl:Array (Option qx)}(a1:yFc K xj t.1=qq (qq (.ref a)))
 (l1:K.lookup a=qq {cls:=.type "tuple",dict:=od,data:=.seq aG n,slots:=sl }) (z1:aG.size<=100) (c1:aAy aG.toList t.2):ConTop K t:=
 ⟨a,a1,_,aG,n,l1,rfl,rfl,xAi z1 (by decide),c1⟩
def aCA(F:Fn):Prop:=∀ (kV doc pm:qx) (an:Option qv) (cdv ct:qx) (us:List qx),us.length=(F.N.take F.np).length->bindArgs (yDk F.name F.name (nT F.st) (kR F.st) (eJ F.st) .none kV doc pm an cdv ct) ⟨us,[]⟩=pure ((F.N.take F.np).zip us)
noncomputable def aDi(F:Fn):Bool:=match nT F.st with
 | ⟨[],as,qz,[],_,qz,_⟩=>decide (F.N.take F.np=as.map (·.arg))&&decide (F.N.take F.np).Nodup
 | _=>false
theorem aGu:∀ {ns:List Str}{us:List qx},ns.Nodup->us.length=ns.length->(∀ n∈ns,((ns.zip us).lookup n).isNone=false)/\ns.filterMap (λ n=>((ns.zip us).lookup n).map (n,·))=ns.zip us
 | [],us,_,_=>⟨λ n h=>(nomatch h),by cases us<;>rfl⟩
 | x::ns,[],_,h=>by cases h
 | x::ns,u::us,hn,hl=>by
   obtain⟨h1,h2⟩:=List.nodup_cons.mp hn;obtain⟨i1,i2⟩:=aGu h2 (Nat.succ.inj hl);have e:∀ n∈ns,((x,u)::ns.zip us).lookup n=(ns.zip us).lookup n:=λ n m=>by
    rw[yCd];have:(n==x)=false:=by
     rw[beq_eq_false_iff_ne];rintro rfl;exact h1 m
    rw[this]
   refine⟨λ n m=>?_,?_⟩
   ·rw[List.zip_cons_cons];rcases List.mem_cons.mp m with rfl | m
    ·rw[yCd,beq_self_eq_true];rfl
    ·rw[e n m];exact i1 n m
   ·rw[List.zip_cons_cons,yDc,yCd,beq_self_eq_true];show(x,u)::_=_;congr 1;rw[<- i2];rw[i2];have g:∀ l:List Str,(∀ n∈l,n∈ns)->l.filterMap (λ n=>(((x,u)::ns.zip us).lookup n).map (n,·))=l.filterMap (λ n=>((ns.zip us).lookup n).map (n,·)):=λ l=>by
     induction l with
     | nil=>intro _;rfl
     | cons y l ih=>intro hl;rw[yDc,yDc,e y (hl y xAd),ih λ n m=>hl n (xAg _ m)]
    rw[g ns λ n m=>m,i2]
theorem aNv{F:Fn}(h:aDi F=true):aCA F:=by
 intro kV doc pm an cdv ct us hu;unfold aDi at h
 split at h
 ·rename_i as kd df e;obtain⟨h1,h2⟩:=gU h;have h1:=oqT h1;rw[e];rw[h1] at hu h2 ⊢;obtain⟨i1,i2⟩:=aGu (oqT h2) hu;have m:((as.map (·.arg)).take (as.map (·.arg)).length).filter (λ n=>(((as.map (·.arg)).zip us).lookup n).isNone)=[]:=by
   rw[yAf,List.filter_eq_nil_iff];intro n hn;rw[i1 n hn];decide
  unfold bindArgs;have q:seqItems? Value.none=(pure qz:Sem (Option (Array qx))):=rfl;simp only[yDk,q,pure_bind,yFa,yFk,yDd,yFv,yGx,yCn,List.drop_nil,List.zip_nil_right,Nat.sub_zero,hu,gt_iff_lt,yCb,decide_false,yBh,yAo,if_false,m,List.isEmpty_nil,Bool.not_true,i2,Option.isNone_none]
 ·exact no h
theorem aE7:∀ {ns:List Int}{i:Int},i∈ns->yAi i<=PySem.W.WData.weightAll (ns.map PySem.W.WData.int)
 | [],i,h=>by cases h
 | n::r,i,h=>by
   have e:PySem.W.WData.weightAll ((n::r).map PySem.W.WData.int)=yAi n+1+PySem.W.WData.weightAll (r.map PySem.W.WData.int):=rfl;rw[e];rcases List.mem_cons.mp h with z | z
   ·subst z;omega
   ·have:=aE7 z;omega
theorem aNi{ns:List Int}(h:PySem.W.WData.layableAll [PySem.W.WData.list (ns.map PySem.W.WData.int)]=true):∀ i∈ns,yAi i<=1048576:=λ i hi=>by
 have h1:PySem.W.WData.layable (PySem.W.WData.list (ns.map PySem.W.WData.int))=true:=by
  have:=List.all_eq_true.mp h _ xAd;exact this
 have h2:PySem.W.WData.weight (PySem.W.WData.list (ns.map PySem.W.WData.int))<=2^20:=oqT (gU h1).2;exact xAi (aE7 hi) h2
theorem aPO{l:yHf}{n:Nat}{q:qu}{loose:List Str}{XP:(Str->Option qx)->Heap->Prop}{YP:zq->Heap->Prop}{d:DefRec}
 (hn:l.most=qq n) (hdf:d.params.defaults=[])
 (go:∀ (w:zq) (s₀ s₁:qj) (mg mb:Str->Option qx) (fa:qv) (a:qv) (vs:List qx) (ns:List Int),
   PySem.W.Ground q loose [] XP w s₀ mg mb s₁.heap->YP w s₁.heap->mg d.name=qq (.ref fa) ->
   s₁.heap.get? a=qq {cls:=.type "list",data:=.seq vs.toArray }->IntsAre vs ns->ns.length<=n->(∀ i∈ns,yAi i<=1048576)->s₁.gens = #[] ->
   vx (model l.prog w) callerA (.call (.ref fa) ⟨[.ref a],[]⟩) (λ r s'=>r=.ok (.ret (.bool true))/\OldK s₁.heap s'.heap/\s'.os=s₁.os/\AllBare s'.gens) s₁) :
 PySem.W.WalkO q loose XP YP l.row.toRowW d [] (λ f vs=>PySem.call f vs):=by
 intro w s₀ s₁ mg mb G Y fa o pm cd doc dV kV ho hd hcd hD hmg hg args vals as hpre hlay hrd hwl hlo;obtain rfl:dV=.none:=PySem.W.Dflts.none hD hdf;obtain rfl:kV=.none:=PySem.W.Dflts.noKw hD;obtain⟨a,vs,ns,rfl,rfl,hobj,hints,bZ⟩:=Att.script_of hn hpre hwl;refine PySem.W.enter_call (codeAny_mono (go w s₀ s₁ mg mb fa a vs ns G Y hmg hobj hints bZ (aNi hlay) hg) λ r s' hq=>?_)
 obtain⟨rfl,h2,h3,h4⟩:=hq;exact⟨.inl ⟨.bool true,.bool true,[],rfl,λ _=>rfl,.bool true,Att.post_true l _,λ _=>⟨List.Pairwise.nil,λ _ hm=>(nomatch hm)⟩⟩,h2,h3,h4⟩
theorem law_of{l:yHf}{q:qu}{loose:List Str}{XP:(Str->Option qx)->Heap->Prop}{YP:zq->Heap->Prop}{d:DefRec}{K:Params->FrG}(fs:List Fn)(tb:Tbs)(f D:Nat)(L:Fn)(x:Str)
 (hn:l.most=qq 63) (hdf:d.params.defaults=[]) (hr:Room D callerA) (hY:∀ (w:zq) (h:Heap),YP w h->(K w.params).In h)
 (hk:∀ F∈fs,aAO fs tb F=true) (hb:∀ F∈fs,aCA F) (hL:fs[f]? = qq L) (hname:L.name=d.name) (hps:L.N.take L.np=[x])
 (top:∀ w:zq,∀ h:Heap,(K w.params).In h->∀ F∈fs,TopFn (K w.params) F) (tbl:∀ w:zq,∀ h:Heap,(K w.params).In h->∀ t∈tb.tb,TabTop (K w.params) w t) (cnl:∀ w:zq,∀ h:Heap,(K w.params).In h->∀ t∈tb.cn,ConTop (K w.params) t) (tbn:∀ w:zq,∀ h:Heap,(K w.params).In h->∀ x∈bltNames,yFc (K w.params) xj x=qq qz)
 (main:∀ ns:List Int,ns.length<=63->(∀ i∈ns,yAi i<=1048576)->∃ call S',aE fs D f=qq (1,call)/\call [.d (.list (ns.map yAj))] []=qq (.d (.bool true),S')) :
 PySem.W.WalkO q loose XP YP l.row.toRowW d [] (λ f vs=>PySem.call f vs):=by
 obtain⟨call,S0,hcall,_⟩:=main [] (by simp) (by simp)
 refine aPO hn hdf λ w s₀ s₁ mg mb fa a vs ns G Y hmg hobj hints bZ hsm hg=>?_
 have KX:=hY w _ Y;have tops:∀ F∈fs,∃ fa fd,Fun (K w.params) F.name F.name F.st fa fd/\mg F.name=qq (.ref fa)/\mO (K w.params) fd (F.N.take F.np) []:=λ F hF=>by
  obtain⟨f,oc,od,an,sl,kV,dc,pm,cd,ct,a,l,c,k⟩:=(top w _ KX F hF).ex;have Fu:=aSJ (st:=F.st) l c k;exact⟨f,_,Fu,PySem.W.mg_of KX G.T.g a,Fu.binds (hb F hF)⟩
 have hblt:∀ x∈bltNames,mg x=qz:=λ y hy=>PySem.W.mg_none_of KX G.T.g (tbn w _ KX y hy)
 have htab:∀ x aZ,(x,aZ)∈tb.tb->∃ a,mg x=qq (.ref a)/\vK (K w.params) w a aZ:=λ x aZ hx=>by
  obtain⟨a,es,ep,a1,l1,c1⟩:=(tbl w _ KX (x,aZ) hx).ex;exact⟨a,PySem.W.mg_of KX G.T.g a1,es,ep,l1,c1⟩
 have hcon:∀ x ts,(x,ts)∈tb.cn->∃ a,mg x=qq (.ref a)/\sD (K w.params) a ts:=λ x ts hx=>by
  obtain⟨a,a1,c1⟩:=(cnl w _ KX (x,ts) hx).ex;exact⟨a,PySem.W.mg_of KX G.T.g a1,c1⟩
 obtain⟨fa1,fd,Fu,hmg1,hbi⟩:=tops L (xAl hL);rw[<- hname,hmg1] at hmg;cases hmg;refine L2.law_call (fd:=fd) (sp:=sX (K w.params) 1 call) (CX:=tF) (x:=x) KX G.T.g G.T.b G.T.builtins G.T.nolimit hg hobj hints (xAi bZ (by decide)) hr (λ base kb nb=>?_) (λ s u=>?_) (λ H hO hS=>?_) λ _ _ _ z=>z
 ·have P1:=aHr (P:=l.prog) (w:=w) (base:=base) fs tb hk tops hblt htab hcon D f L 1 call _ _ hL hcall Fu;rw[hps] at P1;exact P1
 ·obtain⟨oc,od,kV,doc,pm,an,cdv,ct,osl,rfl,lk,hcd⟩:=Fu.ex;have:=hb L (xAl hL) kV doc pm an cdv ct [u] (by rw[hps];rfl)
  rw[hps] at this;exact .of_eq this
 ·obtain⟨call',S',hcall',hrun⟩:=main ns bZ hsm;rw[hcall] at hcall';cases hcall';refine⟨H,[],[],[.d (.list (ns.map yAj))],.d (.bool true),S',rfl,⟨cB.refl _,List.nodup_nil,rfl,λ n a ds e=>by simp at e,λ n a e=>by simp at e⟩,.cons (Den.lst hS (DenL.of_ints ns)) .nil,hrun,λ F' L' H' v g R d=>?_⟩
  cases (show Den (K w.params) F' (.bool true) v from d)
  rfl
end EV
namespace EV
open PySem L2
theorem aCt{α:Type}(S:List α)(a b:α):(S++[a]).set S.length b=S++[b]:=by simp
theorem aBW{α:Type}{t:Tg}{fc:FT}{fe:FE}{env:aU}{S:aF}(enc g:α->D)(p:α->Bool):∀ (l:List α) (aC:List D),aC.length+l.length<=qy ->
 (∀ a∈l,∃ e1,t.put (enc a) env=qq e1/\(∀ S',fc e1 S'=qq (p a,S'))/\(p a=true->∀ S',fe e1 S'=qq (.d (g a),S'))) ->
 iD t fc fe S.length env (l.map enc) (S++[qq aC])=qq (S++[qq (aC++(l.filter p).map g)])
 | [],aC,_,_=>by simp[iD]
 | a::l,aC,hz,h=>by
   obtain⟨e1,h1,h2,h3⟩:=h a xAd;have hlt:aC.length<qy:=by simp at hz;omega
   have dA:=λ x (hx:x∈l)=>h x (xAg _ hx)
   simp only[yAt,iD,h1,yBp,h2];cases hp:p a with
   | false =>
     simp only[yAo,if_false];rw[aBW enc g p l aC (by simp at hz;omega) dA]
     simp[yGa,hp]
   | true =>
     have ea:dF (S++[qq aC]) (.loc S.length) (.d (g a))=qq (.d .none,S++[qq (aC++[g a])]):=by
      unfold dF;simp only[yAe (yAb S.length),yBb,yBw];rw[if_pos hlt,aCt]
     simp only[if_true,h3 hp,yBp,ea];rw[aBW enc g p l (aC++[g a]) (by simp at hz ⊢;omega) dA]
     simp[yGa,hp]
theorem aN9{α:Type}{t:Tg}{fi:FL}{fc:FT}{fe:FE}{env:aU}{S S1:aF}(enc g:α->D)(p:α->Bool)(l:List α)(hi:fi env S=qq (l.map enc,S1))(hz:l.length<=qy)
 (h:∀ a∈l,∃ e1,t.put (enc a) (clr t.slots env)=qq e1/\(∀ S',fc e1 S'=qq (p a,S'))/\(p a=true->∀ S',fe e1 S'=qq (.d (g a),S'))):gS t fi fc fe env S=qq ((l.filter p).map g,S1):=by
 unfold gS;rw[hi];simp only[yBp];rw[aBW enc g p l [] (by simpa using hz) h]
 simp
theorem aB7{α:Type}{t:Tg}{fc:FT}{fe:FE}{env:aU}{S:aF}(enc g:α->D)(p:α->Bool):∀ (l:List α) (aC:List D),aC.length+l.length<=qy ->
 (∀ a∈l,∃ e1,t.put (enc a) env=qq e1/\(∀ aC,fc e1 (S++[qq aC])=qq (p a,S++[qq aC]))/\(p a=true->∀ aC,fe e1 (S++[qq aC])=qq (.d (g a),S++[qq aC]))) ->
 iD t fc fe S.length env (l.map enc) (S++[qq aC])=qq (S++[qq (aC++(l.filter p).map g)])
 | [],aC,_,_=>by simp[iD]
 | a::l,aC,hz,h=>by
   obtain⟨e1,h1,h2,h3⟩:=h a xAd;have hlt:aC.length<qy:=by simp at hz;omega
   have dA:=λ x (hx:x∈l)=>h x (xAg _ hx)
   simp only[yAt,iD,h1,yBp,h2];cases hp:p a with
   | false =>
     simp only[yAo,if_false];rw[aB7 enc g p l aC (by simp at hz;omega) dA]
     simp[yGa,hp]
   | true =>
     have ea:dF (S++[qq aC]) (.loc S.length) (.d (g a))=qq (.d .none,S++[qq (aC++[g a])]):=by
      unfold dF;simp only[yAe (yAb S.length),yBb,yBw];rw[if_pos hlt,aCt]
     simp only[if_true,h3 hp,yBp,ea];rw[aB7 enc g p l (aC++[g a]) (by simp at hz ⊢;omega) dA]
     simp[yGa,hp]
theorem zE{α:Type}{t:Tg}{fi:FL}{fc:FT}{fe:FE}{env:aU}{S S1:aF}(enc g:α->D)(p:α->Bool)(l:List α)(hi:fi env S=qq (l.map enc,S1))(hz:l.length<=qy)
 (h:∀ a∈l,∃ e1,t.put (enc a) (clr t.slots env)=qq e1/\(∀ aC,fc e1 (S1++[qq aC])=qq (p a,S1++[qq aC]))/\(p a=true->∀ aC,fe e1 (S1++[qq aC])=qq (.d (g a),S1++[qq aC]))):gS t fi fc fe env S=qq ((l.filter p).map g,S1):=by
 unfold gS;rw[hi];simp only[yBp];rw[aB7 enc g p l [] (by simpa using hz) h]
 simp
theorem nU{α:Type}{t:Tg}{fi:FL}{fe:FE}{env:aU}{S S1:aF}(enc g:α->D)(l:List α)(hi:fi env S=qq (l.map enc,S1))(hz:l.length<=qy)
 (h:∀ a∈l,∃ e1,t.put (enc a) (clr t.slots env)=qq e1/\∀ S',fe e1 S'=qq (.d (g a),S')):gS t fi lJ fe env S=qq (l.map g,S1):=by
 rw[aN9 (fc:=lJ) enc g (λ _=>true) l hi hz λ a ha=>let ⟨e1,h1,h2⟩:=h a ha;⟨e1,h1,λ _=>rfl,λ _=>h2⟩]
 rw[List.filter_eq_self.mpr (λ _ _=>rfl)]
theorem aGF{t:Tg}{fb:FS}{S:aF}(P:aU->Prop):∀ (ds:List D) (env:aU),P env->(∀ d∈ds,∀ env,P env->∃ e1 aI,t.put d env=qq e1/\fb e1 S=qq (.nx aI,S)/\P aI) ->
 ∃ aI,fB t fb ds env S=qq (.nx aI,S)/\P aI
 | [],env,h0,_=>⟨env,rfl,h0⟩
 | d::ds,env,h0,h=>by
   obtain⟨e1,aI,h1,h2,h3⟩:=h d xAd env h0;obtain⟨env2,h4,h5⟩:=aGF P ds aI h3 λ x hx=>h x (xAg _ hx)
   exact⟨env2,by simp only[fB,h1,yBp,h2];exact h4,h5⟩
theorem aGG(n:Nat):∀ lo:Int,jZ lo n=(yAu n).map λ k=>yAj (lo+(k:Nat)):=by
 induction n with
 | zero=>intro lo;rfl
 | succ n ih =>
   intro lo;rw[jZ,ih,List.range_succ_eq_map,yAt,yBn];congr 1
   ·simp
   ·apply yCg;intro k _;simp only[Function.comp];congr 1
    push_cast
    omega
theorem aF7:∀ (ds:List D) (k:Int),iS k ds=(ds.zipIdx).map λ p=>yBm [.int (k+(p.2:Nat)),p.1]
 | [],_=>rfl
 | d::r,k=>by
   rw[iS,aF7 r (k+1),yGz,yAt];congr 1
   ·simp
   ·rw[List.zipIdx_succ,yBn];apply yCg;intro p _;simp only[Function.comp];congr 3
    push_cast
    omega
end EV
namespace BM
theorem uE(n:Nat):0<2^n:=xAf n
noncomputable def oH(n w:Nat):List Bool:=(yAu w).map n.testBit
theorem aMT(n w i:Nat):(oH n w).getD i false=(decide (i<w)&&n.testBit i):=by
 unfold oH
 by_cases h:i<w
 ·simp[yGr,h]
 ·simp[yGr,h]
theorem cM{n w i:Nat}(h:n<2^w)(hi:w<=i):n.testBit i=false:=yDi (xAc h (yAl (by decide) hi))
noncomputable def bl(n:Nat):Nat:=if n=0 then 0 else n.log2+1
theorem uN{n:Nat}(h:n≠0):bl n=n.log2+1:=if_neg h
theorem pP(n:Nat):n<2^bl n:=by
 by_cases h:n=0
 ·subst h;decide
 ·rw[uN h];exact Nat.lt_log2_self
theorem aCI{n:Nat}(h:n≠0):n.testBit (bl n-1)=true:=by
 rw[uN h,Nat.add_sub_cancel];have h1:2^n.log2<=n:=Nat.log2_self_le h;have h2:n<2^(n.log2+1):=Nat.lt_log2_self;rw[yDt];have:n/2^n.log2=1:=by
  apply Nat.div_eq_of_lt_le
  ·omega
  ·rw[yFd] at h2;omega
 simp[this]
theorem sA{n w:Nat}(h:n<2^w):bl n<=w:=by
 by_cases h0:n=0
 ·subst h0;simp[bl]
 ·rw[uN h0];exact(Nat.log2_lt h0).mpr h
theorem aBO{n k:Nat}(h1:n<2^k)(h2:k=0\/n.testBit (k-1)=true):bl n=k:=by
 rcases h2 with h2 | h2
 ·subst h2;have:n=0:=by simpa using h1
  subst this;rfl
 ·have h3:=sA h1;rcases Nat.lt_or_ge (bl n) k with h4 | h4
  ·exfalso;have:=cM (pP n) (show bl n<=k-1 by omega)
   rw[this] at h2;cases h2
  ·omega
theorem cN(w i:Nat):(2^w-1).testBit i=decide (i<w):=Nat.testBit_two_pow_sub_one w i
noncomputable def lK(l:List Bool):Nat:=(l.takeWhile id).length
theorem aF1(r:List Bool):lK (true::r)=lK r+1:=by simp[lK]
theorem aFh(r:List Bool):lK (false::r)=0:=by simp[lK]
theorem aGJ:∀ (l:List Bool) (i:Nat),i<lK l->l[i]? = qq true
 | [],i,h=>by simp[lK] at h
 | false::r,i,h=>by simp[aFh] at h
 | true::r,0,h=>rfl
 | true::r,i+1,h=>by rw[aF1] at h;simpa using aGJ r i (by omega)
theorem aLj(m:Nat):(2*m+1)^^^(2*m+1+1)=2*(m^^^(m+1))+1:=by
 apply xAm;intro i;cases i with
 | zero=>rw[yAm];simp[yDj];omega
 | succ i =>
   rw[yAm,yCs,yCs,yCs];rw[show(2*m+1)/2=m by omega,show(2*m+1+1)/2=m+1 by omega,show(2*(m^^^(m+1))+1)/2=(m^^^(m+1)) by omega,yAm]
theorem aK8(m:Nat):(2*m)^^^(2*m+1)=1:=by
 apply xAm;intro i;cases i with
 | zero=>rw[yAm];simp[yDj]
 | succ i =>
   rw[yAm,yCs,yCs,yCs];rw[show(2*m)/2=m by omega,show(2*m+1)/2=m by omega]
   simp
theorem aMk(x:Nat):bl (2*x+1)=bl x+1:=by
 apply aBO
 ·have:=pP x;rw[yFd];omega
 ·right
  rw[Nat.add_sub_cancel]
  by_cases h:x=0
  ·subst h;rfl
  ·have h2:=aCI h;have h3:bl x=(bl x-1)+1:=by rw[uN h];omega
   rw[h3,yCs,show(2*x+1)/2=x by omega]
   exact h2
theorem aEW(n:Nat):n^^^(n+1)≠0:=by
 intro h;have:n=n+1:=by
  have:=congrArg (λ z=>z^^^(n+1)) h
  simpa [Nat.xor_assoc] using this
 omega
theorem aBM{n:Nat}(h:n≠0):1<=bl n:=by rw[uN h];omega
theorem aMb(n w:Nat):oH n (w+1)=n.testBit 0::oH (n/2) w:=by
 unfold oH;rw[List.range_succ_eq_map,yAt,yBn];congr 1;apply yCg;intro i _;simp only[Function.comp];exact yCs n i
theorem aFi:∀ (w n:Nat),n<2^w->bl (n^^^(n+1))-1=lK (oH n w)
 | 0,n,h=>by
   have:n=0:=by simpa using h
   subst this;rfl
 | w+1,n,h=>by
   rw[aMb];have hd:n/2<2^w:=by rw[yFd] at h;omega
   have ih:=aFi w (n/2) hd;rcases yAs n with p | p
   ·have e:n=2*(n/2):=by omega
    have e2:n^^^(n+1)=1:=by rw[e];exact aK8 _
    rw[e2,yDj,p];rw[show bl 1=1 from by decide];simp[aFh]
   ·have e:n=2*(n/2)+1:=by omega
    have e2:n^^^(n+1)=2*((n/2)^^^(n/2+1))+1:=by
     have:=aLj (n/2);rw[<- e] at this;exact this
    rw[e2,aMk,yDj,p];simp only[decide_true,aF1];have:=aBM (aEW (n/2));omega
noncomputable def hi(l:List Bool):Nat:=l.length-lK (l.reverse.map (!·))
theorem aLp{n w:Nat}(h:n<2^w):n^^^(2^w-1)<2^w:=yBs h (by have:=uE w;omega)
noncomputable def dD(n w v:Nat):Nat:=if n&&&2^(w-1)=0 then n else n|||((2^v-1)^^^(2^w-1))
theorem aEM(n k:Nat):(n&&&2^k=0) ↔ n.testBit k=false:=by
 constructor
 ·intro h;have:=congrArg (λ z=>z.testBit k) h
  simpa [yAh,Nat.testBit_two_pow_self] using this
 ·intro h;apply xAm;intro i;rw[yAh,yDg,yBa]
  by_cases e:k=i
  ·subst e;simp[h]
  ·simp[e]
theorem qS{n w v:Nat}(h:n<2^w)(hw:0<w)(hv:w<=v)(i:Nat):(dD n w v).testBit i=if i<w then n.testBit i else (decide (i<v)&&n.testBit (w-1)):=by
 unfold dD;cases e:n.testBit (w-1) with
 | false =>
   rw[if_pos ((aEM _ _).mpr e)]
   split
   ·rfl
   ·rw[cM h (by omega)];simp
 | true =>
   rw[if_neg (λ z=>by rw[(aEM _ _).mp z] at e;cases e)]
   rw[xAp,yAm,cN,cN]
   split
   ·rename_i hi;have:i<v:=by omega
    simp[hi,this]
   ·rename_i hi;rw[cM h (by omega)]
    simp[hi]
theorem tL{n w v:Nat}(h:n<2^w)(hw:0<w)(hv:w<=v):dD n w v<2^v:=by
 apply yCm;intro i hi;rw[qS h hw hv,if_neg (by omega)]
 have:¬ i<v:=by omega
 simp[this]
noncomputable def aAe(x d:Nat):Nat:=x/2^d*2^d
theorem yD(x d i:Nat):(aAe x d).testBit i=(decide (d<=i)&&x.testBit i):=by
 unfold aAe;rw[Nat.testBit_mul_two_pow]
 by_cases h:d<=i
 ·simp[h,yCw,show i-d+d=i by omega]
 ·simp[h]
noncomputable def oP(x w:Nat):Nat:=2^w-1-x
theorem nW{x w:Nat}(h:x<2^w)(i:Nat):(oP x w).testBit i=(decide (i<w) && !x.testBit i):=by
 unfold oP;rw[show 2^w-1-x=2^w-(x+1) by omega]
 exact Nat.testBit_two_pow_sub_succ h i
noncomputable def uO(l g w:Nat):Nat:=(2^w-1)^^^(2^bl (l^^^g)-1)
theorem aBt{l g w:Nat}(hl:l<2^w)(hg:g<2^w)(i:Nat):(uO l g w).testBit i=(decide (i<w)&&decide (bl (l^^^g)<=i)):=by
 unfold uO;rw[yAm,cN,cN];have hd:bl (l^^^g)<=w:=sA (yBs hl hg)
 by_cases h1:i<w<;>by_cases h2:i<bl (l^^^g)
 ·simp[h1,h2,show ¬ bl (l^^^g)<=i by omega]
 ·simp[h1,h2,show bl (l^^^g)<=i by omega]
 ·omega
 ·simp[h1,h2]
noncomputable def oA(l g w:Nat):Nat:=uO l g w&&&l
noncomputable def tY(l g w:Nat):Nat:=uO l g w^^^oA l g w
theorem aNA{l g w:Nat}(hl:l<2^w)(hg:g<2^w):oA l g w=aAe l (bl (l^^^g)):=by
 apply xAm;intro i;rw[oA,yAh,aBt hl hg,yD]
 by_cases h1:i<w
 ·simp[h1]
 ·rw[cM hl (by omega)];simp
theorem aLy{l g w:Nat}(hl:l<2^w)(hg:g<2^w):tY l g w=aAe (oP l w) (bl (l^^^g)):=by
 apply xAm;intro i;rw[tY,yAm,oA,yAh,aBt hl hg,yD,nW hl]
 by_cases h1:i<w<;>by_cases h2:bl (l^^^g)<=i<;>cases l.testBit i<;>simp[h1,h2]
theorem aXd{l g i:Nat}(h:bl (l^^^g)<=i):l.testBit i=g.testBit i:=by
 have:=cM (pP (l^^^g)) h;rw[yAm] at this;cases a:l.testBit i<;>cases b:g.testBit i<;>simp[a,b] at this ⊢
theorem aM0{l g d:Nat}(h:l^^^g<2^d):l/2^d=g/2^d:=by
 apply xAm;intro i;rw[yCw,yCw];have:=cM h (show d<=i+d by omega)
 rw[yAm] at this;cases a:l.testBit (i+d)<;>cases b:g.testBit (i+d)<;>simp[a,b] at this ⊢
theorem aLx{l m g:Nat}(h1:l<=m)(h2:m<=g):m/2^bl (l^^^g)=l/2^bl (l^^^g):=by
 have e:=aM0 (pP (l^^^g));have a:=Nat.div_le_div_right (c:=2^bl (l^^^g)) h1;have b:=Nat.div_le_div_right (c:=2^bl (l^^^g)) h2;omega
theorem aEV{l m g i:Nat}(h1:l<=m)(h2:m<=g)(hi:bl (l^^^g)<=i):m.testBit i=l.testBit i:=by
 have:=congrArg (λ z=>z.testBit (i-bl (l^^^g))) (aLx h1 h2)
 simp only[yCw] at this;rwa [show i-bl (l^^^g)+bl (l^^^g)=i by omega] at this
theorem aKX{l m g w:Nat}(hl:l<2^w)(hg:g<2^w)(h1:l<=m)(h2:m<=g):m&&&tY l g w=0:=by
 apply xAm;intro i;rw[yAh,aLy hl hg,yD,nW hl,yBa]
 by_cases h:bl (l^^^g)<=i
 ·rw[aEV h1 h2 h];cases l.testBit i<;>simp
 ·simp[h]
theorem aLd{l m g w:Nat}(hl:l<2^w)(hg:g<2^w)(h1:l<=m)(h2:m<=g):m&&&oA l g w=oA l g w:=by
 apply xAm;intro i;rw[yAh,aNA hl hg,yD]
 by_cases h:bl (l^^^g)<=i
 ·rw[aEV h1 h2 h];cases l.testBit i<;>simp
 ·simp[h]
end BM
namespace BM
theorem eZ(n k i:Nat):(n/2^k).testBit i=n.testBit (k+i):=by rw[yCw,yDm]
theorem jN(n:Nat):n=0 ↔ ∀ i,n.testBit i=false:=by
 constructor
 ·rintro rfl i;simp
 ·intro h;apply xAm;intro i;simp[h i]
theorem aBn(m k:Nat):m/2^k=0 ↔ ∀ i,k<=i->m.testBit i=false:=by
 rw[jN];constructor
 ·intro h i hi;have:=h (i-k);rw[eZ,show k+(i-k)=i by omega] at this
  exact this
 ·intro h i;rw[eZ];exact h _ (by omega)
noncomputable def dB(a b:Nat):Nat:=a-(a&&&b)
theorem aPF(a b:Nat):dB a b=a^^^(a&&&b):=by
 have h:(a^^^(a&&&b))+(a&&&b)=a:=by
  have key:∀ (n x y:Nat),x<=n->(x^^^(x&&&y))+(x&&&y)=x:=by
   intro n
   induction n with
   | zero =>
     intro x y hx;have:x=0:=by omega
     subst this;simp
   | succ n ih =>
     intro x y hx
     by_cases h0:x=0
     ·subst h0;simp
     ·have ih':=ih (x/2) (y/2) (by omega)
      have e1:(x^^^(x&&&y))/2=(x/2)^^^((x/2)&&&(y/2)):=by
       apply xAm;intro i;simp[Nat.testBit_div_two]
      have e2:(x&&&y)/2=(x/2)&&&(y/2):=by
       apply xAm;intro i;simp[Nat.testBit_div_two]
      have m1:(x^^^(x&&&y))%2=(x%2+(x&&&y)%2)%2:=by
       have a1:=yEa (x^^^(x&&&y)) 0;have a2:=yEa x 0;have a3:=yEa (x&&&y) 0;simp only[Nat.pow_zero,Nat.div_one] at a1 a2 a3;rw[<- a1,<- a2,<- a3,yAm,yAh];cases x.testBit 0<;>cases y.testBit 0<;>rfl
      have m2:(x&&&y)%2<=x%2:=by
       have a2:=yEa x 0;have a3:=yEa (x&&&y) 0;simp only[Nat.pow_zero,Nat.div_one] at a2 a3;rw[<- a2,<- a3,yAh];cases x.testBit 0<;>cases y.testBit 0<;>decide
      rw[<- e1,<- e2] at ih';omega
  exact key a a b (yAb _)
 unfold dB;omega
theorem jO(a b i:Nat):(dB a b).testBit i=(a.testBit i && !b.testBit i):=by
 rw[aPF,yAm,yAh];cases a.testBit i<;>cases b.testBit i<;>rfl
theorem aBI(a b:Nat):dB a b=0 ↔ ∀ i,a.testBit i=true->b.testBit i=true:=by
 rw[jN];constructor
 ·intro h i ha;have:=h i;rw[jO,ha] at this;simpa using this
 ·intro h i;rw[jO];cases ha:a.testBit i with
  | false=>rfl
  | true=>rw[h i ha];rfl
theorem aER{x k q:Nat}(h:x<2^k)(i:Nat):(x+q*2^k).testBit i=if i<k then x.testBit i else q.testBit (i-k):=by
 rw[yDm,yHg,Nat.testBit_two_pow_mul_add _ h]
theorem aPh{n w:Nat}(h:n<2^w)(hw:0<w):n/2^(w-1)=(n.testBit (w-1)).toNat:=by
 rw[yEa];have:n/2^(w-1)<2:=by
  rw[yEl (xAf _),<- Nat.pow_succ'];rw[show(w-1).succ=w by omega]
  exact h
 exact(Nat.mod_eq_of_lt this).symm
theorem aFb(p:Nat->Bool):∀ K,p K=false->∃ k,k<=K/\(∀ j,j<k->p j=true)/\p k=false:=by
 intro K
 induction K using Nat.strongRecOn with
 | ind K ih =>
   intro h
   by_cases c:∃ j,j<K/\p j=false
   ·obtain⟨j,hj,hp⟩:=c;obtain⟨k,h1,h2,h3⟩:=ih j hj hp;exact⟨k,by omega,h2,h3⟩
   ·refine⟨K,yAb _,λ j hj=>?_,h⟩
    cases q:p j with
    | true=>rfl
    | false=>exact absurd ⟨j,hj,q⟩ c
end BM
namespace BM
open PySem
theorem aKv(a b:Nat):yEg a b=((a&&&b:Nat):Int):=by
 unfold yEg;rw[dqT (yGi a),dqT (yGi b)];simp
theorem bOr(a b:Nat):yGu a b=((a|||b:Nat):Int):=by
 unfold yGu yEg yBq;rw[dqF (show ¬ (0:Int) <= -(a:Int)-1 by omega),dqF (show ¬ (0:Int) <= -(b:Int)-1 by omega)]
 have e1:(-(-(a:Int)-1)-1).toNat=a:=by omega
 have e2:(-(-(b:Int)-1)-1).toNat=b:=by omega
 simp only[e1,e2];omega
theorem aE2:∀ (n a b:Nat),a<=n->(a^^^b)+(a&&&b)=(a|||b)
 | 0,a,b,h=>by
   have:a=0:=by omega
   subst this;simp
 | n+1,a,b,h=>by
   by_cases ha:a=0
   ·subst ha;simp
   have ih:=aE2 n (a/2) (b/2) (by omega)
   have x2:=Nat.xor_div_two (a:=a) (b:=b);have a2:=Nat.and_div_two (a:=a) (b:=b);have o2:=Nat.or_div_two (a:=a) (b:=b);have xm:(a^^^b)%2=(a%2+b%2)%2:=by
    have:=yAm a b 0;simp only[yDj] at this;rcases yAs a with p | p<;>rcases yAs b with q | q<;>rcases yAs (a^^^b) with r | r<;>simp[p,q,r] at this ⊢
   have am:(a&&&b)%2=(a%2)*(b%2):=by
    have:=yAh a b 0;simp only[yDj] at this;rcases yAs a with p | p<;>rcases yAs b with q | q<;>rcases yAs (a&&&b) with r | r<;>simp[p,q,r] at this ⊢
   have om:(a|||b)%2=(a%2+b%2)-(a%2)*(b%2):=by
    have:=xAp a b 0;simp only[yDj] at this;rcases yAs a with p | p<;>rcases yAs b with q | q<;>rcases yAs (a|||b) with r | r<;>simp[p,q,r] at this ⊢
   have h1:=yEm (a^^^b) 2;have h2:=yEm (a&&&b) 2;have h3:=yEm (a|||b) 2
   rcases yAs a with p | p<;>rcases yAs b with q | q<;>rw[p,q] at xm am om<;>omega
theorem aV0(a b:Nat):yGl a b=((a^^^b:Nat):Int):=by
 unfold yGl;rw[aKv,bOr];have:=aE2 a a b (yAb _);omega
theorem aMg(a:Nat):((a:Int)).natAbs=a:=by omega
theorem aE0(a:Nat):yAi a=if a=0 then 0 else a.log2+1:=by
 unfold yAi
 by_cases h:a=0
 ·subst h;rfl
 ·rw[if_neg h,if_neg (by simp;omega),aMg]
theorem aLR{a n:Nat}(h:a<2^n):yAi a<=n:=by
 rw[aE0]
 split
 ·exact yEx _
 ·rename_i h0;exact(Nat.log2_lt h0).mpr h
theorem aBV(n:Nat):((2^n:Nat):Int)=(2:Int)^n:=by simp
theorem aVO{x y:Int}(h:y.natAbs.log2<9000):yCt x y=false:=by
 unfold yCt;dsimp only;have:¬ ((if (y==0)=true then 0 else y.natAbs.log2/30+1)>300):=by
  split
  ·omega
  ·omega
 rw[dqF this];rfl
end BM
namespace EV
open PySem L2 BM
theorem cW(i j:Int):bY .Add (.int i) (.int j)=qq (.int (i+j)):=rfl
theorem cS(i j:Int):bY .Sub (.int i) (.int j)=qq (.int (i-j)):=rfl
theorem dE(a b:Nat):bY .BitAnd (.int a) (.int b)=qq (.int ((a&&&b:Nat):Int)):=by simp only[bY,lC,aKv]
theorem fA(a b:Nat):bY .BitOr (.int a) (.int b)=qq (.int ((a|||b:Nat):Int)):=by simp only[bY,lC,bOr]
theorem iA(a b:Nat):bY .BitXor (.int a) (.int b)=qq (.int ((a^^^b:Nat):Int)):=by simp only[bY,lC,aV0]
theorem eX{w:Nat}(h1:w<=100000):bY .LShift (.int 1) (.int w)=qq (.int ((2^w:Nat):Int)):=by
 have c:(0:Int)<=w/\(yAi 1:Int)+w<=2^27:=⟨by omega,by(have:(yAi 1:Int)=1:=(by decide);omega)⟩
 simp only[bY,lC];rw[if_pos c,Int.one_mul,yAp,aBV]
theorem rE{n a k:Nat}(h:n<2^a)(h2:a+k<=100000):bY .LShift (.int n) (.int k)=qq (.int ((n*2^k:Nat):Int)):=by
 have c:(0:Int)<=(k:Nat)/\((yAi (n:Int):Nat):Int)+(k:Nat)<=2^27:=by
  have:=aLR h;exact⟨by omega,by omega⟩
 simp only[bY,lC];rw[if_pos c,yAp,<- aBV];congr 2
theorem fK{i j:Int}(h:0<j):bY .Mod (.int i) (.int j)=qq (.int (i%j)):=by
 simp only[bY,lC];rw[if_pos (by omega),Int.fmod_eq_emod_of_nonneg _ (by omega)]
theorem nQ{i j:Int}(h:0<j)(h2:j<2^64):bY .FloorDiv (.int i) (.int j)=qq (.int (i/j)):=by
 simp only[bY,lC];have h3:j.natAbs.log2<9000:=Nat.lt_trans ((Nat.log2_lt (by omega)).mpr (show j.natAbs<2^64 by omega)) (by decide)
 rw[if_pos ⟨by omega,aVO h3⟩,Int.fdiv_eq_ediv_of_nonneg _ (by omega)]
theorem aLq{i j:Int}(h1 : -(2^64)<j)(h2:j<2^64):oF i j=true:=by
 unfold oF;have:=intBits_le_64 h1 h2;have h:¬ (yAi j>wu):=Nat.not_lt.mpr this;rw[dqF h];simp
theorem aLl{i j:Int}(h1 : -(2^64)<i)(h2:i<2^64):oF i j=true:=by
 unfold oF;have:=intBits_le_64 h1 h2;have h:¬ (yAi i>wu):=Nat.not_lt.mpr this;rw[dqF h];simp
theorem rK{i j:Int}(h1 : -(2^64)<j)(h2:j<2^64):bY .Mult (.int i) (.int j)=qq (.int (i*j)):=by
 show(if oF i j=true then qq (yAj (i*j)) else qz)=_
 rw[if_pos (aLq h1 h2)]
theorem nO{i j:Int}(h1 : -(2^64)<i)(h2:i<2^64):bY .Mult (.int i) (.int j)=qq (.int (i*j)):=by
 show(if oF i j=true then qq (yAj (i*j)) else qz)=_
 rw[if_pos (aLl h1 h2)]
theorem aQl{xs ys:List D}(h:xs.length+ys.length<=1000000):bY .Add (.list xs) (.list ys)=qq (.list (xs++ys)):=by
 show(if xs.length+ys.length<=qy then qq (yDs (xs++ys)) else qz)=_
 rw[if_pos (by rw[zx];omega)]
theorem aNF{α:Type}(k:Nat)(x:α):vP k [x]=yAc k x:=by
 unfold vP
 induction k with
 | zero=>rfl
 | succ k ih=>rw[yAx,yDa,ih,yAx];rfl
theorem bQ(i j:Int):aV .Eq (.int i) (.int j)=qq (.bool (i==j)):=rfl
theorem pM(i j:Int):aV .NotEq (.int i) (.int j)=qq (.bool (!(i==j))):=rfl
theorem eG(i j:Int):aV .Lt (.int i) (.int j)=qq (.bool (decide (i<j))):=rfl
theorem gM(i j:Int):aV .Gt (.int i) (.int j)=qq (.bool (decide (j<i))):=rfl
theorem aIg(i j:Int):aV .GtE (.int i) (.int j)=qq (.bool (decide (j<=i))):=rfl
end EV
namespace EV
open PySem L2 BM
theorem oB{α β:Type}(a:α)(f:α->Option β):(qq a).bind f=f a:=of_eq_true (eq_self (f a))
theorem oM{α β:Type}(a:α)(f:α->β):(qq a).map f=qq (f a):=of_eq_true (eq_self (qq (f a)))
noncomputable def cl(fs:List Fn)(d f:Nat)(ws:List W)(S:aF):Option (W×aF):=match aE fs d f with
 | some (np,call)=>if ws.length=np then call ws S else qz
 | none=>qz
theorem aFV(fs:List Fn)(d f:Nat)(fa:FA)(env:aU)(S:aF):kW (aE fs d) f fa env S=(fa env S).bind λ p=>cl fs d f p.1 p.2:=by
 unfold kW cl aAo;cases aE fs d f with
 | none=>cases fa env S<;>rfl
 | some q=>rfl
theorem aY{fs:List Fn}{f:Nat}{F:Fn}(h:fs[f]? = qq F)(d:Nat)(ws:List W)(S:aF)(hw:ws.length=F.np):cl fs (d+1) f ws S=fQ (xs (aE fs d) F.body) F.N.length ws S:=by
 have e:aE fs (d+1) f=qq (F.np,fQ (xs (aE fs d) F.body) F.N.length):=by
  show(fs[f]?).map _=_;rw[h];rfl
 unfold cl;rw[e];exact if_pos hw
theorem aO3{fs:List Fn}{f d:Nat}{F:Fn}{w r:W}{S:aF}(h:fs[f]? = qq F)(hn:F.np=1)(e:cl fs (d+1) f [w] []=qq (r,S)):∃ call S',aE fs (d+1) f=qq (1,call)/\call [w] []=qq (r,S'):=by
 refine⟨fQ (xs (aE fs d) F.body) F.N.length,S,?_,?_⟩
 ·show(fs[f]?).map _=_;rw[h,<- hn];rfl
 ·rw[<- aY h d [w] [] (by rw[hn];rfl)]
  exact e
theorem szT{n:Nat}(h:n<=1000):(n<=qy)=True:=by
 rw[zx];exact eq_true (by omega)
end EV
namespace EV
open PySem L2 BM
theorem aBP(w:Nat):((2^w:Nat):Int)-1=((2^w-1:Nat):Int):=by
 have:=uE w;omega
theorem qU{fa:FE}{env:aU}{S S1:aF}{w:Nat}(h:fa env S=qq (.d (.int w),S1))(hw:w<=1000000):vE fa env S=qq ((yAu w).map (λ k=>yAj (k:Nat)),S1):=by
 have c : -(2^62)<=((w:Nat):Int)/\((w:Nat):Int)<2^62:=⟨by omega,by omega⟩
 unfold vE;rw[h,oB];simp only[];rw[if_pos c,aGG,yAp];congr 2;apply yCg;intro k _;rw[Int.zero_add]
theorem aEJ{fa:FE}{env:aU}{S S1:aF}{ds:List D}(h:fa env S=qq (.d (.tuple ds),S1)):uU fa env S=qq (ds.zipIdx.map (λ p=>yBm [.int (p.2:Nat),p.1]),S1):=by
 simp only[uU,h,oB];rw[aF7];simp
theorem aGQ{i:Nat}{env:aU}{S:aF}{w:W}(h:env[i]? = qq (qq w)):jH i env S=qq (w,S):=by
 unfold jH;rw[h]
theorem jR{xs:List D}{k:Nat}{x:D}(h:xs[k]? = qq x):aH (.list xs) (.int k)=qq x:=by
 have hl:k<xs.length:=(gIm h).1;show(hU xs.length ((k:Nat):Int)).bind (λ j=>xs[j]?)=qq x
 unfold hU;rw[if_pos (by omega),if_pos (by omega),oB,yAp]
 exact h
theorem iZ{xs:List D}{k:Nat}{x:D}(h:xs[k]? = qq x):aH (.tuple xs) (.int k)=qq x:=jR (xs:=xs) h
theorem aRU{t:Tg}{fi:FL}{fb:FS}{env:aU}{S S1:aF}{ds:List D}(P:aU->Prop)(hi:fi env S=qq (ds,S1))(h0:P env)(h:∀ d∈ds,∀ env,P env->∃ e1 aI,t.put d env=qq e1/\fb e1 S1=qq (.nx aI,S1)/\P aI) :
 ∃ aI,eB t fi fb env S=qq (.nx aI,S1)/\P aI:=by
 obtain⟨aI,h1,h2⟩:=aGF (t:=t) (fb:=fb) (S:=S1) P ds env h0 h;exact⟨aI,by unfold eB;rw[hi,oB];exact h1,h2⟩
theorem aG7{t:Tg}{fb:FS}(P:Nat->aU->aF->Prop):∀ (ds:List D) (i:Nat) (env:aU) (S:aF),P i env S->(∀ j d env S,ds[j]? = qq d->P (i+j) env S->∃ e1 aI S',t.put d env=qq e1/\fb e1 S=qq (.nx aI,S')/\P (i+j+1) aI S') ->
 ∃ aI S',fB t fb ds env S=qq (.nx aI,S')/\P (i+ds.length) aI S'
 | [],i,env,S,h0,_=>⟨env,S,rfl,h0⟩
 | d::ds,i,env,S,h0,h=>by
   obtain⟨e1,aI,S',h1,h2,h3⟩:=h 0 d env S rfl h0;obtain⟨env2,S2,h4,h5⟩:=aG7 P ds (i+1) aI S' h3 λ j d' env S a b=>by
    have:=h (j+1) d' env S (by simpa using a) (by rw[show i+(j+1)=i+1+j by omega];exact b)
    rw[show i+(j+1)=i+1+j by omega] at this
    exact this
   refine⟨env2,S2,by simp only[fB,h1,oB,h2];exact h4,?_⟩
   have:i+(d::ds).length=i+1+ds.length:=by simp;omega
   rw[this];exact h5
theorem mG{t:Tg}{fi:FL}{fb:FS}{env:aU}{S S1:aF}{ds:List D}(P:Nat->aU->aF->Prop)(hi:fi env S=qq (ds,S1))(h0:P 0 env S1)(h:∀ j d env S,ds[j]? = qq d->P j env S->∃ e1 aI S',t.put d env=qq e1/\fb e1 S=qq (.nx aI,S')/\P (j+1) aI S') :
 ∃ aI S',eB t fi fb env S=qq (.nx aI,S')/\P ds.length aI S':=by
 obtain⟨aI,S',h1,h2⟩:=aG7 (t:=t) (fb:=fb) P ds 0 env S1 h0 λ j d env S a b=>by
  have:=h j d env S a (by simpa using b)
  simpa using this
 exact⟨aI,S',by unfold eB;rw[hi,oB];exact h1,by simpa using h2⟩
theorem aLw{fa fb:FE}{env:aU}{S S1 S2:aF}{v w:Nat}(h:fa env S=qq (.d (.int v),S1))(h2:fb env S1=qq (.d (.int w),S2))(hv:v<=1000000)(hw:w<=1000000):vM fa fb env S=qq ((yAu (w-v)).map (λ k=>yAj ((v+k:Nat):Int)),S2):=by
 have c : -(2^62)<=((v:Nat):Int)/\((v:Nat):Int)<2^62 /\ -(2^62)<=((w:Nat):Int)/\((w:Nat):Int)<2^62:=⟨by omega,by omega,by omega,by omega⟩
 have e:(((w:Nat):Int)-((v:Nat):Int)).toNat=w-v:=by omega
 unfold vM;rw[h,oB];simp only[];rw[h2,oB];simp only[];rw[if_pos c,aGG,e];congr 2
theorem zD{α:Type}(f:α->Nat):∀ l:List α,(l.map λ x=>((f x:Nat):Int)).sum=(((l.map f).sum:Nat):Int)
 | []=>rfl
 | x::r=>by
   rw[yAt,yAt,yGv,yGv,zD f r]
   push_cast
   rfl
theorem dY{xs:List D}:iT [.list xs]=qq (.int xs.length):=rfl
theorem dZ{xs:List D}:iT [.tuple xs]=qq (.int xs.length):=rfl
theorem gB{xs:List D}:uY [.list xs]=qq (.tuple xs):=rfl
theorem fZ{xs:List D}:uY [.tuple xs]=qq (.tuple xs):=rfl
theorem rR{i:Int}:wH [.int i]=qq (.int i):=rfl
theorem rS{k:Bool}:wH [.bool k]=qq (.int (if k then 1 else 0)):=rfl
theorem fL(n k:Nat):bY .RShift (.int n) (.int k)=qq (.int ((n/2^k:Nat):Int)):=by
 have c:(0:Int)<=(k:Nat):=by omega
 simp only[bY,lC];rw[if_pos c,yAp,<- aBV];congr 2
theorem aOu(a b:Nat):bY .BitAnd (.int a) (.int (yBq (b:Nat)))=qq (.int ((dB a b:Nat):Int)):=by
 have h1:decide ((0:Int)<=(a:Nat))=true:=dqT (by omega)
 have h2:decide ((0:Int)<=yBq (b:Nat))=false:=dqF (by unfold yBq;omega)
 have h3:(yBq (yBq (b:Nat))).toNat=b:=by unfold yBq;omega
 have h4:a&&&b<=a:=yCo;simp only[bY,lC];unfold yEg;rw[h1,h2];simp only[h3,yAp];congr 2;unfold dB;omega
theorem aPd(i:Int):nK .Invert (.int i)=qq (.int (yBq i)):=rfl
theorem aBS{x:D}{k:Nat}(h:k<=1000):bY .Mult (.tuple [x]) (.int k)=qq (.tuple (yAc k x)):=by
 show(if 0<=((k:Nat):Int)/\((k:Nat):Int)<=1000 then qq (yBm (yAc ((k:Nat):Int).toNat x)) else qz)=_
 rw[if_pos ⟨by omega,by omega⟩,yAp]
theorem aGe{α:Type}{t:Tg}{fe:FE}{env:aU}{n N:Nat}(enc:α->D)(I:Nat->aF->Prop)(Q:α->D->Prop):∀ (l:List α) (aC:List D) (j:Nat) (S:aF),aC.length+l.length<=qy->j+l.length<=N->S.length=n->I j S ->
 (∀ a∈l,∃ e1,t.put (enc a) env=qq e1/\∀ j S aC,j<N->S.length=n->I j S->∃ v S',fe e1 (S++[qq aC])=qq (.d v,S'++[qq aC])/\S'.length=n/\I (j+1) S'/\Q a v) ->
 ∃ vs S',iD t lJ fe n env (l.map enc) (S++[qq aC])=qq (S'++[qq (aC++vs)])/\S'.length=n/\I (j+l.length) S'/\vs.length=l.length/\∀ (i:Nat) (a:α),l[i]? = qq a->∃ v,vs[i]? = qq v/\Q a v
 | [],aC,j,S,_,_,hn,hI,_=>⟨[],S,by simp[iD],hn,hI,rfl,by simp⟩
 | a::l,aC,j,S,hz,hN,hn,hI,h=>by
   obtain⟨e1,h1,h2⟩:=h a xAd;obtain⟨v,S1,h3,h4,h5,h6⟩:=h2 j S aC (by simp at hN;omega) hn hI
   have hlt:aC.length<qy:=by simp at hz;omega
   have ea:dF (S1++[qq aC]) (.loc n) (.d v)=qq (.d .none,S1++[qq (aC++[v])]):=by
    unfold dF;subst h4;simp only[yAe (yAb S1.length),yBb,yBw];rw[if_pos hlt,aCt]
   obtain⟨vs,S2,h7,h8,h9,h10,h11⟩:=aGe enc I Q l (aC++[v]) (j+1) S1 (by simp at hz ⊢;omega) (by simp at hN;omega) h4 h5 λ x hx=>h x (xAg _ hx)
   refine⟨v::vs,S2,?_,h8,by rw[yBf,show j+(l.length+1)=j+1+l.length by omega];exact h9,by simp[h10],λ i b hb=>?_⟩
   ·simp only[yAt,iD,h1,lJ,oB,if_true,h3,ea];rw[h7];simp
   ·cases i with
    | zero=>simp at hb;subst hb;exact⟨v,rfl,h6⟩
    | succ i=>simpa using h11 i b (by simpa using hb)
theorem aN2{α:Type}{t:Tg}{fi:FL}{fe:FE}{env:aU}{S S1:aF}(enc:α->D)(I:Nat->aF->Prop)(Q:α->D->Prop)(l:List α)(hi:fi env S=qq (l.map enc,S1))(hz:l.length<=qy)(h0:I 0 S1)
 (h:∀ a∈l,∃ e1,t.put (enc a) (clr t.slots env)=qq e1/\∀ j S aC,j<l.length->S.length=S1.length->I j S->∃ v S',fe e1 (S++[qq aC])=qq (.d v,S'++[qq aC])/\S'.length=S1.length/\I (j+1) S'/\Q a v) :
 ∃ vs S',gS t fi lJ fe env S=qq (vs,S')/\S'.length=S1.length/\I l.length S'/\vs.length=l.length/\∀ (i:Nat) (a:α),l[i]? = qq a->∃ v,vs[i]? = qq v/\Q a v:=by
 obtain⟨vs,S',h1,h2,h3,h4,h5⟩:=aGe (fe:=fe) (n:=S1.length) (N:=l.length) enc I Q l [] 0 S1 (by simpa using hz) (by simp) rfl h0 h
 refine⟨vs,S',?_,h2,by simpa using h3,h4,h5⟩
 unfold gS;rw[hi];simp only[oB];rw[h1];simp[<- h2]
theorem aCL{α:Type}(a:α):yDn 1 [a]=[a]:=rfl
theorem aC1{α:Type}(a b:α):yDn 1 [a,b]=[a]:=rfl
theorem aCZ{α:Type}(a b:α):yDn 2 [a,b]=[a,b]:=rfl
end EV
namespace EV
open PySem L2 BM
section
variable {C : Calls}{env : aU}{S S1 S2 S3 S4 : aF}{a b c e es r : E}
theorem aUP{i:Nat}{w:W}(h:env[i]? = qq (qq w)):ev C (.var i) env S=qq (w,S):=by rw[aCS];exact aGQ h
theorem aUZ{i:Int}:ev C (.int i) env S=qq (.d (.int i),S):=rfl
theorem aWi{i:Bool}:ev C (.bl i) env S=qq (.d (.bool i),S):=rfl
theorem aTm:ev C .non env S=qq (.d .none,S):=rfl
theorem aTz{i:Str}:ev C (.str i) env S=qq (.d (.str i),S):=rfl
theorem aT2{op:jk}{x y z:D}(ha:ev C a env S=qq (.d x,S1))(hb:ev C b env S1=qq (.d y,S2))(hz:bY op x y=qq z):ev C (.bin op a b) env S=qq (.d z,S2):=by
 simp only[aIo,qC,f2,ha,oB,hb,hG,dr,hz]
theorem aWZ{op:yz}{x z:D}(ha:ev C a env S=qq (.d x,S1))(hz:nK op x=qq z):ev C (.un op a) env S=qq (.d z,S1):=by
 simp only[aJf,xI,f1,ha,oB,nA,dr,hz]
theorem aJL{op:vz}{x y z:D}(ha:ev C a env S=qq (.d x,S1))(hb:ev C b env S1=qq (.d y,S2))(hz:aV op x y=qq z):ev C (.cmp op a b) env S=qq (.d z,S2):=by
 simp only[aC5,mS,f2,ha,oB,hb,hG,dr,hz]
theorem aVP{wa:W}{x y z:D}(ha:ev C a env S=qq (wa,S1))(hb:ev C b env S1=qq (.d y,S2))(hx:dr S2 wa=qq x)(hz:aH x y=qq z):ev C (.ix a b) env S=qq (.d z,S2):=by
 have h2:dr S2 (.d y)=qq y:=rfl;simp only[aDb,oT,f2,ha,oB,hb,hG,hx,h2,hz]
theorem aUu{x:D}:dr S (.d x)=qq x:=rfl
theorem aVE{n:Nat}{l:List D}(h:S[n]? = qq (qq l)):dr S (.loc n)=qq (.list l):=by
 simp only[dr,h]
theorem aR2:nG S []=qq []:=rfl
theorem aUH{w:W}{ws:List W}{x:D}{ds:List D}(h:dr S w=qq x)(k:nG S ws=qq ds):nG S (w::ws)=qq (x::ds):=by
 simp only[nG,h,k,oB]
noncomputable def slD(d:D)(l h:Option Int):Option D:=match d with
 | .list xs=>qq (.list (iG xs l h))
 | .tuple xs=>qq (.tuple (iG xs l h))
 | _=>qz
theorem aWm{lo hi:E}{wa:W}{l h:Option Int}{x z:D}(ha:ev C a env S=qq (wa,S1))(hl:ov C lo env S1=qq (l,S2))(hh:ov C hi env S2=qq (h,S3))(hx:dr S3 wa=qq x)(hz:slD x l h=qq z):ev C (.sl a lo hi) env S=qq (.d z,S3):=by
 simp only[aAn,oR,ha,oB,hl,hh,hx];cases x<;>first | (cases hz;done) | (cases hz;rfl)
theorem aWe:ov C .no env S=qq (qz,S):=rfl
theorem aQV{i:Int}(h:ev C a env S=qq (.d (.int i),S1)):ov C (.cons a .nil) env S=qq (qq i,S1):=by
 simp only[aHD,lG,h,oB]
theorem aTN{o:E}{wo wa w:W}(ho:ev C o env S=qq (wo,S1))(ha:ev C a env S1=qq (wa,S2))(h:dF S2 wo wa=qq (w,S3)):ev C (.app o a) env S=qq (w,S3):=by
 simp only[aIv,fF,f2,ho,oB,ha,h]
theorem aVp{p:Bool}{R:Option (W×aF)}(ht:tv C c env S=qq (p,S1))(k:cond p (ev C a env S1) (ev C b env S1)=R):ev C (.ite c a b) env S=R:=by
 rw[<- k];cases p<;>simp only[aH8,wG,ht,oB,yAo,if_false,if_true,cond_true,cond_false]
theorem aTu{p:Bool}{R:Option (W×aF)}(ha:ev C a env S=qq (.d (.bool p),S1))(k:cond p (ev C b env S1) (qq (.d (.bool false),S1))=R):ev C (.and a b) env S=R:=by
 rw[<- k];cases p<;>simp only[aIc,vB,ha,oB,cond_true,cond_false]
theorem aWY{p:Bool}{R:Option (W×aF)}(ha:ev C a env S=qq (.d (.bool p),S1))(k:cond p (qq (.d (.bool true),S1)) (ev C b env S1)=R):ev C (.or a b) env S=R:=by
 rw[<- k];cases p<;>simp only[aIY,vY,ha,oB,cond_true,cond_false]
theorem aUB{p:Bool}(ha:ev C a env S=qq (.d (.bool p),S1)):ev C (.not a) env S=qq (.d (.bool (!p)),S1):=by
 simp only[aIm,vN,ha,oB]
theorem aSx{fs:List Fn}{d f:Nat}{ws:List W}{w:W}(ha:av (aE fs d) es env S=qq (ws,S1))(hc:cl fs d f ws S1=qq (w,S2)):ev (aE fs d) (.call f es) env S=qq (w,S2):=by
 rw[aHV,aFV,ha,oB];exact hc
theorem aTO{t:B}{ws:List W}{ds:List D}{z:D}(ha:av C es env S=qq (ws,S1))(hd:nG S1 ws=qq ds)(hz:t.g ds=qq z):ev C (.blt t es) env S=qq (.d z,S1):=by
 simp only[aII,qE,ha,oB,hd,hz]
theorem aVq{ws:List W}{ds:List D}(ha:av C es env S=qq (ws,S1))(hd:qF ws=qq ds)(hl:ds.length<=1000):ev C (.tup es) env S=qq (.d (.tuple ds),S1):=by
 simp only[aH2,wL,ha,oB,hd,szT hl,if_true]
theorem aWs{ds:List D}(h:lv C a env S=qq (ds,S1)):ev C (.fz a) env S=qq (.d (.list ds),S1):=by
 simp only[aJE,hJ,h,oB]
theorem aTQ{ws:List W}{ds:List D}(ha:av C es env S=qq (ws,S1))(hd:qF ws=qq ds)(hl:ds.length<=1000):lv C (.lst es) env S=qq (ds,S1):=by
 simp only[aH3,vV,ha,oB,hd,szT hl,if_true]
theorem aTn{ds:List D}(h:lv C a env S=qq (ds,S1)):ev C (.new a) env S=qq (.loc S1.length,S1++[qq ds]):=by
 simp only[aAf,fD,h,oB]
theorem aTW:av C .nil env S=qq ([],S):=rfl
theorem aSM{w:W}{ws:List W}(ha:ev C a env S=qq (w,S1))(hr:av C r env S1=qq (ws,S2)):av C (.cons a r) env S=qq (w::ws,S2):=by
 simp only[aG5,cR,ha,oB,hr]
theorem aRO{op:vz}{x y:D}{p:Bool}(ha:ev C a env S=qq (.d x,S1))(hb:ev C b env S1=qq (.d y,S2))(hz:aV op x y=qq (.bool p)):tv C (.cmp op a b) env S=qq (p,S2):=by
 have:=aJL ha hb hz;rw[aC5] at this;simp only[aH1,dQ,this,oB,dr,qD]
theorem aUQ{x:D}{p:Bool}(ht:tv C e=dQ (ev C e))(ha:ev C e env S=qq (.d x,S1))(hz:qD x=qq p):tv C e env S=qq (p,S1):=by
 rw[ht];simp only[dQ,ha,oB,dr,hz]
theorem aTf{p:Bool}{R:Option (Bool×aF)}(ha:tv C a env S=qq (p,S1))(hb:cond p (tv C b env S1) (qq (false,S1))=R):tv C (.and a b) env S=R:=by
 rw[<- hb];cases p<;>simp only[aIQ,wM,ha,oB,yAo,if_false,if_true,cond_true,cond_false]
theorem aT9{p:Bool}{R:Option (Bool×aF)}(ha:tv C a env S=qq (p,S1))(hb:cond p (qq (true,S1)) (tv C b env S1)=R):tv C (.or a b) env S=R:=by
 rw[<- hb];cases p<;>simp only[aI3,xG,ha,oB,yAo,if_false,if_true,cond_true,cond_false]
theorem aSb{p:Bool}(ha:tv C a env S=qq (p,S1)):tv C (.not a) env S=qq (!p,S1):=by
 simp only[aIi,wO,ha,oB]
theorem sW{α:Type}{x y z:α}(h:x=z):cond true x y=z:=h
theorem sL{α:Type}{x y z:α}(h:y=z):cond false x y=z:=h
variable {s t u : Sx}{aI : aU}{R : Option (Fl×aF)}{w : W}
theorem mM{fl:Fl}(h:xs C s env S=qq (fl,S1))(k:qq (fl,S1)=R):xs C s env S=R:=h.trans k
theorem pV{w:W}{R:Option (W×aF)}(h:ev C e env S=qq (w,S1))(k:qq (w,S1)=R):ev C e env S=R:=h.trans k
theorem pQ{p:Bool}{R:Option (Bool×aF)}(h:tv C e env S=qq (p,S1))(k:qq (p,S1)=R):tv C e env S=R:=h.trans k
theorem pU{l:List D}{R:Option (List D×aF)}(h:lv C e env S=qq (l,S1))(k:qq (l,S1)=R):lv C e env S=R:=h.trans k
theorem aSN:xs C .skip env S=qq (.nx env,S):=rfl
noncomputable def sM(C:Calls)(t:Sx)(fl:Fl)(S:aF):Option (Fl×aF):=match fl with
 | .nx e=>xs C t e S
 | fl=>qq (fl,S)
theorem aTs{fl:Fl}(h:xs C s env S=qq (fl,S1))(k:sM C t fl S1=R):xs C (.seq s t) env S=R:=by
 rw[<- k];cases fl<;>simp only[lB,dR,h,oB,sM]
theorem aVS(k:xs C t aI S=R):sM C t (.nx aI) S=R:=k
theorem aWN(k:qq (.rt w,S)=R):sM C t (.rt w) S=R:=k
theorem aWQ(k:qq (.bk aI,S)=R):sM C t (.bk aI) S=R:=k
theorem aWX(k:qq (.ct aI,S)=R):sM C t (.ct aI) S=R:=k
theorem aTw{o i:E}{wo wi we:W}(he:ev C e env S=qq (we,S1))(ho:ev C o env S1=qq (wo,S2))(hi:ev C i env S2=qq (wi,S3))(h:iC S3 wo wi we=qq S4):xs C (.put o i e) env S=qq (.nx env,S4):=by
 simp only[aIw,jE,he,oB,ho,hi,h]
theorem aUj{i:Nat}(h:ev C e env S=qq (w,S1))(he:env.set i (qq w)=aI):xs C (.set i e) env S=qq (.nx aI,S1):=by
 rw[<- he];simp only[uW,fR,h,oB]
theorem aVC(h:ev C e env S=qq (w,S1)):xs C (.ret e) env S=qq (.rt w,S1):=by
 simp only[aC6,oO,h,oB]
theorem aQx(h:ev C e env S=qq (w,S1)):xs C (.expr e) env S=qq (.nx env,S1):=by
 simp only[aHP,vI,h,oB]
theorem aTt{p:Bool}(ht:tv C a env S=qq (p,S1))(k:cond p (xs C s env S1) (xs C t env S1)=R):xs C (.ifs a s t) env S=R:=by
 rw[<- k];cases p<;>simp only[rX,mW,ht,oB,yAo,if_false,if_true,cond_true,cond_false]
theorem aRc{tg:Tg}(h:eB tg (lv C a) (xs C s) env S=R):xs C (.loop tg a s) env S=R:=h
theorem aW0{n:Nat}(h:gY (tv C a) (xs C s) n env S=R):xs C (.wh n a s) env S=R:=h
theorem aIT{body:Sx}{n:Nat}{ws:List W}{x:D}(he:ws.map qq++yAc (n-ws.length) qz=env)(k:xs C body env S=qq (.rt (.d x),S1))(hS:S1.take S.length=S2):fQ (xs C body) n ws S=qq (.d x,S2):=by
 subst he;simp only[fQ,k,oB,jY,hS]
end
end EV
namespace K83
open PySem L2 EV BM
local macro_rules
 | `(tactic| omega)=>`(tactic| first | (with_reducible assumption) | (with_reducible exact yAb _) | (with_reducible exact Nat.le_add_right _ _) | (with_reducible exact xAi ‹_› (by decide)) | (with_reducible exact xAc ‹_› (by decide)) | (with_reducible exact xAj ‹_› (by decide)) | (with_reducible exact yFw ‹_›) | (with_reducible exact xAi (yFw ‹_›) (by decide)) | (with_reducible exact xAi (Nat.add_le_add_right ‹_› _) (by decide)) | (with_reducible exact Nat.add_le_add_left (by decide) _) | (with_reducible exact yFz ‹_›) | (with_reducible exact yHa ‹_›) | (with_reducible exact Nat.not_lt_of_le ‹_›) | (with_reducible exact Nat.not_le_of_lt ‹_›) | (with_reducible exact xAc ‹_› ‹_›) | (with_reducible exact xAi ‹_› ‹_›) | (with_reducible exact xAi ‹_› (Nat.add_le_add_left (by decide) _)) | (with_reducible exact xAi ‹_› (xAi (Nat.add_le_add_right ‹_› _) (by decide))) | omega (config:={}))
 | `(tactic| simp only[evs])=>`(tactic| simp only[evs,True])
 | `(tactic| simp only[evs,$ls,*])=>`(tactic| simp only[aCS,aR7,aVc,aR0,aSP,aIo,aJf,aC5,aIc,aIY,aIm,aH8,aH2,aDb,aS0,aTk,aAn,aHV,aII,aPo,aIv,aQ4,aRV,aJE,aAf,aIQ,aI3,aIi,aRd,aH1,aUF,aO1,aRY,aQ1,aTJ,aUT,aRl,aG5,aUb,aHD,aH3,aRQ,aCu,aOY,lH,kQ,kU,kS,aO6,lA,kZ,aHv,lB,aHP,aC6,rX,uW,rJ,aPM,aIw,aUq,aPD,dR,fR,aAp,mW,oO,aUv,vI,sG,qC,xI,mS,dQ,f2,f1,hG,nA,dr,nG,fC,jH,jY,aFV,cR,gW,wL,vV,hJ,qE,oT,wM,xG,wO,vB,vY,vN,wG,qF,B.g,qD,Tg.put,nX,Tg.slots,yAt,yFa,yBf,yCn,yGb,Nat.reduceSub,yEd,yAx,yGe,yHb,yFk,yBw,yCu,yFl,yGj,oB,oM,yAf,Bool.not_false,Bool.not_true,yAo,if_true,if_false,reduceIte,yHc,Nat.reduceEqDiff,szT,List.take_nil,List.take_zero,aQy,qB,vS,aCL,aC1,aCZ,$ls,*])
 | `(tactic| simp only[gc,$as,*])=>`(tactic| first | (with_reducible assumption) | (focus (simp only[$as,*]<;>with_reducible rfl)))
 | `(tactic| simp only[gl,$as,*])=>`(tactic| first | (focus (simp only[$as,*]<;>rfl)) | (focus rfl))
 | `(tactic| simp only[go,$as,*])=>`(tactic| first | with_reducible exact aUZ | with_reducible exact aTz | with_reducible exact aWi | with_reducible exact aTm | with_reducible exact aTW | with_reducible exact aSN | with_reducible exact aWe | with_reducible exact aUu | with_reducible exact aR2 | ((with_reducible apply aUP);rfl) | ((with_reducible apply aSM);simp only[go,$as,*];simp only[go,$as,*]) | ((with_reducible apply aTs);simp only[go,$as,*];first | ((with_reducible apply aVS);simp only[go,$as,*]) | ((with_reducible apply aWN);rfl) | ((with_reducible apply aWQ);rfl) | ((with_reducible apply aWX);rfl)) | ((with_reducible apply aUj);simp only[go,$as,*];(focus (dsimp only[yFl,yGj]<;>rfl))) | ((with_reducible apply aVC);simp only[go,$as,*]) | ((with_reducible apply aQx);simp only[go,$as,*]) | ((with_reducible apply aSx);simp only[go,$as,*];simp only[gc,$as,*]) | ((with_reducible apply aT2);simp only[go,$as,*];simp only[go,$as,*];simp only[gl,$as,*]) | ((with_reducible apply aVP);simp only[go,$as,*];simp only[go,$as,*];simp only[go,$as,*];simp only[gl,$as,*]) | ((with_reducible apply aVE);simp only[gl,$as,*]) | ((with_reducible apply aTt);simp only[go,$as,*];first | ((with_reducible apply sW);simp only[go,$as,*]) | ((with_reducible apply sL);simp only[go,$as,*])) | ((with_reducible apply aRO);simp only[go,$as,*];simp only[go,$as,*];simp only[gl,$as,*]) | ((with_reducible apply aTf);simp only[go,$as,*];first | ((with_reducible apply sW);simp only[go,$as,*]) | ((with_reducible apply sL);rfl)) | ((with_reducible apply aT9);simp only[go,$as,*];first | ((with_reducible apply sW);rfl) | ((with_reducible apply sL);simp only[go,$as,*])) | ((with_reducible apply aSb);simp only[go,$as,*]) | ((with_reducible apply aTO);simp only[go,$as,*];simp only[go,$as,*];simp only[gl,B.g,$as,*]) | ((with_reducible apply aUH);simp only[go,$as,*];simp only[go,$as,*]) | ((with_reducible apply aVq);simp only[go,$as,*];rfl;simp only[gl,yBf,yCn,yGb,yHc,$as,*]) | ((with_reducible apply aWs);simp only[go,$as,*]) | ((with_reducible apply aTQ);simp only[go,$as,*];rfl;simp only[gl,yBf,yCn,yGb,yHc,$as,*]) | ((with_reducible apply aTn);simp only[go,$as,*]) | ((with_reducible apply aWm);simp only[go,$as,*];simp only[go,$as,*];simp only[go,$as,*];simp only[go,$as,*];simp only[gl,slD,$as,*]) | ((with_reducible apply aQV);simp only[go,$as,*]) | ((with_reducible apply aWZ);simp only[go,$as,*];simp only[gl,$as,*]) | ((with_reducible apply aJL);simp only[go,$as,*];simp only[go,$as,*];simp only[gl,$as,*]) | ((with_reducible apply aTN);simp only[go,$as,*];simp only[go,$as,*];simp only[gl,$as,*]) | ((with_reducible apply aTw);simp only[go,$as,*];simp only[go,$as,*];simp only[go,$as,*];simp only[gl,$as,*]) | ((with_reducible apply aVp);simp only[go,$as,*];first | ((with_reducible apply sW);simp only[go,$as,*]) | ((with_reducible apply sL);simp only[go,$as,*])) | ((with_reducible apply aTu);simp only[go,$as,*];first | ((with_reducible apply sW);simp only[go,$as,*]) | ((with_reducible apply sL);rfl)) | ((with_reducible apply aWY);simp only[go,$as,*];first | ((with_reducible apply sW);rfl) | ((with_reducible apply sL);simp only[go,$as,*])) | ((with_reducible apply aUB);simp only[go,$as,*]) | ((with_reducible apply aRc);simp only[gc,$as,*]) | ((with_reducible apply aW0);simp only[gc,$as,*]) | ((with_reducible apply aUQ rfl);simp only[go,$as,*];rfl) | simp only[gc,$as,*] | (focus (simp only[evs,$as,*]<;>with_reducible rfl)))
local macro_rules
 | `(tactic| simp only[gR1,$d0:term,$as,*])=>`(tactic| first | (apply aIT rfl;(focus (dsimp only[$d0:term,List.map,yBf,yCn,yGb,Nat.reduceSub,yEd,yAx,yGe,yHb,yFk];apply mM;simp only[go,$as,*];(first | (focus rfl) | (focus (simp only[$as,*]<;>rfl)))));(first | exact yAf | (focus (simp only[aCL,aC1,aCZ,$as,*]<;>rfl)) | (focus rfl))) | (simp only[evs,fQ,$d0:term,$as,*]<;>rfl))
local macro_rules
 | `(tactic| simp only[gR2,$d0:term,$d1:term,$as,*])=>`(tactic| first | (apply aIT rfl;(focus (dsimp only[$d0:term,$d1:term,List.map,yBf,yCn,yGb,Nat.reduceSub,yEd,yAx,yGe,yHb,yFk];apply mM;simp only[go,$as,*];(first | (focus rfl) | (focus (simp only[$as,*]<;>rfl)))));(first | exact yAf | (focus (simp only[aCL,aC1,aCZ,$as,*]<;>rfl)) | (focus rfl))) | (simp only[evs,fQ,$d0:term,$d1:term,$as,*]<;>rfl))
local macro_rules
 | `(tactic| simp only[gS0,$as,*])=>`(tactic| first | ((first | apply mM | apply pV | apply pQ | apply pU);simp only[go,$as,*];(first | (focus rfl) | (focus (simp only[$as,*]<;>rfl)))) | (simp only[evs,$as,*]<;>rfl))
local macro_rules
 | `(tactic| simp only[gS1,$d0:term,$as,*])=>`(tactic| first | (dsimp only[$d0:term];(first | apply mM | apply pV | apply pQ | apply pU);simp only[go,$as,*];(first | (focus rfl) | (focus (simp only[$as,*]<;>rfl)))) | (simp only[evs,$d0:term,$as,*]<;>rfl))
local macro_rules
 | `(tactic| simp only[gS2,$d0:term,$d1:term,$as,*])=>`(tactic| first | (dsimp only[$d0:term,$d1:term];(first | apply mM | apply pV | apply pQ | apply pU);simp only[go,$as,*];(first | (focus rfl) | (focus (simp only[$as,*]<;>rfl)))) | (simp only[evs,$d0:term,$d1:term,$as,*]<;>rfl))
local macro_rules
 | `(tactic| simp only[gS3,$d0:term,$d1:term,$d2:term,$as,*])=>`(tactic| first | (dsimp only[$d0:term,$d1:term,$d2:term];(first | apply mM | apply pV | apply pQ | apply pU);simp only[go,$as,*];(first | (focus rfl) | (focus (simp only[$as,*]<;>rfl)))) | (simp only[evs,$d0:term,$d1:term,$d2:term,$as,*]<;>rfl))
local macro_rules
 | `(tactic| simp only[gS4,$d0:term,$d1:term,$d2:term,$d3:term,$as,*])=>`(tactic| first | (dsimp only[$d0:term,$d1:term,$d2:term,$d3:term];(first | apply mM | apply pV | apply pQ | apply pU);simp only[go,$as,*];(first | (focus rfl) | (focus (simp only[$as,*]<;>rfl)))) | (simp only[evs,$d0:term,$d1:term,$d2:term,$d3:term,$as,*]<;>rfl))
local macro_rules
 | `(tactic| simp only[gS5,$d0:term,$d1:term,$d2:term,$d3:term,$d4:term,$as,*])=>`(tactic| first | (dsimp only[$d0:term,$d1:term,$d2:term,$d3:term,$d4:term];(first | apply mM | apply pV | apply pQ | apply pU);simp only[go,$as,*];(first | (focus rfl) | (focus (simp only[$as,*]<;>rfl)))) | (simp only[evs,$d0:term,$d1:term,$d2:term,$d3:term,$d4:term,$as,*]<;>rfl))
local macro_rules
 | `(tactic| simp only[gS6,$d0:term,$d1:term,$d2:term,$d3:term,$d4:term,$d5:term,$as,*])=>`(tactic| first | (dsimp only[$d0:term,$d1:term,$d2:term,$d3:term,$d4:term,$d5:term];(first | apply mM | apply pV | apply pQ | apply pU);simp only[go,$as,*];(first | (focus rfl) | (focus (simp only[$as,*]<;>rfl)))) | (simp only[evs,$d0:term,$d1:term,$d2:term,$d3:term,$d4:term,$d5:term,$as,*]<;>rfl))
noncomputable def top(i:Nat):xw:=PySem.Challenge.pw_fewbits_k83_whole_all_tries_told.main.body.getD i (.Pass ⟨0,0,0,0⟩)
noncomputable def tH:List (Str×Tv):=[("in",.int 0),("num",.int 0),("not",.int 1),("and",.int 2),("or",.int 2),("xor",.int 2),("add",.int 2),("sub",.int 2),("mul",.int 2),("left",.int 1),("right",.int 1),("slide",.int 1),("cut",.int 1),("wide",.int 1),("sign",.int 1),("same",.int 2),("less",.int 2),("under",.int 2),("pick",.int 3)]
noncomputable def rA:List Tv:=[.str "left",.str "right",.str "slide"]
noncomputable def aCH:List Tv:=[.str "add",.str "sub",.str "mul"]
noncomputable def qW:List Tv:=[.str "same",.str "less",.str "under"]
noncomputable def qY:List Tv:=[.int 0,.int 0,.int 1]
noncomputable def uD:List Tv:=[.int 1,.int 0,.int 1]
noncomputable def vD:List Tv:=[.int 0,.int 1,.int 1]
noncomputable def tbs:Tbs:=⟨[("OPERAND_COUNTS",tH)],[("SHIFTS",rA),("SUMS",aCH),("COMPARES",qW),("NOTHING",qY),("NOUGHT",uD),("ONE",vD)]⟩
abbrev J0:E:=.int 0
abbrev J1:E:=.int 1
abbrev J2:E:=.int 2
abbrev J3:E:=.int 3
abbrev J4:E:=.int 4
abbrev J5:E:=.int 5
abbrev J6:E:=.int 6
abbrev J7:E:=.int 7
abbrev J8:E:=.int 8
abbrev V0:E:=.var 0
abbrev V1:E:=.var 1
abbrev V2:E:=.var 2
abbrev V3:E:=.var 3
abbrev V4:E:=.var 4
abbrev V5:E:=.var 5
abbrev V6:E:=.var 6
abbrev V7:E:=.var 7
abbrev V8:E:=.var 8
abbrev V9:E:=.var 9
abbrev N0:E:=.nil
abbrev K0:Sx:=.skip
section
local macro_rules|`($a :: $b)=>`(.cons $a $b)
local macro_rules|`($a^$b)=>`(.seq $a $b)
noncomputable def aJd:Sx:=.ret (.bin .Sub (.bin .LShift J1 V0) J1)^K0
noncomputable def aIu:Sx:=.ret (.bits V0)^K0
noncomputable def aIr:Sx:=.ret (.call 0 (.call 1 (V0::N0)::N0))^K0
noncomputable def aGH:Sx:=.ret (.bin .Sub (.call 1 (.bin .BitXor V0 (.bin .Add V0 J1)::N0)) J1)^K0
noncomputable def aGN:Sx:=.ret (.bin .Sub V1 (.call 1 (.bin .BitXor V0 (.call 0 (V1::N0))::N0)))^K0
noncomputable def aBy:Sx:=.set 3 (.bin .LShift J1 (.bin .Sub V1 J1))^.ifs (.cmp .Eq (.bin .BitAnd V0 V3) J0) (.ret V0^K0) .skip^.ret (.bin .BitOr V0 (.bin .BitXor (.call 0 (V2::N0)) (.call 0 (V1::N0))))^K0
noncomputable def aEY:Sx:=.set 3 (.bin .BitXor (.call 0 (V2::N0)) (.call 2 (.bin .BitXor V0 V1::N0)))^.set 4 (.bin .BitAnd V3 V0)^.ret (.tup (.bin .BitXor V3 V4::V4::N0))^K0
noncomputable def aMA:Sx:=.ret (.sl V0 (J2::N0) (.bin .Add J2 (.tab "OPERAND_COUNTS" tH (.ix V0 J0))::N0))^K0
noncomputable def aEq:E:=.comp (.ix V1 V2) (.one 2) (.it (.call 7 (V0::N0))) .no
noncomputable def aEP:Sx:=.ret (.blt .tup (.fz aEq::N0))^K0
noncomputable def aFC:Sx:=.set 2 (.ix V0 J0)^.ret (.ix (.ix V2 V1) J1)^K0
noncomputable def aEy:E:=.comp (.ix V1 J1) (.one 1) (.it (.ix V0 J0)) .no
noncomputable def aFn:Sx:=.ret (.blt .tup (.fz aEy::N0))^K0
noncomputable def aEE:Sx:=.ret (.tup (.bin .BitAnd V2 (.un .Invert (.bin .BitAnd V1 (.un .Invert V0)))::.bin .BitAnd V2 (.un .Invert V0)::N0))^K0
noncomputable def aFS:Sx:=.set 3 (.call 1 (V2::N0))^.set 4 (.blt .mn (V3::.call 3 (V1::N0)::N0))^.set 5 (.blt .mn (.bin .Sub V3 V4::.call 3 (V0::N0)::N0))^.ret (.tup (.call 0 (.bin .Sub V3 V4::N0)::.call 0 (.bin .Sub V3 V5::N0)::N0))^K0
noncomputable def aCq:Sx:=.ifs (.cmp .Eq (.bin .RShift V0 V1) J0) (.ret V0^K0) .skip^.ret (.bin .BitOr (.bin .BitAnd V0 (.call 0 (V1::N0))) (.bin .LShift J1 (.bin .Sub V1 J1)))^K0
noncomputable def xV:Sx:=.ifs (.cmp .Eq V0 (.str "left")) (.ret (.bin .RShift V3 V2)^K0) .skip^.ifs (.cmp .Eq V0 (.str "right")) (.ret (.bin .BitAnd (.bin .LShift V3 V2) (.call 0 (V1::N0)))^K0) .skip^.ret (.call 13 (.bin .LShift V3 V2::V1::N0))^K0
noncomputable def yH:Sx:=.ifs (.cmp .Eq (.ix V0 J1) J1) (.ret (.tup (J1::V1::J0::N0))^K0) .skip^.ifs (.cmp .Eq (.ix V0 J0) J1) (.ret (.tup (J1::J0::V1::N0))^K0) .skip^.ret (.tup (J1::V1::V1::N0))^K0
noncomputable def aEN:Sx:=.set 4 (.ix V0 J0)^.ifs (.cmp .Eq V4 (.str "and")) (.ret (.call 11 (.ix (.ix V2 J0) J0::.ix (.ix V2 J1) J0::V3::N0))^K0) .skip^.ifs (.cmp .Eq V4 (.str "or")) (.ret (.call 11 (.ix (.ix V2 J0) J1::.ix (.ix V2 J1) J1::V3::N0))^K0) .skip^.ifs (.cmp .In V4 (.tup (.str "add"::.str "sub"::N0))) (.ret (.tup (.call 2 (V3::N0)::.call 2 (V3::N0)::N0))^K0) .skip^.ifs (.cmp .Eq V4 (.str "mul")) (.ret (.call 12 (.ix (.ix V2 J0) J0::.ix (.ix V2 J1) J0::V3::N0))^K0) .skip^.ifs (.cmp .In V4 (.con "SHIFTS" rA)) (.ret (.tup (.call 14 (V4::.ix V0 J1::.ix V0 J3::V3::N0)::N0))^K0) .skip^.ifs (.cmp .Eq V4 (.str "wide")) (.ret (.tup (.bin .BitAnd V3 (.call 0 (.ix V1 J0::N0))::N0))^K0) .skip^.ifs (.cmp .Eq V4 (.str "sign")) (.ret (.tup (.call 13 (V3::.ix V1 J0::N0)::N0))^K0) .skip^.ifs (.cmp .In V4 (.con "COMPARES" qW)) (.ret (.tup (.call 0 (.ix V1 J0::N0)::.call 0 (.ix V1 J1::N0)::N0))^K0) .skip^.ifs (.cmp .Eq V4 (.str "pick")) (.ret (.call 15 (.ix V2 J0::V3::N0))^K0) .skip^.ret (.bin .Mult (.tup (V3::N0)) (.blt .len (.call 7 (V0::N0)::N0)))^K0
noncomputable def aDm:Sx:=.ifs (.cmp .Eq V3 J0) (.ret (.bin .Mult (.tup (J0::N0)) (.blt .len (.call 7 (V0::N0)::N0)))^K0) .skip^.ret (.call 16 (V0::V1::V2::V3::N0))^K0
noncomputable def aEC:E:=.comp (.call 9 (V0::V7::N0)) (.one 7) (.it (.call 7 (V4::N0))) .no
noncomputable def aFl:Sx:=.set 4 (.ix (.ix V0 J0) V2)^.set 5 (.blt .tup (.fz aEC::N0))^.set 6 (.call 17 (V4::V5::.call 8 (V4::V1::N0)::V3::N0))^.ret (.fz (.lzip (.call 7 (V4::N0)) V6))^K0
noncomputable def yY:E:=.it (.call 18 (V0::V1::V4::.ix V2 V4::N0))
noncomputable def yZ:Sx:=.put V2 V7 (.bin .BitOr (.ix V2 V7) V8)^K0
noncomputable def yT:E:=.rng3 (.bin .Sub (.blt .len (V5::N0)) J1) (.un .USub J1) (.un .USub J1)
noncomputable def aBK:Sx:=.loop (.many [7,8]) yY yZ^K0
noncomputable def aBE:E:=.it V6
noncomputable def aBQ:Sx:=.put V2 V3 (.call 0 (.call 9 (V0::V3::N0)::N0))^K0
noncomputable def gC:Sx:=.setT (.many [5,6]) V0^.set 2 (.new (.lrep (.fz (.lst (J0::N0))) (.blt .len (V5::N0))))^.loop (.one 3) aBE aBQ^.loop (.one 4) yT aBK^.ret (.blt .tup (V2::N0))^K0
noncomputable def aEF:E:=.comp (.and (.cmp .Eq V6 V3) (.cmp .Eq (.bin .BitAnd (.bin .RShift V7 V4) J1) J1)) (.many [6,7]) (.it V5) .no
noncomputable def aFk:Sx:=.set 5 (.call 18 (V0::V1::.ix V2 J0::.bin .LShift J1 (.ix V2 J1)::N0))^.ret (.blt .any (.fz aEF::N0))^K0
noncomputable def oV:E:=.rng1 (.call 9 (V0::V5::N0))
noncomputable def kM:Sx:=.ifs (.and (.cmp .Eq (.bin .BitAnd (.bin .RShift (.ix V2 V5) V6) J1) J1) (.call 20 (V0::V1::.tup (V5::V6::N0)::V3::V4::N0))) (.ret (.tup (V5::V6::N0))^K0) .skip^K0
noncomputable def xO:E:=.rng2 (.bin .Add V3 J1) (.blt .len (V2::N0))
noncomputable def kL:Sx:=.ifs (.cmp .In V3 (.call 7 (.ix (.ix V0 J0) V5::N0))) (.loop (.one 6) oV kM^K0) .skip^K0
noncomputable def qX:Sx:=.loop (.one 5) xO kL^.ret .non^K0
noncomputable def pE:E:=.cmp .NotIn (.ix V5 J0) (.ix V0 J1)
noncomputable def uJ:Sx:=.set 5 (.call 21 (V0::V1::V4::.ix V5 J0::.ix V5 J1::N0))^.expr (.app V6 V5)^K0
noncomputable def aDI:Sx:=.set 4 (.call 19 (V0::V1::N0))^.ifs (.cmp .Eq (.bin .BitAnd (.bin .RShift (.ix V4 V2) V3) J1) J0) (.ret (.tup .nil)^K0) .skip^.set 5 (.tup (V2::V3::N0))^.set 6 (.new (.lst (V5::N0)))^.wh 100000 pE uJ^.ret (.blt .tup (V6::N0))^K0
noncomputable def aFp:Sx:=.ret (.bin .BitXor (.call 0 (V1::N0)) (.call 0 (.bin .Sub V1 V0::N0)))^K0
noncomputable def aEQ:Sx:=.ret (.bin .BitOr (.ix V0 J0) (.ix V0 J1))^K0
noncomputable def uG:Sx:=.setT (.many [3,4,5]) V0^.set 2 (.call 23 (V5::V1::N0))^.ifs (.cmp .NotEq (.bin .BitAnd V3 V2) J0) (.set 3 (.bin .BitOr V3 V2)^K0) .skip^.ifs (.cmp .NotEq (.bin .BitAnd V4 V2) J0) (.set 4 (.bin .BitOr V4 V2)^K0) .skip^.ret (.tup (V3::V4::.blt .mx (V5::.call 4 (V3::V1::N0)::.call 4 (V4::V1::N0)::N0)::N0))^K0
noncomputable def aIy:Sx:=.ret (.ix V0 J1)^K0
noncomputable def aFy:Sx:=.ret (.bin .BitXor (.call 0 (V1::N0)) (.ix V0 J0))^K0
noncomputable def aOn:Sx:=.ifs (.cmp .Eq V0 (.str "add")) (.ret (.bin .Add V1 V2)^K0) .skip^.ifs (.cmp .Eq V0 (.str "sub")) (.ret (.bin .Sub V1 V2)^K0) .skip^.ret (.bin .Mult V1 V2)^K0
noncomputable def aFa:Sx:=.set 3 (.call 0 (.call 3 (.bin .BitAnd (.call 24 (V1::N0)) (.call 24 (V2::N0))::N0)::N0))^.set 4 (.bin .BitAnd (.call 28 (V0::.call 26 (V1::N0)::.call 26 (V2::N0)::N0)) V3)^.ret (.tup (.bin .BitXor V3 V4::V4::N0))^K0
noncomputable def xT:Sx:=.ifs (.cmp .NotEq V0 (.str "mul")) (.ret J0^K0) .skip^.ret (.call 0 (.blt .mn (V1::.bin .Add (.call 3 (.ix V2 J0::N0)) (.call 3 (.ix V3 J0::N0))::N0)::N0))^K0
noncomputable def zL:Sx:=.ifs (.cmp .Eq V0 (.str "sub")) (.ret (.tup (.bin .Sub (.call 26 (V2::N0)) (.call 27 (V3::V1::N0))::.bin .Sub (.call 27 (V2::V1::N0)) (.call 26 (V3::N0))::N0))^K0) .skip^.set 4 (.call 28 (V0::.call 26 (V2::N0)::.call 26 (V3::N0)::N0))^.set 5 (.call 28 (V0::.call 27 (V2::V1::N0)::.call 27 (V3::V1::N0)::N0))^.ret (.tup (V4::V5::N0))^K0
noncomputable def yM:Sx:=.setT (.many [4,5]) (.call 31 (V0::V1::V2::V3::N0))^.ifs (.or (.cmp .Lt V4 J0) (.cmp .Gt V5 (.call 0 (V1::N0)))) (.ret (.tup (J0::J0::N0))^K0) .skip^.ret (.call 6 (V4::V5::V1::N0))^K0
noncomputable def xY:Sx:=.ifs (.cmp .Eq V0 (.str "mul")) (.ret J1^K0) .skip^.ret (.blt .mx (J1::.bin .Sub (.blt .mn (.ix V1 J2::.ix V2 J2::N0)) J1::N0))^K0
noncomputable def aFq:Sx:=.set 4 (.call 29 (V0::V2::V3::N0))^.set 5 (.call 32 (V0::V1::V2::V3::N0))^.set 6 (.bin .BitOr (.bin .BitOr (.ix V4 J0) (.ix V5 J0)) (.call 30 (V0::V1::V2::V3::N0)))^.ret (.tup (V6::.bin .BitOr (.ix V4 J1) (.ix V5 J1)::.call 33 (V0::V2::V3::N0)::N0))^K0
noncomputable def aF6:Sx:=.ret (.tup (.bin .BitXor (.call 0 (V0::N0)) V1::V1::J1::N0))^K0
noncomputable def aEH:Sx:=.ret (.bin .BitOr (.bin .BitAnd (.ix V0 J0) (.ix V1 J1)) (.bin .BitAnd (.ix V0 J1) (.ix V1 J0)))^K0
noncomputable def xP:Sx:=.set 3 (.blt .mn (.ix V1 J2::.ix V2 J2::N0))^.ifs (.cmp .Eq V0 (.str "and")) (.ret (.tup (.bin .BitOr (.ix V1 J0) (.ix V2 J0)::.bin .BitAnd (.ix V1 J1) (.ix V2 J1)::V3::N0))^K0) .skip^.ifs (.cmp .Eq V0 (.str "or")) (.ret (.tup (.bin .BitAnd (.ix V1 J0) (.ix V2 J0)::.bin .BitOr (.ix V1 J1) (.ix V2 J1)::V3::N0))^K0) .skip^.set 4 (.bin .BitOr (.bin .BitAnd (.ix V1 J0) (.ix V2 J0)) (.bin .BitAnd (.ix V1 J1) (.ix V2 J1)))^.ret (.tup (V4::.call 36 (V1::V2::N0)::V3::N0))^K0
noncomputable def aFd:Sx:=.set 3 (.bin .BitOr (.bin .LShift (.ix V1 J0) V2) (.call 0 (V2::N0)))^.ret (.tup (.bin .BitAnd V3 (.call 0 (V0::N0))::.bin .BitAnd (.bin .LShift (.ix V1 J1) V2) (.call 0 (V0::N0))::.blt .mx (J1::.bin .Sub (.ix V1 J2) V2::N0)::N0))^K0
noncomputable def aBo:Sx:=.set 3 (.bin .BitOr (.bin .RShift (.ix V1 J0) V2) (.call 23 (.blt .mn (V2::V0::N0)::V0::N0)))^.ret (.tup (V3::.bin .RShift (.ix V1 J1) V2::.ite (.cmp .Eq V2 J0) (.ix V1 J2) J1::N0))^K0
noncomputable def aE5:Sx:=.set 3 (.bin .Add V0 V2)^.ret (.tup (.bin .RShift (.call 5 (.ix V1 J0::V0::V3::N0)) V2::.bin .RShift (.call 5 (.ix V1 J1::V0::V3::N0)) V2::.blt .mn (V0::.bin .Add (.ix V1 J2) V2::N0)::N0))^K0
noncomputable def aLu:Sx:=.ifs (.cmp .Eq V0 (.str "left")) (.ret (.call 38 (V1::V2::V3::N0))^K0) .skip^.ifs (.cmp .Eq V0 (.str "right")) (.ret (.call 39 (V1::V2::V3::N0))^K0) .skip^.ret (.call 40 (V1::V2::V3::N0))^K0
noncomputable def tV:Sx:=.setT (.many [4,5,6]) V3^.ifs (.cmp .Eq V0 (.str "cut")) (.ret (.tup (.bin .BitAnd V4 (.call 0 (V2::N0))::.bin .BitAnd V5 (.call 0 (V2::N0))::.blt .mx (J1::.bin .Sub V6 (.bin .Sub V1 V2)::N0)::N0))^K0) .skip^.ifs (.cmp .Eq V0 (.str "wide")) (.ret (.tup (.bin .BitOr V4 (.call 23 (.bin .Sub V2 V1::V2::N0))::V5::.ite (.cmp .Eq V2 V1) V6 J1::N0))^K0) .skip^.ret (.tup (.call 5 (V4::V1::V2::N0)::.call 5 (V5::V1::V2::N0)::.bin .Add V6 (.bin .Sub V2 V1)::N0))^K0
noncomputable def xZ:Sx:=.ifs (.cmp .NotEq (.call 36 (V1::V2::N0)) J0) (.ret (.con "NOUGHT" uD)^K0) .skip^.ifs (.cmp .Eq (.bin .BitAnd (.call 24 (V1::N0)) (.call 24 (V2::N0))) (.call 0 (V0::N0))) (.ret (.con "ONE" vD)^K0) .skip^.ret (.con "NOTHING" qY)^K0
noncomputable def yJ:Sx:=.ifs (.cmp .Lt (.call 27 (V1::V0::N0)) (.call 26 (V2::N0))) (.ret (.con "ONE" vD)^K0) .skip^.ifs (.cmp .GtE (.call 26 (V1::N0)) (.call 27 (V2::V0::N0))) (.ret (.con "NOUGHT" uD)^K0) .skip^.ret (.con "NOTHING" qY)^K0
noncomputable def aE6:Sx:=.setT (.many [3,4,5]) V0^.set 2 (.bin .BitAnd (.bin .BitXor V3 V4) (.call 23 (J1::V1::N0)))^.ret (.tup (.bin .BitXor V3 V2::.bin .BitXor V4 V2::V5::N0))^K0
noncomputable def aK9:Sx:=.ifs (.cmp .Eq V0 (.str "same")) (.ret (.call 43 (V1::V2::V3::N0))^K0) .skip^.ifs (.cmp .Eq V0 (.str "less")) (.ret (.call 44 (V1::V2::V3::N0))^K0) .skip^.ret (.call 44 (V1::.call 45 (V2::V1::N0)::.call 45 (V3::V1::N0)::N0))^K0
noncomputable def yO:Sx:=.ifs (.cmp .Eq (.ix V0 J1) J1) (.ret V1^K0) .skip^.ifs (.cmp .Eq (.ix V0 J0) J1) (.ret V2^K0) .skip^.ret (.tup (.bin .BitAnd (.ix V1 J0) (.ix V2 J0)::.bin .BitAnd (.ix V1 J1) (.ix V2 J1)::.blt .mn (.ix V1 J2::.ix V2 J2::N0)::N0))^K0
noncomputable def aL4:Sx:=.set 3 (.ix V0 J0)^.set 4 (.ix V0 J1)^.ifs (.cmp .Eq V3 (.str "in")) (.ret (.con "NOTHING" qY)^K0) .skip^.ifs (.cmp .Eq V3 (.str "num")) (.ret (.call 35 (V4::.ix V0 J2::N0))^K0) .skip^.ifs (.cmp .Eq V3 (.str "not")) (.ret (.tup (.ix (.ix V2 J0) J1::.ix (.ix V2 J0) J0::.ix (.ix V2 J0) J2::N0))^K0) .skip^.ifs (.cmp .In V3 (.con "SUMS" aCH)) (.ret (.call 34 (V3::V4::.ix V2 J0::.ix V2 J1::N0))^K0) .skip^.ifs (.cmp .In V3 (.con "SHIFTS" rA)) (.ret (.call 41 (V3::V4::.ix V2 J0::.ix V0 J3::N0))^K0) .skip^.ifs (.cmp .In V3 (.con "COMPARES" qW)) (.ret (.call 46 (V3::.ix V1 J0::.ix V2 J0::.ix V2 J1::N0))^K0) .skip^.ifs (.cmp .Eq V3 (.str "pick")) (.ret (.call 47 (.ix V2 J0::.ix V2 J1::.ix V2 J2::N0))^K0) .skip^.ifs (.cmp .In V3 (.tup (.str "and"::.str "or"::.str "xor"::N0))) (.ret (.call 37 (V3::.ix V2 J0::.ix V2 J1::N0))^K0) .skip^.ret (.call 42 (V3::.ix V1 J0::V4::.ix V2 J0::N0))^K0
noncomputable def aJs:Sx:=.ret (.call 25 (.call 48 (V0::V1::V2::N0)::.ix V0 J1::N0))^K0
noncomputable def xR:E:=.it (.ix V0 J0)
noncomputable def xS:Sx:=.expr (.app V2 (.call 49 (V3::.call 8 (V3::V1::N0)::.call 8 (V3::V2::N0)::N0)))^K0
noncomputable def aFX:Sx:=.set 1 (.call 10 (V0::N0))^.set 2 (.new (.lst .nil))^.loop (.one 3) xR xS^.ret (.blt .tup (V2::N0))^K0
noncomputable def aHR:Sx:=.ret (.bin .BitXor V0 (.bin .LShift J1 (.bin .Sub V1 J1)))^K0
noncomputable def aMR:Sx:=.ifs (.cmp .Eq V0 (.str "same")) (.set 4 (.cmp .Eq V2 V3)^K0) (.ifs (.cmp .Eq V0 (.str "less")) (.set 4 (.cmp .Lt V2 V3)^K0) (.set 4 (.cmp .Lt (.call 51 (V2::V1::N0)) (.call 51 (V3::V1::N0)))^K0)^K0)^.ret (.ite V4 J1 J0)^K0
noncomputable def aOp:Sx:=.ifs (.cmp .Eq V0 (.str "left")) (.ret (.bin .BitAnd (.bin .LShift V2 V3) (.call 0 (V1::N0)))^K0) .skip^.ifs (.cmp .Eq V0 (.str "right")) (.ret (.bin .RShift V2 V3)^K0) .skip^.ret (.bin .RShift (.call 5 (V2::V1::.bin .Add V1 V3::N0)) V3)^K0
noncomputable def aMZ:Sx:=.ifs (.cmp .Eq V0 (.str "and")) (.ret (.bin .BitAnd V2 V3)^K0) .skip^.ifs (.cmp .Eq V0 (.str "or")) (.ret (.bin .BitOr V2 V3)^K0) .skip^.ifs (.cmp .Eq V0 (.str "xor")) (.ret (.bin .BitXor V2 V3)^K0) .skip^.ifs (.cmp .Eq V0 (.str "add")) (.ret (.bin .BitAnd (.bin .Add V2 V3) (.call 0 (V1::N0)))^K0) .skip^.ifs (.cmp .Eq V0 (.str "sub")) (.ret (.bin .BitAnd (.bin .Sub V2 V3) (.call 0 (V1::N0)))^K0) .skip^.ret (.bin .BitAnd (.bin .Mult V2 V3) (.call 0 (V1::N0)))^K0
noncomputable def aDo:Sx:=.set 3 (.ix V0 J0)^.set 4 (.ix V0 J1)^.ifs (.cmp .Eq V3 (.str "num")) (.ret (.ix V0 J2)^K0) .skip^.ifs (.cmp .Eq V3 (.str "not")) (.ret (.bin .BitXor (.ix V2 J0) (.call 0 (V4::N0)))^K0) .skip^.ifs (.cmp .In V3 (.con "SHIFTS" rA)) (.ret (.call 53 (V3::V4::.ix V2 J0::.ix V0 J3::N0))^K0) .skip^.ifs (.cmp .Eq V3 (.str "cut")) (.ret (.bin .BitAnd (.ix V2 J0) (.call 0 (V4::N0)))^K0) .skip^.ifs (.cmp .Eq V3 (.str "wide")) (.ret (.ix V2 J0)^K0) .skip^.ifs (.cmp .Eq V3 (.str "sign")) (.ret (.call 5 (.ix V2 J0::.ix V1 J0::V4::N0))^K0) .skip^.ifs (.cmp .In V3 (.con "COMPARES" qW)) (.ret (.call 52 (V3::.ix V1 J0::.ix V2 J0::.ix V2 J1::N0))^K0) .skip^.ifs (.cmp .Eq V3 (.str "pick")) (.ret (.ite (.cmp .Eq (.ix V2 J0) J1) (.ix V2 J1) (.ix V2 J2))^K0) .skip^.ret (.call 54 (V3::V4::.ix V2 J0::.ix V2 J1::N0))^K0
noncomputable def yN:E:=.zip (.ix V0 J0) V2
noncomputable def tP:Sx:=.ifs (.cmp .Eq (.ix V6 J0) (.str "in")) (.set 8 (.ix V1 V5)^.set 5 (.bin .Add V5 J1)^K0) (.set 8 (.call 55 (V6::.call 8 (V6::V3::N0)::.call 8 (V6::V4::N0)::N0))^K0)^.expr (.app V4 (.bin .BitXor V8 V7))^K0
noncomputable def aHp:Sx:=.set 3 (.call 10 (V0::N0))^.set 4 (.new (.lst .nil))^.set 5 J0^.loop (.many [6,7]) yN tP^.ret (.blt .tup (V4::N0))^K0
noncomputable def aKp:Sx:=.ret (.call 56 (V0::V1::.bin .Mult (.tup (J0::N0)) (.blt .len (.ix V0 J0::N0))::N0))^K0
noncomputable def aEZ:E:=.comp (.ix V1 V2) (.one 2) (.it (.ix V0 J1)) .no
noncomputable def aGm:Sx:=.ret (.blt .tup (.fz aEZ::N0))^K0
noncomputable def aJK:Sx:=.ret (.call 58 (V0::.call 57 (V0::V1::N0)::N0))^K0
noncomputable def aEx:Sx:=.set 3 (.new (.lrep (.fz (.lst (J0::N0))) (.blt .len (.ix V0 J0::N0))))^.put V3 V1 (.bin .LShift J1 V2)^.ret (.blt .tup (V3::N0))^K0
noncomputable def aGK:Sx:=.set 4 (.call 56 (V0::V3::.call 60 (V0::V1::V2::N0)::N0))^.ret (.cmp .NotEq (.call 58 (V0::V4::N0)) (.call 59 (V0::V3::N0)))^K0
noncomputable def qV:E:=.enm V3
noncomputable def oZ:Sx:=.ifs (.call 61 (V0::V1::V2::V6::N0)) (.ret (.tup (.str "try"::V5::N0))^K0) .skip^K0
noncomputable def zJ:Sx:=.loop (.many [5,6]) qV oZ^.set 4 (.call 22 (V0::.call 50 (V0::N0)::V1::V2::N0))^.ret (.tup (.ite (.cmp .Gt (.blt .len (V4::N0)) J0) (.str "way") (.str "unasked")::V4::N0))^K0
noncomputable def xJ:E:=.it V1
noncomputable def xK:Sx:=.expr (.app V2 (.bin .BitAnd V0 (.call 0 (V3::N0))))^.set 0 (.bin .RShift V0 V3)^K0
noncomputable def aEL:Sx:=.set 2 (.new (.lst .nil))^.loop (.one 3) xJ xK^.ret (.blt .tup (V2::N0))^K0
noncomputable def aEA:E:=.comp (.call 63 (V4::V1::N0)) (.one 4) (.rng1 (.bin .LShift J1 V2)) .no
noncomputable def aEz:E:=.comp (.ix V3 J1) (.one 3) (.it (.ix V0 J0)) (.cmp .Eq (.ix V3 J0) (.str "in"))
noncomputable def aL2:Sx:=.setC false 1 aEz^.set 2 (.blt .sum (V1::N0))^.ifs (.cmp .Gt V2 J8) (.nev^K0) .skip^.ret (.blt .tup (.fz aEA::N0))^K0
noncomputable def iO:Sx:=.setT (.many [3,4]) (.sl V0 .no (J2::N0))^.put V0 J1 (.bin .Add V4 J1)^.ifs (.and (.cmp .Lt (.bin .Add (.bin .FloorDiv V4 (.int 12)) J1) (.blt .len (V3::N0))) (.cmp .Eq (.bin .Mod (.ix V3 J0) J2) J1)) (.ifs (.cmp .Eq (.bin .Mod V4 (.int 12)) J0) (.put V0 J2 (.ix V3 (.bin .Add (.bin .FloorDiv V4 (.int 12)) J1))^K0) .skip^.set 5 (.bin .Mod (.ix V0 J2) V1)^.put V0 J2 (.bin .FloorDiv (.ix V0 J2) V1)^.ret V5^K0) .skip^.ifs (.cmp .Lt V4 (.blt .len (V3::N0))) (.ret (.bin .Mod (.ix V3 V4) V1)^K0) .skip^.set 2 (.bin .Add (.bin .Mult V4 (.int 7919)) J5)^.ifs (.cmp .Gt (.blt .len (.ix V0 J0::N0)) J0) (.set 2 (.bin .Add V2 (.bin .Mult (.ix (.ix V0 J0) (.bin .Mod (.bin .Mult V4 J7) (.blt .len (.ix V0 J0::N0)))) (.bin .Add (.int 48271) V4)))^K0) .skip^.set 2 (.bin .Mod (.bin .Mult (.bin .Mod V2 (.int 2147483629)) (.bin .Add V4 J3)) (.int 2147483629))^.set 2 (.bin .Mod (.bin .Mult V2 V2) (.int 2147483587))^.ret (.bin .Mod (.bin .Mod (.bin .Mult V2 V2) (.int 1999999973)) V1)^K0
noncomputable def aBm:Sx:=.ifs (.cmp .Lt V1 (.int 31)) (.ret (.call 65 (V0::.bin .LShift J1 V1::N0))^K0) .skip^.ret (.bin .Add (.call 65 (V0::.bin .LShift J1 (.int 30)::N0)) (.bin .LShift (.call 65 (V0::.bin .LShift J1 (.bin .Sub V1 (.int 30))::N0)) (.int 30)))^K0
noncomputable def aE3:Sx:=.ret (.ix (.fz (.lst (J1::.int 64::.bin .Add J1 (.call 65 (V0::J8::N0))::.bin .Add J1 (.call 65 (V0::.int 64::N0))::N0))) (.call 65 (V0::J4::N0)))^K0
noncomputable def aBG:Sx:=.set 2 (.call 65 (V0::J5::N0))^.set 3 (.fz (.lst (J0::.bin .Sub (.bin .LShift J1 V1) J1::.bin .LShift J1 (.call 65 (V0::V1::N0))::.bin .Sub (.bin .LShift J1 (.call 65 (V0::V1::N0))) J1::N0)))^.ifs (.cmp .Lt V2 J4) (.ret (.ix V3 V2)^K0) .skip^.ret (.call 66 (V0::V1::N0))^K0
noncomputable def tS:Sx:=.ifs (.cmp .Eq (.ix (.ix V1 V2) J1) V3) (.ret V2^K0) .skip^.set 4 (.ix (.fz (.lst (.str "wide"::.str "sign"::N0))) (.call 65 (V0::J2::N0)))^.ifs (.cmp .Gt (.ix (.ix V1 V2) J1) V3) (.set 4 (.str "cut")^K0) .skip^.expr (.app V1 (.tup (V4::V3::V2::N0)))^.ret (.bin .Sub (.blt .len (V1::N0)) J1)^K0
noncomputable def aKT:E:=.comp V4 (.one 4) (.rng1 (.blt .len (V1::N0))) (.cmp .Eq (.ix (.ix V1 V4) J1) V2)
noncomputable def tJ:Sx:=.setC false 3 aKT^.ifs (.and (.cmp .NotEq V3 (.fz (.lst .nil))) (.cmp .Gt (.call 65 (V0::J4::N0)) J0)) (.ret (.ix V3 (.bin .Sub (.bin .Sub (.blt .len (V3::N0)) J1) (.call 65 (V0::.blt .len (V3::N0)::N0))))^K0) .skip^.ret (.call 69 (V0::V1::.call 65 (V0::.blt .len (V1::N0)::N0)::V2::N0))^K0
noncomputable def aBi:Sx:=.set 3 (.call 65 (V0::.blt .len (V1::N0)::N0))^.set 4 (.ix (.ix V1 V3) J1)^.ifs (.cmp .Eq V2 (.str "cut")) (.ret (.tup (.str "cut"::.bin .Add J1 (.call 65 (V0::V4::N0))::V3::N0))^K0) .skip^.ret (.tup (V2::.bin .Add V4 (.call 65 (V0::.bin .Sub (.int 65) V4::N0))::V3::N0))^K0
noncomputable def aBs:Sx:=.set 4 (.ix (.fz (.lst (.call 65 (V0::V3::N0)::.call 65 (V0::.int 64::N0)::N0))) (.bin .FloorDiv (.call 65 (V0::J4::N0)) J3))^.ret (.tup (V2::V3::.call 70 (V0::V1::V3::N0)::V4::N0))^K0
noncomputable def aBw:Sx:=.set 4 (.call 70 (V0::V1::V3::N0))^.set 5 (.call 70 (V0::V1::V3::N0))^.ifs (.cmp .In V2 (.tup (.str "same"::.str "less"::.str "under"::N0))) (.set 3 J1^K0) .skip^.ret (.tup (V2::V3::V4::V5::N0))^K0
noncomputable def jM:Sx:=.set 2 (.fz (.lst (.str "in"::.str "num"::.str "num"::.str "not"::.str "and"::.str "or"::.str "xor"::.str "add"::.str "sub"::.str "mul"::.str "left"::.str "right"::.str "slide"::.str "cut"::N0)))^.set 2 (.bin .Add V2 (.fz (.lst (.str "wide"::.str "sign"::.str "same"::.str "less"::.str "under"::.str "pick"::N0))))^.set 3 (.ix V2 (.bin .Add J1 (.call 65 (V0::.int 19::N0))))^.set 4 (.ix (.ix V1 (.call 65 (V0::.blt .len (V1::N0)::N0))) J1)^.ifs (.cmp .Eq (.call 65 (V0::J4::N0)) J1) (.set 4 (.call 67 (V0::N0))^K0) .skip^.ifs (.cmp .Eq V3 (.str "num")) (.set 5 (.tup (.str "num"::V4::.call 68 (V0::V4::N0)::N0))^K0) (.ifs (.cmp .Eq V3 (.str "not")) (.set 5 (.tup (.str "not"::V4::.call 70 (V0::V1::V4::N0)::N0))^K0) (.ifs (.cmp .In V3 (.tup (.str "left"::.str "right"::.str "slide"::N0))) (.set 5 (.call 72 (V0::V1::V3::V4::N0))^K0) (.ifs (.cmp .In V3 (.tup (.str "cut"::.str "wide"::.str "sign"::N0))) (.set 5 (.call 71 (V0::V1::V3::N0))^K0) (.ifs (.cmp .Eq V3 (.str "pick")) (.set 6 (.call 70 (V0::V1::J1::N0))^.set 5 (.bin .Add (.tup (.str "pick"::V4::V6::N0)) (.sl (.call 73 (V0::V1::V3::V4::N0)) (J2::N0) .no))^K0) (.set 5 (.call 73 (V0::V1::V3::V4::N0))^K0)^K0)^K0)^K0)^K0)^.expr (.app V1 V5)^K0
noncomputable def aBj:E:=.rng1 (.ix (.fz (.lst (.call 65 (V0::J3::N0)::J7::N0))) (.blt .int (.cmp .Eq (.call 65 (V0::J8::N0)) J1::N0)))
noncomputable def aBk:Sx:=.expr (.app V6 (.call 65 (V0::.blt .len (V3::N0)::N0)))^K0
noncomputable def xL:E:=.rng1 V1
noncomputable def xM:Sx:=.ifs (.cmp .Lt (.blt .len (V3::N0)) (.int 37)) (.expr (.call 74 (V0::V3::N0))^K0) .skip^K0
noncomputable def qP:E:=.and (.cmp .Gt V2 J0) (.or (.cmp .Eq V3 (.fz (.lst .nil))) (.cmp .Gt (.call 65 (V0::J3::N0)) J0))
noncomputable def xN:Sx:=.expr (.app V3 (.tup (.str "in"::.bin .Add J1 (.call 65 (V0::V2::N0))::N0)))^.set 2 (.bin .Sub V2 (.ix (.ix V3 (.un .USub J1)) J1))^K0
noncomputable def iN:Sx:=.set 3 (.new (.lst .nil))^.wh 100000 qP xN^.ifs (.cmp .Eq V3 (.fz (.lst .nil))) (.expr (.app V3 (.tup (.str "num"::J6::.call 65 (V0::.int 64::N0)::N0)))^K0) .skip^.loop (.one 4) xL xM^.set 5 (.fz (.lst (.bin .Sub (.blt .len (V3::N0)) J1::.call 65 (V0::.blt .len (V3::N0)::N0)::N0)))^.set 6 (.new (.lst (.ix V5 (.blt .int (.cmp .Eq (.call 65 (V0::J4::N0)) J1::N0))::N0)))^.loop (.one 4) aBj aBk^.ret (.tup (.blt .tup (V3::N0)::.blt .tup (V6::N0)::N0))^K0
noncomputable def aLD:Sx:=.ifs (.cmp .In V0 (.tup (.str "in"::.str "num"::N0))) (.ret J0^K0) .skip^.ifs (.cmp .In V0 (.tup (.str "and"::.str "or"::.str "xor"::.str "add"::.str "sub"::.str "mul"::.str "same"::.str "less"::.str "under"::N0))) (.ret J2^K0) .skip^.ret (.bin .Add J1 (.bin .Mult J2 (.blt .int (.cmp .Eq V0 (.str "pick")::N0))))^K0
noncomputable def aEB:E:=.comp (.ix V3 V9) (.one 9) (.it (.ix V0 J1)) .no
noncomputable def aEw:E:=.comp (.ix V3 (.var 10)) (.one 10) (.it V7) .no
noncomputable def aED:E:=.comp (.ix (.ix (.ix V0 J0) (.var 10)) J1) (.one 10) (.it V7) .no
noncomputable def tI:E:=.enm (.ix V0 J0)
noncomputable def kN:Sx:=.ifs (.cmp .Eq (.ix V6 J0) (.str "in")) (.expr (.app V3 (.pop V4 J0))^K0) (.set 7 (.sl V6 (J2::N0) (.bin .Add J2 (.call 76 (.ix V6 J0::N0))::N0))^.set 8 (.blt .tup (.fz aED::N0))^.expr (.app V3 (.call 55 (V6::V8::.blt .tup (.fz aEw::N0)::N0)))^K0)^.ifs (.cmp .Eq (.ix V2 J0) V5) (.put V3 V5 (.bin .BitXor (.ix V3 V5) (.bin .LShift J1 (.ix V2 J1)))^K0) .skip^K0
noncomputable def aBA:Sx:=.set 3 (.new (.lst .nil))^.set 4 (.new (.lof V1))^.loop (.many [5,6]) tI kN^.ret (.fz aEB)^K0
noncomputable def aEu:E:=.comp (.cmp .NotEq (.call 77 (V0::V8::V4::N0)) V9) (.many [8,9]) (.zip V1 V2) .no
noncomputable def aLr:Sx:=.setC false 5 aEu^.set 6 (.cmp .Eq (.bin .BitAnd (.bin .RShift (.ix V3 (.ix V4 J0)) (.ix V4 J1)) J1) J1)^.set 7 (.call 62 (V0::.ix V4 J0::.ix V4 J1::V1::N0))^.ifs (.cmp .In (.bl true) V5) (.ret (.and V6 (.cmp .Eq V7 (.tup (.str "try"::.idx V5 (.bl true)::N0))))^K0) .skip^.ifs (.or (.cmp .Eq (.ix V7 J0) (.str "try")) (.cmp .NotEq (.cmp .Eq (.ix V7 J0) (.str "way")) V6)) (.ret (.bl false)^K0) .skip^.ret (.or (.cmp .Eq (.ix V7 J0) (.str "way")) (.cmp .Eq V7 (.tup (.str "unasked"::.tup .nil::N0))))^K0
noncomputable def aEo:E:=.comp V7 (.many [7,8]) (.zip V1 V2) (.cmp .Eq (.call 77 (V0::V7::V4::N0)) V8)
noncomputable def aKS:Sx:=.setC false 5 aEo^.set 6 (.cmp .Eq (.bin .BitAnd (.bin .RShift (.ix V3 (.ix V4 J0)) (.ix V4 J1)) J1) J1)^.ret (.cmp .Eq (.ix (.call 62 (V0::.ix V4 J0::.ix V4 J1::.blt .tup (V5::N0)::N0)) J0) (.ix (.fz (.lst (.str "unasked"::.str "way"::N0))) (.blt .int (V6::N0))))^K0
noncomputable def aCw:E:=.rng1 V2
noncomputable def aCv:Sx:=.set 10 (.call 65 (V1::.blt .len (.ix V5 J0::N0)::N0))^.set 11 (.tup (.var 10::.call 65 (V1::.ix (.ix (.ix V5 J0) (.var 10)) J1::N0)::N0))^.ifs (.not (.call 78 (V5::V6::V7::V8::.var 11::N0))) (.ret (.bl false)^K0) .skip^K0
noncomputable def aCh:E:=.comp (.call 77 (V5::.var 12::.tup (.un .USub J1::J0::N0)::N0)) (.one 12) (.it V6) .no
noncomputable def jF:Sx:=.set 1 (.new (.lst (V0::J0::J0::N0)))^.set 2 (.bin .Add J1 (.call 65 (V1::J3::N0)))^.set 3 (.call 65 (V1::J5::N0))^.set 4 (.bin .Add J1 (.blt .mn (.blt .len (V0::N0)::.int 14::N0)))^.ifs (.cmp .Eq (.call 65 (V1::J8::N0)) J1) (.set 3 J8^.set 4 (.bin .Add J1 (.call 65 (V1::J3::N0)))^.set 2 J1^K0) .skip^.set 5 (.call 75 (V1::V4::V3::N0))^.set 6 (.call 64 (V5::N0))^.setC false 7 aCh^.set 8 (.call 19 (V5::.call 50 (V5::N0)::N0))^.loop (.one 9) aCw aCv^.ret (.call 79 (V5::V6::V7::V8::.var 11::N0))^K0
end
noncomputable def fns:List Fn:=[
 {name:="full",np:=1,N:=["width"],body:=aJd,st:=top 1 },
 {name:="reach",np:=1,N:=["number"],body:=aIu,st:=top 2 },
 {name:="below",np:=1,N:=["number"],body:=aIr,st:=top 3 },
 {name:="low_run",np:=1,N:=["number"],body:=aGH,st:=top 4 },
 {name:="top_run",np:=2,N:=["number", "width"],body:=aGN,st:=top 5 },
 {name:="stretched",np:=3,N:=["number", "width", "wider", "top"],body:=aBy,st:=top 6 },
 {name:="shared_top",np:=3,N:=["least", "greatest", "width", "known", "ones"],body:=aEY,st:=top 7 },
 {name:="operands",np:=1,N:=["row"],body:=aMA,st:=top 13 },
 {name:="of_operands",np:=2,N:=["row", "values", "k"],body:=aEP,st:=top 14 },
 {name:="width_of",np:=2,N:=["program", "k", "rows"],body:=aFC,st:=top 15 },
 {name:="widths_of",np:=1,N:=["program", "row"],body:=aFn,st:=top 16 },
 {name:="settled_need",np:=3,N:=["first", "second", "mask"],body:=aEE,st:=top 18 },
 {name:="mul_need",np:=3,N:=["first", "second", "mask", "h", "u", "g"],body:=aFS,st:=top 19 },
 {name:="folded",np:=2,N:=["mask", "width"],body:=aCq,st:=top 20 },
 {name:="shift_need",np:=4,N:=["word", "width", "k", "mask"],body:=xV,st:=top 21 },
 {name:="pick_need",np:=2,N:=["choice", "mask"],body:=yH,st:=top 22 },
 {name:="asking_need",np:=4,N:=["row", "widths", "facts", "mask", "word"],body:=aEN,st:=top 23 },
 {name:="need",np:=4,N:=["row", "widths", "facts", "mask"],body:=aDm,st:=top 24 },
 {name:="row_needs",np:=4,N:=["program", "facts", "k", "mask", "row", "widths", "needs", "operand"],body:=aFl,st:=top 26 },
 {name:="asked",np:=2,N:=["program", "facts", "masks", "out", "k", "rows", "outs", "operand", "mask"],body:=gC,st:=top 27 },
 {name:="needs_bit",np:=5,N:=["program", "facts", "step", "row", "bit", "needs", "operand", "mask"],body:=aFk,st:=top 28 },
 {name:="next_step",np:=5,N:=["program", "facts", "masks", "row", "bit", "k", "place"],body:=qX,st:=top 29 },
 {name:="way",np:=4,N:=["program", "facts", "row", "bit", "masks", "step", "steps"],body:=aDI,st:=top 30 },
 {name:="top_mask",np:=2,N:=["count", "width"],body:=aFp,st:=top 35 },
 {name:="known_bits",np:=1,N:=["fact"],body:=aEQ,st:=top 36 },
 {name:="closed",np:=2,N:=["fact", "width", "top", "noughts", "ones", "alike"],body:=uG,st:=top 37 },
 {name:="least",np:=1,N:=["fact"],body:=aIy,st:=top 38 },
 {name:="greatest",np:=2,N:=["fact", "width"],body:=aFy,st:=top 39 },
 {name:="outcome",np:=3,N:=["word", "one", "other"],body:=aOn,st:=top 41 },
 {name:="low_masks",np:=3,N:=["word", "one", "other", "low", "ones"],body:=aFa,st:=top 42 },
 {name:="low_noughts",np:=4,N:=["word", "width", "one", "other"],body:=xT,st:=top 43 },
 {name:="bounds",np:=4,N:=["word", "width", "one", "other", "lowest", "highest"],body:=zL,st:=top 44 },
 {name:="top_masks",np:=4,N:=["word", "width", "one", "other", "lowest", "highest"],body:=yM,st:=top 45 },
 {name:="sum_alike",np:=3,N:=["word", "one", "other"],body:=xY,st:=top 46 },
 {name:="sum_fact",np:=4,N:=["word", "width", "one", "other", "low", "top", "noughts"],body:=aFq,st:=top 47 },
 {name:="num_fact",np:=2,N:=["width", "number"],body:=aF6,st:=top 52 },
 {name:="unlike_bits",np:=2,N:=["one", "other"],body:=aEH,st:=top 53 },
 {name:="bitwise_fact",np:=3,N:=["word", "one", "other", "alike", "noughts"],body:=xP,st:=top 54 },
 {name:="left_fact",np:=3,N:=["width", "fact", "k", "noughts"],body:=aFd,st:=top 55 },
 {name:="right_fact",np:=3,N:=["width", "fact", "k", "noughts"],body:=aBo,st:=top 56 },
 {name:="slide_fact",np:=3,N:=["width", "fact", "k", "wider"],body:=aE5,st:=top 57 },
 {name:="shift_fact",np:=4,N:=["word", "width", "fact", "k"],body:=aLu,st:=top 58 },
 {name:="fit_fact",np:=4,N:=["word", "v", "w", "fact", "noughts", "ones", "alike"],body:=tV,st:=top 59 },
 {name:="same_fact",np:=3,N:=["width", "one", "other"],body:=xZ,st:=top 60 },
 {name:="less_fact",np:=3,N:=["width", "one", "other"],body:=yJ,st:=top 61 },
 {name:="top_turned",np:=2,N:=["fact", "width", "turning", "noughts", "ones", "alike"],body:=aE6,st:=top 62 },
 {name:="compare_fact",np:=4,N:=["word", "width", "one", "other"],body:=aK9,st:=top 63 },
 {name:="pick_fact",np:=3,N:=["choice", "one", "other"],body:=yO,st:=top 64 },
 {name:="open_fact",np:=3,N:=["row", "widths", "facts", "word", "width"],body:=aL4,st:=top 65 },
 {name:="rule",np:=3,N:=["row", "widths", "facts"],body:=aJs,st:=top 66 },
 {name:="facts_of",np:=1,N:=["program", "widths", "facts", "row"],body:=aFX,st:=top 67 },
 {name:="lifted",np:=2,N:=["number", "width"],body:=aHR,st:=top 69 },
 {name:="compared",np:=4,N:=["word", "width", "one", "other", "found"],body:=aMR,st:=top 70 },
 {name:="shifted",np:=4,N:=["word", "width", "number", "k"],body:=aOp,st:=top 71 },
 {name:="combined",np:=4,N:=["word", "width", "one", "other"],body:=aMZ,st:=top 72 },
 {name:="work",np:=3,N:=["row", "widths", "numbers", "word", "width"],body:=aDo,st:=top 73 },
 {name:="turned",np:=3,N:=["program", "inputs", "masks", "widths", "numbers", "taken", "row", "mask", "number"],body:=aHp,st:=top 75 },
 {name:="run",np:=2,N:=["program", "inputs"],body:=aKp,st:=top 76 },
 {name:="of_outs",np:=2,N:=["program", "numbers", "out"],body:=aGm,st:=top 77 },
 {name:="told",np:=2,N:=["program", "inputs"],body:=aJK,st:=top 78 },
 {name:="single_masks",np:=3,N:=["program", "row", "bit", "masks"],body:=aEx,st:=top 80 },
 {name:="matters",np:=4,N:=["program", "row", "bit", "try_", "numbers"],body:=aGK,st:=top 81 },
 {name:="matter",np:=4,N:=["program", "row", "bit", "tries", "steps", "t", "try_"],body:=zJ,st:=top 82 },
 {name:="counted_try",np:=2,N:=["count", "widths", "inputs", "width"],body:=aEL,st:=top 83 },
 {name:="all_tries",np:=1,N:=["program", "widths", "bits", "row", "count"],body:=aL2,st:=top 84 },
 {name:="_law_draw",np:=2,N:=["_law_state", "_law_many_here", "_law_cell", "_law_script", "_law_k", "_law_digit"],body:=iO,st:=top 86 },
 {name:="_law_number",np:=2,N:=["_law_state", "_law_width_here"],body:=aBm,st:=top 87 },
 {name:="_law_width",np:=1,N:=["_law_state"],body:=aE3,st:=top 88 },
 {name:="_law_num",np:=2,N:=["_law_state", "_law_width_here", "_law_sort", "_law_some"],body:=aBG,st:=top 89 },
 {name:="_law_fit",np:=4,N:=["_law_state", "_law_rows", "_law_a", "_law_width_here", "_law_word"],body:=tS,st:=top 90 },
 {name:="_law_operand",np:=3,N:=["_law_state", "_law_rows", "_law_width_here", "_law_some", "_law_k"],body:=tJ,st:=top 91 },
 {name:="_law_turned_width",np:=3,N:=["_law_state", "_law_rows", "_law_word", "_law_a", "_law_width_here"],body:=aBi,st:=top 92 },
 {name:="_law_shift",np:=4,N:=["_law_state", "_law_rows", "_law_word", "_law_width_here", "_law_k"],body:=aBs,st:=top 93 },
 {name:="_law_pair",np:=4,N:=["_law_state", "_law_rows", "_law_word", "_law_width_here", "_law_a", "_law_b"],body:=aBw,st:=top 94 },
 {name:="_law_row",np:=2,N:=["_law_state", "_law_rows", "_law_some", "_law_word", "_law_width_here", "_law_row_here", "_law_c"],body:=jM,st:=top 95 },
 {name:="_law_small",np:=3,N:=["_law_state", "_law_most", "_law_room", "_law_rows", "_law_k", "_law_last", "_law_outs_here"],body:=iN,st:=top 96 },
 {name:="_law_many",np:=1,N:=["_law_word"],body:=aLD,st:=top 97 },
 {name:="_law_outs",np:=3,N:=["_law_program", "_law_some", "_law_place", "_law_numbers", "_law_left", "_law_k", "_law_row_here", "_law_ops", "_law_widths", "_law_out", "_law_a"],body:=aBA,st:=top 98 },
 {name:="_law_right",np:=5,N:=["_law_program", "_law_tries", "_law_outs_here", "_law_masks", "_law_place", "_law_due", "_law_in_masks", "_law_found", "_law_some", "_law_out"],body:=aLr,st:=top 99 },
 {name:="_law_way_behind",np:=5,N:=["_law_program", "_law_tries", "_law_outs_here", "_law_masks", "_law_place", "_law_few", "_law_in_masks", "_law_some", "_law_out"],body:=aKS,st:=top 100 },
 {name:="law",np:=1,N:=["_law_script", "_law_state", "_law_many_here", "_law_room", "_law_most", "_law_program", "_law_tries", "_law_outs_here", "_law_masks", "_law_k", "_law_row_here", "_law_place", "_law_some"],body:=jF,st:=top 101 }]
noncomputable def bG(ns:List Int)(k:Nat)(x:Int):List D:=[.list (ns.map yAj),.int k,.int x]
theorem aPl{α:Type}{S:List α}{n:Nat}{a v:α}(h:S[n]? = qq a):(S.set n v)[n]? = qq v:=yAz (gIm h).1
theorem aBD{α:Type}(S:List α)(n:Nat)(v:α):(S.set n v).take S.length=S.set n v:=by
 rw[yDh];rw[yAy];exact yAb _
theorem aIF(a b c:D):aH (.list [a,b,c]) (.int 0)=qq a:=rfl
theorem aHY(a b c:D):aH (.list [a,b,c]) (.int 2)=qq c:=rfl
theorem aWz(a b c:D):iG [a,b,c] qz (qq 2)=[a,b]:=rfl
theorem rN{ns:List Int}{k:Nat}(h:k<ns.length):aH (.list (ns.map yAj)) (.int k)=qq (.int ns[k]):=jR (by rw[xAb,yAa h];rfl)
theorem uI(i:Int){w:Nat}(hw:0<w):∃ r:Nat,i%(w:Int)=(r:Int)/\r<w:=by
 have h0:=Int.emod_nonneg i (show(w:Int)≠0 by omega)
 have h1:=yGk i (show(0:Int)<(w:Int) by omega)
 exact⟨(i%(w:Int)).toNat,by omega,by omega⟩
theorem aTV:hU 3 1=qq 1:=rfl
theorem aJa:hU 3 2=qq 2:=rfl
theorem pA(ns:List Int):(ns.map yAj).length=ns.length:=yAd ..
noncomputable def rD:Sx:=match iO with
 | .seq _ (.seq _ (.seq _ r))=>r
 | _=>.skip
theorem qZ(i p:Int)(hp:0<p)(hp2:p<=2147483647) : -(2^64)<i%p/\i%p<2^64:=by
 have h0:=Int.emod_nonneg i (show p≠0 by omega)
 have h1:=yGk i hp;exact⟨by omega,by omega⟩
theorem aM6(C:Calls)(n k m:Nat)(ns:List Int)(x:Int)(S:aF)(e2 e5:Option W)(hS:S[n]? = qq (qq (bG ns (k+1) x)))(hm:0<m)(hk:k<=100000) :
 ∃ r:Nat,r<m/\xs C rD [qq (.loc n),qq (.d (.int m)),e2,qq (.d (.list (ns.map yAj))),qq (.d (.int k)),e5] S=qq (.rt (.d (.int r)),S):=by
 unfold bG at hS;have hm':(0:Int)<(m:Int):=by omega
 by_cases c1:k<ns.length
 ·have d1:decide ((k:Int)<((ns.length:Nat):Int))=true:=dqT (by omega)
  obtain⟨r,er,hr⟩:=uI ns[k] hm;refine⟨r,hr,?_⟩;simp only[gS2,rD,iO,dY,dZ,pA,eG,d1,rN c1,fK hm',er]
 ·have d1:decide ((k:Int)<((ns.length:Nat):Int))=false:=dqF (by omega)
  have bR:∀ c:Int,∃ r:Nat,r<m/\c%2147483629*((k:Int)+3)%2147483629*(c%2147483629*((k:Int)+3)%2147483629)%2147483587*(c%2147483629*((k:Int)+3)%2147483629*(c%2147483629*((k:Int)+3)%2147483629)%2147483587)%1999999973%(m:Int)=(r:Int):=λ c=>by
   obtain⟨r,er,hr⟩:=uI (c%2147483629*((k:Int)+3)%2147483629*(c%2147483629*((k:Int)+3)%2147483629)%2147483587*(c%2147483629*((k:Int)+3)%2147483629*(c%2147483629*((k:Int)+3)%2147483629)%2147483587)%1999999973) hm;exact⟨r,hr,er⟩
  by_cases c2:0<ns.length
  ·have d2:decide ((0:Int)<((ns.length:Nat):Int))=true:=dqT (by omega)
   obtain⟨q,eq,hq⟩:=uI ((k:Int)*7) c2;obtain⟨r,hr,er⟩:=bR ((k:Int)*7919+5+ns[q]*(48271+(k:Int)));refine⟨r,hr,?_⟩;have s1:=qZ ((k:Int)*7919+5+ns[q]*(48271+(k:Int))) 2147483629 (by decide) (by decide)
   have s2:=qZ (((k:Int)*7919+5+ns[q]*(48271+(k:Int)))%2147483629*((k:Int)+3)) 2147483629 (by decide) (by decide)
   have s3:=qZ (((k:Int)*7919+5+ns[q]*(48271+(k:Int)))%2147483629*((k:Int)+3)%2147483629*(((k:Int)*7919+5+ns[q]*(48271+(k:Int)))%2147483629*((k:Int)+3)%2147483629)) 2147483587 (by decide) (by decide)
   simp only[evs,rD,iO,dY,dZ,pA,eG,d1,rK (i:=(k:Int)) (j:=7919) (by decide) (by decide),cW,hS,aIF,gM,d2,rK (i:=(k:Int)) (j:=7) (by decide) (by decide),fK (i:=(k:Int)*7) (j:=((ns.length:Nat):Int)) (by omega),eq,rN hq,
    rK (i:=ns[q]) (j:=48271+(k:Int)) (by omega) (by omega),fK (j:=2147483629) (by decide),nO s1.1 s1.2,nO s2.1 s2.2,fK (j:=2147483587) (by decide),nO s3.1 s3.2,fK (j:=1999999973) (by decide),fK hm',er]
  ·have d2:decide ((0:Int)<((ns.length:Nat):Int))=false:=dqF (by omega)
   obtain⟨r,hr,er⟩:=bR ((k:Int)*7919+5);refine⟨r,hr,?_⟩;have s1:=qZ ((k:Int)*7919+5) 2147483629 (by decide) (by decide)
   have s2:=qZ (((k:Int)*7919+5)%2147483629*((k:Int)+3)) 2147483629 (by decide) (by decide)
   have s3:=qZ (((k:Int)*7919+5)%2147483629*((k:Int)+3)%2147483629*(((k:Int)*7919+5)%2147483629*((k:Int)+3)%2147483629)) 2147483587 (by decide) (by decide)
   have hq1:=rK (i:=(k:Int)) (j:=7919) (by decide) (by decide)
   have hq2:=λ i=>fK (i:=i) (j:=2147483629) (by decide)
   have hq3:=λ i=>fK (i:=i) (j:=2147483587) (by decide)
   have hq4:=λ i=>fK (i:=i) (j:=1999999973) (by decide)
   simp only[gS2,rD,iO,dY,dZ,pA,eG,d1,hq1,cW,hS,aIF,gM,d2,hq2,nO s1.1 s1.2,nO s2.1 s2.2,hq3,nO s3.1 s3.2,hq4,fK hm',er]
noncomputable def pL:Sx:=match iO with
 | .seq _ (.seq _ (.seq i _))=>i
 | _=>.skip
noncomputable def aCp:Sx:=match iO with
 | .seq _ (.seq p _)=>p
 | _=>.skip
noncomputable def zR:Sx:=match iO with
 | .seq p _=>p
 | _=>.skip
theorem aPz(d n k m:Nat)(ns:List Int)(x:Int)(S:aF)(hS:S[n]? = qq (qq (bG ns k x)))(hm:0<m)(hm2:m<2^64)(hk:k<=100000) :
 ∃ (r:Nat) (x':Int),r<m/\cl fns (d+1) 65 [.loc n,.d (.int m)] S=qq (.d (.int r),S.set n (qq (bG ns (k+1) x'))):=by
 have hm':(0:Int)<(m:Int):=by omega
 have hm2':(m:Int)<2^64:=by exact_mod_cast hm2
 have e1:(k:Int)/12+1=((k/12+1:Nat):Int):=by omega
 have e2:(k:Int)+1=((k+1:Nat):Int):=by omega
 have gs:=λ v=>aPl (v:=v) hS
 have start:(dR (xs (aE fns d) zR) (xs (aE fns d) aCp)) [qq (.loc n),qq (.d (.int m)),qz,qz,qz,qz] S=qq (.nx [qq (.loc n),qq (.d (.int m)),qz,qq (.d (.list (ns.map yAj))),qq (.d (.int k)),qz],S.set n (qq (bG ns (k+1) x))):=by
  unfold bG at hS ⊢;simp only[gS3,zR,aCp,iO,oR,lG,xA,hS,aWz,jE,iC,aTV,cW,e2]
 have eV:∀ (R:Option (Fl×aF)),dR (xs (aE fns d) pL) (xs (aE fns d) rD) [qq (.loc n),qq (.d (.int m)),qz,qq (.d (.list (ns.map yAj))),qq (.d (.int k)),qz] (S.set n (qq (bG ns (k+1) x)))=R ->
  cl fns (d+1) 65 [.loc n,.d (.int m)] S=R.bind λ p=>match p.1 with
   | .rt w=>jY S.length p.2 w
   | .nx _=>qq (.d .none,p.2.take S.length)
   | _=>qz:=λ R hR=>by
  rw[aY rfl d _ S rfl,<- hR];simp only[dR] at start ⊢;cases q:xs (aE fns d) zR [qq (.loc n),qq (.d (.int m)),qz,qz,qz,qz] S with
  | none=>rw[q] at start;cases start
  | some z =>
    obtain⟨fl,S1⟩:=z;rw[q] at start;simp only[oB] at start;cases fl with
    | nx e =>
      simp only at start;show((dR (xs (aE fns d) zR) (dR (xs (aE fns d) aCp) (dR (xs (aE fns d) pL) (xs (aE fns d) rD)))) [qq (.loc n),qq (.d (.int m)),qz,qz,qz,qz] S).bind _=_;simp only[dR,q,oB,start]
      all_goals rfl
    | rt w=>cases start
    | bk e=>cases start
    | ct e=>cases start
 have hS2:(S.set n (qq (bG ns (k+1) x)))[n]? = qq (qq (bG ns (k+1) x)):=gs _;have skip:xs (aE fns d) pL [qq (.loc n),qq (.d (.int m)),qz,qq (.d (.list (ns.map yAj))),qq (.d (.int k)),qz] (S.set n (qq (bG ns (k+1) x)))=qq (.nx [qq (.loc n),qq (.d (.int m)),qz,qq (.d (.list (ns.map yAj))),qq (.d (.int k)),qz],S.set n (qq (bG ns (k+1) x))) ->
  ∃ (r:Nat) (x':Int),r<m/\cl fns (d+1) 65 [.loc n,.d (.int m)] S=qq (.d (.int r),S.set n (qq (bG ns (k+1) x'))):=λ h=>by
  obtain⟨r,hr,ht⟩:=aM6 (aE fns d) n k m ns x _ qz qz hS2 hm hk;refine⟨r,x,hr,?_⟩;rw[eV _ rfl];simp only[dR,h,oB,ht,jY,aBD]
 by_cases c1:k/12+1<ns.length
 ·have d1:decide (((k/12+1:Nat):Int)<((ns.length:Nat):Int))=true:=dqT (by omega)
  have i0:aH (.list (ns.map yAj)) (.int 0)=qq (.int ns[0]):=rN (k:=0) (by omega)
  rcases yCr (ns[0]%2==1) with c2 | c2
  ·rcases yCr ((k:Int)%12==0) with c3 | c3
   ·obtain⟨r,er,hr⟩:=uI ns[k/12+1] hm;refine⟨r,ns[k/12+1]/(m:Int),hr,?_⟩;rw[eV _ rfl];unfold bG at hS2 ⊢;have hq5:=nQ (i:=(k:Int)) (j:=12) (by decide) (by decide)
    have hq6:=fK (i:=ns[0]) (j:=2) (by decide)
    have hq7:=fK (i:=(k:Int)) (j:=12) (by decide)
    simp only[gS2,pL,iO,jE,iC,aJa,cW,hq5,e1,dY,dZ,pA,eG,d1,i0,hq6,bQ,c2,hq7,c3,hS2,gs,yHi,rN c1,aHY,fK hm',er,nQ hm' hm2',aBD]
   ·obtain⟨r,er,hr⟩:=uI x hm;refine⟨r,x/(m:Int),hr,?_⟩;rw[eV _ rfl];unfold bG at hS2 ⊢;have hq8:=nQ (i:=(k:Int)) (j:=12) (by decide) (by decide)
    have hq9:=fK (i:=ns[0]) (j:=2) (by decide)
    have hq10:=fK (i:=(k:Int)) (j:=12) (by decide)
    simp only[gS2,pL,iO,jE,iC,aJa,cW,hq8,e1,dY,dZ,pA,eG,d1,i0,hq9,bQ,c2,hq10,c3,hS2,gs,yHi,aHY,fK hm',er,nQ hm' hm2',aBD]
  ·apply skip;have hq11:=nQ (i:=(k:Int)) (j:=12) (by decide) (by decide)
   have hq12:=fK (i:=ns[0]) (j:=2) (by decide)
   simp only[gS2,pL,iO,cW,hq11,e1,dY,dZ,pA,eG,d1,i0,hq12,bQ,c2]
 ·have d1:decide (((k/12+1:Nat):Int)<((ns.length:Nat):Int))=false:=dqF (by omega)
  apply skip;have hq13:=nQ (i:=(k:Int)) (j:=12) (by decide) (by decide)
  simp only[gS2,pL,iO,cW,hq13,e1,dY,dZ,pA,eG,d1]
inductive Wd where
 | «in» | num | not | and | or | xor | add | sub | mul | left | right | slide | cut | wide | sign | same | less | under | pick
 deriving DecidableEq
noncomputable def Wd.s:Wd->Str
 | .in => "in" | .num => "num" | .not => "not" | .and => "and" | .or => "or" | .xor => "xor" | .add => "add" | .sub => "sub" | .mul => "mul" | .left => "left" | .right => "right" | .slide => "slide"
 | .cut => "cut" | .wide => "wide" | .sign => "sign" | .same => "same" | .less => "less" | .under => "under" | .pick => "pick"
structure Rw where
 wd:Wd
 w:Nat
 args:List Nat
noncomputable def nD(n:Nat):D:=.int n
noncomputable def Rw.d(r:Rw):D:=.tuple (.str r.wd.s::nD r.w::r.args.map nD)
def gD(ws:List Nat)(r:Rw):Prop:=1<=r.w/\r.w<=64/\match r.wd,r.args with
 | .in,[]=>True
 | .num,[n]=>n<2^r.w
 | .not,[a]=>ws[a]? = qq r.w
 | .and,[a,b] | .or,[a,b] | .xor,[a,b] | .add,[a,b] | .sub,[a,b] | .mul,[a,b]=>ws[a]? = qq r.w/\ws[b]? = qq r.w
 | .left,[a,k] | .right,[a,k] | .slide,[a,k]=>ws[a]? = qq r.w/\k<64
 | .cut,[a]=>∃ v,ws[a]? = qq v/\r.w<=v
 | .wide,[a] | .sign,[a]=>∃ v,ws[a]? = qq v/\v<=r.w
 | .same,[a,b] | .less,[a,b] | .under,[a,b]=>r.w=1/\∃ v,ws[a]? = qq v/\ws[b]? = qq v
 | .pick,[c,a,b]=>ws[c]? = qq 1/\ws[a]? = qq r.w/\ws[b]? = qq r.w
 | _,_=>False
noncomputable def dN:List Nat->List Rw->Prop
 | _,[]=>True
 | ws,r::rs=>gD ws r/\dN (ws++[r.w]) rs
theorem xU:∀ {rs:List Rw}{ws:List Nat}{r:Rw},dN ws rs->gD (ws++rs.map (·.w)) r->dN ws (rs++[r])
 | [],ws,r,_,h=>⟨by simpa using h,True.intro⟩
 | q::rs,ws,r,⟨h1,h2⟩,h=>⟨h1,xU h2 (by simpa using h)⟩
noncomputable def aM(S:aF)(n p:Nat)(ns:List Int)(k:Nat)(x:Int)(rs:List Rw):aF:=(S.set n (qq (bG ns k x))).set p (qq (rs.map Rw.d))
local macro_rules|`($a<*$b)=>`(PyData.tuple [PyData.tuple (List.map Rw.d $a),$b])
local macro_rules|`(~~~$a)=>`(List.map (·.w) $a)
local macro_rules|`($a*>$b)=>`(PyData.tuple (List.map $b $a))
section
variable {S : aF}{n p : Nat}{ns : List Int}{k : Nat}{x : Int}{rs : List Rw}
structure At0(S:aF)(n p:Nat):Prop where
 hn:n<S.length
 ne:n≠p
structure At(S:aF)(n p:Nat):Prop extends At0 S n p where
 hp:p<S.length
theorem At0.state(h:At0 S n p):(aM S n p ns k x rs)[n]? = qq (qq (bG ns k x)):=by
 unfold aM;rw[yBc h.ne.symm,yAz h.hn]
theorem At.rows(h:At S n p):(aM S n p ns k x rs)[p]? = qq (qq (rs.map Rw.d)):=by
 unfold aM;rw[yAz (by rw[yAy];exact h.hp)]
theorem At.rowsT(h:At S n p)(T:aF):(aM S n p ns k x rs++T)[p]? = qq (qq (rs.map Rw.d)):=by
 rw[xAn (by simp[aM];exact h.hp)]
 exact h.rows
theorem At0.len(h:At0 S n p):(aM S n p ns k x rs).length=S.length:=by simp[aM]
theorem At0.take(h:At0 S n p)(k':Nat)(x':Int)(aJ:List Rw):(aM S n p ns k' x' aJ).take (aM S n p ns k x rs).length=aM S n p ns k' x' aJ:=by
 rw[h.len,yDh];rw[h.len];exact yAb _
theorem At0.put(h:At0 S n p)(k':Nat)(x':Int):(aM S n p ns k x rs).set n (qq (bG ns k' x'))=aM S n p ns k' x' rs:=by
 unfold aM;rw[List.set_comm _ _ h.ne.symm,yHi]
theorem At.putR(h:At S n p)(r:Rw):(aM S n p ns k x rs).set p (qq (rs.map Rw.d++[r.d]))=aM S n p ns k x (rs++[r]):=by
 unfold aM;rw[yHi,yBt];rfl
end
section
variable {S : aF}{n p : Nat}{ns : List Int}{k : Nat}{x : Int}{rs : List Rw}
theorem eY(h:At0 S n p)(d m:Nat)(hm:0<m)(hm2:m<2^64)(hk:k<=100000):∃ (r:Nat) (x':Int),r<m/\cl fns (d+1) 65 [.loc n,.d (.int m)] (aM S n p ns k x rs)=qq (.d (.int r),aM S n p ns (k+1) x' rs):=by
 obtain⟨r,x',hr,e⟩:=aPz d n k m ns x _ h.state hm hm2 hk;exact⟨r,x',hr,by rw[e,h.put]⟩
theorem gL(h:At0 S n p)(d m:Nat){i:Int}(hi:i=(m:Nat))(hm:0<m)(hm2:m<2^64)(hk:k<=100000):∃ (r:Nat) (x':Int),r<m/\cl fns (d+1) 65 [.loc n,.d (.int i)] (aM S n p ns k x rs)=qq (.d (.int r),aM S n p ns (k+1) x' rs):=by
 subst hi;exact eY h d m hm hm2 hk
theorem aGA{w:Nat}(h:w<64):2^w<2^64:=yBx (by decide) h
theorem aM8(h:At0 S n p)(d w:Nat)(hw:w<=64)(hk:k<=99000):∃ (r k':Nat) (x':Int),r<2^w/\k'<=k+2/\cl fns (d+2) 66 [.loc n,.d (.int w)] (aM S n p ns k x rs)=qq (.d (.int r),aM S n p ns k' x' rs):=by
 by_cases c:w<31
 ·have d1:decide ((w:Int)<31)=true:=dqT (by omega)
  obtain⟨r,x',hr,e⟩:=eY (ns:=ns) (k:=k) (x:=x) (rs:=rs) h d (2^w) (uE w) (aGA (by omega)) (by omega)
  refine⟨r,k+1,x',hr,by omega,?_⟩
  rw[aY rfl (d+1) _ _ rfl];have hq14:=eX (show w<=100000 by omega)
  simp only[gR1,aBm,eG,d1,hq14,e,h.take]
 ·have d1:decide ((w:Int)<31)=false:=dqF (by omega)
  have e1:(w:Int)-30=((w-30:Nat):Int):=by omega
  have s30:=eX (w:=30) (by decide)
  rw[show((30:Nat):Int)=30 from rfl] at s30
  obtain⟨r,x',hr,e⟩:=eY (ns:=ns) (k:=k) (x:=x) (rs:=rs) h d (2^30) (by decide) (by decide) (by omega)
  obtain⟨q,x2,hq,e'⟩:=eY (ns:=ns) (k:=k+1) (x:=x') (rs:=rs) h d (2^(w-30)) (uE _) (aGA (by omega)) (by omega)
  have hb:r+q*2^30<2^w:=by
   have e3:(2:Nat)^w=2^(w-30)*2^30:=by rw[<- yEy,show w-30+30=w by omega]
   have h3:(q+1)*2^30<=2^(w-30)*2^30:=Nat.mul_le_mul_right _ hq;rw[Nat.add_mul] at h3;omega
  have sh:bY .LShift (.int q) (.int 30)=qq (.int ((q*2^30:Nat):Int)):=rE (n:=q) (a:=w-30) (k:=30) hq (by omega)
  have ad:(r:Int)+((q*2^30:Nat):Int)=((r+q*2^30:Nat):Int):=(Int.natCast_add _ _).symm;refine⟨r+q*2^30,k+2,x2,hb,by omega,?_⟩
  rw[aY rfl (d+1) _ _ rfl];have hq15:=eX (show w-30<=100000 by omega)
  simp only[gR1,aBm,eG,d1,s30,e,cS,e1,hq15,e',sh,cW,ad,h.take]
end
theorem at4(a b c e:D){r:Nat}(h1:r<4):∃ x,(x=a\/x=b\/x=c\/x=e)/\aH (.list [a,b,c,e]) (.int r)=qq x:=by
 have:r=0\/r=1\/r=2\/r=3:=by omega
 rcases this with rfl | rfl | rfl | rfl
 ·exact⟨a,.inl rfl,rfl⟩
 ·exact⟨b,.inr (.inl rfl),rfl⟩
 ·exact⟨c,.inr (.inr (.inl rfl)),rfl⟩
 ·exact⟨e,.inr (.inr (.inr rfl)),rfl⟩
section
variable {S : aF}{n p : Nat}{ns : List Int}{k : Nat}{x : Int}{rs : List Rw}
theorem aOv(h:At0 S n p)(d:Nat)(hk:k<=99000):∃ (w:Nat) (x':Int),1<=w/\w<=64/\cl fns (d+2) 67 [.loc n] (aM S n p ns k x rs)=qq (.d (.int w),aM S n p ns (k+3) x' rs):=by
 obtain⟨r1,x1,h1,e1⟩:=gL (ns:=ns) (k:=k) (x:=x) (rs:=rs) h d 8 (i:=8) rfl (by decide) (by decide) (by omega)
 obtain⟨r2,x2,h2,e2⟩:=gL (ns:=ns) (k:=k+1) (x:=x1) (rs:=rs) h d 64 (i:=64) rfl (by decide) (by decide) (by omega)
 obtain⟨r3,x3,h3,e3⟩:=gL (ns:=ns) (k:=k+2) (x:=x2) (rs:=rs) h d 4 (i:=4) rfl (by decide) (by decide) (by omega)
 have a1:(1:Int)+(r1:Int)=((1+r1:Nat):Int):=by omega
 have a2:(1:Int)+(r2:Int)=((1+r2:Nat):Int):=by omega
 obtain⟨y,hy,e⟩:=at4 (.int 1) (.int 64) (.int ((1+r1:Nat):Int)) (.int ((1+r2:Nat):Int)) h3;obtain⟨w,bV,cI,rfl⟩:∃ w:Nat,1<=w/\w<=64/\y=.int w:=by
  rcases hy with rfl | rfl | rfl | rfl
  ·exact⟨1,by decide,by decide,rfl⟩
  ·exact⟨64,by decide,by decide,rfl⟩
  ·exact⟨_,by omega,by omega,rfl⟩
  ·exact⟨_,by omega,by omega,rfl⟩
 refine⟨w,x3,bV,cI,?_⟩;rw[aY rfl (d+1) _ _ rfl];simp only[gR1,aE3,e1,e2,e3,cW,a1,a2,e,h.take]
end
theorem aDf(a b:D):aH (.list [a,b]) (.int ((0:Nat):Int))=qq a:=rfl
theorem aDn(a b:D):aH (.list [a,b]) (.int ((1:Nat):Int))=qq b:=rfl
theorem aHx{t:Tg}{fb:FS}(P:Nat->aU->aF->Prop):∀ (ds:List D) (i:Nat) (env:aU) (S:aF),P i env S->(∀ j d env S,i<=j->j<i+ds.length->P j env S->∃ e1 aI S',t.put d env=qq e1/\fb e1 S=qq (.nx aI,S')/\P (j+1) aI S') ->
 ∃ aI S',fB t fb ds env S=qq (.nx aI,S')/\P (i+ds.length) aI S'
 | [],i,env,S,h0,_=>⟨env,S,rfl,h0⟩
 | d::ds,i,env,S,h0,h=>by
   obtain⟨e1,aI,S',h1,h2,h3⟩:=h i d env S (yAb _) (by simp) h0
   obtain⟨env2,S2,h4,h5⟩:=aHx P ds (i+1) aI S' h3 λ j d' env S a b=>h j d' env S (by omega) (by simp at b ⊢;omega)
   refine⟨env2,S2,by simp only[fB,h1,oB,h2];exact h4,?_⟩
   have:i+(d::ds).length=i+1+ds.length:=by simp;omega
   rw[this];exact h5
theorem aIL{t:Tg}{fi:FL}{fb:FS}{env:aU}{S S1:aF}{ds:List D}(P:Nat->aU->aF->Prop)(hi:fi env S=qq (ds,S1))(h0:P 0 env S1)(h:∀ j d env S,j<ds.length->P j env S->∃ e1 aI S',t.put d env=qq e1/\fb e1 S=qq (.nx aI,S')/\P (j+1) aI S') :
 ∃ aI S',eB t fi fb env S=qq (.nx aI,S')/\P ds.length aI S':=by
 obtain⟨aI,S',h1,h2⟩:=aHx (t:=t) (fb:=fb) P ds 0 env S1 h0 λ j d env S _ b=>h j d env S (by omega)
 exact⟨aI,S',by unfold eB;rw[hi,oB];exact h1,by simpa using h2⟩
theorem b2i(b:Bool):∃ q:Nat,q<2/\(if b then (1:Int) else 0)=(q:Int):=by
 cases b
 ·exact⟨0,by decide,rfl⟩
 ·exact⟨1,by decide,rfl⟩
theorem at2(a b:D){r:Nat}(h1:r<2):∃ x,(x=a\/x=b)/\aH (.list [a,b]) (.int r)=qq x:=by
 have:r=0\/r=1:=by omega
 rcases this with rfl | rfl
 ·exact⟨a,.inl rfl,rfl⟩
 ·exact⟨b,.inr rfl,rfl⟩
theorem fM{C:Calls}{a r:Sx}{env e1:aU}{S S1:aF}(h:xs C a env S=qq (.nx e1,S1)):xs C (.seq a r) env S=xs C r e1 S1:=by simp only[lB,dR,h,oB]
noncomputable abbrev s0(ns:List Int)(k:Nat)(x:Int):aF:=[qq (bG ns k x)]
section
variable {ns : List Int}{k : Nat}{x : Int}
end
theorem nM(a:Nat):bY .BitAnd (.int a) (.int 1)=qq (.int ((a&&&1:Nat):Int)):=dE a 1
theorem fX(n:Nat):(((n:Nat):Int)==0)=(n==0):=by
 rw[yEk,beq_iff_eq,beq_iff_eq];omega
section
variable {S : aF}{n p : Nat}{ns : List Int}{k : Nat}{x : Int}{rs : List Rw}
theorem aR3(h:At0 S n p)(d w:Nat)(hw:1<=w)(cI:w<=64)(hk:k<=98000):∃ (r k':Nat) (x':Int),r<2^w/\k'<=k+5/\cl fns (d+3) 68 [.loc n,.d (.int w)] (aM S n p ns k x rs)=qq (.d (.int r),aM S n p ns k' x' rs):=by
 have hw3:w<2^64:=by omega
 have hp:=uE w;obtain⟨r1,x1,h1,e1⟩:=gL (ns:=ns) (k:=k) (x:=x) (rs:=rs) h (d+1) 5 (i:=5) rfl (by decide) (by decide) (by omega)
 obtain⟨r2,x2,h2,e2⟩:=eY (ns:=ns) (k:=k+1) (x:=x1) (rs:=rs) h (d+1) w (by omega) hw3 (by omega)
 obtain⟨r3,x3,h3,e3⟩:=eY (ns:=ns) (k:=k+2) (x:=x2) (rs:=rs) h (d+1) w (by omega) hw3 (by omega)
 by_cases c:r1<4
 ·have d1:decide ((r1:Int)<4)=true:=dqT (by omega)
  obtain⟨y,hy,e⟩:=at4 (.int 0) (.int ((2^w-1:Nat):Int)) (.int ((2^r2:Nat):Int)) (.int ((2^r3-1:Nat):Int)) c;obtain⟨q,hq,rfl⟩:∃ q:Nat,q<2^w/\y=.int q:=by
   have l2:2^r2<2^w:=yBx (by decide) h2
   have l3:2^r3<2^w:=yBx (by decide) h3
   rcases hy with rfl | rfl | rfl | rfl
   ·exact⟨0,hp,rfl⟩
   ·exact⟨_,by omega,rfl⟩
   ·exact⟨_,l2,rfl⟩
   ·exact⟨_,by omega,rfl⟩
  refine⟨q,k+3,x3,hq,by omega,?_⟩
  rw[aY rfl (d+2) _ _ rfl];have hq16:=eX (show w<=100000 by omega)
  have hq17:=eX (show r2<=100000 by omega)
  have hq18:=eX (show r3<=100000 by omega)
  simp only[gR1,aBG,e1,hq16,cS,aBP,e2,hq17,e3,hq18,eG,d1,e,h.take]
 ·have d1:decide ((r1:Int)<4)=false:=dqF (by omega)
  obtain⟨r,k',x',hr,hk',e⟩:=aM8 (ns:=ns) (k:=k+3) (x:=x3) (rs:=rs) h d w cI (by omega)
  refine⟨r,k',x',hr,by omega,?_⟩
  rw[aY rfl (d+2) _ _ rfl];have hq19:=eX (show w<=100000 by omega)
  have hq20:=eX (show r2<=100000 by omega)
  have hq21:=eX (show r3<=100000 by omega)
  simp only[gR1,aBG,e1,hq19,cS,aBP,e2,hq20,e3,hq21,eG,d1,e,h.take]
end
theorem rT:∀ L:List Nat,yDb (L.map nD)=true
 | []=>rfl
 | a::r=>by
   have ih:=rT r;simp only[yAt,yDb,ih,yCf];rfl
theorem rB:∀ L:List Nat,yBu (L.map nD)=0
 | []=>rfl
 | a::r=>by
   have ih:=rB r;simp only[yAt,yBu,ih];rfl
theorem aSq(L:List Nat):aV .NotEq (.list (L.map nD)) (.list [])=qq (.bool (!L.isEmpty)):=by
 have h1:(yDs (L.map nD)).canLay0=true:=rT L;have h2:(yDs (L.map nD)).depth<=60:=by
  show yBu (L.map nD)+1<=60;rw[rB];decide
 unfold aV lI;simp only[];rw[if_pos ⟨h1,rfl,h2⟩];cases L<;>rfl
theorem gG(r:Rw):aH r.d (.int 1)=qq (.int r.w):=iZ (xs:=.str r.wd.s::nD r.w::r.args.map nD) (k:=1) rfl
noncomputable def wdE(a b:Wd):Bool:=match aV .Eq (.str a.s) (.str b.s) with
 | some (.bool c)=>c==decide (a=b)
 | _=>false
theorem aRg(a b:Wd):wdE a b=true:=by
 have h:∀ i:Fin 19,∀ j:Fin 19,wdE (Wd.ofNat i) (Wd.ofNat j)=true:=by decide +kernel
 have e:∀ a:Wd,∃ i:Fin 19,Wd.ofNat i=a:=λ a=>⟨⟨a.ctorIdx,by cases a<;>decide⟩,Wd.ofNat_ctorIdx a⟩
 obtain⟨i,rfl⟩:=e a;obtain⟨j,rfl⟩:=e b;exact h i j
theorem bN(a b:Wd):aV .Eq (.str a.s) (.str b.s)=qq (.bool (decide (a=b))):=by
 have h:=aRg a b;unfold wdE at h
 split at h
 ·rename_i c e;rw[e,eq_of_beq h]
 ·cases h
theorem aB3(a:Wd):aV .In (.str a.s) (.tuple [.str "left",.str "right",.str "slide"])=qq (.bool (decide (a=.left\/a=.right\/a=.slide))):=by cases a<;>rfl
theorem aRR(a:Wd):aV .In (.str a.s) (.tuple [.str "cut",.str "wide",.str "sign"])=qq (.bool (decide (a=.cut\/a=.wide\/a=.sign))):=by cases a<;>rfl
theorem zH(a:Wd):aV .In (.str a.s) (.tuple [.str "same",.str "less",.str "under"])=qq (.bool (decide (a=.same\/a=.less\/a=.under))):=by cases a<;>rfl
theorem aP{C:Calls}{c:E}{t dA:Sx}{env:aU}{S S1:aF}{r:Option (Fl×aF)}(h:tv C c env S=qq (false,S1))(k:xs C dA env S1=r):xs C (.seq (.ifs c t .skip) dA) env S=r:=by
 rw[<- k];simp only[lB,rX,aHv,dR,mW,sG,h,oB,yAo,if_false]
theorem bW{C:Calls}{c:E}{t e dA:Sx}{env:aU}{S S1 S2:aF}{w:W}(h:tv C c env S=qq (true,S1))(k:xs C t env S1=qq (.rt w,S2)):xs C (.seq (.ifs c t e) dA) env S=qq (.rt w,S2):=by
 simp only[lB,rX,dR,mW,h,oB,if_true,k]
theorem bH{C:Calls}{e:E}{dA:Sx}{env:aU}{S S1:aF}{w:W}(h:ev C e env S=qq (w,S1)):xs C (.seq (.ret e) dA) env S=qq (.rt w,S1):=by
 simp only[lB,aC6,dR,oO,h,oB]
theorem cF{C:Calls}{i:Nat}{e:E}{dA:Sx}{env aI:aU}{S S1:aF}{w:W}{r:Option (Fl×aF)}(h:ev C e env S=qq (w,S1))(he:env.set i (qq w)=aI)(k:xs C dA aI S1=r):xs C (.seq (.set i e) dA) env S=r:=by
 subst he;rw[<- k];simp only[lB,uW,dR,fR,h,oB]
theorem cG{fs:List Fn}{f:Nat}{F:Fn}(h:fs[f]? = qq F)(d:Nat){ws:List W}{env:aU}{S S1:aF}{x:D}(hw:ws.length=F.np)(he:ws.map qq++yAc (F.N.length-ws.length) qz=env)(hS:S1.take S.length=S1)(k:xs (aE fs d) F.body env S=qq (.rt (.d x),S1)):cl fs (d+1) f ws S=qq (.d x,S1):=by
 subst he;rw[aY h d ws S hw];simp only[fQ,k,oB,jY,hS]
theorem cU{C:Calls}{i:Nat}{x:Str}{env:aU}{S:aF}{a:D}{b:Bool}(h:env[i]? = qq (qq (.d a)))(hc:aV .Eq a (.str x)=qq (.bool b)):tv C (.cmp .Eq (.var i) (.str x)) env S=qq (b,S):=by
 simp only[gS0,h,hc]
theorem gR{C:Calls}{i:Nat}{e:E}{env:aU}{S:aF}{a t:D}{b:Bool}(h:env[i]? = qq (qq (.d a)))(he:ev C e env S=qq (.d t,S))(hc:aV .In a t=qq (.bool b)):tv C (.cmp .In (.var i) e) env S=qq (b,S):=by
 simp only[gS0,h,he,hc]
noncomputable def bF:Sx->Sx
 | .seq _ b=>b
 | x=>x
noncomputable def cC:Sx->Sx
 | .seq a _=>a
 | x=>x
noncomputable def reS:Sx->E
 | .ret e=>e
 | _=>.no
theorem pS{C:Calls}{c:E}{a b:Sx}{env:aU}{S S1:aF}{r:Option (Fl×aF)}(h:tv C c env S=qq (true,S1))(k:xs C a env S1=r):xs C (.ifs c a b) env S=r:=by
 rw[<- k];simp only[rX,mW,h,oB,if_true]
theorem sC{C:Calls}{c:E}{a b:Sx}{env:aU}{S S1:aF}{r:Option (Fl×aF)}(h:tv C c env S=qq (false,S1))(k:xs C b env S1=r):xs C (.ifs c a b) env S=r:=by
 rw[<- k];simp only[rX,mW,h,oB,yAo,if_false]
theorem gP{C:Calls}{a b:Sx}{env e1:aU}{S S1:aF}{r:Option (Fl×aF)}(h:xs C a env S=qq (.nx e1,S1))(k:xs C b e1 S1=r):xs C (.seq a b) env S=r:=by
 rw[fM h];exact k
theorem aCW{C:Calls}{a:Sx}{env e1:aU}{S S1:aF}(h:xs C a env S=qq (.nx e1,S1)):xs C (.seq a .skip) env S=qq (.nx e1,S1):=gP h rfl
theorem mE{C:Calls}{i:Nat}{e:E}{env:aU}{S S1:aF}{w:W}(h:ev C e env S=qq (w,S1)):xs C (.seq (.set i e) .skip) env S=qq (.nx (env.set i (qq w)),S1):=cF h rfl rfl
theorem aAF{C:Calls}{s:Sx}{c:E}{a b:Sx}{env r:aU}{S S1:aF}(hs:s=.ifs c a (.seq b .skip))(h:tv C c env S=qq (false,S))(k:xs C b env S=qq (.nx r,S1)):xs C s env S=qq (.nx r,S1):=by
 rw[hs];exact sC h (aCW k)
namespace GP
section
variable {S : aF}{n p : Nat}{ns : List Int}{k : Nat}{x : Int}{rs : List Rw}
theorem aAg{a:Nat}{r:Rw}(h:rs[a]? = qq r):aH (.list (rs.map Rw.d)) (.int a)=qq r.d:=jR (by rw[xAb,h];rfl)
theorem rows_len(rs:List Rw):(rs.map Rw.d).length=rs.length:=yAd ..
theorem app_row(h:At S n p)(hl:rs.length<=1000)(r:Rw):dF (aM S n p ns k x rs) (.loc p) (.d r.d)=qq (.d .none,aM S n p ns k x (rs++[r])):=by
 unfold dF;simp only[h.rows];rw[if_pos (by rw[rows_len,zx];omega),h.putR]
def noIn(t:List Rw):Prop:=∀ r∈t,r.wd≠.in
theorem noIn_nil:noIn []:=λ _ h=>by cases h
theorem aGv{r:Rw}(h:r.wd≠.in):noIn [r]:=λ q hq=>by rw[yBr] at hq;subst hq;exact h
theorem noIn_app{s t:List Rw}(h:noIn s)(k:noIn t):noIn (s++t):=λ r hr=>(List.mem_append.mp hr).elim (h r) (k r)
structure Opd(rs aJ:List Rw)(a w:Nat):Prop where
 ext:∃ t,aJ=rs++t/\t.length<=1/\noIn t
 ok:dN [] aJ
 wd:(aJ.map (·.w))[a]? = qq w
theorem oK{a:Nat}{r:Rw}(h:rs[a]? = qq r):(~~~rs)[a]? = qq r.w:=by rw[xAb,h];rfl
theorem aIx(h:At S n p)(d a w:Nat)(hr:dN [] rs)(ha:a<rs.length)(hl:rs.length<=100)(hw:1<=w)(cI:w<=64)(hk:k<=99000) :
 ∃ (a' k':Nat) (x':Int) (aJ:List Rw),Opd rs aJ a' w/\k'<=k+1/\cl fns (d+2) 69 [.loc n,.loc p,.d (.int a),.d (.int w)] (aM S n p ns k x rs)=qq (.d (.int a'),aM S n p ns k' x' aJ):=by
 obtain⟨r,hra⟩:∃ r,rs[a]? = qq r:=⟨rs[a],yAa ha⟩;have ga:=aAg hra
 by_cases c:r.w=w
 ·refine⟨a,k,x,rs,⟨⟨[],by simp,by simp,noIn_nil⟩,hr,by rw[oK hra,c]⟩,by omega,?_⟩
  rw[aY rfl (d+1) _ _ rfl];simp only[gR1,tS,h.rows,ga,gG,bQ,c,beq_self_eq_true,h.take]
 ·have c':(((r.w:Nat):Int)==((w:Nat):Int))=false:=by
   rw[beq_eq_false_iff_ne];intro z;exact c (by exact_mod_cast z)
  obtain⟨q,x',hq,e⟩:=gL (ns:=ns) (k:=k) (x:=x) (rs:=rs) h.toAt0 d 2 (i:=2) rfl (by decide) (by decide) (by omega)
  have bR:∀ wd:Wd,wd≠.in->gD ([]++rs.map (·.w)) ⟨wd,w,[a]⟩->Opd rs (rs++[⟨wd,w,[a]⟩]) rs.length w:=λ wd hn ok=>⟨⟨_,rfl,yAb _,aGv hn⟩,xU hr ok,by simp⟩
  have aAP:∀ r:Rw,((rs++[r]).length:Int)-1=((rs.length:Nat):Int):=λ r=>by simp
  have ap:∀ wd:Wd,dF (aM S n p ns (k+1) x' rs) (.loc p) (.d (.tuple [.str wd.s,.int w,.int a]))=qq (.d .none,aM S n p ns (k+1) x' (rs++[⟨wd,w,[a]⟩])):=λ wd=>app_row h (by omega) ⟨wd,w,[a]⟩
  by_cases c2:w<r.w
  ·have d2:decide (((w:Nat):Int)<((r.w:Nat):Int))=true:=dqT (by omega)
   refine⟨rs.length,k+1,x',_,bR .cut (by decide) ⟨hw,cI,r.w,by simpa using oK hra,yFw c2⟩,by omega,?_⟩
   have ap':=ap .cut;simp only[Wd.s] at ap';have:q=0\/q=1:=by omega
   rw[aY rfl (d+1) _ _ rfl];rcases this with rfl | rfl
   all_goals simp only[evs,fQ,tS,h.rows,ga,gG,bQ,c',e,aDf,aDn,gM,d2,fF,ap',dY,dZ,rows_len,cS,aAP,h.take]
  ·have d2:decide (((w:Nat):Int)<((r.w:Nat):Int))=false:=dqF (by omega)
   have:q=0\/q=1:=by omega
   rcases this with rfl | rfl
   ·refine⟨rs.length,k+1,x',_,bR .wide (by decide) ⟨hw,cI,r.w,by simpa using oK hra,yFz c2⟩,by omega,?_⟩
    have ap':=ap .wide;simp only[Wd.s] at ap';rw[aY rfl (d+1) _ _ rfl];simp only[gR1,tS,h.rows,ga,gG,bQ,c',e,aDf,gM,d2,fF,ap',dY,dZ,rows_len,cS,aAP,h.take]
   ·refine⟨rs.length,k+1,x',_,bR .sign (by decide) ⟨hw,cI,r.w,by simpa using oK hra,yFz c2⟩,by omega,?_⟩
    have ap':=ap .sign;simp only[Wd.s] at ap';rw[aY rfl (d+1) _ _ rfl];simp only[gR1,tS,h.rows,ga,gG,bQ,c',e,aDn,gM,d2,fF,ap',dY,dZ,rows_len,cS,aAP,h.take]
end
section
variable {S : aF}{n p : Nat}{ns : List Int}{k : Nat}{x : Int}{rs : List Rw}
theorem aBB:∀ {rs:List Rw}{ws:List Nat}{a:Nat}{r:Rw},dN ws rs->rs[a]? = qq r->1<=r.w/\r.w<=64
 | q::rs,ws,0,r,⟨h1,_⟩,e=>by
   have e':q=r:=by simpa using e
   subst e';exact⟨h1.1,h1.2.1⟩
 | q::rs,ws,a+1,r,⟨_,h2⟩,e=>aBB h2 (by simpa using e)
 | [],_,_,_,_,e=>by simp at e
noncomputable def tZ:Sx:=match tJ with
 | .seq _ r=>r
 | _=>.skip
theorem tO(h:At S n p)(d w:Nat)(hr:dN [] rs)(h0:0<rs.length)(hl:rs.length<=100)(hw:1<=w)(cI:w<=64)(hk:k<=98000) :
 ∃ (a k':Nat) (x':Int) (aJ:List Rw),Opd rs aJ a w/\k'<=k+3/\cl fns (d+3) 70 [.loc n,.loc p,.d (.int w)] (aM S n p ns k x rs)=qq (.d (.int a),aM S n p ns k' x' aJ):=by
 have hc:gS (.one 4) (lv (aE fns (d+2)) (.rng1 (.blt .len (.cons (.var 1) .nil)))) (tv (aE fns (d+2)) (.cmp .Eq (.ix (.ix (.var 1) (.var 4)) (.int 1)) (.var 2))) (ev (aE fns (d+2)) (.var 4)) [qq (.loc n),qq (.loc p),qq (.d (.int w)),qz,qz] (aM S n p ns k x rs)
  = qq (((yAu rs.length).filter λ j=>(~~~rs)[j]?==qq w).map nD,aM S n p ns k x rs):=by
  refine zE nD nD (λ j=>(~~~rs)[j]?==qq w) (yAu rs.length) ?_ (by rw[yFs,zx];omega) (λ j hj=>?_)
  ·simp only[lH,kQ,kU,kS,lA,kZ];refine qU ?_ (by omega)
   simp only[gS0,h.rows,dY,dZ,rows_len]
  ·have hj':j<rs.length:=by simpa using hj
   obtain⟨r,hrj⟩:∃ r,rs[j]? = qq r:=⟨rs[j],yAa hj'⟩;have hb:((~~~rs)[j]?==qq w)=(((r.w:Nat):Int)==((w:Nat):Int)):=by
    rw[oK hrj,yEk];simp;omega
   refine⟨_,rfl,λ aC=>?_,λ _ aC=>?_⟩
   ·rw[hb];simp only[gS0,clr,yBl,yCh,nD,h.rowsT,aAg hrj,gG,bQ]
   ·simp only[gS0,clr,yBl,yCh,nD]
 generalize hL:(yAu rs.length).filter (λ j=>(~~~rs)[j]?==qq w)=L at hc
 have hmem:∀ a∈L,(~~~rs)[a]? = qq w:=λ a ha=>by
  rw[<- hL] at ha;simpa using (List.mem_filter.mp ha).2
 have bZ:L.length<=rs.length:=by
  rw[<- hL];have:=List.length_filter_le (λ j=>(~~~rs)[j]?==qq w) (yAu rs.length)
  simpa using this
 have set:xs (aE fns (d+2)) (.setC false 3 (.comp (.var 4) (.one 4) (.rng1 (.blt .len (.cons (.var 1) .nil))) (.cmp .Eq (.ix (.ix (.var 1) (.var 4)) (.int 1)) (.var 2)))) [qq (.loc n),qq (.loc p),qq (.d (.int w)),qz,qz] (aM S n p ns k x rs)=qq (.nx [qq (.loc n),qq (.loc p),qq (.d (.int w)),qq (.d (.list (L.map nD))),qz],aM S n p ns k x rs):=by
  simp only[rJ,fR,hJ];show((gS _ _ _ _ _ _).bind _).bind _=_;rw[hc];simp only[gS0,True]
 have eV:∀ R,xs (aE fns (d+2)) tZ [qq (.loc n),qq (.loc p),qq (.d (.int w)),qq (.d (.list (L.map nD))),qz] (aM S n p ns k x rs)=R->cl fns (d+3) 70 [.loc n,.loc p,.d (.int w)] (aM S n p ns k x rs)=R.bind λ q=>match q.1 with
  | .rt w=>jY (aM S n p ns k x rs).length q.2 w
  | .nx _=>qq (.d .none,q.2.take (aM S n p ns k x rs).length)
  | _=>qz:=λ R hR=>by
  rw[aY rfl (d+2) _ _ rfl,<- hR];show((dR (xs (aE fns (d+2)) (.setC false 3 (.comp (.var 4) (.one 4) (.rng1 (.blt .len (.cons (.var 1) .nil))) (.cmp .Eq (.ix (.ix (.var 1) (.var 4)) (.int 1)) (.var 2))))) (xs (aE fns (d+2)) tZ)) [qq (.loc n),qq (.loc p),qq (.d (.int w)),qz,qz] (aM S n p ns k x rs)).bind _=_;simp only[dR,set,oB]
  all_goals rfl
 rw[eV _ rfl];clear eV set hc;have hr64:rs.length<2^64:=by omega
 have nn:=aSq L;have ll:(L.map nD).length=L.length:=yAd ..;rcases yCr L.isEmpty with hE | hE
 ·rw[hE] at nn;obtain⟨q,x1,hq,e1⟩:=eY (ns:=ns) (k:=k) (x:=x) (rs:=rs) h.toAt0 (d+1) rs.length h0 hr64 (by omega)
  obtain⟨a,k',x',aJ,ho,hk',e2⟩:=aIx (ns:=ns) (k:=k+1) (x:=x1) h d q w hr hq hl hw cI (by omega)
  refine⟨a,k',x',aJ,ho,by omega,?_⟩
  simp only[gS2,tZ,tJ,nn,h.rows,dY,dZ,rows_len,e1,e2,h.take]
 ·rw[hE] at nn;have hL0:0<L.length:=by
   cases L with
   | nil=>cases hE
   | cons b r=>simp
  obtain⟨q4,x1,hq4,e1⟩:=gL (ns:=ns) (k:=k) (x:=x) (rs:=rs) h.toAt0 (d+1) 4 (i:=4) rfl (by decide) (by decide) (by omega)
  by_cases c:0<q4
  ·have d1:decide ((0:Int)<(q4:Int))=true:=dqT (by omega)
   obtain⟨q,x2,hq,e2⟩:=eY (ns:=ns) (k:=k+1) (x:=x1) (rs:=rs) h.toAt0 (d+1) L.length hL0 (by omega) (by omega)
   have e3:((L.length:Nat):Int)-1-(q:Int)=((L.length-1-q:Nat):Int):=by omega
   obtain⟨a,ha⟩:∃ a,L[L.length-1-q]? = qq a:=⟨L[L.length-1-q],yAa (by omega)⟩
   have ga:aH (.list (L.map nD)) (.int ((L.length-1-q:Nat):Int))=qq (.int a):=jR (by rw[xAb,ha];rfl)
   refine⟨a,k+2,x2,rs,⟨⟨[],by simp,by simp,noIn_nil⟩,hr,hmem a (xAl ha)⟩,by omega,?_⟩
   simp only[gS2,tZ,tJ,nn,e1,gM,d1,dY,dZ,ll,cS,e2,e3,ga,h.take]
  ·have d1:decide ((0:Int)<(q4:Int))=false:=dqF (by omega)
   obtain⟨q,x2,hq,e2⟩:=eY (ns:=ns) (k:=k+1) (x:=x1) (rs:=rs) h.toAt0 (d+1) rs.length h0 hr64 (by omega)
   obtain⟨a,k',x',aJ,ho,hk',e3⟩:=aIx (ns:=ns) (k:=k+2) (x:=x2) h d q w hr hq hl hw cI (by omega)
   refine⟨a,k',x',aJ,ho,by omega,?_⟩
   simp only[gS2,tZ,tJ,nn,e1,gM,d1,h.rows,dY,dZ,rows_len,e2,e3,h.take]
end
section
variable {S : aF}{n p : Nat}{ns : List Int}{k : Nat}{x : Int}{rs : List Rw}
theorem yV(h:At S n p)(d:Nat)(wd:Wd)(aN:wd=.cut\/wd=.wide\/wd=.sign)(hr:dN [] rs)(h0:0<rs.length)(hl:rs.length<=100)(hk:k<=98000) :
 ∃ (r:Rw) (x':Int),r.wd≠.in/\gD (~~~rs) r/\cl fns (d+2) 71 [.loc n,.loc p,.d (.str wd.s)] (aM S n p ns k x rs)=qq (.d r.d,aM S n p ns (k+2) x' rs):=by
 obtain⟨a,x1,ha,e1⟩:=eY (ns:=ns) (k:=k) (x:=x) (rs:=rs) h.toAt0 d rs.length h0 (by omega) (by omega)
 obtain⟨r,hra⟩:∃ r,rs[a]? = qq r:=⟨rs[a],yAa ha⟩;obtain⟨bV,cI⟩:=aBB hr hra;have ga:=aAg hra;have cw:=bN wd .cut;rw[show Wd.cut.s=("cut" : Str) from rfl] at cw
 have e65:(65:Int)-(r.w:Int)=((65-r.w:Nat):Int):=by omega
 by_cases c:wd=.cut
 ·subst c;obtain⟨q,x2,hq,e2⟩:=eY (ns:=ns) (k:=k+1) (x:=x1) (rs:=rs) h.toAt0 d r.w (by omega) (by omega) (by omega)
  have a1:(1:Int)+(q:Int)=((1+q:Nat):Int):=by omega
  refine⟨⟨.cut,1+q,[a]⟩,x2,(by decide:Wd.cut≠.in),⟨by show 1<=1+q;omega,by show 1+q<=64;omega,r.w,oK hra,by show 1+q<=r.w;omega⟩,?_⟩
  rw[aY rfl (d+1) _ _ rfl];simp only[gR1,aBi,h.rows,dY,dZ,rows_len,e1,ga,gG,cw,decide_true,e2,cW,a1,h.take]
 ·obtain⟨q,x2,hq,e2⟩:=eY (ns:=ns) (k:=k+1) (x:=x1) (rs:=rs) h.toAt0 d (65-r.w) (by omega) (by omega) (by omega)
  have a1:(r.w:Int)+(q:Int)=((r.w+q:Nat):Int):=by omega
  rw[dqF c] at cw;have ok:gD (~~~rs) ⟨wd,r.w+q,[a]⟩:=by
   refine⟨by show 1<=r.w+q;omega,by show r.w+q<=64;omega,?_⟩
   rcases aN with rfl | rfl | rfl
   ·exact absurd rfl c
   ·exact⟨r.w,oK hra,by show r.w<=r.w+q;omega⟩
   ·exact⟨r.w,oK hra,by show r.w<=r.w+q;omega⟩
  have hne:wd≠.in:=by rcases aN with rfl | rfl | rfl<;>decide
  refine⟨⟨wd,r.w+q,[a]⟩,x2,hne,ok,?_⟩;rw[aY rfl (d+1) _ _ rfl];simp only[gR1,aBi,h.rows,dY,dZ,rows_len,e1,ga,gG,cw,cS,e65,e2,cW,a1,h.take]
theorem Opd.len{rs aJ:List Rw}{a w:Nat}(o:Opd rs aJ a w):rs.length<=aJ.length/\aJ.length<=rs.length+1:=by
 obtain⟨t,rfl,h,_⟩:=o.ext;simp;omega
theorem Opd.no{rs aJ:List Rw}{a w:Nat}(o:Opd rs aJ a w):∃ t,aJ=rs++t/\noIn t:=by
 obtain⟨t,h1,_,h2⟩:=o.ext;exact⟨t,h1,h2⟩
theorem Opd.keep{rs aJ:List Rw}{a w b v:Nat}(o:Opd rs aJ a w)(h:(~~~rs)[b]? = qq v):(aJ.map (·.w))[b]? = qq v:=by
 obtain⟨t,rfl,_⟩:=o.ext;rw[yBt,xAn (gIm h).1];exact h
theorem aB0(h:At S n p)(d w:Nat)(wd:Wd)(aN:wd=.left\/wd=.right\/wd=.slide)(hr:dN [] rs)(h0:0<rs.length)(hl:rs.length<=90)(hw:1<=w)(cI:w<=64)(hk:k<=97000) :
 ∃ (r:Rw) (k':Nat) (x':Int) (aJ:List Rw),dN [] aJ/\(∃ t,aJ=rs++t/\noIn t)/\r.wd≠.in/\rs.length<=aJ.length/\aJ.length<=rs.length+1/\gD (aJ.map (·.w)) r/\k'<=k+6/\cl fns (d+4) 72 [.loc n,.loc p,.d (.str wd.s),.d (.int w)] (aM S n p ns k x rs)=qq (.d r.d,aM S n p ns k' x' aJ):=by
 obtain⟨q1,x1,h1,e1⟩:=eY (ns:=ns) (k:=k) (x:=x) (rs:=rs) h.toAt0 (d+2) w (by omega) (by omega) (by omega)
 obtain⟨q2,x2,h2,e2⟩:=gL (ns:=ns) (k:=k+1) (x:=x1) (rs:=rs) h.toAt0 (d+2) 64 (i:=64) rfl (by decide) (by decide) (by omega)
 obtain⟨q3,x3,h3,e3⟩:=gL (ns:=ns) (k:=k+2) (x:=x2) (rs:=rs) h.toAt0 (d+2) 4 (i:=4) rfl (by decide) (by decide) (by omega)
 obtain⟨a,k',x',aJ,ho,hk',e4⟩:=tO (ns:=ns) (k:=k+3) (x:=x3) h d w hr h0 (by omega) hw cI (by omega)
 have bR:∀ kk:Nat,kk<64->gD (aJ.map (·.w)) ⟨wd,w,[a,kk]⟩:=λ kk hkk=>by
  refine⟨hw,cI,?_⟩;rcases aN with rfl | rfl | rfl<;>exact⟨ho.wd,hkk⟩
 have hne:wd≠.in:=by rcases aN with rfl | rfl | rfl<;>decide
 have hq:(q3:Int)/3=((0:Nat):Int)\/(q3:Int)/3=((1:Nat):Int):=by omega
 rcases hq with hq | hq
 ·refine⟨⟨wd,w,[a,q1]⟩,k',x',aJ,ho.ok,ho.no,hne,ho.len.1,ho.len.2,bR q1 (by omega),by omega,?_⟩
  rw[aY rfl (d+3) _ _ rfl];have hq22:=nQ (i:=(q3:Int)) (j:=3) (by decide) (by decide)
  simp only[gR1,aBs,e1,e2,e3,hq22,hq,aDf,e4,h.take]
 ·refine⟨⟨wd,w,[a,q2]⟩,k',x',aJ,ho.ok,ho.no,hne,ho.len.1,ho.len.2,bR q2 (by omega),by omega,?_⟩
  rw[aY rfl (d+3) _ _ rfl];have hq23:=nQ (i:=(q3:Int)) (j:=3) (by decide) (by decide)
  simp only[gR1,aBs,e1,e2,e3,hq23,hq,aDn,e4,h.take]
noncomputable def vG(wd:Wd)(w:Nat):Nat:=if (wd=.same\/wd=.less\/wd=.under) then 1 else w
theorem aHk(h:At S n p)(d w:Nat)(wd:Wd)(hr:dN [] rs)(h0:0<rs.length)(hl:rs.length<=90)(hw:1<=w)(cI:w<=64)(hk:k<=97000) :
 ∃ (a b k':Nat) (x':Int) (aJ:List Rw),dN [] aJ/\(∃ t,aJ=rs++t/\t.length<=2/\noIn t)/\(aJ.map (·.w))[a]? = qq w/\(aJ.map (·.w))[b]? = qq w/\k'<=k+6 /\
  cl fns (d+4) 73 [.loc n,.loc p,.d (.str wd.s),.d (.int w)] (aM S n p ns k x rs)=qq (.d (.tuple [.str wd.s,.int (vG wd w:Nat),.int a,.int b]),aM S n p ns k' x' aJ):=by
 obtain⟨a,k1,x1,rs1,o1,hk1,e1⟩:=tO (ns:=ns) (k:=k) (x:=x) h d w hr h0 (by omega) hw cI (by omega)
 have l1:=o1.len;obtain⟨b,k2,x2,rs2,o2,hk2,e2⟩:=tO (ns:=ns) (k:=k1) (x:=x1) h d w o1.ok (by omega) (by omega) hw cI (by omega)
 refine⟨a,b,k2,x2,rs2,o2.ok,?_,o2.keep o1.wd,o2.wd,by omega,?_⟩
 ·obtain⟨t1,rfl,ht1,m1⟩:=o1.ext;obtain⟨t2,rfl,ht2,m2⟩:=o2.ext;exact⟨t1++t2,by simp,by simp;omega,noIn_app m1 m2⟩
 ·rw[aY rfl (d+3) _ _ rfl]
  by_cases c:wd=.same\/wd=.less\/wd=.under
  ·have is:=zH wd;rw[dqT c] at is;have pw:vG wd w=1:=if_pos c;simp only[gR1,aBw,e1,e2,is,pw,h.take]
  ·have is:=zH wd;rw[dqF c] at is;have pw:vG wd w=w:=if_neg c;simp only[gR1,aBw,e1,e2,is,pw,h.take]
end
noncomputable def eC(k:Nat):Sx:=match jM with
 | .seq a1 (.seq a2 (.seq a3 (.seq a4 (.seq a5 (.seq a6 (.seq a7 _))))))=>[a1,a2,a3,a4,a5,a6,a7].getD k .skip
 | _=>.skip
theorem aMW:jM=.seq (eC 0) (.seq (eC 1) (.seq (eC 2) (.seq (eC 3) (.seq (eC 4) (.seq (eC 5) (.seq (eC 6) .skip)))))):=rfl
theorem aUy(a b c e f:D):bY .Add (.tuple [a,b,c]) (.tuple [e,f])=qq (.tuple [a,b,c,e,f]):=by
 show(if [a,b,c].isEmpty=false/\[a,b,c].length+[e,f].length<=qy then qq (yBm ([a,b,c]++[e,f])) else qz)=_
 rw[if_pos ⟨rfl,by rw[zx];show 3+2<=16777216;decide⟩]
 rfl
theorem aU4(a b c e:D):iG [a,b,c,e] (qq 2) qz=[c,e]:=rfl
theorem aUC:(HT.sIx 4 0 (qq 2)=0/\HT.sIx 4 4 qz=4)=False:=by simp[HT.sIx]
section
variable {S : aF}{n p : Nat}{ns : List Int}{k : Nat}{x : Int}{rs : List Rw}
theorem aPt(h:At S n p)(d w:Nat)(wd:Wd)(k1:wd≠.in)(l2 e5 e6:Option W)(hr:dN [] rs)(h0:0<rs.length)(hl:rs.length<=80)(hw:1<=w)(cI:w<=64)(hk:k<=96000) :
 ∃ (r:Rw) (k':Nat) (x':Int) (aJ:List Rw) (e6':Option W),dN [] aJ/\(∃ t,aJ=rs++t/\noIn t)/\r.wd≠.in/\rs.length<=aJ.length/\aJ.length<=rs.length+3/\gD (aJ.map (·.w)) r/\k'<=k+12 /\
  xs (aE fns (d+4)) (eC 5) [qq (.loc n),qq (.loc p),l2,qq (.d (.str wd.s)),qq (.d (.int w)),e5,e6] (aM S n p ns k x rs)=qq (.nx [qq (.loc n),qq (.loc p),l2,qq (.d (.str wd.s)),qq (.d (.int w)),qq (.d r.d),e6'],aM S n p ns k' x' aJ):=by
 have c2:aV .Eq (.str wd.s) (.str "num")=qq (.bool (decide (wd=.num))):=bN wd .num
 by_cases k2:wd=.num
 ·subst k2;obtain⟨q,k',x',hq,hk',e⟩:=aR3 (ns:=ns) (k:=k) (x:=x) (rs:=rs) h.toAt0 (d+1) w hw cI (by omega)
  refine⟨⟨.num,w,[q]⟩,k',x',rs,e6,hr,⟨[],by simp,noIn_nil⟩,(by decide:Wd.num≠.in),by omega,by omega,⟨hw,cI,hq⟩,by omega,pS (cU rfl c2) (mE ?_)⟩
  simp only[gS0,e]
 rw[dqF k2] at c2;have q2:=λ {r S1}=>aAF (C:=aE fns (d+4)) (s:=eC 5) (env:=[qq (.loc n),qq (.loc p),l2,qq (.d (.str wd.s)),qq (.d (.int w)),e5,e6]) (S:=aM S n p ns k x rs) (r:=r) (S1:=S1) rfl (cU rfl c2)
 clear c2;have c3:aV .Eq (.str wd.s) (.str "not")=qq (.bool (decide (wd=.not))):=bN wd .not
 by_cases k3:wd=.not
 ·subst k3;obtain⟨a,k',x',aJ,o,hk',e⟩:=tO (ns:=ns) (k:=k) (x:=x) h (d+1) w hr h0 (by omega) hw cI (by omega)
  have l:=o.len;refine⟨⟨.not,w,[a]⟩,k',x',aJ,e6,o.ok,o.no,(by decide:Wd.not≠.in),by omega,by omega,⟨hw,cI,o.wd⟩,by omega,q2 (pS (cU rfl c3) (mE ?_))⟩
  simp only[gS0,e]
 rw[dqF k3] at c3;have q3:=λ {r S1} h=>q2 (aAF (r:=r) (S1:=S1) rfl (cU rfl c3) h)
 clear c3;have c4:=aB3 wd
 by_cases k4:wd=.left\/wd=.right\/wd=.slide
 ·rw[dqT k4] at c4;obtain⟨r,k',x',aJ,ok,nx,ni,l1,l2,okr,hk',e⟩:=aB0 (ns:=ns) (k:=k) (x:=x) h d w wd k4 hr h0 (by omega) hw cI (by omega)
  refine⟨r,k',x',aJ,e6,ok,nx,ni,by omega,by omega,okr,by omega,q3 (pS (gR rfl rfl c4) (mE ?_))⟩
  simp only[gS0,e]
 rw[dqF k4] at c4;have q4:=λ {r S1} h=>q3 (aAF (r:=r) (S1:=S1) rfl (gR rfl rfl c4) h)
 clear c4;have c5:=aRR wd
 by_cases k5:wd=.cut\/wd=.wide\/wd=.sign
 ·rw[dqT k5] at c5;obtain⟨r,x',ni,okr,e⟩:=yV (ns:=ns) (k:=k) (x:=x) h (d+2) wd k5 hr h0 (by omega) (by omega)
  refine⟨r,k+2,x',rs,e6,hr,⟨[],by simp,noIn_nil⟩,ni,by omega,by omega,okr,by omega,q4 (pS (gR rfl rfl c5) (mE ?_))⟩
  simp only[gS0,e]
 rw[dqF k5] at c5;have q5:=λ {r S1} h=>q4 (aAF (r:=r) (S1:=S1) rfl (gR rfl rfl c5) h)
 clear c5;have c6:aV .Eq (.str wd.s) (.str "pick")=qq (.bool (decide (wd=.pick))):=bN wd .pick
 by_cases k6:wd=.pick
 ·subst k6;obtain⟨c,k1',x1,rs1,o1,hk1,e1⟩:=tO (ns:=ns) (k:=k) (x:=x) h (d+1) 1 hr h0 (by omega) (by decide) (by decide) (by omega)
  have l1:=o1.len;obtain⟨a,b,k',x',aJ,ok,⟨t,rfl,ht,mt⟩,wa,wb,hk',e2⟩:=aHk (ns:=ns) (k:=k1') (x:=x1) h d w .pick o1.ok (by omega) (by omega) hw cI (by omega)
  have wc:((rs1++t).map (·.w))[c]? = qq 1:=by
   rw[yBt,xAn (gIm o1.wd).1];exact o1.wd
  rw[show((1:Nat):Int)=1 from rfl] at e1
  obtain⟨t1,ht1,m1⟩:=o1.no;refine⟨⟨.pick,w,[c,a,b]⟩,k',x',rs1++t,qq (.d (.int c)),ok,⟨t1++t,by rw[ht1,yAq],noIn_app m1 mt⟩,(by decide:Wd.pick≠.in),by simp;omega,by simp;omega,⟨hw,cI,wc,wa,wb⟩,by omega,q5 (pS (cU rfl c6) (cF (S1:=aM S n p ns k1' x1 rs1) (w:=.d (.int c)) ?_ rfl (mE ?_)))⟩
  ·simp only[gS0,e1]
  ·simp only[gS0,e2,oR,lG,xA,aUC,aU4,aUy]
 rw[dqF k6] at c6;obtain⟨a,b,k',x',aJ,ok,⟨t,rfl,ht,mt⟩,wa,wb,hk',e2⟩:=aHk (ns:=ns) (k:=k) (x:=x) h d w wd hr h0 (by omega) hw cI (by omega)
 have okr:gD ((rs++t).map (·.w)) ⟨wd,vG wd w,[a,b]⟩:=by
  clear q2 q3 q4 q5 c6 e2;cases wd
  all_goals first | exact⟨hw,cI,wa,wb⟩ | exact⟨yAb 1,oqT rfl,rfl,w,wa,wb⟩ | exact absurd rfl k1 | exact absurd rfl k2 | exact absurd rfl k3 | exact absurd rfl k6 | exact absurd (.inl rfl) k4 | exact absurd (.inr (.inl rfl)) k4 | exact absurd (.inr (.inr rfl)) k4 | exact absurd (.inl rfl) k5 | exact absurd (.inr (.inl rfl)) k5 | exact absurd (.inr (.inr rfl)) k5
 refine⟨⟨wd,vG wd w,[a,b]⟩,k',x',rs++t,e6,ok,⟨t,rfl,mt⟩,k1,by simp,by simp;omega,okr,by omega,q5 (sC (cU rfl c6) (mE ?_))⟩
 simp only[gS0,e2]
end
noncomputable def wds:List Wd:=[.in,.num,.num,.not,.and,.or,.xor,.add,.sub,.mul,.left,.right,.slide,.cut,.wide,.sign,.same,.less,.under,.pick]
noncomputable def aAM:List Wd:=[.num,.num,.not,.and,.or,.xor,.add,.sub,.mul,.left,.right,.slide,.cut,.wide,.sign,.same,.less,.under,.pick]
theorem aPX:∀ w∈aAM,w≠.in:=by decide
theorem aTc{q:Nat}(h:q<19):∃ wd:Wd,wds[1+q]? = qq wd/\wd≠.in:=by
 have e:wds=.in::aAM:=rfl;have hl:q<aAM.length:=h;refine⟨aAM[q],?_,aPX _ (List.getElem_mem hl)⟩;rw[e,yDm,yCu];exact yAa hl
noncomputable def kG:D:=.list (wds.map λ w=>yHk w.s)
section
variable {S : aF}{n p : Nat}{ns : List Int}{k : Nat}{x : Int}{rs : List Rw}
theorem row_ok(h:At S n p)(d:Nat)(hr:dN [] rs)(h0:0<rs.length)(hl:rs.length<=80)(hk:k<=95000) :
 ∃ (k':Nat) (x':Int) (aJ:List Rw),dN [] aJ/\(∃ t,aJ=rs++t/\noIn t)/\rs.length<=aJ.length/\aJ.length<=rs.length+4/\k'<=k+20/\cl fns (d+5) 74 [.loc n,.loc p] (aM S n p ns k x rs)=qq (.d .none,aM S n p ns k' x' aJ):=by
 have s01:xs (aE fns (d+4)) (.seq (eC 0) (eC 1)) [qq (.loc n),qq (.loc p),qz,qz,qz,qz,qz] (aM S n p ns k x rs)=qq (.nx [qq (.loc n),qq (.loc p),qq (.d kG),qz,qz,qz,qz],aM S n p ns k x rs):=by
  simp only[evs,eC,jM,yBv,yBo];rw[aQl (by simp)]
  simp only[gS0,True]
 obtain⟨q1,x1,h1,e1⟩:=gL (ns:=ns) (k:=k) (x:=x) (rs:=rs) h.toAt0 (d+3) 19 (i:=19) rfl (by decide) (by decide) (by omega)
 obtain⟨wd,aN,wni⟩:=aTc h1;have f1:(1:Int)+(q1:Int)=((1+q1:Nat):Int):=by omega
 have gw:aH kG (.int ((1+q1:Nat):Int))=qq (.str wd.s):=jR (by rw[xAb,aN];rfl)
 have s2:xs (aE fns (d+4)) (eC 2) [qq (.loc n),qq (.loc p),qq (.d kG),qz,qz,qz,qz] (aM S n p ns k x rs)=qq (.nx [qq (.loc n),qq (.loc p),qq (.d kG),qq (.d (.str wd.s)),qz,qz,qz],aM S n p ns (k+1) x1 rs):=by
  simp only[gS2,eC,jM,yBv,yBo,e1,cW,f1,gw]
 obtain⟨a,x2,ha,e2⟩:=eY (ns:=ns) (k:=k+1) (x:=x1) (rs:=rs) h.toAt0 (d+3) rs.length h0 (by omega) (by omega)
 obtain⟨r,hra⟩:∃ r,rs[a]? = qq r:=⟨rs[a],yAa ha⟩;obtain⟨bV,cI⟩:=aBB hr hra;have s3:xs (aE fns (d+4)) (eC 3) [qq (.loc n),qq (.loc p),qq (.d kG),qq (.d (.str wd.s)),qz,qz,qz] (aM S n p ns (k+1) x1 rs)=qq (.nx [qq (.loc n),qq (.loc p),qq (.d kG),qq (.d (.str wd.s)),qq (.d (.int r.w)),qz,qz],aM S n p ns (k+2) x2 rs):=by
  simp only[gS2,eC,jM,yBv,yBo,h.rows,dY,dZ,rows_len,e2,aAg hra,gG]
 obtain⟨q3,x3,h3,e3⟩:=gL (ns:=ns) (k:=k+2) (x:=x2) (rs:=rs) h.toAt0 (d+3) 4 (i:=4) rfl (by decide) (by decide) (by omega)
 obtain⟨w,k4,x4,hw3,hw4,hk4,s4⟩:∃ (w k4:Nat) (x4:Int),1<=w/\w<=64/\k4<=k+6/\xs (aE fns (d+4)) (eC 4) [qq (.loc n),qq (.loc p),qq (.d kG),qq (.d (.str wd.s)),qq (.d (.int r.w)),qz,qz] (aM S n p ns (k+2) x2 rs)=qq (.nx [qq (.loc n),qq (.loc p),qq (.d kG),qq (.d (.str wd.s)),qq (.d (.int w)),qz,qz],aM S n p ns k4 x4 rs):=by
  rcases yCr ((q3:Int)==1) with c | c
  ·obtain⟨w,x4,g1,g2,e4⟩:=aOv (ns:=ns) (k:=k+3) (x:=x3) (rs:=rs) h.toAt0 (d+2) (by omega)
   refine⟨w,k+6,x4,g1,g2,by omega,?_⟩
   simp only[gS2,eC,jM,yBv,yBo,e3,bQ,c,e4]
  ·refine⟨r.w,k+3,x3,bV,cI,by omega,?_⟩
   simp only[gS2,eC,jM,yBv,yBo,e3,bQ,c]
 obtain⟨rr,k',x',aJ,e6',ok,⟨t,ht,mt⟩,ni,l1,l2,okr,hk',s5⟩:=aPt (ns:=ns) (k:=k4) (x:=x4) h d w wd wni (qq (.d kG)) qz qz hr h0 hl hw3 hw4 (by omega)
 refine⟨k',x',aJ++[rr],xU ok (by simpa using okr),⟨t++[rr],by rw[ht,yAq],noIn_app mt (aGv ni)⟩,by simp;omega,by simp;omega,by omega,?_⟩
 rw[aY rfl (d+4) _ _ rfl];have full:xs (aE fns (d+4)) jM [qq (.loc n),qq (.loc p),qz,qz,qz,qz,qz] (aM S n p ns k x rs)=qq (.nx [qq (.loc n),qq (.loc p),qq (.d kG),qq (.d (.str wd.s)),qq (.d (.int w)),qq (.d rr.d),e6'],aM S n p ns k' x' (aJ++[rr])):=by
  have s01':∀ r:Sx,xs (aE fns (d+4)) (.seq (eC 0) (.seq (eC 1) r)) [qq (.loc n),qq (.loc p),qz,qz,qz,qz,qz] (aM S n p ns k x rs)=xs (aE fns (d+4)) r [qq (.loc n),qq (.loc p),qq (.d kG),qz,qz,qz,qz] (aM S n p ns k x rs):=λ r=>by
   simp only[lB,dR] at s01 ⊢;cases q:xs (aE fns (d+4)) (eC 0) [qq (.loc n),qq (.loc p),qz,qz,qz,qz,qz] (aM S n p ns k x rs) with
   | none=>rw[q] at s01;cases s01
   | some z =>
     obtain⟨fl,S1⟩:=z;rw[q] at s01;cases fl with
     | nx e =>
       simp only[oB] at s01 ⊢;rw[s01];simp only[oB]
     | rt w=>cases s01
     | bk e=>cases s01
     | ct e=>cases s01
  rw[aMW,s01',fM s2,fM s3,fM s4,fM s5];have hq24:=λ ns k x=>app_row (ns:=ns) (k:=k) (x:=x) h (show aJ.length<=1000 by omega)
  simp only[gS2,eC,jM,yBv,yBo,fF,hq24]
 show((xs (aE fns (d+4)) jM [qq (.loc n),qq (.loc p),qz,qz,qz,qz,qz] (aM S n p ns k x rs)).bind _)=_;rw[full];simp only[oB,h.take]
end
end GP
noncomputable def tr(n w:Nat):Nat:=w-bl (n^^^(2^w-1))
theorem aSm(n w i:Nat):(n^^^(2^w-1)).testBit i=(n.testBit i ^^ decide (i<w)):=by rw[yAm,cN]
theorem aJp(n w:Nat):tr n w<=w:=yGt _ _
theorem aHG{n w i:Nat}(hi:w-tr n w<=i)(hw:i<w):n.testBit i=true:=by
 have h1:bl (n^^^(2^w-1))<=i:=by unfold tr at hi;omega
 have h2:=cM (pP (n^^^(2^w-1))) h1;rw[aSm,dqT hw] at h2;cases q:n.testBit i with
 | true=>rfl
 | false=>rw[q] at h2;cases h2
noncomputable def dH(a w:Nat):Nat:=(2^w-1)^^^(2^(w-a)-1)
theorem nN{a w i:Nat}:(dH a w).testBit i=(decide (w-a<=i)&&decide (i<w)):=by
 unfold dH;rw[yAm,cN,cN]
 by_cases h1:i<w<;>by_cases h2:i<w-a
 ·rw[dqT h1,dqT h2,dqF (by omega)];rfl
 ·rw[dqT h1,dqF h2,dqT (by omega)];rfl
 ·omega
 ·rw[dqF h1,dqF h2,yCy];rfl
theorem aC7{x y:Nat}:x&&&y≠0 ↔ ∃ i,x.testBit i=true/\y.testBit i=true:=by
 constructor
 ·intro h
  by_cases c:∃ i,x.testBit i=true/\y.testBit i=true
  ·exact c
  ·refine absurd ((jN _).mpr λ i=>?_) h
   rw[yAh];cases h1:x.testBit i<;>cases h2:y.testBit i<;>first | rfl | exact absurd ⟨i,h1,h2⟩ c
 ·rintro ⟨i,h1,h2⟩ z;rw[jN] at z;have:=z i;rw[yAh,h1,h2] at this;cases this
noncomputable def dC(x a w:Nat):Nat:=if x&&&dH a w=0 then x else x|||dH a w
theorem aAE{x a w:Nat}(h:x<2^w):dC x a w<2^w:=by
 unfold dC
 split
 ·exact h
 ·exact yBi h (by
   apply yCm;intro i hi;rw[nN,dqF (show ¬ i<w by omega),yCy])
theorem zZ{x a w i:Nat}:(dC x a w).testBit i=true ↔ x.testBit i=true\/((w-a<=i/\i<w)/\∃ j,(w-a<=j/\j<w)/\x.testBit j=true):=by
 unfold dC
 split
 ·rename_i h;constructor
  ·intro z;exact .inl z
  ·rintro (z | ⟨_,j,h1,h2⟩)
   ·exact z
   ·refine absurd h (aC7.mpr ⟨j,h2,?_⟩);rw[nN,dqT h1.1,dqT h1.2];rfl
 ·rename_i h;obtain⟨j,h1,h2⟩:=aC7.mp h;rw[nN,yAk,decide_eq_true_eq,decide_eq_true_eq] at h2;rw[xAp,yDz,nN,yAk,decide_eq_true_eq,decide_eq_true_eq];constructor
  ·rintro (z | z)
   ·exact .inl z
   ·exact .inr ⟨z,j,h2,h1⟩
  ·rintro (z | ⟨z,_⟩)
   ·exact .inl z
   ·exact .inr z
noncomputable def wI(i j k:Nat):Nat:=max (max i j) k
structure Ft where
 N:Nat
 O:Nat
 A:Nat
noncomputable def gJ(f:Ft)(w:Nat):Ft:=⟨dC f.N f.A w,dC f.O f.A w,wI f.A (tr (dC f.N f.A w) w) (tr (dC f.O f.A w) w)⟩
def Hd(f:Ft)(n w:Nat):Prop:=(∀ i,f.N.testBit i=true->n.testBit i=false)/\(∀ i,f.O.testBit i=true->n.testBit i=true)/\((∀ i,w-f.A<=i->i<w->n.testBit i=true)\/(∀ i,w-f.A<=i->i<w->n.testBit i=false))
structure FtOk(f:Ft)(w:Nat):Prop where
 lN:f.N<2^w
 lO:f.O<2^w
 a1:1<=f.A
 aw:f.A<=w
theorem aTq{f:Ft}{w:Nat}(h:FtOk f w):FtOk (gJ f w) w:=by
 have h1:=aJp (dC f.N f.A w) w;have h2:=aJp (dC f.O f.A w) w;have h3:=h.a1;have h4:=h.aw;exact⟨aAE h.lN,aAE h.lO,by show 1<=max (max _ _) _;omega,by show max (max _ _) _<=w;omega⟩
theorem aNz{f:Ft}{n w:Nat}(h:FtOk f w):Hd (gJ f w) n w ↔ Hd f n w:=by
 have aA:f.A<=(gJ f w).A:=by show f.A<=max (max _ _) _;omega
 constructor
 ·rintro ⟨h1,h2,h3⟩;refine⟨λ i hi=>h1 i (zZ.mpr (.inl hi)),λ i hi=>h2 i (zZ.mpr (.inl hi)),?_⟩
  rcases h3 with h3 | h3
  ·exact .inl λ i a b=>h3 i (by omega) b
  ·exact .inr λ i a b=>h3 i (by omega) b
 ·rintro ⟨h1,h2,h3⟩;have hN:∀ i,(gJ f w).N.testBit i=true->n.testBit i=false:=λ i hi=>by
   rcases zZ.mp hi with z | ⟨⟨a,b⟩,j,⟨c,d⟩,e⟩
   ·exact h1 i z
   ·rcases h3 with h3 | h3
    ·have x1:=h3 j c d;rw[h1 j e] at x1;cases x1
    ·exact h3 i a b
  have hO:∀ i,(gJ f w).O.testBit i=true->n.testBit i=true:=λ i hi=>by
   rcases zZ.mp hi with z | ⟨⟨a,b⟩,j,⟨c,d⟩,e⟩
   ·exact h2 i z
   ·rcases h3 with h3 | h3
    ·exact h3 i a b
    ·have x1:=h3 j c d;rw[h2 j e] at x1;cases x1
  refine⟨hN,hO,?_⟩;have cA:(gJ f w).A=f.A\/(gJ f w).A=tr (gJ f w).N w\/(gJ f w).A=tr (gJ f w).O w:=by
   show max (max _ _) _=_\/max (max _ _) _=tr (dC f.N f.A w) w\/max (max _ _) _=tr (dC f.O f.A w) w;omega
  rcases cA with c | c | c
  ·rw[c];exact h3
  ·rw[c];exact .inr λ i a b=>hN i (aHG a b)
  ·rw[c];exact .inl λ i a b=>hO i (aHG a b)
theorem aWB{f:Ft}{n w:Nat}(h:Hd f n w):f.N&&&f.O=0:=by
 by_cases c:f.N&&&f.O=0
 ·exact c
 ·obtain⟨i,h1,h2⟩:=aC7.mp c;have x:=h.1 i h1;rw[h.2.1 i h2] at x;cases x
theorem zX{n w i:Nat}(hn:n<2^w)(hi:i<w):(2^w-1-n).testBit i = !n.testBit i:=by
 have:=nW hn i;unfold oP at this;rw[this,dqT hi,yAn]
theorem aNB{n w a:Nat}(hn:n<2^w)(ha:a<=w):n/2^(w-a)=2^a-1 ↔ ∀ i,w-a<=i->i<w->n.testBit i=true:=by
 constructor
 ·intro h i h1 h2;have:(n/2^(w-a)).testBit (i-(w-a))=(2^a-1).testBit (i-(w-a)):=by rw[h]
  rw[eZ,cN,show w-a+(i-(w-a))=i by omega,dqT (by omega)] at this
  exact this
 ·intro h;apply xAm;intro i;rw[eZ,cN]
  by_cases c:i<a
  ·rw[h _ (by omega) (by omega),dqT c]
  ·rw[cM hn (by omega),dqF c]
theorem aOj{n w a:Nat}(hn:n<2^w)(ha:a<=w):n/2^(w-a)=0 ↔ ∀ i,w-a<=i->i<w->n.testBit i=false:=by
 rw[aBn];constructor
 ·intro h i h1 _;exact h i h1
 ·intro h i h1
  by_cases c:i<w
  ·exact h i h1 c
  ·exact cM hn (by omega)
theorem aNx{x y:Nat}:(x&&&y=0) ↔ ∀ i,y.testBit i=true->x.testBit i=false:=by
 rw[jN];constructor
 ·intro h i hy;have:=h i;rw[yAh,hy,yCf] at this;exact this
 ·intro h i;rw[yAh];cases hy:y.testBit i with
  | false=>exact yCy _
  | true=>rw[h i hy];rfl
theorem aFO{x y:Nat}:(x&&&y=y) ↔ ∀ i,y.testBit i=true->x.testBit i=true:=by
 constructor
 ·intro h i hy;have:=congrArg (λ z=>z.testBit i) h
  simp only[yAh,hy,yCf] at this;exact this
 ·intro h;apply xAm;intro i;rw[yAh];cases hy:y.testBit i with
  | false=>exact yCy _
  | true=>rw[h i hy];rfl
theorem cQ(d w:Nat)(h:w<=100000)(S:aF):cl fns (d+1) 0 [.d (.int w)] S=qq (.d (.int ((2^w-1:Nat):Int)),S):=by
 rw[aY rfl d _ S rfl];simp only[gR1,aJd,eX h,cS,aBP]
theorem aON(n:Nat):yAi (n:Int)=bl n:=aE0 n
theorem zC(d n:Nat)(S:aF):cl fns (d+1) 1 [.d (.int n)] S=qq (.d (.int ((bl n:Nat):Int)),S):=by
 rw[aY rfl d _ S rfl];simp only[gR1,aIu,aDa,aJe,aON]
noncomputable def lr(n:Nat):Nat:=bl (n^^^(n+1))-1
theorem aOE(n:Nat):lr n=lK (oH n (bl n+1)):=aFi (bl n+1) n (xAc (pP n) (yAl (by decide) (by omega)))
theorem aGL(d n:Nat)(S:aF)(h:n<2^10000):cl fns (d+2) 2 [.d (.int n)] S=qq (.d (.int ((2^bl n-1:Nat):Int)),S):=by
 rw[aY rfl (d+1) _ S rfl];have hq25:=cQ d (bl n) (xAi (sA h) (by decide))
 simp only[gR1,aIr,zC d n,hq25]
theorem aIM{n w:Nat}(h:n<2^w)(hw:w<=10000):n<2^10000:=xAc h (yAl (by decide) hw)
theorem aC8(d n:Nat)(S:aF):cl fns (d+2) 3 [.d (.int n)] S=qq (.d (.int ((lr n:Nat):Int)),S):=by
 have h1:=aBM (aEW n);have e1:(n:Int)+1=((n+1:Nat):Int):=by omega
 have e2:((bl (n^^^(n+1)):Nat):Int)-1=((lr n:Nat):Int):=by unfold lr;omega
 rw[aY rfl (d+1) _ S rfl];simp only[gR1,aGH,cW,e1,iA,zC d,cS,e2]
noncomputable def Ft.d(f:Ft):D:=.tuple [.int f.N,.int f.O,.int f.A]
theorem iH(f:Ft):aH f.d (.int 0)=qq (.int f.N):=rfl
theorem iE(f:Ft):aH f.d (.int 1)=qq (.int f.O):=rfl
theorem kA(f:Ft):aH f.d (.int 2)=qq (.int f.A):=rfl
theorem lV(a b:Nat):(((a:Nat):Int)==((b:Nat):Int))=(a==b):=by
 rw[yEk,beq_iff_eq,beq_iff_eq];omega
theorem aFv(d n w:Nat)(S:aF)(hn:n<2^w)(hw:w<=64):cl fns (d+2) 4 [.d (.int n),.d (.int w)] S=qq (.d (.int ((tr n w:Nat):Int)),S):=by
 have h1:=sA (aLp hn);have e2:(w:Int)-((bl (n^^^(2^w-1)):Nat):Int)=((tr n w:Nat):Int):=by unfold tr;omega
 rw[aY rfl (d+1) _ S rfl];have hq26:=cQ d w (by omega)
 simp only[gR1,aGN,hq26,iA,zC d,cS,e2]
theorem oY(d a w:Nat)(S:aF)(ha:a<=w)(hw:w<=64):cl fns (d+2) 23 [.d (.int a),.d (.int w)] S=qq (.d (.int ((dH a w:Nat):Int)),S):=by
 have e:(w:Int)-(a:Int)=((w-a:Nat):Int):=by omega
 rw[aY rfl (d+1) _ S rfl];have hq27:=cQ d w (by omega)
 have hq28:=cQ d (w-a) (by omega)
 simp only[gR1,aFp,hq27,cS,e,hq28,iA]
theorem mxI(i j:Nat):(if (j:Int)>(i:Int) then ((j:Nat):Int) else ((i:Nat):Int))=((max i j:Nat):Int):=by
 by_cases h:(j:Int)>(i:Int)
 ·rw[if_pos h];omega
 ·rw[if_neg h];omega
theorem zA(i j k:Nat):qH [.int i,.int j,.int k]=qq (.int ((wI i j k:Nat):Int)):=by
 show qq (yAj (if (j:Int)>(i:Int) then (if (k:Int)>(j:Int) then ((k:Nat):Int) else ((j:Nat):Int)) else (if (k:Int)>(i:Int) then ((k:Nat):Int) else ((i:Nat):Int))))=_
 rw[mxI,mxI];unfold wI
 by_cases h:(j:Int)>(i:Int)
 ·rw[if_pos h,show max (max i j) k=max j k by omega]
 ·rw[if_neg h,show max (max i j) k=max i k by omega]
theorem aCQ{x a w:Nat}(h:(x&&&dH a w==0)=true):dC x a w=x:=by
 unfold dC;rw[if_pos (eq_of_beq h)]
theorem aC9{x a w:Nat}(h:(x&&&dH a w==0)=false):dC x a w=x|||dH a w:=by
 unfold dC;rw[if_neg (by simpa using h)]
theorem aMU(d:Nat)(f:Ft)(w:Nat)(k:FtOk f w)(hw:w<=64)(S:aF):cl fns (d+3) 25 [.d f.d,.d (.int w)] S=qq (.d (gJ f w).d,S):=by
 have t1:=aFv d (dC f.N f.A w) w S (aAE k.lN) hw;have t2:=aFv d (dC f.O f.A w) w S (aAE k.lO) hw;rw[aY rfl (d+2) _ S rfl];show _=qq (W.d (.tuple [.int ((dC f.N f.A w:Nat):Int),.int ((dC f.O f.A w:Nat):Int),.int ((wI f.A (tr (dC f.N f.A w) w) (tr (dC f.O f.A w) w):Nat):Int)]),S);cases c1:(f.N&&&dH f.A w==0) with
 | true =>
   rw[aCQ c1] at t1 ⊢;cases c2:(f.O&&&dH f.A w==0) with
   | true =>
     rw[aCQ c2] at t2 ⊢;simp only[gR1,uG,Ft.d,oY (d:=d) (a:=f.A) (w:=w) (S:=S) k.aw hw,dE,pM,fX,c1,c2,t1,t2,zA]
   | false =>
     rw[aC9 c2] at t2 ⊢;simp only[gR1,uG,Ft.d,oY (d:=d) (a:=f.A) (w:=w) (S:=S) k.aw hw,dE,pM,fX,c1,c2,fA,t1,t2,zA]
 | false =>
   rw[aC9 c1] at t1 ⊢;cases c2:(f.O&&&dH f.A w==0) with
   | true =>
     rw[aCQ c2] at t2 ⊢;simp only[gR1,uG,Ft.d,oY (d:=d) (a:=f.A) (w:=w) (S:=S) k.aw hw,dE,pM,fX,c1,c2,fA,t1,t2,zA]
   | false =>
     rw[aC9 c2] at t2 ⊢;simp only[gR1,uG,Ft.d,oY (d:=d) (a:=f.A) (w:=w) (S:=S) k.aw hw,dE,pM,fX,c1,c2,fA,t1,t2,zA]
theorem tX(d:Nat)(f:Ft)(S:aF):cl fns (d+1) 26 [.d f.d] S=qq (.d (.int f.O),S):=by
 rw[aY rfl d _ S rfl];simp only[gR1,aIy,iE]
theorem xX(d:Nat)(f:Ft)(w:Nat)(lN:f.N<2^w)(hw:w<=64)(S:aF):cl fns (d+2) 27 [.d f.d,.d (.int w)] S=qq (.d (.int ((2^w-1-f.N:Nat):Int)),S):=by
 have e:(2^w-1)^^^f.N=2^w-1-f.N:=by
  apply xAm;intro i;have:=nW lN i;unfold oP at this;rw[this,yAm,cN]
  by_cases c:i<w
  ·rw[dqT c];cases f.N.testBit i<;>rfl
  ·rw[dqF c,cM lN (by omega)];rfl
 rw[aY rfl (d+1) _ S rfl];have hq29:=cQ d w (by omega)
 simp only[gR1,aFy,iH,hq29,iA,e]
theorem qR(d n w v:Nat)(S:aF)(hw:0<w)(hv:v<=1000)(cI:w<=64):cl fns (d+2) 5 [.d (.int n),.d (.int w),.d (.int v)] S=qq (.d (.int ((dD n w v:Nat):Int)),S):=by
 have e1:(w:Int)-1=((w-1:Nat):Int):=by omega
 rw[aY rfl (d+1) _ S rfl];unfold dD
 by_cases c:n&&&2^(w-1)=0
 ·have d1:(n&&&2^(w-1)==0)=true:=by rw[beq_iff_eq];exact c
  rw[if_pos c];have hq30:=eX (show w-1<=100000 by omega)
  simp only[gR1,aBy,cS,e1,hq30,dE,bQ,fX,d1]
 ·have d1:(n&&&2^(w-1)==0)=false:=by rw[beq_eq_false_iff_ne];exact c
  rw[if_neg c];have hq31:=eX (show w-1<=100000 by omega)
  have hq32:=cQ d v (by omega)
  have hq33:=cQ d w (by omega)
  simp only[gR1,aBy,cS,e1,hq31,dE,bQ,fX,d1,hq32,hq33,iA,fA]
theorem aBT(a k:Nat):qH [.int 1,.int ((a:Nat)-(k:Nat):Int)]=qq (.int ((max 1 (a-k):Nat):Int)):=by
 unfold qH;simp only[];congr 2
 by_cases h1:(a:Int)-(k:Int)>1<;>simp only[h1,if_true,if_false]<;>omega
theorem kO(i j:Nat):pY [.int i,.int j]=qq (.int ((min i j:Nat):Int)):=by
 unfold pY;simp only[];congr 2
 by_cases h1:(j:Int)<(i:Int)<;>simp only[h1,if_true,if_false]<;>omega
noncomputable def vO(w:Nat)(f:Ft)(k:Nat):Ft:=⟨(f.N*2^k|||(2^k-1))&&&(2^w-1),f.O*2^k&&&(2^w-1),max 1 (f.A-k)⟩
theorem aO8(d w:Nat)(f:Ft)(k:Nat)(hf:FtOk f w)(hw:w<=64)(hk:k<=1000)(S:aF):cl fns (d+2) 38 [.d (.int w),.d f.d,.d (.int k)] S=qq (.d (vO w f k).d,S):=by
 rw[aY rfl (d+1) _ S rfl];have hq34:=rE hf.lN (show w+k<=100000 by omega)
 have hq35:=rE hf.lO (show w+k<=100000 by omega)
 have hq36:=cQ d k (by omega)
 have hq37:=cQ d w (by omega)
 simp only[gR1,aFd,iH,iE,kA,hq34,hq35,hq36,hq37,fA,dE,cS,aBT]
noncomputable def mI(w:Nat)(f:Ft)(k:Nat):Ft:=⟨f.N/2^k|||dH (min k w) w,f.O/2^k,if k=0 then f.A else 1⟩
theorem aNL(d w:Nat)(f:Ft)(k:Nat)(hw:w<=64)(S:aF):cl fns (d+3) 39 [.d (.int w),.d f.d,.d (.int k)] S=qq (.d (mI w f k).d,S):=by
 have tm:=oY d (min k w) w S (by omega) hw
 rw[aY rfl (d+2) _ S rfl]
 by_cases c:k=0
 ·have d1:(k==0)=true:=by rw[beq_iff_eq];exact c
  have e:(mI w f k).d=.tuple [.int ((f.N/2^k|||dH (min k w) w:Nat):Int),.int ((f.O/2^k:Nat):Int),.int f.A]:=by unfold mI;rw[if_pos c];rfl
  rw[e];simp only[gR1,aBo,iH,iE,kA,fL,kO,tm,fA,bQ,fX,d1]
 ·have d1:(k==0)=false:=by rw[beq_eq_false_iff_ne];exact c
  have e:(mI w f k).d=.tuple [.int ((f.N/2^k|||dH (min k w) w:Nat):Int),.int ((f.O/2^k:Nat):Int),.int 1]:=by unfold mI;rw[if_neg c];rfl
  rw[e];simp only[gR1,aBo,iH,iE,kA,fL,kO,tm,fA,bQ,fX,d1]
noncomputable def uL(w:Nat)(f:Ft)(k:Nat):Ft:=⟨dD f.N w (w+k)/2^k,dD f.O w (w+k)/2^k,min w (f.A+k)⟩
theorem aN5(d w:Nat)(f:Ft)(k:Nat)(bV:1<=w)(hw:w<=64)(hk:k<=900)(S:aF):cl fns (d+3) 40 [.d (.int w),.d f.d,.d (.int k)] S=qq (.d (uL w f k).d,S):=by
 have e1:(w:Int)+(k:Int)=((w+k:Nat):Int):=by omega
 have e2:(f.A:Int)+(k:Int)=((f.A+k:Nat):Int):=by omega
 rw[aY rfl (d+2) _ S rfl];have hq38:=qR d f.N w (w+k) S (by omega) (by omega) hw
 have hq39:=qR d f.O w (w+k) S (by omega) (by omega) hw
 simp only[gR1,aE5,iH,iE,kA,cW,e1,e2,hq38,hq39,fL,kO]
noncomputable def vZ(v w:Nat)(f:Ft):Ft:=⟨f.N&&&(2^w-1),f.O&&&(2^w-1),max 1 (f.A-(v-w))⟩
noncomputable def mK(v w:Nat)(f:Ft):Ft:=⟨f.N|||dH (w-v) w,f.O,if w=v then f.A else 1⟩
noncomputable def vJ(v w:Nat)(f:Ft):Ft:=⟨dD f.N v w,dD f.O v w,f.A+(w-v)⟩
theorem aQ5(d v w:Nat)(f:Ft)(hv:w<=v)(hw:w<=64)(S:aF):cl fns (d+2) 42 [.d (.str "cut"),.d (.int v),.d (.int w),.d f.d] S=qq (.d (vZ v w f).d,S):=by
 have c1:aV .Eq (.str "cut") (.str "cut")=qq (.bool true):=bN .cut .cut;have e1:(v:Int)-(w:Int)=((v-w:Nat):Int):=by omega
 rw[aY rfl (d+1) _ S rfl];have hq40:=cQ d w (by omega)
 simp only[gR1,tV,Ft.d,c1,hq40,dE,cS,e1,aBT]
theorem aPf(d v w:Nat)(f:Ft)(hv:v<=w)(hw:w<=64)(S:aF):cl fns (d+3) 42 [.d (.str "wide"),.d (.int v),.d (.int w),.d f.d] S=qq (.d (mK v w f).d,S):=by
 have c1:aV .Eq (.str "wide") (.str "cut")=qq (.bool false):=bN .wide .cut;have c2:aV .Eq (.str "wide") (.str "wide")=qq (.bool true):=bN .wide .wide;have e1:(w:Int)-(v:Int)=((w-v:Nat):Int):=by omega
 have tm:=oY d (w-v) w S (by omega) hw
 rw[aY rfl (d+2) _ S rfl]
 by_cases c:w=v
 ·have d1:(w==v)=true:=by rw[beq_iff_eq];exact c
  have e:(mK v w f).d=.tuple [.int ((f.N|||dH (w-v) w:Nat):Int),.int f.O,.int f.A]:=by unfold mK;rw[if_pos c];rfl
  rw[e];simp only[gR1,tV,Ft.d,c1,c2,cS,e1,tm,fA,bQ,lV,d1]
 ·have d1:(w==v)=false:=by rw[beq_eq_false_iff_ne];exact c
  have e:(mK v w f).d=.tuple [.int ((f.N|||dH (w-v) w:Nat):Int),.int f.O,.int 1]:=by unfold mK;rw[if_neg c];rfl
  rw[e];simp only[gR1,tV,Ft.d,c1,c2,cS,e1,tm,fA,bQ,lV,d1]
theorem aOV(d v w:Nat)(f:Ft)(hv1:1<=v)(hv:v<=w)(hw:w<=64)(S:aF):cl fns (d+3) 42 [.d (.str "sign"),.d (.int v),.d (.int w),.d f.d] S=qq (.d (vJ v w f).d,S):=by
 have c1:aV .Eq (.str "sign") (.str "cut")=qq (.bool false):=bN .sign .cut;have c2:aV .Eq (.str "sign") (.str "wide")=qq (.bool false):=bN .sign .wide;have e1:(w:Int)-(v:Int)=((w-v:Nat):Int):=by omega
 have e2:(f.A:Int)+((w-v:Nat):Int)=((f.A+(w-v):Nat):Int):=by omega
 rw[aY rfl (d+2) _ S rfl];have hq41:=qR d f.N v w S (by omega) (by omega) (by omega)
 have hq42:=qR d f.O v w S (by omega) (by omega) (by omega)
 simp only[gR1,tV,Ft.d,c1,c2,cS,e1,hq41,hq42,cW,e2]
noncomputable def bwN(wd:Wd)(f g:Ft):Ft:=match wd with
 | .and=>⟨f.N|||g.N,f.O&&&g.O,min f.A g.A⟩
 | .or=>⟨f.N&&&g.N,f.O|||g.O,min f.A g.A⟩
 | _=>⟨f.N&&&g.N|||f.O&&&g.O,f.N&&&g.O|||f.O&&&g.N,min f.A g.A⟩
theorem yS(d:Nat)(f g:Ft)(S:aF):cl fns (d+1) 36 [.d f.d,.d g.d] S=qq (.d (.int ((f.N&&&g.O|||f.O&&&g.N:Nat):Int)),S):=by
 rw[aY rfl d _ S rfl];simp only[gR1,aEH,iH,iE,fA,dE]
theorem aLY(d:Nat)(wd:Wd)(aN:wd=.and\/wd=.or\/wd=.xor)(f g:Ft)(S:aF):cl fns (d+2) 37 [.d (.str wd.s),.d f.d,.d g.d] S=qq (.d (bwN wd f g).d,S):=by
 have c1:aV .Eq (.str wd.s) (.str "and")=qq (.bool (decide (wd=.and))):=bN wd .and;have c2:aV .Eq (.str wd.s) (.str "or")=qq (.bool (decide (wd=.or))):=bN wd .or;rw[aY rfl (d+1) _ S rfl];rcases aN with rfl | rfl | rfl
 ·simp only[decide_true] at c1;simp only[gR1,xP,iH,iE,kA,kO,c1,fA,dE]
 ·simp only[reduceCtorEq,decide_false,decide_true] at c1 c2;simp only[gR1,xP,iH,iE,kA,kO,c1,c2,fA,dE]
 ·simp only[reduceCtorEq,decide_false] at c1 c2;simp only[gR1,xP,iH,iE,kA,kO,c1,c2,fA,dE,yS d]
noncomputable def dG(f:Ft)(k:Nat):Nat:=2-2*(f.N.testBit k).toNat-(f.O.testBit k).toNat
theorem gF{f:Ft}(hd:f.N&&&f.O=0)(k:Nat):(dG f k==0)=f.N.testBit k:=by
 have:=(jN _).mp hd k;rw[yAh] at this;unfold dG
 revert this
 cases f.N.testBit k<;>cases f.O.testBit k<;>decide
theorem gE{f:Ft}(hd:f.N&&&f.O=0)(k:Nat):(dG f k==1)=f.O.testBit k:=by
 have:=(jN _).mp hd k;rw[yAh] at this;unfold dG
 revert this
 cases f.N.testBit k<;>cases f.O.testBit k<;>decide
theorem uS(f:Ft)(k:Nat):dG f k<3:=by
 unfold dG;omega
noncomputable def ntN(x:Nat):Nat:=[1,0,2].getD x 2
noncomputable def aAv(f:Ft)(k i:Nat):Nat:=if i<k then 0 else dG f (i-k)
noncomputable def zY(f:Ft)(w k i:Nat):Nat:=if i+k<w then dG f (i+k) else 0
noncomputable def aJO(f:Ft)(w i:Nat):Nat:=dG f (min i (w-1))
noncomputable def aAr(f:Ft)(w i:Nat):Nat:=if i<w then dG f i else 0
structure Mk(t:Nat->Nat)(n:Nat)(g:Ft):Prop where
 lN:g.N<2^n
 lO:g.O<2^n
 b0:∀ i,i<n->g.N.testBit i=(t i==0)
 b1:∀ i,i<n->g.O.testBit i=(t i==1)
theorem aJU{f:Ft}(hd:f.N&&&f.O=0)(k:Nat):(ntN (dG f k)==0)=f.O.testBit k:=by
 rw[<- gE hd k];have:=uS f k
 revert this
 generalize dG f k=x;intro h;have:x=0\/x=1\/x=2:=by omega
 rcases this with rfl | rfl | rfl<;>rfl
theorem aJ8{f:Ft}(hd:f.N&&&f.O=0)(k:Nat):(ntN (dG f k)==1)=f.N.testBit k:=by
 rw[<- gF hd k];have:=uS f k
 revert this
 generalize dG f k=x;intro h;have:x=0\/x=1\/x=2:=by omega
 rcases this with rfl | rfl | rfl<;>rfl
theorem aRZ{f:Ft}{w:Nat}(hf:FtOk f w)(hd:f.N&&&f.O=0):Mk (λ i=>ntN (dG f i)) w ⟨f.O,f.N,f.A⟩:=
 ⟨hf.lO,hf.lN,λ i _=>(aJU hd i).symm,λ i _=>(aJ8 hd i).symm⟩
theorem uH(w:Nat):2^w-1<2^w:=by have:=xAf w;omega
theorem yL(n k i:Nat):(n*2^k).testBit i=(decide (k<=i)&&n.testBit (i-k)):=by
 have:=aER (x:=0) (k:=k) (q:=n) (xAf k) i;rw[yEd] at this;rw[this]
 by_cases c:i<k
 ·rw[if_pos c,dqF (by omega),yBa,yBh]
 ·rw[if_neg c,dqT (by omega),yAn]
theorem aHN{f:Ft}{w:Nat}(k:Nat)(hd:f.N&&&f.O=0):Mk (aAv f k) w (vO w f k):=by
 refine⟨xAj yEv (uH w),xAj yEv (uH w),λ i hi=>?_,λ i hi=>?_⟩
 ·show((f.N*2^k|||(2^k-1))&&&(2^w-1)).testBit i=_
  rw[yAh,xAp,cN,cN,yL,dqT hi,yCf];unfold aAv
  by_cases c:i<k
  ·rw[if_pos c,dqT c,yHj];rfl
  ·rw[if_neg c,dqF c,yFf,dqT (by omega),yAn,gF hd]
 ·show(f.O*2^k&&&(2^w-1)).testBit i=_;rw[yAh,cN,yL,dqT hi,yCf];unfold aAv
  by_cases c:i<k
  ·rw[if_pos c,dqF (by omega),yBh];rfl
  ·rw[if_neg c,dqT (by omega),yAn,gE hd]
theorem aCX(a w:Nat):dH a w<2^w:=by
 apply yCm;intro i hi;rw[nN,dqF (show ¬ i<w by omega),yCy]
theorem aFJ{n k w:Nat}(h:n<2^w):n/2^k<2^w:=xAj (Nat.div_le_self _ _) h
theorem aF8{f:Ft}{w:Nat}(k:Nat)(hf:FtOk f w)(hd:f.N&&&f.O=0):Mk (zY f w k) w (mI w f k):=by
 refine⟨yBi (aFJ hf.lN) (aCX _ _),aFJ hf.lO,λ i hi=>?_,λ i hi=>?_⟩
 ·show(f.N/2^k|||dH (min k w) w).testBit i=_
  rw[xAp,eZ,nN,dqT hi,yCf];unfold zY
  by_cases c:i+k<w
  ·rw[if_pos c,dqF (by omega),yFf,gF hd,yDm]
  ·rw[if_neg c,dqT (by omega),yHj];rfl
 ·show(f.O/2^k).testBit i=_;rw[eZ];unfold zY
  by_cases c:i+k<w
  ·rw[if_pos c,gE hd,yDm]
  ·rw[if_neg c,cM hf.lO (by omega)];rfl
theorem rM{n w v:Nat}(h:n<2^w)(hw:0<w)(hv:w<=v){i:Nat}(hi:i<v):(dD n w v).testBit i=n.testBit (min i (w-1)):=by
 rw[qS h hw hv]
 by_cases c:i<w
 ·rw[if_pos c,Nat.min_eq_left (by omega)]
 ·rw[if_neg c,dqT hi,yAn,yHd (by omega)]
theorem aF9{f:Ft}{w:Nat}(k:Nat)(hw:1<=w)(hf:FtOk f w)(hd:f.N&&&f.O=0):Mk (λ i=>aJO f w (i+k)) w (uL w f k):=by
 have hl:∀ n,n<2^w->dD n w (w+k)/2^k<2^w:=λ n hn=>by
  rw[yEl (xAf k),<- yEy];exact tL hn hw (by omega)
 refine⟨hl _ hf.lN,hl _ hf.lO,λ i hi=>?_,λ i hi=>?_⟩
 ·show(dD f.N w (w+k)/2^k).testBit i=(dG f (min (i+k) (w-1))==0);rw[eZ,rM hf.lN hw (by omega) (by omega),gF hd,yDm]
 ·show(dD f.O w (w+k)/2^k).testBit i=(dG f (min (i+k) (w-1))==1);rw[eZ,rM hf.lO hw (by omega) (by omega),gE hd,yDm]
theorem aIt{f:Ft}(v w:Nat)(hd:f.N&&&f.O=0):Mk (dG f) w (vZ v w f):=by
 refine⟨xAj yEv (uH w),xAj yEv (uH w),λ i hi=>?_,λ i hi=>?_⟩
 ·show(f.N&&&(2^w-1)).testBit i=_;rw[yAh,cN,dqT hi,yCf,gF hd]
 ·show(f.O&&&(2^w-1)).testBit i=_;rw[yAh,cN,dqT hi,yCf,gE hd]
theorem aHU{n v w:Nat}(h:n<2^v)(hv:v<=w):n<2^w:=xAc h (yAl (by decide) hv)
theorem aG2{f:Ft}{v w:Nat}(hv:v<=w)(hf:FtOk f v)(hd:f.N&&&f.O=0):Mk (aAr f v) w (mK v w f):=by
 refine⟨yBi (aHU hf.lN hv) (aCX _ _),aHU hf.lO hv,λ i hi=>?_,λ i hi=>?_⟩
 ·show(f.N|||dH (w-v) w).testBit i=_
  rw[xAp,nN,dqT hi,yCf];unfold aAr
  by_cases c:i<v
  ·rw[if_pos c,dqF (by omega),yFf,gF hd]
  ·rw[if_neg c,dqT (by omega),yHj];rfl
 ·show f.O.testBit i=_;unfold aAr
  by_cases c:i<v
  ·rw[if_pos c,gE hd]
  ·rw[if_neg c,cM hf.lO (by omega)];rfl
theorem aHT{f:Ft}{v w:Nat}(h1:1<=v)(hv:v<=w)(hf:FtOk f v)(hd:f.N&&&f.O=0):Mk (aJO f v) w (vJ v w f):=by
 refine⟨tL hf.lN h1 hv,tL hf.lO h1 hv,λ i hi=>?_,λ i hi=>?_⟩
 ·show(dD f.N v w).testBit i=(dG f (min i (v-1))==0);rw[rM hf.lN h1 hv hi,gF hd]
 ·show(dD f.O v w).testBit i=(dG f (min i (v-1))==1);rw[rM hf.lO h1 hv hi,gE hd]
noncomputable def btN(b:Nat)(x y:Nat):Nat:=match b with
 | 0=>if x=0\/y=0 then 0 else if x<2/\y<2 then x*y else 2
 | 1=>if x=1\/y=1 then 1 else if x<2/\y<2 then x+y else 2
 | _=>if x<2/\y<2 then (if x=y then 0 else 1) else 2
theorem jB(f:Ft)(k:Nat):dG f k=0\/dG f k=1\/dG f k=2:=by
 have:=uS f k;omega
noncomputable def tB(b:Nat)(f g:Ft):Ft:=match b with
 | 0=>⟨f.N|||g.N,f.O&&&g.O,min f.A g.A⟩
 | 1=>⟨f.N&&&g.N,f.O|||g.O,min f.A g.A⟩
 | _=>⟨f.N&&&g.N|||f.O&&&g.O,f.N&&&g.O|||f.O&&&g.N,min f.A g.A⟩
theorem aJo(b:Nat)(hb:b=0\/b=1\/b=2){f g:Ft}{w:Nat}(hf:FtOk f w)(hd:f.N&&&f.O=0)(hg:FtOk g w)(he:g.N&&&g.O=0):Mk (λ i=>btN b (dG f i) (dG g i)) w (tB b f g):=by
 have an:∀ {x y:Nat},x<2^w->x&&&y<2^w:=λ h=>xAj yCo h
 rcases hb with rfl | rfl | rfl
 ·refine⟨yBi hf.lN hg.lN,an hf.lO,λ i _=>?_,λ i _=>?_⟩
  ·show(f.N|||g.N).testBit i=_
   rw[xAp,<- gF hd,<- gF he];rcases jB f i with h | h | h<;>rcases jB g i with h' | h' | h'<;>rw[h,h']<;>rfl
  ·show(f.O&&&g.O).testBit i=_;rw[yAh,<- gE hd,<- gE he];rcases jB f i with h | h | h<;>rcases jB g i with h' | h' | h'<;>rw[h,h']<;>rfl
 ·refine⟨an hf.lN,yBi hf.lO hg.lO,λ i _=>?_,λ i _=>?_⟩
  ·show(f.N&&&g.N).testBit i=_;rw[yAh,<- gF hd,<- gF he];rcases jB f i with h | h | h<;>rcases jB g i with h' | h' | h'<;>rw[h,h']<;>rfl
  ·show(f.O|||g.O).testBit i=_
   rw[xAp,<- gE hd,<- gE he];rcases jB f i with h | h | h<;>rcases jB g i with h' | h' | h'<;>rw[h,h']<;>rfl
 ·refine⟨yBi (an hf.lN) (an hf.lO),yBi (an hf.lN) (an hf.lO),λ i _=>?_,λ i _=>?_⟩
  ·show(f.N&&&g.N|||f.O&&&g.O).testBit i=_
   rw[xAp,yAh,yAh,<- gF hd,<- gF he,<- gE hd,<- gE he];rcases jB f i with h | h | h<;>rcases jB g i with h' | h' | h'<;>rw[h,h']<;>rfl
  ·show(f.N&&&g.O|||f.O&&&g.N).testBit i=_
   rw[xAp,yAh,yAh,<- gF hd,<- gF he,<- gE hd,<- gE he];rcases jB f i with h | h | h<;>rcases jB g i with h' | h' | h'<;>rw[h,h']<;>rfl
noncomputable def rs(x:Int)(w:Nat):Nat:=(x%((2^w:Nat):Int)).toNat
theorem nZ(x:Int)(w:Nat):((rs x w:Nat):Int)=x%((2^w:Nat):Int):=by
 unfold rs;have:(0:Int)<((2^w:Nat):Int):=by have:=xAf w;omega
 have:=Int.emod_nonneg x (b:=((2^w:Nat):Int)) (by omega)
 omega
theorem oE(x:Int)(w:Nat):rs x w<2^w:=by
 have h:=nZ x w;have:(0:Int)<((2^w:Nat):Int):=by have:=xAf w;omega
 have:=yGk x this;omega
theorem aU5{x:Int}{w:Nat}(h0:0<=x)(h1:x<((2^w:Nat):Int)):((rs x w:Nat):Int)=x:=by
 rw[nZ,Int.emod_eq_of_lt h0 h1]
theorem aH4(x:Int){w L:Nat}(h:L<=w):rs x w%2^L=rs x L:=by
 have e:((rs x w%2^L:Nat):Int)=((rs x L:Nat):Int):=by
  rw[yEw,nZ,nZ];exact Int.emod_emod_of_dvd x (by
   have:(2:Nat)^L ∣ 2^w:=Nat.pow_dvd_pow 2 h;exact Int.natCast_dvd_natCast.mpr this)
 omega
theorem aSI(x:Int){w L i:Nat}(h:L<=w)(hi:i<L):(rs x w).testBit i=(rs x L).testBit i:=by
 rw[<- aH4 x h,yAr,dqT hi,yAn]
theorem rG{n i:Nat}(h:i<lr n):n.testBit i=true:=by
 rw[aOE] at h;have h1:=aGJ _ i h;have h2:(oH n (bl n+1)).getD i false=true:=by rw[xAh,h1];rfl
 rw[aMT,yAk] at h2;exact h2.2
theorem aTr{n w:Nat}(h:n<2^w):lr n<=w:=by
 by_cases c:lr n<=w
 ·exact c
 ·have:=rG (n:=n) (i:=w) (by omega)
  rw[cM h (yAb _)] at this;cases this
theorem aCn{x y:Nat}(h:∀ i,x.testBit i=true->y.testBit i=true):x<=y:=by
 have:y&&&x=x:=by
  rw[aFO];exact h
 rw[<- this];exact yCo
theorem aIC{x y w:Nat}(hx:x<2^w)(hy:y<2^w)(h:∀ i,x.testBit i=true->y.testBit i=false):y<=2^w-1-x:=by
 refine aCn (y:=oP x w) λ i hi=>?_
 have hiw:i<w:=by
  by_cases c:i<w
  ·exact c
  ·rw[cM hy (by omega)] at hi
   cases hi
 rw[nW hx,dqT hiw,yAn];cases q:x.testBit i with
 | false=>rfl
 | true=>rw[h i q] at hi;cases hi
theorem aAw{f:Ft}{n w:Nat}(h:Hd f n w):f.O<=n:=aCn h.2.1
theorem aAs{f:Ft}{n w:Nat}(k:FtOk f w)(hn:n<2^w)(h:Hd f n w):n<=2^w-1-f.N:=aIC k.lN hn h.1
theorem aIE{f:Ft}{n w L:Nat}(h:Hd f n w)(hk:∀ i,i<L->(f.N|||f.O).testBit i=true):n%2^L=f.O%2^L:=by
 apply xAm;intro i;rw[yAr,yAr]
 by_cases c:i<L
 ·rw[dqT c,yAn,yAn];have q:=hk i c;rw[xAp] at q;cases o:f.O.testBit i with
  | true=>exact h.2.1 i o
  | false =>
    rw[o,yFf] at q;exact h.1 i q
 ·rw[dqF c,yBh,yBh]
inductive Sw where | add | sub | mul
noncomputable def Sw.oc:Sw->Int->Int->Int
 | .add,a,b=>a+b
 | .sub,a,b=>a-b
 | .mul,a,b=>a*b
theorem aFo{a b:Nat}{L:Nat}(h:a%2^L=b%2^L):((a:Nat):Int)%((2^L:Nat):Int)=((b:Nat):Int)%((2^L:Nat):Int):=by
 rw[<- yEw,<- yEw,h]
theorem aQ6(s:Sw){a b c e:Nat}{L:Nat}(h1:a%2^L=c%2^L)(h2:b%2^L=e%2^L):rs (s.oc a b) L=rs (s.oc c e) L:=by
 have g1:=aFo h1;have g2:=aFo h2;have:s.oc a b%((2^L:Nat):Int)=s.oc c e%((2^L:Nat):Int):=by
  cases s with
  | add=>show((a:Nat)+(b:Nat):Int)%_=((c:Nat)+(e:Nat):Int)%_;rw[Int.add_emod,g1,g2,<- Int.add_emod]
  | sub=>show((a:Nat)-(b:Nat):Int)%_=((c:Nat)-(e:Nat):Int)%_;rw[Int.sub_emod,g1,g2,<- Int.sub_emod]
  | mul=>show((a:Nat)*(b:Nat):Int)%_=((c:Nat)*(e:Nat):Int)%_;rw[Int.mul_emod,g1,g2,<- Int.mul_emod]
 unfold rs;rw[this]
noncomputable def fP(f g:Ft):Nat:=lr ((f.N|||f.O)&&&(g.N|||g.O))
theorem aCl{f g:Ft}{w:Nat}(k:FtOk f w):fP f g<=w:=aTr (xAj yCo (yBi k.lN k.lO))
noncomputable def kC(s:Sw)(f g:Ft):Nat:=rs (s.oc (f.O:Nat) (g.O:Nat)) (fP f g)
noncomputable def sQ(s:Sw)(f g:Ft):Nat:=(2^fP f g-1)^^^kC s f g
theorem aGj(s:Sw){f g:Ft}{a b w:Nat}(k:FtOk f w)(h1:Hd f a w)(h2:Hd g b w){i:Nat}(hi:i<fP f g):(rs (s.oc (a:Nat) (b:Nat)) w).testBit i=(kC s f g).testBit i:=by
 have hk:∀ i,i<fP f g->(f.N|||f.O).testBit i=true/\(g.N|||g.O).testBit i=true:=λ i hi=>by
  have:=rG hi;rw[yAh,yAk] at this;exact this
 rw[aSI _ (aCl k) hi,aQ6 s (aIE h1 λ i hi=>(hk i hi).1) (aIE h2 λ i hi=>(hk i hi).2)]
 rfl
theorem aNJ{s:Sw}{f g:Ft}{i:Nat}(h:(kC s f g).testBit i=true):i<fP f g:=by
 by_cases c:i<fP f g
 ·exact c
 ·have hl:kC s f g<2^fP f g:=oE _ _;rw[cM hl (by omega)] at h
  cases h
theorem aOc{s:Sw}{f g:Ft}{i:Nat}(h:(sQ s f g).testBit i=true):i<fP f g/\(kC s f g).testBit i=false:=by
 unfold sQ at h;rw[yAm,cN] at h;have hl:kC s f g<2^fP f g:=oE _ _
 by_cases c:i<fP f g
 ·rw[dqT c] at h;refine⟨c,?_⟩;cases q:(kC s f g).testBit i with
  | false=>rfl
  | true=>rw[q] at h;cases h
 ·rw[dqF c,cM hl (by omega)] at h
  cases h
noncomputable def fU(s:Sw)(w:Nat)(f g:Ft):Int:=match s with
 | .sub=>(f.O:Nat)-((2^w-1-g.N:Nat):Int)
 | s=>s.oc (f.O:Nat) (g.O:Nat)
noncomputable def fW(s:Sw)(w:Nat)(f g:Ft):Int:=match s with
 | .sub=>((2^w-1-f.N:Nat):Int)-(g.O:Nat)
 | s=>s.oc ((2^w-1-f.N:Nat):Int) ((2^w-1-g.N:Nat):Int)
theorem aJc(s:Sw){f g:Ft}{a b w:Nat}(kf:FtOk f w)(kg:FtOk g w)(ha:a<2^w)(hb:b<2^w)(h1:Hd f a w)(h2:Hd g b w):fU s w f g<=s.oc (a:Nat) (b:Nat)/\s.oc (a:Nat) (b:Nat)<=fW s w f g:=by
 have l1:=aAw h1;have l2:=aAw h2;have m1:=aAs kf ha h1;have m2:=aAs kg hb h2;cases s with
 | add =>
   show((f.O:Nat)+(g.O:Nat):Int)<=(a:Nat)+(b:Nat)/\((a:Nat)+(b:Nat):Int)<=((2^w-1-f.N:Nat):Int)+((2^w-1-g.N:Nat):Int);generalize 2^w-1-f.N=F at *;generalize 2^w-1-g.N=G at *;omega
 | sub =>
   show((f.O:Nat)-((2^w-1-g.N:Nat):Int))<=(a:Nat)-(b:Nat)/\((a:Nat)-(b:Nat):Int)<=((2^w-1-f.N:Nat):Int)-(g.O:Nat);generalize 2^w-1-f.N=F at *;generalize 2^w-1-g.N=G at *;omega
 | mul =>
   show((f.O:Nat)*(g.O:Nat):Int)<=(a:Nat)*(b:Nat)/\((a:Nat)*(b:Nat):Int)<=((2^w-1-f.N:Nat):Int)*((2^w-1-g.N:Nat):Int);rw[<- yCi,<- yCi,<- yCi];exact⟨Int.ofNat_le.mpr (Nat.mul_le_mul l1 l2),Int.ofNat_le.mpr (Nat.mul_le_mul m1 m2)⟩
noncomputable def qO(s:Sw)(w:Nat)(f g:Ft):Nat:=if fU s w f g<0\/fW s w f g>((2^w-1:Nat):Int) then 0 else tY (fU s w f g).toNat (fW s w f g).toNat w
noncomputable def qN(s:Sw)(w:Nat)(f g:Ft):Nat:=if fU s w f g<0\/fW s w f g>((2^w-1:Nat):Int) then 0 else oA (fU s w f g).toNat (fW s w f g).toNat w
theorem aNl{l g w:Nat}(hl:l<2^w)(hg:g<2^w):uO l g w<2^w:=by
 apply yCm;intro i hi;rw[aBt hl hg,dqF (by omega),yBh]
theorem aGo(s:Sw){f g:Ft}{a b w:Nat}(kf:FtOk f w)(kg:FtOk g w)(ha:a<2^w)(hb:b<2^w)(h1:Hd f a w)(h2:Hd g b w) :
 (∀ i,(qO s w f g).testBit i=true->(rs (s.oc (a:Nat) (b:Nat)) w).testBit i=false)/\(∀ i,(qN s w f g).testBit i=true->(rs (s.oc (a:Nat) (b:Nat)) w).testBit i=true)/\qO s w f g<2^w/\qN s w f g<2^w:=by
 have hb':=aJc s kf kg ha hb h1 h2;have hp:=xAf w;unfold qO qN
 by_cases c:fU s w f g<0\/fW s w f g>((2^w-1:Nat):Int)
 ·rw[if_pos c,if_pos c];refine⟨λ i hi=>?_,λ i hi=>?_,hp,hp⟩
  ·rw[yBa] at hi;cases hi
  ·rw[yBa] at hi;cases hi
 ·rw[if_neg c,if_neg c];have e:=aU5 (x:=s.oc (a:Nat) (b:Nat)) (w:=w) (by omega) (by omega)
  have q1:(fU s w f g).toNat<=rs (s.oc (a:Nat) (b:Nat)) w:=by omega
  have q2:rs (s.oc (a:Nat) (b:Nat)) w<=(fW s w f g).toNat:=by omega
  have q3:(fU s w f g).toNat<2^w:=by omega
  have q4:(fW s w f g).toNat<2^w:=by omega
  have n1:=aKX q3 q4 q1 q2;have n2:=aLd q3 q4 q1 q2;rw[aNx] at n1;rw[aFO] at n2;have kl:=aNl q3 q4;exact⟨n1,n2,yBs kl (xAj yCo kl),xAj yCo kl⟩
noncomputable def qL(s:Sw)(w:Nat)(f g:Ft):Nat:=match s with
 | .mul=>2^min w (lr f.N+lr g.N)-1
 | _=>0
theorem aHI{n L:Nat}(h:∀ i,i<L->n.testBit i=false):2^L ∣ n:=by
 have:n%2^L=0:=by
  rw[jN];intro i;rw[yAr]
  by_cases c:i<L
  ·rw[h i c,yCy]
  ·rw[dqF c,yBh]
 exact Nat.dvd_of_mod_eq_zero this
theorem aPq(s:Sw){f g:Ft}{a b w:Nat}(h1:Hd f a w)(h2:Hd g b w):∀ i,(qL s w f g).testBit i=true->(rs (s.oc (a:Nat) (b:Nat)) w).testBit i=false:=by
 intro i hi;cases s with
 | add=>rw[show qL .add w f g=0 from rfl,yBa] at hi;cases hi
 | sub=>rw[show qL .sub w f g=0 from rfl,yBa] at hi;cases hi
 | mul =>
   have hi':(2^min w (lr f.N+lr g.N)-1).testBit i=true:=hi;rw[cN,decide_eq_true_eq] at hi';obtain⟨c,hc⟩:=aHI (L:=lr f.N) (n:=a) λ i hi=>h1.1 i (rG hi)
   obtain⟨e,he⟩:=aHI (L:=lr g.N) (n:=b) λ i hi=>h2.1 i (rG hi)
   have ex:rs (Sw.mul.oc (a:Nat) (b:Nat)) w=a*b%2^w:=by
    have:=nZ (Sw.mul.oc (a:Nat) (b:Nat)) w;have e2:Sw.mul.oc (a:Nat) (b:Nat)=((a*b:Nat):Int):=(yCi a b).symm;rw[e2,<- yEw] at this;rw[e2];omega
   rw[ex,yAr,dqT (by omega),yAn]
   have:a*b=c*e*2^(lr f.N+lr g.N):=by
    rw[hc,he,yEy];simp only[yHg,Nat.mul_left_comm,Nat.mul_assoc]
   rw[this,yL,dqF (by omega),yBh]
theorem aCK{n w a:Nat}(hn:n<2^w)(ha:a<=w):((∀ i,w-a<=i->i<w->n.testBit i=true)\/(∀ i,w-a<=i->i<w->n.testBit i=false)) ↔ 2^w-2^(w-a)<=n\/n<2^(w-a):=by
 have hp:=xAf (w-a);have e1:(2:Nat)^w=2^a*2^(w-a):=by rw[<- yEy,show a+(w-a)=w by omega]
 have hpa:=xAf a;rw[<- aNB hn ha,<- aOj hn ha];have q0:n/2^(w-a)=0 ↔ n<2^(w-a):=by
  rw[Nat.div_eq_zero_iff];omega
 have q1:n/2^(w-a)=2^a-1 ↔ 2^w-2^(w-a)<=n:=by
  have es:(2^a-1)*2^(w-a)=2^w-2^(w-a):=by rw[Nat.sub_mul,Nat.one_mul,<- e1]
  constructor
  ·intro h;have:=Nat.div_mul_le_self n (2^(w-a));rw[h,es] at this;exact this
  ·intro h;have g1:2^a-1<=n/2^(w-a):=by
    rw[Nat.le_div_iff_mul_le hp,es];exact h
   have g2:n/2^(w-a)<2^a:=by
    rw[yEl hp,<- e1];exact hn
   omega
 rw[q0,q1]
noncomputable def kE(s:Sw)(f g:Ft):Nat:=match s with
 | .mul=>1
 | _=>max 1 (min f.A g.A-1)
theorem rO{n w a m:Nat}(ha:m<=a)(h:(∀ i,w-a<=i->i<w->n.testBit i=true)\/(∀ i,w-a<=i->i<w->n.testBit i=false)):(∀ i,w-m<=i->i<w->n.testBit i=true)\/(∀ i,w-m<=i->i<w->n.testBit i=false):=by
 rcases h with h | h
 ·exact .inl λ i a b=>h i (by omega) b
 ·exact .inr λ i a b=>h i (by omega) b
theorem lD(n w:Nat):(∀ i,w-1<=i->i<w->n.testBit i=true)\/(∀ i,w-1<=i->i<w->n.testBit i=false):=by
 cases c:n.testBit (w-1) with
 | true=>exact .inl λ i h1 h2=>by rw[show i=w-1 by omega];exact c
 | false=>exact .inr λ i h1 h2=>by rw[show i=w-1 by omega];exact c
theorem aIb{a T W:Nat}(ha:a<W)(h:W-T<=a\/a<T)(hT:T<=W):∃ x k:Int,((a:Nat):Int)=x+k*((W:Nat):Int) /\ -((T:Nat):Int)<=x/\x<((T:Nat):Int):=by
 rcases h with h | h
 ·exact⟨(a:Int)-W,1,by omega,by omega,by omega⟩
 ·exact⟨(a:Int),0,by omega,by omega,by omega⟩
theorem aPu{x W T r k:Int}(h:r=x+k*W)(h1 : -(2*T)<=x)(h2:x<2*T)(hT:2*T<=W)(r0:0<=r)(rW:r<W):W-2*T<=r\/r<2*T:=by
 rcases (show k <= -1\/k=0\/k=1\/2<=k by omega) with c | rfl | rfl | c
 ·have:k*W<=(-1)*W:=yFy c (by omega)
  omega
 ·exact .inr (by omega)
 ·exact .inl (by omega)
 ·have:2*W<=k*W:=yFy c (by omega)
  omega
theorem aQ3{x y k l W z:Int}:(x+k*W+(y+l*W))-W*z=x+y+(k+l-z)*W:=by
 rw[Int.sub_mul,Int.add_mul,Int.mul_comm W z];omega
theorem aRr{x y k l W z:Int}:(x+k*W-(y+l*W))-W*z=x-y+(k-l-z)*W:=by
 rw[Int.sub_mul,Int.sub_mul,Int.mul_comm W z];omega
theorem aWP{s:Sw}{f g:Ft}(c:kE s f g≠1):(kE s f g=min f.A g.A-1/\2<=min f.A g.A-1)/\s≠.mul:=by
 cases s with
 | mul=>exact absurd rfl c
 | add =>
   have e:kE .add f g=max 1 (min f.A g.A-1):=rfl;exact⟨by omega,λ h=>nomatch h⟩
 | sub =>
   have e:kE .sub f g=max 1 (min f.A g.A-1):=rfl;exact⟨by omega,λ h=>nomatch h⟩
theorem aOQ(s:Sw){f g:Ft}{a b w:Nat}(kf:FtOk f w)(kg:FtOk g w)(ha:a<2^w)(hb:b<2^w)(h1:Hd f a w)(h2:Hd g b w) :
 (∀ i,w-kE s f g<=i->i<w->(rs (s.oc (a:Nat) (b:Nat)) w).testBit i=true)\/(∀ i,w-kE s f g<=i->i<w->(rs (s.oc (a:Nat) (b:Nat)) w).testBit i=false):=by
 by_cases c:kE s f g=1
 ·rw[c];exact lD _ _
 ·have hw:=kf.aw;obtain⟨⟨hA,hm⟩,hs⟩:=aWP c;have g1:min f.A g.A<=f.A:=Nat.min_le_left ..;have g2:min f.A g.A<=g.A:=Nat.min_le_right ..;rw[hA];generalize min f.A g.A=m at *;have hmw:m<=w:=xAi g1 hw;rw[aCK (oE _ _) (xAi (yGt m 1) hmw)];have a1:=(aCK ha hmw).mp (rO g1 h1.2.2);have a2:=(aCK hb hmw).mp (rO g2 h2.2.2);have e:(2:Nat)^(w-(m-1))=2*2^(w-m):=by
   rw[show w-(m-1)=w-m+1 by omega,yFd,yHg]
  have hT:2*2^(w-m)<=2^w:=by
   rw[<- e];exact yAl (by decide) (yGt ..)
  rw[e];have hT1:2^(w-m)<=2^w:=yAl (by decide) (yGt ..)
  obtain⟨x,k,e1,x1,x2⟩:=aIb ha a1 hT1;obtain⟨y,l,e2,y1,y2⟩:=aIb hb a2 hT1;have hr:=nZ (s.oc (a:Nat) (b:Nat)) w;have hl:=oE (s.oc (a:Nat) (b:Nat)) w;rw[Int.emod_def] at hr;generalize rs (s.oc (a:Nat) (b:Nat)) w=r at *;generalize s.oc (a:Nat) (b:Nat)/((2^w:Nat):Int)=z at *;generalize (2:Nat)^w=W at *;generalize (2:Nat)^(w-m)=T at *;clear a1 a2 h1 h2 e g1 g2 hmw hw hm hA c;have bR:∀ {x k:Int},((r:Nat):Int)=x+k*((W:Nat):Int) -> -(2*((T:Nat):Int))<=x->x<2*((T:Nat):Int)->W-2*T<=r\/r<2*T:=λ q1 q2 q3=>by
   rcases aPu q1 q2 q3 (by omega) (by omega) (by omega) with q | q
   ·exact .inl (by omega)
   ·exact .inr (by omega)
  cases s with
  | mul=>exact absurd rfl hs
  | add =>
    have hk:((r:Nat):Int)=((a:Nat):Int)+((b:Nat):Int)-((W:Nat):Int)*z:=hr;rw[e1,e2,aQ3] at hk;exact bR hk (by omega) (by omega)
  | sub =>
    have hk:((r:Nat):Int)=((a:Nat):Int)-((b:Nat):Int)-((W:Nat):Int)*z:=hr;rw[e1,e2,aRr] at hk;exact bR hk (by omega) (by omega)
noncomputable def wJ(s:Sw)(w:Nat)(f g:Ft):Ft:=⟨sQ s f g|||qO s w f g|||qL s w f g,kC s f g|||qN s w f g,kE s f g⟩
theorem aN1(s:Sw){f g:Ft}{a b w:Nat}(kf:FtOk f w)(kg:FtOk g w)(ha:a<2^w)(hb:b<2^w)(h1:Hd f a w)(h2:Hd g b w):Hd (wJ s w f g) (rs (s.oc (a:Nat) (b:Nat)) w) w:=by
 obtain⟨t1,t2,_,_⟩:=aGo s kf kg ha hb h1 h2;refine⟨λ i hi=>?_,λ i hi=>?_,aOQ s kf kg ha hb h1 h2⟩
 ·have hi':(sQ s f g|||qO s w f g|||qL s w f g).testBit i=true:=hi
  rw[xAp,xAp,yDz,yDz] at hi';rcases hi' with (q | q) | q
  ·obtain⟨q1,q2⟩:=aOc q;rw[aGj s kf h1 h2 q1,q2]
  ·exact t1 i q
  ·exact aPq s h1 h2 i q
 ·have hi':(kC s f g|||qN s w f g).testBit i=true:=hi
  rw[xAp,yDz] at hi';rcases hi' with q | q
  ·rw[aGj s kf h1 h2 (aNJ q),q]
  ·exact t2 i q
theorem aBN{n v w:Nat}(h:n<2^v)(hv:v<=w):n<2^w:=xAc h (yAl (by decide) hv)
theorem aS6(s:Sw){f g:Ft}{a b w:Nat}(kf:FtOk f w)(kg:FtOk g w)(ha:a<2^w)(hb:b<2^w)(h1:Hd f a w)(h2:Hd g b w):FtOk (wJ s w f g) w:=by
 obtain⟨_,_,t3,t4⟩:=aGo s kf kg ha hb h1 h2;have hL:=aCl (g:=g) kf;have hO:kC s f g<2^fP f g:=oE _ _;have hN:sQ s f g<2^fP f g:=yBs (by have:=xAf (fP f g);omega) hO
 have hl:qL s w f g<2^w:=by
  have:=xAf w;cases s with
  | add=>exact this
  | sub=>exact this
  | mul=>exact aBN (v:=min w (lr f.N+lr g.N)) (by show 2^min w (lr f.N+lr g.N)-1<_;have:=xAf (min w (lr f.N+lr g.N));omega) (by omega)
 have q1:=kf.aw;have q2:=kf.a1;refine⟨yBi (yBi (aBN hN hL) t3) hl,yBi (aBN hO hL) t4,?_,?_⟩
 ·show 1<=kE s f g;cases s with
  | mul=>exact yAb 1
  | add=>show 1<=max 1 (min f.A g.A-1);omega
  | sub=>show 1<=max 1 (min f.A g.A-1);omega
 ·show kE s f g<=w;cases s with
  | mul=>show 1<=w;omega
  | add=>show max 1 (min f.A g.A-1)<=w;omega
  | sub=>show max 1 (min f.A g.A-1)<=w;omega
noncomputable def F1:Ft:=⟨0,1,1⟩
noncomputable def F0:Ft:=⟨1,0,1⟩
noncomputable def jL:Ft:=⟨0,0,1⟩
noncomputable def l3(a b c e:Int):Ft:=if b<c then F1 else if e<=a then F0 else jL
theorem aJP(a b c e:Int):l3 a b c e=F1\/l3 a b c e=F0\/l3 a b c e=jL:=by
 unfold l3
 split
 ·exact .inl rfl
 ·split
  ·exact .inr (.inl rfl)
  ·exact .inr (.inr rfl)
theorem zQ{r k:Nat}(h:r<2^k):r^^^2^k=r+2^k:=by
 apply xAm;intro i;have e:r+2^k=r+1*2^k:=by omega
 rw[e,aER h,yAm,yDg]
 by_cases c:i<k
 ·rw[if_pos c,dqF (by omega),Bool.xor_false]
 ·rw[if_neg c,cM h (by omega),Bool.false_xor]
  by_cases c2:k=i
  ·subst c2;rw[dqT rfl,yBb];rfl
  ·rw[dqF c2];have:1<2^(i-k):=Nat.one_lt_two_pow (by omega)
   rw[cM this (yAb _)]
theorem aCa{n k:Nat}(h1:2^k<=n)(h2:n<2^(k+1)):n^^^2^k=n-2^k:=by
 have hr:n-2^k<2^k:=by rw[yFd] at h2;omega
 have e:(n-2^k)^^^2^k=n:=by rw[zQ hr];omega
 calc n^^^2^k=((n-2^k)^^^2^k)^^^2^k:=by rw[e]
  _=n-2^k:=by rw[Nat.xor_assoc,Nat.xor_self,yEn]
theorem aJj{n w:Nat}(h:n<2^w)(hw:0<w):n.testBit (w-1)=decide (2^(w-1)<=n):=by
 have hb:=aPh h hw;have hp:=xAf (w-1);cases c:n.testBit (w-1) with
 | true =>
   rw[c] at hb;have:2^(w-1)<=n:=by
    by_cases q:n<2^(w-1)
    ·rw[Nat.div_eq_of_lt q] at hb;exact absurd hb (by decide)
    ·omega
   rw[dqT this]
 | false =>
   rw[c] at hb;have:¬ 2^(w-1)<=n:=λ q=>by
    have h3:=Nat.div_pos q hp;rw[hb] at h3;exact absurd h3 (by decide)
   rw[dqF this]
noncomputable def tt(f:Ft)(w:Nat):Ft:=⟨f.N^^^((f.N^^^f.O)&&&dH 1 w),f.O^^^((f.N^^^f.O)&&&dH 1 w),f.A⟩
theorem aGa{w i:Nat}(hw:1<=w):(dH 1 w).testBit i=decide (w-1=i):=by
 rw[nN]
 by_cases c:w-1=i
 ·rw[dqT c,dqT (by omega),dqT (by omega)];rfl
 ·rw[dqF c]
  by_cases c2:w-1<=i
  ·rw[dqF (show ¬ i<w by omega),yCy]
  ·rw[dqF c2,yBh]
theorem aNQ{f:Ft}{w:Nat}(k:FtOk f w)(hd:f.N&&&f.O=0)(hw:1<=w) :
 (f.N<2^(w-1)/\f.O<2^(w-1)/\(tt f w).N=f.N/\(tt f w).O=f.O)\/(f.N<2^(w-1)/\2^(w-1)<=f.O/\(tt f w).N=f.N+2^(w-1)/\(tt f w).O=f.O-2^(w-1))\/(2^(w-1)<=f.N/\f.O<2^(w-1)/\(tt f w).N=f.N-2^(w-1)/\(tt f w).O=f.O+2^(w-1)):=by
 have hN:=aJj k.lN (show 0<w by omega)
 have hO:=aJj k.lO (show 0<w by omega)
 have lN:=k.lN;have lO:=k.lO;have e:w-1+1=w:=by omega
 have tb:∀ b:Bool,(f.N.testBit (w-1) ^^ f.O.testBit (w-1))=b->(f.N^^^f.O)&&&dH 1 w=if b=true then 2^(w-1) else 0:=λ b hb=>by
  apply xAm;intro i;rw[yAh,aGa hw,yAm]
  by_cases c:w-1=i
  ·subst c;rw[hb,dqT rfl,yCf];cases b
   ·simp
   ·simp
  ·rw[dqF c,yCy];cases b
   ·simp
   ·rw[if_pos rfl,yDg,dqF c]
 by_cases c1:2^(w-1)<=f.N
 ·by_cases c2:2^(w-1)<=f.O
  ·exfalso;have:=(jN _).mp hd (w-1);rw[yAh,hN,hO,dqT c1,dqT c2] at this;cases this
  ·refine .inr (.inr ⟨c1,by omega,?_,?_⟩)
   ·show f.N^^^_=_;rw[tb true (by rw[hN,hO,dqT c1,dqF c2];rfl),if_pos rfl,aCa c1 (by rw[e];exact lN)]
   ·show f.O^^^_=_;rw[tb true (by rw[hN,hO,dqT c1,dqF c2];rfl),if_pos rfl,zQ (by omega)]
 ·by_cases c2:2^(w-1)<=f.O
  ·refine .inr (.inl ⟨by omega,c2,?_,?_⟩)
   ·show f.N^^^_=_;rw[tb true (by rw[hN,hO,dqT c2,dqF c1];rfl),if_pos rfl,zQ (by omega)]
   ·show f.O^^^_=_;rw[tb true (by rw[hN,hO,dqT c2,dqF c1];rfl),if_pos rfl,aCa c2 (by rw[e];exact lO)]
  ·refine .inl ⟨by omega,by omega,?_,?_⟩
   ·show f.N^^^_=_;rw[tb false (by rw[hN,hO,dqF c2,dqF c1];rfl),if_neg (by decide),yEn]
   ·show f.O^^^_=_;rw[tb false (by rw[hN,hO,dqF c2,dqF c1];rfl),if_neg (by decide),yEn]
theorem aJi{f:Ft}{w:Nat}(k:FtOk f w)(hd:f.N&&&f.O=0)(hw:1<=w):(tt f w).N<2^w:=by
 have h2:(2:Nat)^w=2^(w-1)+2^(w-1):=by
  have:(2:Nat)^(w-1+1)=2^(w-1)*2:=yFd ..;rw[show w-1+1=w by omega] at this
  omega
 have lN:=k.lN;rcases aNQ k hd hw with ⟨_,_,h,_⟩ | ⟨_,_,h,_⟩ | ⟨_,_,h,_⟩<;>rw[h]<;>omega
noncomputable def mZ(w:Nat)(f g:Ft):Ft:=if f.N&&&g.O|||f.O&&&g.N≠0 then F0 else if (f.N|||f.O)&&&(g.N|||g.O)=2^w-1 then F1 else jL
theorem aTT(w:Nat)(f g:Ft):mZ w f g=F1\/mZ w f g=F0\/mZ w f g=jL:=by
 unfold mZ
 split
 ·exact .inr (.inl rfl)
 ·split
  ·exact .inl rfl
  ·exact .inr (.inr rfl)
noncomputable def oS(t f g:Ft):Ft:=if t.O=1 then f else if t.N=1 then g else ⟨f.N&&&g.N,f.O&&&g.O,min f.A g.A⟩
theorem aVx{t f g:Ft}{w:Nat}(hf:FtOk f w)(hg:FtOk g w):FtOk (oS t f g) w:=by
 unfold oS
 split
 ·exact hf
 ·split
  ·exact hg
  ·have h1:=hf.a1;have h2:=hg.a1;have h3:=hf.aw;exact⟨xAj yCo hf.lN,xAj yCo hf.lO,by show 1<=min f.A g.A;omega,by show min f.A g.A<=w;omega⟩
def Al(n w a:Nat):Prop:=(∀ i,w-a<=i->i<w->n.testBit i=true)\/(∀ i,w-a<=i->i<w->n.testBit i=false)
theorem oC{f:Ft}{a w:Nat}(hd:f.N&&&f.O=0)(h:Hd f a w)(j:Nat):(dG f j=0->a.testBit j=false)/\(dG f j=1->a.testBit j=true):=by
 refine⟨λ e=>h.1 j ?_,λ e=>h.2.1 j ?_⟩
 ·rw[<- gF hd j,beq_iff_eq];exact e
 ·rw[<- gE hd j,beq_iff_eq];exact e
theorem nV{t:Nat->Nat}{n:Nat}{g:Ft}{z:Nat}(m:Mk t n g)(hz:∀ i,i<n->(t i=0->z.testBit i=false)/\(t i=1->z.testBit i=true))(ha:Al z n g.A):Hd g z n:=by
 have hl:∀ {x:Nat},x<2^n->∀ i,x.testBit i=true->i<n:=λ {x} hx i hi=>by
  by_cases c:i<n
  ·exact c
  ·rw[cM hx (by omega)] at hi;cases hi
 refine⟨λ i hi=>?_,λ i hi=>?_,ha⟩
 ·have c:=hl m.lN i hi;rw[m.b0 i c,beq_iff_eq] at hi;exact(hz i c).1 hi
 ·have c:=hl m.lO i hi;rw[m.b1 i c,beq_iff_eq] at hi;exact(hz i c).2 hi
theorem aS1(n w:Nat):rs ((n:Nat):Int) w=n%2^w:=by
 have:=nZ ((n:Nat):Int) w;rw[<- yEw] at this;omega
section
variable {f : Ft}{a w : Nat}(hf : FtOk f w)(hd : f.N&&&f.O = 0)(ha : a<2 ^ w)(h : Hd f a w)
include hf hd ha h
theorem aNZ:Hd ⟨f.O,f.N,f.A⟩ (2^w-1-a) w:=by
 refine nV (aRZ hf hd) (λ i hi=>?_) ?_
 ·rw[zX ha hi];refine⟨λ e=>?_,λ e=>?_⟩
  ·have:f.O.testBit i=true:=by rw[<- aJU hd i,beq_iff_eq];exact e
   rw[h.2.1 i this];rfl
  ·have:f.N.testBit i=true:=by rw[<- aJ8 hd i,beq_iff_eq];exact e
   rw[h.1 i this];rfl
 ·rcases h.2.2 with q | q
  ·exact .inr λ i h1 h2=>by rw[zX ha h2,q i h1 h2];rfl
  ·exact .inl λ i h1 h2=>by rw[zX ha h2,q i h1 h2];rfl
theorem aMu(k:Nat):Hd (vO w f k) (a*2^k%2^w) w:=by
 have hb:∀ i,i<w->(a*2^k%2^w).testBit i=(decide (k<=i)&&a.testBit (i-k)):=λ i hi=>by
  rw[yAr,dqT hi,yAn,yL]
 refine nV (aHN k hd) (λ i hi=>?_) ?_
 ·rw[hb i hi];unfold aAv
  by_cases c:i<k
  ·rw[if_pos c,dqF (by omega),yBh]
   exact⟨λ _=>rfl,λ e=>nomatch e⟩
  ·rw[if_neg c,dqT (by omega),yAn]
   exact oC hd h (i-k)
 ·show Al _ w (max 1 (f.A-k))
  by_cases c:f.A-k<=1
  ·rw[Nat.max_eq_left c];exact lD _ _
  ·rw[Nat.max_eq_right (by omega)]
   have:=hf.aw;rcases h.2.2 with q | q
   ·exact .inl λ i h1 h2=>by rw[hb i h2,dqT (by omega),yAn];exact q _ (by omega) (by omega)
   ·exact .inr λ i h1 h2=>by rw[hb i h2,dqT (by omega),yAn];exact q _ (by omega) (by omega)
theorem aLM(k:Nat):Hd (mI w f k) (a/2^k) w:=by
 refine nV (aF8 k hf hd) (λ i hi=>?_) ?_
 ·rw[eZ];unfold zY
  by_cases c:i+k<w
  ·rw[if_pos c,yDm k i];exact oC hd h (i+k)
  ·rw[if_neg c,cM ha (by omega)]
   exact⟨λ _=>rfl,λ e=>nomatch e⟩
 ·show Al _ w (if k=0 then f.A else 1)
  by_cases c:k=0
  ·subst c;rw[if_pos rfl,Nat.pow_zero,Nat.div_one];exact h.2.2
  ·rw[if_neg c];exact lD _ _
theorem aLQ(hw:1<=w)(k:Nat):Hd (uL w f k) (dD a w (w+k)/2^k) w:=by
 have hb:∀ i,i<w->(dD a w (w+k)/2^k).testBit i=a.testBit (min (i+k) (w-1)):=λ i hi=>by
  rw[eZ,rM ha hw (by omega) (by omega),yDm]
 refine nV (aF9 k hw hf hd) (λ i hi=>?_) ?_
 ·rw[hb i hi];exact oC hd h _
 ·have h1:=hf.a1;show Al _ w (min w (f.A+k));rcases h.2.2 with q | q
  ·exact .inl λ i h1 h2=>by rw[hb i h2];exact q _ (by omega) (by omega)
  ·exact .inr λ i h1 h2=>by rw[hb i h2];exact q _ (by omega) (by omega)
theorem aN7{v:Nat}(hv:v<=w):Hd (vZ w v f) (a%2^v) v:=by
 have hb:∀ i,i<v->(a%2^v).testBit i=a.testBit i:=λ i hi=>by rw[yAr,dqT hi,yAn]
 refine nV (aIt w v hd) (λ i hi=>?_) ?_
 ·rw[hb i hi];exact oC hd h _
 ·have h1:=hf.aw;show Al _ v (max 1 (f.A-(w-v)))
  by_cases c:f.A-(w-v)<=1
  ·rw[Nat.max_eq_left c];exact lD _ _
  ·rw[Nat.max_eq_right (by omega)]
   rcases h.2.2 with q | q
   ·exact .inl λ i h1 h2=>by rw[hb i h2];exact q _ (by omega) (by omega)
   ·exact .inr λ i h1 h2=>by rw[hb i h2];exact q _ (by omega) (by omega)
theorem aMO{v:Nat}(hv:w<=v):Hd (mK w v f) a v:=by
 refine nV (aG2 hv hf hd) (λ i hi=>?_) ?_
 ·unfold aAr
  by_cases c:i<w
  ·rw[if_pos c];exact oC hd h i
  ·rw[if_neg c,cM ha (by omega)]
   exact⟨λ _=>rfl,λ e=>nomatch e⟩
 ·show Al _ v (if v=w then f.A else 1)
  by_cases c:v=w
  ·subst c;rw[if_pos rfl];exact h.2.2
  ·rw[if_neg c];exact lD _ _
theorem aMS(hw:1<=w){v:Nat}(hv:w<=v):Hd (vJ w v f) (dD a w v) v:=by
 have hb:∀ i,i<v->(dD a w v).testBit i=a.testBit (min i (w-1)):=λ i hi=>rM ha hw hv hi
 refine nV (aHT hw hv hf hd) (λ i hi=>?_) ?_
 ·rw[hb i hi];exact oC hd h _
 ·have h1:=hf.a1;show Al _ v (f.A+(v-w));rcases h.2.2 with q | q
  ·exact .inl λ i h1 h2=>by rw[hb i h2];exact q _ (by omega) (by omega)
  ·exact .inr λ i h1 h2=>by rw[hb i h2];exact q _ (by omega) (by omega)
end
noncomputable def bwv(b:Nat)(x y:Nat):Nat:=match b with
 | 0=>x&&&y
 | 1=>x|||y
 | _=>x^^^y
noncomputable def bwB(b:Nat)(x y:Bool):Bool:=match b with
 | 0=>x&&y
 | 1=>x||y
 | _=>x ^^ y
theorem aCf{b:Nat}(hb:b=0\/b=1\/b=2)(x y i:Nat):(bwv b x y).testBit i=bwB b (x.testBit i) (y.testBit i):=by
 rcases hb with rfl | rfl | rfl
 ·exact yAh ..
 ·exact xAp ..
 ·exact yAm ..
theorem aQ0:∀ (b p q:Fin 3) (x y:Bool),(p.1=0->x=false)/\(p.1=1->x=true)->(q.1=0->y=false)/\(q.1=1->y=true)->(btN b.1 p.1 q.1=0->bwB b.1 x y=false)/\(btN b.1 p.1 q.1=1->bwB b.1 x y=true):=by decide
theorem aPL{b:Nat}(hb:b=0\/b=1\/b=2){f g:Ft}{x y w:Nat}(hf:FtOk f w)(hd:f.N&&&f.O=0)(h:Hd f x w)(hg:FtOk g w)(he:g.N&&&g.O=0)(h':Hd g y w):Hd (tB b f g) (bwv b x y) w:=by
 refine nV (aJo b hb hf hd hg he) (λ i hi=>?_) ?_
 ·rw[aCf hb];exact aQ0 ⟨b,by omega⟩ ⟨_,uS f i⟩ ⟨_,uS g i⟩ _ _ (oC hd h i) (oC he h' i)
 ·have hA:(tB b f g).A=min f.A g.A:=by rcases hb with rfl | rfl | rfl<;>rfl
  rw[hA];have q1:Al x w (min f.A g.A):=rO (by omega) h.2.2
  have q2:Al y w (min f.A g.A):=rO (by omega) h'.2.2
  have go:∀ (p q:Bool),(∀ i,w-min f.A g.A<=i->i<w->x.testBit i=p)->(∀ i,w-min f.A g.A<=i->i<w->y.testBit i=q)->Al (bwv b x y) w (min f.A g.A):=λ p q hp hq=>by
   cases c:bwB b p q with
   | true=>exact .inl λ i h1 h2=>by rw[aCf hb,hp i h1 h2,hq i h1 h2,c]
   | false=>exact .inr λ i h1 h2=>by rw[aCf hb,hp i h1 h2,hq i h1 h2,c]
  rcases q1 with q1 | q1<;>rcases q2 with q2 | q2
  ·exact go _ _ q1 q2
  ·exact go _ _ q1 q2
  ·exact go _ _ q1 q2
  ·exact go _ _ q1 q2
noncomputable def jK(a w:Nat):Int:=if 2^(w-1)<=a then (a:Nat)-((2^w:Nat):Int) else (a:Nat)
theorem aQP(x:Int)(w:Nat)(q:Int):rs (x+((2^w:Nat):Int)*q) w=rs x w:=by
 unfold rs;rw[Int.add_mul_emod_self_left]
theorem rF{i:Nat}{p:Prop}(h:(0:Nat).testBit i=true):p:=by
 rw[yBa] at h;cases h
theorem aHq:Hd F1 1 1:=⟨λ i h=>rF h,λ i h=>h,lD _ _⟩
theorem aHc:Hd F0 0 1:=⟨λ i h=>yBa i,λ i h=>rF h,lD _ _⟩
theorem aHQ(z:Nat):Hd jL z 1:=⟨λ i h=>rF h,λ i h=>rF h,lD _ _⟩
theorem aHB{a b c e x y:Int}(h1:a<=x)(h2:x<=b)(h3:c<=y)(h4:y<=e):Hd (l3 a b c e) (decide (x<y)).toNat 1:=by
 unfold l3
 by_cases c1:b<c
 ·rw[if_pos c1,dqT (by omega)]
  exact aHq
 ·rw[if_neg c1]
  by_cases c2:e<=a
  ·rw[if_pos c2,dqF (by omega)]
   exact aHc
  ·rw[if_neg c2];exact aHQ _
theorem aM3{f g:Ft}{a b w:Nat}(kf:FtOk f w)(kg:FtOk g w)(ha:a<2^w)(hb:b<2^w)(h1:Hd f a w)(h2:Hd g b w):Hd (l3 (f.O:Nat) ((2^w-1-f.N:Nat):Int) (g.O:Nat) ((2^w-1-g.N:Nat):Int)) (decide ((a:Int)<(b:Int))).toNat 1:=
 aHB (Int.ofNat_le.mpr (aAw h1)) (Int.ofNat_le.mpr (aAs kf ha h1)) (Int.ofNat_le.mpr (aAw h2)) (Int.ofNat_le.mpr (aAs kg hb h2))
theorem aMy{f g:Ft}{a b w:Nat}(kf:FtOk f w)(ha:a<2^w)(hb:b<2^w)(h1:Hd f a w)(h2:Hd g b w):Hd (mZ w f g) (decide (a=b)).toNat 1:=by
 unfold mZ
 by_cases c1:f.N&&&g.O|||f.O&&&g.N=0
 ·rw[if_neg (by simp[c1])]
  by_cases c2:(f.N|||f.O)&&&(g.N|||g.O)=2^w-1
  ·rw[if_pos c2];have:a=b:=by
    apply xAm;intro i
    by_cases c:i<w
    ·have q:((f.N|||f.O)&&&(g.N|||g.O)).testBit i=true:=by rw[c2,cN,dqT c]
     have z:=(jN _).mp c1 i;rw[yAh,xAp,xAp] at q;rw[xAp,yAh,yAh] at z;have p1:=h1.1 i;have p2:=h1.2.1 i;have p3:=h2.1 i;have p4:=h2.2.1 i
     revert q z p1 p2 p3 p4
     generalize f.N.testBit i=y0;generalize f.O.testBit i=y1;generalize g.N.testBit i=y2;generalize g.O.testBit i=y3;generalize a.testBit i=y4;generalize b.testBit i=y5
     revert y0 y1 y2 y3 y4 y5
     decide
    ·rw[cM ha (by omega),cM hb (by omega)]
   rw[dqT this];exact aHq
  ·rw[if_neg c2];exact aHQ _
 ·rw[if_pos c1];have:a≠b:=by
   rintro rfl;apply c1;rw[jN];intro i;rw[xAp,yAh,yAh];have p1:=h1.1 i;have p2:=h1.2.1 i;have p3:=h2.1 i;have p4:=h2.2.1 i
   revert p1 p2 p3 p4
   generalize f.N.testBit i=y0;generalize f.O.testBit i=y1;generalize g.N.testBit i=y2;generalize g.O.testBit i=y3;generalize a.testBit i=y4
   revert y0 y1 y2 y3 y4
   decide
  rw[dqF this];exact aHc
noncomputable def tw(a w:Nat):Int:=jK a w+((2^(w-1):Nat):Int)
theorem aU2{w:Nat}(hw:1<=w):(2:Nat)^w=2^(w-1)+2^(w-1):=by
 have:(2:Nat)^(w-1+1)=2^(w-1)*2:=yFd ..;rw[show w-1+1=w by omega] at this
 omega
theorem aC4{a w:Nat}(ha:a<2^w)(hw:1<=w):((a^^^2^(w-1):Nat):Int)=tw a w:=by
 have h2:=aU2 hw;unfold tw jK
 by_cases c:2^(w-1)<=a
 ·rw[if_pos c,aCa c (by rw[show w-1+1=w by omega];exact ha)]
  omega
 ·rw[if_neg c,zQ (by omega)]
  omega
theorem aGW{f:Ft}{a w:Nat}(hw:1<=w)(h:Hd f a w)(i:Nat):((tt f w).N.testBit i=true->(a^^^2^(w-1)).testBit i=false)/\((tt f w).O.testBit i=true->(a^^^2^(w-1)).testBit i=true):=by
 have h1:=h.1 i;have h2:=h.2.1 i;show((f.N^^^((f.N^^^f.O)&&&dH 1 w)).testBit i=true->_)/\((f.O^^^((f.N^^^f.O)&&&dH 1 w)).testBit i=true->_);simp only[yAm,yAh,aGa hw,yDg];have key:∀ b n o x:Bool,(n=true->x=false)->(o=true->x=true)->((n ^^ ((n ^^ o)&&b))=true->(x ^^ b)=false)/\((o ^^ ((n ^^ o)&&b))=true->(x ^^ b)=true):=by decide
 exact key _ _ _ _ h1 h2
theorem aJw{f:Ft}{a w:Nat}(kf:FtOk f w)(hd:f.N&&&f.O=0)(hw:1<=w)(ha:a<2^w)(h:Hd f a w):(((tt f w).O:Nat):Int)<=tw a w/\tw a w<=((2^w-1-(tt f w).N:Nat):Int):=by
 have hp:2^(w-1)<2^w:=yBx (by decide) (by omega)
 have lN:(tt f w).N<2^w:=yBs kf.lN (xAj yEv (aCX 1 w));rw[<- aC4 ha hw];exact⟨Int.ofNat_le.mpr (aCn λ i=>(aGW hw h i).2),Int.ofNat_le.mpr (aIC lN (yBs ha hp) λ i=>(aGW hw h i).1)⟩
theorem aLS{f g:Ft}{a b w:Nat}(kf:FtOk f w)(kg:FtOk g w)(fd:f.N&&&f.O=0)(gd:g.N&&&g.O=0)(hw:1<=w)(ha:a<2^w)(hb:b<2^w)(h1:Hd f a w)(h2:Hd g b w):Hd (l3 ((tt f w).O:Nat) ((2^w-1-(tt f w).N:Nat):Int) ((tt g w).O:Nat) ((2^w-1-(tt g w).N:Nat):Int)) (decide (jK a w<jK b w)).toNat 1:=by
 have i1:=aJw kf fd hw ha h1;have i2:=aJw kg gd hw hb h2;have e:decide (jK a w<jK b w)=decide (tw a w<tw b w):=by
  rw[decide_eq_decide];unfold tw;omega
 rw[e];exact aHB i1.1 i1.2 i2.1 i2.2
theorem aMB{t f g:Ft}{c a b w:Nat}(ht:Hd t c 1)(hc:c<2)(h1:Hd f a w)(h2:Hd g b w):Hd (oS t f g) (if c=1 then a else b) w:=by
 unfold oS
 by_cases c1:t.O=1
 ·have:c=1:=by
   have:=ht.2.1 0 (by rw[c1];rfl)
   rcases (show c=0\/c=1 by omega) with rfl | rfl
   ·cases this
   ·rfl
  rw[if_pos c1,if_pos this];exact h1
 ·rw[if_neg c1]
  by_cases c2:t.N=1
  ·have:c=0:=by
    have:=ht.1 0 (by rw[c2];rfl)
    rcases (show c=0\/c=1 by omega) with rfl | rfl
    ·rfl
    ·cases this
   rw[if_pos c2,if_neg (by omega)]
   exact h2
  ·rw[if_neg c2];have go:∀ {z:Nat}{h:Ft},Hd h z w->(∀ i,(f.N&&&g.N).testBit i=true->h.N.testBit i=true)->(∀ i,(f.O&&&g.O).testBit i=true->h.O.testBit i=true)->min f.A g.A<=h.A->Hd ⟨f.N&&&g.N,f.O&&&g.O,min f.A g.A⟩ z w:=λ {z h} q q1 q2 q3 =>
    ⟨λ i hi=>q.1 i (q1 i hi),λ i hi=>q.2.1 i (q2 i hi),rO q3 q.2.2⟩
   have an:∀ {x y:Nat} i,(x&&&y).testBit i=true->x.testBit i=true/\y.testBit i=true:=λ i hi=>by
    rw[yAh,yAk] at hi;exact hi
   split
   ·exact go h1 (λ i hi=>(an i hi).1) (λ i hi=>(an i hi).1) (by omega)
   ·exact go h2 (λ i hi=>(an i hi).2) (λ i hi=>(an i hi).2) (by omega)
theorem aTI(a b:D):aH (.tuple [a,b]) (.int 0)=qq a:=rfl
theorem aVv(a b:D):aH (.tuple [a,b]) (.int 1)=qq b:=rfl
theorem aOD(a:Wd):aV .In (.str a.s) (.tuple [.str "add",.str "sub",.str "mul"])=qq (.bool (decide (a=.add\/a=.sub\/a=.mul))):=by cases a<;>rfl
theorem aVJ(a:Wd):aV .In (.str a.s) (.tuple [.str "and",.str "or",.str "xor"])=qq (.bool (decide (a=.and\/a=.or\/a=.xor))):=by cases a<;>rfl
theorem eE{C:Calls}{i:Nat}{j:Int}{env:aU}{R x:D}{S:aF}(h:env[i]? = qq (qq (.d R)))(e:aH R (.int j)=qq x):ev C (.ix (.var i) (.int j)) env S=qq (.d x,S):=by
 simp only[gS0,h,e]
noncomputable abbrev oe(R Wi Fs:D)(wd:Wd)(v:Int):aU:=[qq (.d R),qq (.d Wi),qq (.d Fs),qq (.d (.str wd.s)),qq (.d (.int v))]
section
variable (C : Calls)(R Wi Fs : D)(v : Int)(S : aF)(wd : Wd)
theorem mP:tv C (.cmp .Eq (.var 3) (.str "in")) (oe R Wi Fs wd v) S=qq (decide (wd=.in),S):=cU rfl (bN wd .in)
theorem fN:tv C (.cmp .Eq (.var 3) (.str "num")) (oe R Wi Fs wd v) S=qq (decide (wd=.num),S):=cU rfl (bN wd .num)
theorem gN:tv C (.cmp .Eq (.var 3) (.str "not")) (oe R Wi Fs wd v) S=qq (decide (wd=.not),S):=cU rfl (bN wd .not)
theorem uK:tv C (.cmp .Eq (.var 3) (.str "pick")) (oe R Wi Fs wd v) S=qq (decide (wd=.pick),S):=cU rfl (bN wd .pick)
theorem rV:tv C (.cmp .In (.var 3) (.con "SUMS" aCH)) (oe R Wi Fs wd v) S=qq (decide (wd=.add\/wd=.sub\/wd=.mul),S):=gR rfl rfl (aOD wd)
theorem iY:tv C (.cmp .In (.var 3) (.con "SHIFTS" rA)) (oe R Wi Fs wd v) S=qq (decide (wd=.left\/wd=.right\/wd=.slide),S):=gR rfl rfl (aB3 wd)
theorem pN:tv C (.cmp .In (.var 3) (.con "COMPARES" qW)) (oe R Wi Fs wd v) S=qq (decide (wd=.same\/wd=.less\/wd=.under),S):=gR rfl rfl (zH wd)
theorem aJR:tv C (.cmp .In (.var 3) (.tup (.cons (.str "and") (.cons (.str "or") (.cons (.str "xor") .nil))))) (oe R Wi Fs wd v) S=qq (decide (wd=.and\/wd=.or\/wd=.xor),S):=gR rfl rfl (aVJ wd)
end
theorem aR6{wd:Wd}(h:wd=.cut\/wd=.wide\/wd=.sign):¬ wd=.in/\¬ wd=.num/\¬ wd=.not/\¬ (wd=.add\/wd=.sub\/wd=.mul)/\¬ (wd=.left\/wd=.right\/wd=.slide)/\¬ (wd=.same\/wd=.less\/wd=.under)/\¬ wd=.pick/\¬ (wd=.and\/wd=.or\/wd=.xor):=by
 rcases h with rfl | rfl | rfl<;>decide
theorem aUW{wd:Wd}(h:wd=.and\/wd=.or\/wd=.xor):¬ wd=.in/\¬ wd=.num/\¬ wd=.not/\¬ (wd=.add\/wd=.sub\/wd=.mul)/\¬ (wd=.left\/wd=.right\/wd=.slide)/\¬ (wd=.same\/wd=.less\/wd=.under)/\¬ wd=.pick:=by
 rcases h with rfl | rfl | rfl<;>decide
theorem aVj{wd:Wd}(h:wd=.left\/wd=.right\/wd=.slide):¬ wd=.in/\¬ wd=.num/\¬ wd=.not/\¬ (wd=.add\/wd=.sub\/wd=.mul):=by
 rcases h with rfl | rfl | rfl<;>decide
section
variable (d : Nat)(R Wi Fs : D)(v : Int)(S : aF)
theorem aN8(f:Ft)(e0:aH R (.int 0)=qq (.str "not"))(e1:aH R (.int 1)=qq (.int v))(ef:aH Fs (.int 0)=qq f.d):cl fns (d+1) 48 [.d R,.d Wi,.d Fs] S=qq (.d (Ft.mk f.O f.N f.A).d,S):=by
 have t1:=mP (aE fns d) R Wi Fs v S .not;have t2:=fN (aE fns d) R Wi Fs v S .not;have t3:=gN (aE fns d) R Wi Fs v S .not;refine cG (S1:=S) rfl d rfl rfl yAf (cF (S1:=S) (w:=.d (.str Wd.not.s)) (eE rfl e0) rfl (cF (S1:=S) (w:=.d (.int v)) (eE rfl e1) rfl (aP t1 (aP t2 (bW t3 (bH ?_))))));simp only[gS0,ef,iH,iE,kA]
theorem aLG(wd:Wd)(aN:wd=.left\/wd=.right\/wd=.slide)(f:Ft)(k:Nat)(g:D)(e0:aH R (.int 0)=qq (.str wd.s))(e1:aH R (.int 1)=qq (.int v))(e3:aH R (.int 3)=qq (.int k))(ef:aH Fs (.int 0)=qq f.d)(hk:cl fns d 41 [.d (.str wd.s),.d (.int v),.d f.d,.d (.int k)] S=qq (.d g,S)):cl fns (d+1) 48 [.d R,.d Wi,.d Fs] S=qq (.d g,S):=by
 have t1:=mP (aE fns d) R Wi Fs v S wd;have t2:=fN (aE fns d) R Wi Fs v S wd;have t3:=gN (aE fns d) R Wi Fs v S wd;have t4:=rV (aE fns d) R Wi Fs v S wd;have t5:=iY (aE fns d) R Wi Fs v S wd;rw[dqT aN] at t5;obtain⟨n1,n2,n3,n4⟩:=aVj aN;rw[dqF n1] at t1;rw[dqF n2] at t2;rw[dqF n3] at t3;rw[dqF n4] at t4;refine cG (S1:=S) rfl d rfl rfl yAf (cF (S1:=S) (w:=.d (.str wd.s)) (eE rfl e0) rfl (cF (S1:=S) (w:=.d (.int v)) (eE rfl e1) rfl (aP t1 (aP t2 (aP t3 (aP t4 (bW t5 (bH ?_))))))));simp only[gS0,ef,e3,hk]
theorem aO4(wd:Wd)(aN:wd=.and\/wd=.or\/wd=.xor)(f g:Ft)(e0:aH R (.int 0)=qq (.str wd.s))(e1:aH R (.int 1)=qq (.int v))(ef:aH Fs (.int 0)=qq f.d)(eg:aH Fs (.int 1)=qq g.d):cl fns (d+3) 48 [.d R,.d Wi,.d Fs] S=qq (.d (bwN wd f g).d,S):=by
 have t1:=mP (aE fns (d+2)) R Wi Fs v S wd;have t2:=fN (aE fns (d+2)) R Wi Fs v S wd;have t3:=gN (aE fns (d+2)) R Wi Fs v S wd;have t4:=rV (aE fns (d+2)) R Wi Fs v S wd;have t5:=iY (aE fns (d+2)) R Wi Fs v S wd;have t6:=pN (aE fns (d+2)) R Wi Fs v S wd;have t7:=uK (aE fns (d+2)) R Wi Fs v S wd;have t8:=aJR (aE fns (d+2)) R Wi Fs v S wd;rw[dqT aN] at t8;obtain⟨n1,n2,n3,n4,n5,n6,n7⟩:=aUW aN;rw[dqF n1] at t1;rw[dqF n2] at t2;rw[dqF n3] at t3;rw[dqF n4] at t4;rw[dqF n5] at t5;rw[dqF n6] at t6;rw[dqF n7] at t7;refine cG (S1:=S) rfl (d+2) rfl rfl yAf (cF (S1:=S) (w:=.d (.str wd.s)) (eE rfl e0) rfl (cF (S1:=S) (w:=.d (.int v)) (eE rfl e1) rfl (aP t1 (aP t2 (aP t3 (aP t4 (aP t5 (aP t6 (aP t7 (bW t8 (bH ?_)))))))))));simp only[gS0,ef,eg,aLY d wd aN f g]
theorem aCc(wd:Wd)(aN:wd=.cut\/wd=.wide\/wd=.sign)(f:Ft)(w:Int)(g:D)(e0:aH R (.int 0)=qq (.str wd.s))(e1:aH R (.int 1)=qq (.int v))(ew:aH Wi (.int 0)=qq (.int w))(ef:aH Fs (.int 0)=qq f.d)(hk:cl fns d 42 [.d (.str wd.s),.d (.int w),.d (.int v),.d f.d] S=qq (.d g,S)):cl fns (d+1) 48 [.d R,.d Wi,.d Fs] S=qq (.d g,S):=by
 have t1:=mP (aE fns d) R Wi Fs v S wd;have t2:=fN (aE fns d) R Wi Fs v S wd;have t3:=gN (aE fns d) R Wi Fs v S wd;have t4:=rV (aE fns d) R Wi Fs v S wd;have t5:=iY (aE fns d) R Wi Fs v S wd;have t6:=pN (aE fns d) R Wi Fs v S wd;have t7:=uK (aE fns d) R Wi Fs v S wd;have t8:=aJR (aE fns d) R Wi Fs v S wd;obtain⟨n1,n2,n3,n4,n5,n6,n7,n8⟩:=aR6 aN;rw[dqF n1] at t1;rw[dqF n2] at t2;rw[dqF n3] at t3;rw[dqF n4] at t4;rw[dqF n5] at t5;rw[dqF n6] at t6;rw[dqF n7] at t7;rw[dqF n8] at t8;refine cG (S1:=S) rfl d rfl rfl yAf (cF (S1:=S) (w:=.d (.str wd.s)) (eE rfl e0) rfl (cF (S1:=S) (w:=.d (.int v)) (eE rfl e1) rfl (aP t1 (aP t2 (aP t3 (aP t4 (aP t5 (aP t6 (aP t7 (aP t8 (bH ?_)))))))))));simp only[gS0,ew,ef,hk]
theorem aCk(n:Nat)(g:Ft)(e1:aH R (.int 1)=qq (.int n))(ho:cl fns (d+3) 48 [.d R,.d Wi,.d Fs] S=qq (.d g.d,S))(hg:FtOk g n)(hn:n<=64):cl fns (d+4) 49 [.d R,.d Wi,.d Fs] S=qq (.d (gJ g n).d,S):=by
 rw[aY rfl (d+3) _ S rfl];simp only[gR1,aJs,ho,e1,aMU d g n hg hn]
end
noncomputable def shN(wd:Wd)(w:Nat)(f:Ft)(k:Nat):Ft:=match wd with
 | .left=>vO w f k
 | .right=>mI w f k
 | _=>uL w f k
theorem aB0(d:Nat)(wd:Wd)(aN:wd=.left\/wd=.right\/wd=.slide)(w:Nat)(f:Ft)(k:Nat)(hf:FtOk f w)(bV:1<=w)(hw:w<=64)(hk:k<=900)(S:aF):cl fns (d+4) 41 [.d (.str wd.s),.d (.int w),.d f.d,.d (.int k)] S=qq (.d (shN wd w f k).d,S):=by
 have t1:=cU (C:=aE fns (d+3)) (i:=0) (S:=S) (x:="left") (env:=[qq (.d (.str wd.s)),qq (.d (.int w)),qq (.d f.d),qq (.d (.int k))]) rfl (bN wd .left);have t2:=cU (C:=aE fns (d+3)) (i:=0) (S:=S) (x:="right") (env:=[qq (.d (.str wd.s)),qq (.d (.int w)),qq (.d f.d),qq (.d (.int k))]) rfl (bN wd .right);rcases aN with rfl | rfl | rfl
 ·refine cG (S1:=S) rfl (d+3) rfl rfl yAf (bW t1 (bH ?_));have hq43:=aO8 (d+1) w f k hf hw (by omega)
  simp only[gS0,hq43]
 ·refine cG (S1:=S) rfl (d+3) rfl rfl yAf (aP t1 (bW t2 (bH ?_)));simp only[gS0,aNL d w f k hw]
 ·refine cG (S1:=S) rfl (d+3) rfl rfl yAf (aP t1 (aP t2 (bH ?_)));simp only[gS0,aN5 d w f k bV hw hk]
theorem aBZ(d:Nat)(f:Ft)(S:aF):cl fns (d+1) 24 [.d f.d] S=qq (.d (.int ((f.N|||f.O:Nat):Int)),S):=by
 rw[aY rfl d _ S rfl];simp only[gR1,aEQ,iH,iE,fA]
theorem lT(n:Nat):(((n:Nat):Int)==1)=(n==1):=by
 rw[yEk,beq_iff_eq,beq_iff_eq];omega
theorem aHS(d w:Nat)(f g:Ft)(hf:f.N<2^w)(hg:g.N<2^w)(hw:w<=64)(S:aF):cl fns (d+3) 44 [.d (.int w),.d f.d,.d g.d] S=qq (.d (l3 (f.O:Nat) ((2^w-1-f.N:Nat):Int) (g.O:Nat) ((2^w-1-g.N:Nat):Int)).d,S):=by
 have g1:=xX d f w hf hw S;have g2:=xX d g w hg hw S;have l1:=tX (d+1) f S;have l2:=tX (d+1) g S;rw[aY rfl (d+2) _ S rfl];unfold l3
 by_cases c1:((2^w-1-f.N:Nat):Int)<((g.O:Nat):Int)
 ·rw[if_pos c1];simp only[gR1,yJ,g1,l2,eG,dqT c1,vD,Tv.d]
 ·rw[if_neg c1]
  by_cases c2:((2^w-1-g.N:Nat):Int)<=((f.O:Nat):Int)
  ·rw[if_pos c2];simp only[gR1,yJ,g1,l2,eG,dqF c1,l1,g2,aIg,dqT c2,uD,Tv.d]
  ·rw[if_neg c2];simp only[gR1,yJ,g1,l2,eG,dqF c1,l1,g2,aIg,dqF c2,qY,Tv.d]
theorem yV(d w:Nat)(f:Ft)(bV:1<=w)(hw:w<=64)(S:aF):cl fns (d+3) 45 [.d f.d,.d (.int w)] S=qq (.d (tt f w).d,S):=by
 have t:cl fns (d+2) 23 [.d (.int 1),.d (.int w)] S=qq (.d (.int ((dH 1 w:Nat):Int)),S):=oY d 1 w S bV hw;rw[aY rfl (d+2) _ S rfl];simp only[gR1,aE6,Ft.d,t,iA,dE]
theorem aPS(d w:Nat)(f g:Ft)(hw:w<=64)(S:aF):cl fns (d+3) 43 [.d (.int w),.d f.d,.d g.d] S=qq (.d (mZ w f g).d,S):=by
 rw[aY rfl (d+2) _ S rfl];unfold mZ
 by_cases c1:f.N&&&g.O|||f.O&&&g.N=0
 ·have d1:(f.N&&&g.O|||f.O&&&g.N==0)=true:=by rw[beq_iff_eq];exact c1
  rw[if_neg (by simp[c1])]
  by_cases c2:(f.N|||f.O)&&&(g.N|||g.O)=2^w-1
  ·have d2:((f.N|||f.O)&&&(g.N|||g.O)==2^w-1)=true:=by rw[beq_iff_eq];exact c2
   rw[if_pos c2];have hq44:=cQ (d+1) w (by omega)
   simp only[gR1,xZ,yS (d+1),pM,fX,d1,aBZ (d+1),dE,hq44,bQ,lV,d2,vD,Tv.d]
  ·have d2:((f.N|||f.O)&&&(g.N|||g.O)==2^w-1)=false:=by rw[beq_eq_false_iff_ne];exact c2
   rw[if_neg c2];have hq45:=cQ (d+1) w (by omega)
   simp only[gR1,xZ,yS (d+1),pM,fX,d1,aBZ (d+1),dE,hq45,bQ,lV,d2,qY,Tv.d]
 ·have d1:(f.N&&&g.O|||f.O&&&g.N==0)=false:=by rw[beq_eq_false_iff_ne];exact c1
  rw[if_pos c1];simp only[gR1,xZ,yS (d+1),pM,fX,d1,uD,Tv.d]
theorem aP1(d:Nat)(t f g:Ft)(S:aF):cl fns (d+1) 47 [.d t.d,.d f.d,.d g.d] S=qq (.d (oS t f g).d,S):=by
 rw[aY rfl d _ S rfl];unfold oS
 by_cases c1:t.O=1
 ·have d1:(t.O==1)=true:=by rw[beq_iff_eq];exact c1
  rw[if_pos c1];simp only[gR1,yO,iE,bQ,lT,d1]
 ·have d1:(t.O==1)=false:=by rw[beq_eq_false_iff_ne];exact c1
  rw[if_neg c1]
  by_cases c2:t.N=1
  ·have d2:(t.N==1)=true:=by rw[beq_iff_eq];exact c2
   rw[if_pos c2];simp only[gR1,yO,iE,iH,bQ,lT,d1,d2]
  ·have d2:(t.N==1)=false:=by rw[beq_eq_false_iff_ne];exact c2
   rw[if_neg c2];simp only[gR1,yO,iE,iH,kA,bQ,lT,d1,d2,dE,kO]
noncomputable def oU(wd:Wd)(w:Nat)(f g:Ft):Ft:=match wd with
 | .same=>mZ w f g
 | .less=>l3 (f.O:Nat) ((2^w-1-f.N:Nat):Int) (g.O:Nat) ((2^w-1-g.N:Nat):Int)
 | _=>l3 ((tt f w).O:Nat) ((2^w-1-(tt f w).N:Nat):Int) ((tt g w).O:Nat) ((2^w-1-(tt g w).N:Nat):Int)
theorem aUi(wd:Wd)(w:Nat)(f g:Ft):oU wd w f g=F1\/oU wd w f g=F0\/oU wd w f g=jL:=by
 unfold oU
 split
 ·exact aTT ..
 ·exact aJP ..
 ·exact aJP ..
structure Ftd(f:Ft)(w:Nat):Prop where
 ok:FtOk f w
 dj:f.N&&&f.O=0
theorem aL6(d:Nat)(wd:Wd)(aN:wd=.same\/wd=.less\/wd=.under)(w:Nat)(f g:Ft)(hf:Ftd f w)(hg:Ftd g w)(bV:1<=w)(hw:w<=64)(S:aF):cl fns (d+4) 46 [.d (.str wd.s),.d (.int w),.d f.d,.d g.d] S=qq (.d (oU wd w f g).d,S):=by
 have t1:=cU (C:=aE fns (d+3)) (i:=0) (S:=S) (x:="same") (env:=[qq (.d (.str wd.s)),qq (.d (.int w)),qq (.d f.d),qq (.d g.d)]) rfl (bN wd .same);have t2:=cU (C:=aE fns (d+3)) (i:=0) (S:=S) (x:="less") (env:=[qq (.d (.str wd.s)),qq (.d (.int w)),qq (.d f.d),qq (.d g.d)]) rfl (bN wd .less);rcases aN with rfl | rfl | rfl
 ·refine cG (S1:=S) rfl (d+3) rfl rfl yAf (bW t1 (bH ?_));simp only[gS0,aPS d w f g hw]
 ·refine cG (S1:=S) rfl (d+3) rfl rfl yAf (aP t1 (bW t2 (bH ?_)));simp only[gS0,aHS d w f g hf.ok.lN hg.ok.lN hw]
 ·refine cG (S1:=S) rfl (d+3) rfl rfl yAf (aP t1 (aP t2 (bH ?_)));simp only[gS0,yV d w f bV hw,yV d w g bV hw,aHS d w (tt f w) (tt g w) (aJi hf.ok hf.dj bV) (aJi hg.ok hg.dj bV) hw]
noncomputable def Sw.wd:Sw->Wd
 | .add=>.add
 | .sub=>.sub
 | .mul=>.mul
theorem xQ(x:Int)(L:Nat):bY .BitAnd (.int x) (.int ((2^L-1:Nat):Int))=qq (.int ((rs x L:Nat):Int)):=by
 have hp:=xAf L
 by_cases c:0<=x
 ·obtain⟨n,rfl⟩:∃ n:Nat,x=(n:Nat):=⟨x.toNat,by omega⟩
  rw[dE,aS1,yCp]
 ·have h1:decide ((0:Int)<=x)=false:=dqF c;have h2:decide ((0:Int)<=((2^L-1:Nat):Int))=true:=dqT (by omega)
  obtain⟨b,hb⟩:∃ b:Nat,yBq x=(b:Nat):=⟨(yBq x).toNat,by unfold yBq;omega⟩
  have hx:x = -((b:Nat):Int)-1:=by unfold yBq at hb;omega
  have e:(2^L-1)&&&b=b%2^L:=by rw[Nat.and_comm,yCp]
  have hm:=yHl b hp;have hr:=nZ x L;have e2:x%((2^L:Nat):Int)=((2^L:Nat):Int)-1-((b%2^L:Nat):Int):=by
   have hd:((b:Nat):Int)=((2^L:Nat):Int)*((b/2^L:Nat):Int)+((b%2^L:Nat):Int):=by
    rw[<- yCi,<- Int.natCast_add,yEm]
   have hx2:x=(((2^L:Nat):Int)-1-((b%2^L:Nat):Int))+((2^L:Nat):Int)*(-((b/2^L:Nat):Int)-1):=by
    rw[hx,hd,Int.mul_sub,Int.mul_neg,Int.mul_one];omega
   rw[hx2,Int.add_mul_emod_self_left,Int.emod_eq_of_lt (by omega) (by omega)]
  simp only[bY,lC];unfold yEg;rw[h1,h2];simp only[hb,yAp,e];congr 2;omega
theorem aBx(d:Nat)(s:Sw)(x y:Nat)(hx:x<2^64)(S:aF):cl fns (d+1) 28 [.d (.str s.wd.s),.d (.int x),.d (.int y)] S=qq (.d (.int (s.oc (x:Nat) (y:Nat))),S):=by
 have t1:=cU (C:=aE fns d) (i:=0) (S:=S) (x:="add") (env:=[qq (.d (.str s.wd.s)),qq (.d (.int x)),qq (.d (.int y))]) rfl (bN s.wd .add);have t2:=cU (C:=aE fns d) (i:=0) (S:=S) (x:="sub") (env:=[qq (.d (.str s.wd.s)),qq (.d (.int x)),qq (.d (.int y))]) rfl (bN s.wd .sub);cases s with
 | add =>
   refine cG (S1:=S) rfl d rfl rfl yAf (bW t1 (bH ?_));simp only[gS0,cW]
 | sub =>
   refine cG (S1:=S) rfl d rfl rfl yAf (aP t1 (bW t2 (bH ?_)));simp only[gS0,cS]
 | mul =>
   refine cG (S1:=S) rfl d rfl rfl yAf (aP t1 (aP t2 (bH ?_)));have hq46:=nO (i:=((x:Nat):Int)) (j:=((y:Nat):Int)) (by omega) (by omega)
   simp only[gS0,hq46]
theorem p64{n w:Nat}(h:n<2^w)(hw:w<=64):n<2^64:=xAc h (yAl (by decide) hw)
theorem aPP(d:Nat)(s:Sw)(w:Nat)(f g:Ft)(hf:FtOk f w)(hw:w<=64)(S:aF):cl fns (d+3) 29 [.d (.str s.wd.s),.d f.d,.d g.d] S=qq (.d (.tuple [.int ((sQ s f g:Nat):Int),.int ((kC s f g:Nat):Int)]),S):=by
 have hL:=aCl (g:=g) hf;have e1:=aC8 d ((f.N|||f.O)&&&(g.N|||g.O)) S
 have e2:=cQ (d+1) (fP f g) (show fP f g<=100000 by omega) S
 rw[aY rfl (d+2) _ S rfl];simp only[evs,fQ,aFa,aBZ (d+1),dE];rw[e1];simp only[evs,show lr ((f.N|||f.O)&&&(g.N|||g.O))=fP f g from rfl]
 rw[e2];simp only[gS0,tX (d+1),aBx (d+1) s f.O g.O (p64 hf.lO hw),xQ,iA]
theorem aMl(d:Nat)(s:Sw)(w:Nat)(f g:Ft)(hf:FtOk f w)(hg:FtOk g w)(hw:w<=64)(S:aF):cl fns (d+3) 31 [.d (.str s.wd.s),.d (.int w),.d f.d,.d g.d] S=qq (.d (.tuple [.int (fU s w f g),.int (fW s w f g)]),S):=by
 have g1:=xX d f w hf.lN hw S;have g2:=xX d g w hg.lN hw S;have l1:=tX (d+1) f S;have l2:=tX (d+1) g S;have hp:=xAf w;have o1:=aBx (d+1) s f.O g.O (p64 hf.lO hw) S;have o2:=aBx (d+1) s (2^w-1-f.N) (2^w-1-g.N) (p64 (w:=w) (by omega) hw) S
 have t1:aV .Eq (.str s.wd.s) (.str "sub")=qq (.bool (decide (s.wd=.sub))):=bN s.wd .sub;rw[aY rfl (d+2) _ S rfl];cases s with
 | sub =>
   have t:aV .Eq (.str Sw.sub.wd.s) (.str "sub")=qq (.bool true):=t1;simp only[gR1,zL,t,g1,g2,l1,l2,cS]
 | add =>
   have t:aV .Eq (.str Sw.add.wd.s) (.str "sub")=qq (.bool false):=t1;simp only[gR1,zL,t,g1,g2,l1,l2,o1,o2]
 | mul =>
   have t:aV .Eq (.str Sw.mul.wd.s) (.str "sub")=qq (.bool false):=t1;simp only[gR1,zL,t,g1,g2,l1,l2,o1,o2]
theorem aNa(d l g w:Nat)(S:aF)(hl:l<2^w)(hg:g<2^w)(hw:w<=64):cl fns (d+3) 6 [.d (.int l),.d (.int g),.d (.int w)] S=qq (.d (.tuple [.int (tY l g w:Nat),.int (oA l g w:Nat)]),S):=by
 have hx:l^^^g<2^10000:=aIM (yBs hl hg) (by omega)
 rw[aY rfl (d+2) _ S rfl];have hq47:=cQ (d+1) w (by omega)
 simp only[gR1,aEY,hq47,iA,aGL d (l^^^g) _ hx,dE]
theorem aTo(s:Sw)(w:Nat)(f g:Ft){a b:Nat}(hf:FtOk f w)(hg:FtOk g w)(ha:a<2^w)(hb:b<2^w)(h1:Hd f a w)(h2:Hd g b w):fU s w f g<=fW s w f g:=by
 have:=aJc s hf hg ha hb h1 h2;omega
theorem aP8(d:Nat)(s:Sw)(w:Nat)(f g:Ft)(hf:FtOk f w)(hg:FtOk g w)(hb:fU s w f g<=fW s w f g)(hw:w<=64)(S:aF):cl fns (d+4) 32 [.d (.str s.wd.s),.d (.int w),.d f.d,.d g.d] S=qq (.d (.tuple [.int ((qO s w f g:Nat):Int),.int ((qN s w f g:Nat):Int)]),S):=by
 have b1:=aMl d s w f g hf hg hw S;have hp:=xAf w;rw[aY rfl (d+3) _ S rfl];unfold qO qN
 by_cases c1:fU s w f g<0
 ·rw[if_pos (.inl c1),if_pos (.inl c1)];simp only[gR1,yM,b1,eG,dqT c1]
 ·by_cases c2:((2^w-1:Nat):Int)<fW s w f g
  ·rw[if_pos (.inr c2),if_pos (.inr c2)];have hq48:=cQ (d+2) w (by omega)
   simp only[gR1,yM,b1,eG,dqF c1,hq48,gM,dqT c2]
  ·have c:¬ (fU s w f g<0\/fW s w f g>((2^w-1:Nat):Int)):=λ h=>h.elim c1 c2
   rw[if_neg c,if_neg c];obtain⟨l,hl⟩:∃ l:Nat,fU s w f g=(l:Nat):=⟨(fU s w f g).toNat,by omega⟩
   obtain⟨u,hu⟩:∃ u:Nat,fW s w f g=(u:Nat):=⟨(fW s w f g).toNat,by omega⟩
   rw[hl] at c1;rw[hu] at c2;rw[hl,hu] at b1 hb;rw[hl,hu,yAp,yAp];have hq49:=cQ (d+2) w (by omega)
   have hq50:=aNa d l u w S (by omega) (by omega) hw
   simp only[gR1,yM,b1,eG,dqF c1,hq49,gM,dqF c2,hq50]
theorem aQk(d:Nat)(s:Sw)(w:Nat)(f g:Ft)(hw:w<=64)(S:aF):cl fns (d+3) 30 [.d (.str s.wd.s),.d (.int w),.d f.d,.d g.d] S=qq (.d (.int ((qL s w f g:Nat):Int)),S):=by
 rw[aY rfl (d+2) _ S rfl];cases s with
 | add =>
   have t:aV .NotEq (.str Sw.add.wd.s) (.str "mul")=qq (.bool true):=by kernel_rfl
   simp only[gR1,xT,t]
 | sub =>
   have t:aV .NotEq (.str Sw.sub.wd.s) (.str "mul")=qq (.bool true):=by kernel_rfl
   simp only[gR1,xT,t]
 | mul =>
   have t:aV .NotEq (.str Sw.mul.wd.s) (.str "mul")=qq (.bool false):=by kernel_rfl
   have e:((lr f.N:Nat):Int)+((lr g.N:Nat):Int)=((lr f.N+lr g.N:Nat):Int):=by omega
   have hq51:=cQ (d+1) (min w (lr f.N+lr g.N)) (by omega)
   simp only[gR1,xT,t,iH,aC8 d,cW,e,kO,hq51]
theorem aM7(d:Nat)(s:Sw)(f g:Ft)(S:aF):cl fns (d+1) 33 [.d (.str s.wd.s),.d f.d,.d g.d] S=qq (.d (.int ((kE s f g:Nat):Int)),S):=by
 have e:∀ m:Nat,qH [.int 1,.int (((m:Nat):Int)-1)]=qq (.int ((max 1 (m-1):Nat):Int)):=λ m=>aBT m 1
 rw[aY rfl d _ S rfl];cases s with
 | add =>
   have t:aV .Eq (.str Sw.add.wd.s) (.str "mul")=qq (.bool false):=bN .add .mul;simp only[gR1,xY,t,kA,kO,cS,e]
 | sub =>
   have t:aV .Eq (.str Sw.sub.wd.s) (.str "mul")=qq (.bool false):=bN .sub .mul;simp only[gR1,xY,t,kA,kO,cS,e]
 | mul =>
   have t:aV .Eq (.str Sw.mul.wd.s) (.str "mul")=qq (.bool true):=bN .mul .mul;simp only[gR1,xY,t]
theorem aS4(d:Nat)(s:Sw)(w:Nat)(f g:Ft)(hf:FtOk f w)(hg:FtOk g w)(hb:fU s w f g<=fW s w f g)(hw:w<=64)(S:aF):cl fns (d+5) 34 [.d (.str s.wd.s),.d (.int w),.d f.d,.d g.d] S=qq (.d (wJ s w f g).d,S):=by
 rw[aY rfl (d+4) _ S rfl];simp only[gR1,aFq,aPP (d+1) s w f g hf hw,aP8 d s w f g hf hg hb hw,aTI,aVv,fA,aQk (d+1) s w f g hw,aM7 (d+3) s f g]
section
variable (d : Nat)(R Wi Fs : D)(v : Nat)(S : aF)
theorem aNS(s:Sw)(f g:Ft)(e0:aH R (.int 0)=qq (.str s.wd.s))(e1:aH R (.int 1)=qq (.int v))(ef:aH Fs (.int 0)=qq f.d)(eg:aH Fs (.int 1)=qq g.d)(hf:FtOk f v)(hg:FtOk g v)(hb:fU s v f g<=fW s v f g)(hv:v<=64):cl fns (d+6) 48 [.d R,.d Wi,.d Fs] S=qq (.d (wJ s v f g).d,S):=by
 have aN:s.wd=.add\/s.wd=.sub\/s.wd=.mul:=by
  cases s
  ·exact .inl rfl
  ·exact .inr (.inl rfl)
  ·exact .inr (.inr rfl)
 have t1:=mP (aE fns (d+5)) R Wi Fs (v:Nat) S s.wd;have t2:=fN (aE fns (d+5)) R Wi Fs (v:Nat) S s.wd;have t3:=gN (aE fns (d+5)) R Wi Fs (v:Nat) S s.wd;have t4:=rV (aE fns (d+5)) R Wi Fs (v:Nat) S s.wd;rw[dqT aN] at t4;rw[dqF (by rcases aN with h | h | h<;>rw[h]<;>decide)] at t1 t2 t3
 refine cG (S1:=S) rfl (d+5) rfl rfl yAf (cF (S1:=S) (w:=.d (.str s.wd.s)) (eE rfl e0) rfl (cF (S1:=S) (w:=.d (.int v)) (eE rfl e1) rfl (aP t1 (aP t2 (aP t3 (bW t4 (bH ?_)))))));simp only[gS0,ef,eg,aS4 d s v f g hf hg hb hv]
end
section
variable {f : Ft}{w : Nat}(hf : FtOk f w)(hd : f.N&&&f.O = 0)(bV : 1 <= w)
include hf hd bV
theorem aPb(k:Nat):FtOk (vO w f k) w:=by
 have m:=aHN (w:=w) k hd;have:=hf.aw;exact⟨m.lN,m.lO,by show 1<=max 1 (f.A-k);omega,by show max 1 (f.A-k)<=w;omega⟩
theorem aNP(k:Nat):FtOk (mI w f k) w:=by
 have m:=aF8 k hf hd;have h1:=hf.aw;have h2:=hf.a1;refine⟨m.lN,m.lO,?_,?_⟩
 ·show 1<=if k=0 then f.A else 1
  split<;>omega
 ·show(if k=0 then f.A else 1)<=w
  split<;>omega
theorem aNH(k:Nat):FtOk (uL w f k) w:=by
 have m:=aF9 k bV hf hd;have h1:=hf.a1;exact⟨m.lN,m.lO,by show 1<=min w (f.A+k);omega,by show min w (f.A+k)<=w;omega⟩
theorem aTj{v:Nat}(hv1:1<=v)(hv:v<=w):FtOk (vZ w v f) v:=by
 have m:=aIt w v hd;have h1:=hf.aw;exact⟨m.lN,m.lO,by show 1<=max 1 (f.A-(w-v));omega,by show max 1 (f.A-(w-v))<=v;omega⟩
theorem aPx{v:Nat}(hv:w<=v):FtOk (mK w v f) v:=by
 have m:=aG2 hv hf hd;have h1:=hf.aw;have h2:=hf.a1;refine⟨m.lN,m.lO,?_,?_⟩
 ·show 1<=if v=w then f.A else 1
  split<;>omega
 ·show(if v=w then f.A else 1)<=v
  split<;>omega
theorem aQb{v:Nat}(hv:w<=v):FtOk (vJ w v f) v:=by
 have m:=aHT bV hv hf hd;have h1:=hf.aw;have h2:=hf.a1;exact⟨m.lN,m.lO,by show 1<=f.A+(v-w);omega,by show f.A+(v-w)<=v;omega⟩
end
theorem aVb{b:Nat}{f g:Ft}{w:Nat}(hb:b=0\/b=1\/b=2)(hf:FtOk f w)(hd:f.N&&&f.O=0)(hg:FtOk g w)(he:g.N&&&g.O=0):FtOk (tB b f g) w:=by
 have m:=aJo b hb hf hd hg he;have h1:=hf.a1;have h2:=hg.a1;have h3:=hf.aw;rcases hb with rfl | rfl | rfl<;>exact⟨m.lN,m.lO,by show 1<=min f.A g.A;omega,by show min f.A g.A<=w;omega⟩
section
variable (d : Nat)(R Wi Fs : D)(v : Int)(S : aF)
theorem aMq(wd:Wd)(aN:wd=.same\/wd=.less\/wd=.under)(w:Nat)(f g:Ft)(e0:aH R (.int 0)=qq (.str wd.s))(e1:aH R (.int 1)=qq (.int v))(ew:aH Wi (.int 0)=qq (.int w))(ef:aH Fs (.int 0)=qq f.d)(eg:aH Fs (.int 1)=qq g.d)(hf:Ftd f w)(hg:Ftd g w)(bV:1<=w)(hw:w<=64):cl fns (d+5) 48 [.d R,.d Wi,.d Fs] S=qq (.d (oU wd w f g).d,S):=by
 have t1:=mP (aE fns (d+4)) R Wi Fs v S wd;have t2:=fN (aE fns (d+4)) R Wi Fs v S wd;have t3:=gN (aE fns (d+4)) R Wi Fs v S wd;have t4:=rV (aE fns (d+4)) R Wi Fs v S wd;have t5:=iY (aE fns (d+4)) R Wi Fs v S wd;have t6:=pN (aE fns (d+4)) R Wi Fs v S wd;rw[dqT aN] at t6;rw[dqF (by rcases aN with rfl | rfl | rfl<;>decide)] at t1 t2 t3 t4 t5
 refine cG (S1:=S) rfl (d+4) rfl rfl yAf (cF (S1:=S) (w:=.d (.str wd.s)) (eE rfl e0) rfl (cF (S1:=S) (w:=.d (.int v)) (eE rfl e1) rfl (aP t1 (aP t2 (aP t3 (aP t4 (aP t5 (bW t6 (bH ?_)))))))));simp only[gS0,ew,ef,eg,aL6 d wd aN w f g hf hg bV hw]
theorem aL0(t f g:Ft)(e0:aH R (.int 0)=qq (.str "pick"))(e1:aH R (.int 1)=qq (.int v))(et:aH Fs (.int 0)=qq t.d)(ef:aH Fs (.int 1)=qq f.d)(eg:aH Fs (.int 2)=qq g.d):cl fns (d+2) 48 [.d R,.d Wi,.d Fs] S=qq (.d (oS t f g).d,S):=by
 have t1:=mP (aE fns (d+1)) R Wi Fs v S .pick;have t2:=fN (aE fns (d+1)) R Wi Fs v S .pick;have t3:=gN (aE fns (d+1)) R Wi Fs v S .pick;have t4:=rV (aE fns (d+1)) R Wi Fs v S .pick;have t5:=iY (aE fns (d+1)) R Wi Fs v S .pick;have t6:=pN (aE fns (d+1)) R Wi Fs v S .pick;have t7:=uK (aE fns (d+1)) R Wi Fs v S .pick;refine cG (S1:=S) rfl (d+1) rfl rfl yAf (cF (S1:=S) (w:=.d (.str Wd.pick.s)) (eE rfl e0) rfl (cF (S1:=S) (w:=.d (.int v)) (eE rfl e1) rfl (aP t1 (aP t2 (aP t3 (aP t4 (aP t5 (aP t6 (bW t7 (bH ?_))))))))));simp only[gS0,et,ef,eg,aP1 d t f g]
end
structure Op(f:Ft)(w:Nat):Prop where
 ok:FtOk f w
 ho:∃ a,a<2^w/\Hd f a w
 w1:1<=w
 w2:w<=64
theorem Op.dj{f:Ft}{w:Nat}(o:Op f w):f.N&&&f.O=0:=by
 obtain⟨a,_,h⟩:=o.ho;exact aWB h
noncomputable def bB:Wd->Nat
 | .in | .num=>0
 | .not | .left | .right | .slide | .cut | .wide | .sign=>1
 | .pick=>3
 | _=>2
theorem aP0(wd:Wd):aAJ tH (.str wd.s)=qq (.int (bB wd:Nat)):=by cases wd<;>kernel_rfl
theorem oD(r:Rw):aH r.d (.int 0)=qq (.str r.wd.s):=iZ (xs:=.str r.wd.s::nD r.w::r.args.map nD) (k:=0) rfl
theorem aGT{fa:FE}{fl fh:FO}{env:aU}{S:aF}(r:Rw)(c:Nat)(h1:fa env S=qq (.d r.d,S))(h2:fl env S=qq (qq 2,S))(h3:fh env S=qq (qq ((2+c:Nat):Int),S)):oR fa fl fh env S=qq (.d (.tuple ((r.args.take c).map nD)),S):=by
 have i2:HT.sIx (yHk r.wd.s::nD r.w::r.args.map nD).length 0 (qq 2)=2:=by
  rw[show(2:Int)=((2:Nat):Int) from rfl,HT.sIx_nat]
  simp
 have e:iG (yHk r.wd.s::nD r.w::r.args.map nD) (qq 2) (qq ((2+c:Nat):Int))=(r.args.take c).map nD:=by
  unfold iG;rw[i2,HT.sIx_nat];simp only[List.drop_succ_cons,yEp,yBf,yAd];rw[List.map_take];rcases Nat.le_total c r.args.length with z | z
  ·rw[Nat.min_eq_left (by omega),show 2+c-2=c by omega]
  ·rw[yHd (by omega),yDh (by simp),yDh (by simpa using z)]
 unfold oR;rw[h1,oB];simp only[];rw[h2,oB];simp only[];rw[h3,oB];simp only[dr,oB,Rw.d];rw[e]
theorem qT(d:Nat)(r:Rw)(S:aF):cl fns (d+1) 7 [.d r.d] S=qq (.d (.tuple ((r.args.take (bB r.wd)).map nD)),S):=by
 have e2:(2:Int)+((bB r.wd:Nat):Int)=((2+bB r.wd:Nat):Int):=by omega
 have sl:ev (aE fns d) (.sl (.var 0) (.cons (.int 2) .nil) (.cons (.bin .Add (.int 2) (.tab "OPERAND_COUNTS" tH (.ix (.var 0) (.int 0)))) .nil)) [qq (.d r.d)] S=qq (.d (.tuple ((r.args.take (bB r.wd)).map nD)),S):=by
  simp only[aAn];refine aGT r (bB r.wd) (by simp only[evs]) (by simp only[evs,lG]) ?_
  simp only[gS0,lG,oD,aP0,cW,e2]
 rw[aY rfl d _ S rfl];show((dR (oO (ev (aE fns d) (.sl (.var 0) (.cons (.int 2) .nil) (.cons (.bin .Add (.int 2) (.tab "OPERAND_COUNTS" tH (.ix (.var 0) (.int 0)))) .nil)))) sG) [qq (.d r.d)] S).bind _=_;simp only[dR,oO,sl,oB,jY,yAf]
inductive RwOk:Rw->List Nat->Prop
 | inp {w:Nat} (h1:1<=w) (h2:w<=64):RwOk ⟨.in,w,[]⟩ []
 | num {w n:Nat} (h1:1<=w) (h2:w<=64) (hn:n<2^w):RwOk ⟨.num,w,[n]⟩ []
 | nt {w a:Nat} (h1:1<=w) (h2:w<=64):RwOk ⟨.not,w,[a]⟩ [w]
 | sh {wd:Wd}{w a k:Nat} (h1:1<=w) (h2:w<=64) (aN:wd=.left\/wd=.right\/wd=.slide) (hk:k<64):RwOk ⟨wd,w,[a,k]⟩ [w]
 | cut {w v a:Nat} (h1:1<=w) (hv:w<=v) (h2:v<=64):RwOk ⟨.cut,w,[a]⟩ [v]
 | wide {w v a:Nat} (h1:1<=v) (hv:v<=w) (h2:w<=64):RwOk ⟨.wide,w,[a]⟩ [v]
 | sign {w v a:Nat} (h1:1<=v) (hv:v<=w) (h2:w<=64):RwOk ⟨.sign,w,[a]⟩ [v]
 | bw {wd:Wd}{w a b:Nat} (h1:1<=w) (h2:w<=64) (aN:wd=.and\/wd=.or\/wd=.xor):RwOk ⟨wd,w,[a,b]⟩ [w,w]
 | sm {s:Sw}{w a b:Nat} (h1:1<=w) (h2:w<=64):RwOk ⟨s.wd,w,[a,b]⟩ [w,w]
 | cmp {wd:Wd}{v a b:Nat} (h1:1<=v) (h2:v<=64) (aN:wd=.same\/wd=.less\/wd=.under):RwOk ⟨wd,1,[a,b]⟩ [v,v]
 | pick {w c a b:Nat} (h1:1<=w) (h2:w<=64):RwOk ⟨.pick,w,[c,a,b]⟩ [1,w,w]
noncomputable def nB:List Nat->List Nat->Prop
 | w::ws,n::ns=>n<2^w/\nB ws ns
 | [],[]=>True
 | _,_=>False
theorem eP{w:Nat}{ns:List Nat}(h:nB [w] ns):∃ a,ns=[a]/\a<2^w:=by
 rcases ns with _ | ⟨a,_ | ⟨b,r⟩⟩
 ·exact h.elim
 ·exact⟨a,rfl,h.1⟩
 ·exact h.2.elim
theorem kB{w v:Nat}{ns:List Nat}(h:nB [w,v] ns):∃ a b,ns=[a,b]/\a<2^w/\b<2^v:=by
 rcases ns with _ | ⟨a,_ | ⟨b,_ | ⟨c,r⟩⟩⟩
 ·exact h.elim
 ·exact h.2.elim
 ·exact⟨a,b,rfl,h.1,h.2.1⟩
 ·exact h.2.2.elim
theorem aAG{w v u:Nat}{ns:List Nat}(h:nB [w,v,u] ns):∃ a b c,ns=[a,b,c]/\a<2^w/\b<2^v/\c<2^u:=by
 rcases ns with _ | ⟨a,_ | ⟨b,_ | ⟨c,_ | ⟨e,r⟩⟩⟩⟩
 ·exact h.elim
 ·exact h.2.elim
 ·exact h.2.2.elim
 ·exact⟨a,b,c,rfl,h.1,h.2.1,h.2.2.1⟩
 ·exact h.2.2.2.elim
noncomputable def shV(wd:Wd)(w a k:Nat):Nat:=match wd with
 | .left=>a*2^k%2^w
 | .right=>a/2^k
 | _=>dD a w (w+k)/2^k
noncomputable def cmV(wd:Wd)(w a b:Nat):Bool:=match wd with
 | .same=>decide (a=b)
 | .less=>decide ((a:Int)<(b:Int))
 | _=>decide (jK a w<jK b w)
noncomputable def xB(wd:Wd)(w a b:Nat):Nat:=match wd with
 | .and=>a&&&b
 | .or=>a|||b
 | .xor=>a^^^b
 | .add=>rs ((a:Nat)+(b:Nat):Int) w
 | .sub=>rs ((a:Nat)-(b:Nat):Int) w
 | _=>rs ((a:Nat)*(b:Nat):Int) w
noncomputable def g0(l:List Nat)(i:Nat):Nat:=l.getD i 0
noncomputable def cH(r:Rw)(ws ns:List Nat):Nat:=match r.wd with
 | .in=>0
 | .num=>g0 r.args 0
 | .not=>2^r.w-1-g0 ns 0
 | .left | .right | .slide=>shV r.wd r.w (g0 ns 0) (g0 r.args 1)
 | .cut=>g0 ns 0%2^r.w
 | .wide=>g0 ns 0
 | .sign=>dD (g0 ns 0) (g0 ws 0) r.w
 | .same | .less | .under=>(cmV r.wd (g0 ws 0) (g0 ns 0) (g0 ns 1)).toNat
 | .pick=>if g0 ns 0=1 then g0 ns 1 else g0 ns 2
 | wd=>xB wd r.w (g0 ns 0) (g0 ns 1)
theorem aHu{n w:Nat}(hn:n<2^w):n^^^(2^w-1)=2^w-1-n:=by
 apply xAm;intro i;rw[yAm,cN];have:=nW hn i;unfold oP at this;rw[this]
 by_cases c:i<w
 ·rw[dqT c,yAn];cases n.testBit i<;>rfl
 ·rw[dqF c,cM hn (by omega)]
  rfl
theorem aFU(d a w:Nat)(bV:1<=w)(hw:w<=64)(S:aF):cl fns (d+1) 51 [.d (.int a),.d (.int w)] S=qq (.d (.int ((a^^^2^(w-1):Nat):Int)),S):=by
 have e1:(w:Int)-1=((w-1:Nat):Int):=by omega
 rw[aY rfl d _ S rfl];have hq52:=eX (show w-1<=100000 by omega)
 simp only[gR1,aHR,cS,e1,hq52,iA]
theorem aB2{C:Calls}{env:aU}{S:aF}{i:Nat}{b:Bool}(h:env[i]? = qq (qq (.d (.bool b)))):ev C (.ite (.var i) (.int 1) (.int 0)) env S=qq (.d (.int ((b.toNat:Nat):Int)),S):=by
 cases b
 ·simp only[gS0,h]
 ·simp only[gS0,h]
theorem aLn(d:Nat)(wd:Wd)(aN:wd=.same\/wd=.less\/wd=.under)(w a b:Nat)(bV:1<=w)(hw:w<=64)(ha:a<2^w)(hb:b<2^w)(S:aF):cl fns (d+2) 52 [.d (.str wd.s),.d (.int w),.d (.int a),.d (.int b)] S=qq (.d (.int (((cmV wd w a b).toNat:Nat):Int)),S):=by
 have t1:=cU (C:=aE fns (d+1)) (i:=0) (S:=S) (x:="same") (env:=[qq (.d (.str wd.s)),qq (.d (.int w)),qq (.d (.int a)),qq (.d (.int b)),qz]) rfl (bN wd .same);have t2:=cU (C:=aE fns (d+1)) (i:=0) (S:=S) (x:="less") (env:=[qq (.d (.str wd.s)),qq (.d (.int w)),qq (.d (.int a)),qq (.d (.int b)),qz]) rfl (bN wd .less);have e:(a==b)=decide (a=b):=by rw[yEk,beq_iff_eq,decide_eq_true_eq]
 rcases aN with rfl | rfl | rfl
 ·refine cG (S1:=S) rfl (d+1) rfl rfl yAf (gP (pS t1 (mE (w:=.d (.bool (decide (a=b)))) ?_)) (bH (aB2 rfl)));simp only[gS0,bQ,lV,e]
 ·refine cG (S1:=S) rfl (d+1) rfl rfl yAf (gP (sC t1 (aCW (pS t2 (mE (w:=.d (.bool (decide ((a:Int)<(b:Int))))) ?_)))) (bH (aB2 rfl)));simp only[gS0,eG]
 ·refine cG (S1:=S) rfl (d+1) rfl rfl yAf (gP (sC t1 (aCW (sC t2 (mE (w:=.d (.bool (decide (jK a w<jK b w)))) ?_)))) (bH (aB2 rfl)));have e2:decide (tw a w<tw b w)=decide (jK a w<jK b w):=by
   rw[decide_eq_decide];unfold tw;omega
  simp only[gS0,aFU d a w bV hw,aFU d b w bV hw,eG,aC4 ha bV,aC4 hb bV,e2]
theorem aFI(n w:Nat):n&&&(2^w-1)=n%2^w:=yCp n w
theorem aL9(d:Nat)(wd:Wd)(aN:wd=.left\/wd=.right\/wd=.slide)(w a k:Nat)(bV:1<=w)(hw:w<=64)(ha:a<2^w)(hk:k<=900)(S:aF):cl fns (d+3) 53 [.d (.str wd.s),.d (.int w),.d (.int a),.d (.int k)] S=qq (.d (.int ((shV wd w a k:Nat):Int)),S):=by
 have t1:=cU (C:=aE fns (d+2)) (i:=0) (S:=S) (x:="left") (env:=[qq (.d (.str wd.s)),qq (.d (.int w)),qq (.d (.int a)),qq (.d (.int k))]) rfl (bN wd .left);have t2:=cU (C:=aE fns (d+2)) (i:=0) (S:=S) (x:="right") (env:=[qq (.d (.str wd.s)),qq (.d (.int w)),qq (.d (.int a)),qq (.d (.int k))]) rfl (bN wd .right);have e1:(w:Int)+(k:Int)=((w+k:Nat):Int):=by omega
 rcases aN with rfl | rfl | rfl
 ·refine cG (S1:=S) rfl (d+2) rfl rfl yAf (bW t1 (bH ?_));have hq53:=rE ha (show w+k<=100000 by omega)
  have hq54:=cQ (d+1) w (by omega)
  simp only[gS0,hq53,hq54,dE,aFI]
 ·refine cG (S1:=S) rfl (d+2) rfl rfl yAf (aP t1 (bW t2 (bH ?_)));simp only[gS0,fL]
 ·refine cG (S1:=S) rfl (d+2) rfl rfl yAf (aP t1 (aP t2 (bH ?_)));have hq55:=qR d a w (w+k) S (by omega) (by omega) hw
  simp only[gS0,cW,e1,hq55,fL]
theorem aLs(d:Nat)(wd:Wd)(aN:(wd=.and\/wd=.or\/wd=.xor)\/wd=.add\/wd=.sub\/wd=.mul)(w a b:Nat)(hw:w<=64)(ha:a<2^w)(S:aF):cl fns (d+2) 54 [.d (.str wd.s),.d (.int w),.d (.int a),.d (.int b)] S=qq (.d (.int ((xB wd w a b:Nat):Int)),S):=by
 have t:∀ (x:Str) (v:Wd),x=v.s->tv (aE fns (d+1)) (.cmp .Eq (.var 0) (.str x)) [qq (.d (.str wd.s)),qq (.d (.int w)),qq (.d (.int a)),qq (.d (.int b))] S=qq (decide (wd=v),S):=λ x v hx=>by
  subst hx;exact cU rfl (bN wd v)
 have t1:=t "and" .and rfl;have t2:=t "or" .or rfl;have t3:=t "xor" .xor rfl;have t4:=t "add" .add rfl;have t5:=t "sub" .sub rfl;have h64:=p64 ha hw;rcases aN with (rfl | rfl | rfl) | rfl | rfl | rfl
 ·refine cG (S1:=S) rfl (d+1) rfl rfl yAf (bW t1 (bH ?_));simp only[gS0,dE]
 ·refine cG (S1:=S) rfl (d+1) rfl rfl yAf (aP t1 (bW t2 (bH ?_)));simp only[gS0,fA]
 ·refine cG (S1:=S) rfl (d+1) rfl rfl yAf (aP t1 (aP t2 (bW t3 (bH ?_))));simp only[gS0,iA]
 ·refine cG (S1:=S) rfl (d+1) rfl rfl yAf (aP t1 (aP t2 (aP t3 (bW t4 (bH ?_)))));have hq56:=cQ d w (by omega)
  simp only[gS0,cW,hq56,xQ]
 ·refine cG (S1:=S) rfl (d+1) rfl rfl yAf (aP t1 (aP t2 (aP t3 (aP t4 (bW t5 (bH ?_))))));have hq57:=cQ d w (by omega)
  simp only[gS0,cS,hq57,xQ]
 ·refine cG (S1:=S) rfl (d+1) rfl rfl yAf (aP t1 (aP t2 (aP t3 (aP t4 (aP t5 (bH ?_))))));have hq58:=nO (i:=((a:Nat):Int)) (j:=((b:Nat):Int)) (by omega) (by omega)
  have hq59:=cQ d w (by omega)
  simp only[gS0,hq58,hq59,xQ]
section
variable (C : Calls)(R Wi Fs : D)(v : Int)(S : aF)(wd : Wd)
theorem rZ:tv C (.cmp .Eq (.var 3) (.str "cut")) (oe R Wi Fs wd v) S=qq (decide (wd=.cut),S):=cU rfl (bN wd .cut)
theorem uM:tv C (.cmp .Eq (.var 3) (.str "wide")) (oe R Wi Fs wd v) S=qq (decide (wd=.wide),S):=cU rfl (bN wd .wide)
theorem aAd:tv C (.cmp .Eq (.var 3) (.str "sign")) (oe R Wi Fs wd v) S=qq (decide (wd=.sign),S):=cU rfl (bN wd .sign)
end
noncomputable def aAx:Sx:=bF (bF aDo)
noncomputable def aJg:E:=reS (cC (bF (bF (bF (bF (bF (bF (bF (bF aAx)))))))))
theorem aPU{wd:Wd}(aN:(wd=.and\/wd=.or\/wd=.xor)\/wd=.add\/wd=.sub\/wd=.mul):¬ wd=.num/\¬ wd=.not/\¬ (wd=.left\/wd=.right\/wd=.slide)/\¬ wd=.cut/\¬ wd=.wide/\¬ wd=.sign/\¬ (wd=.same\/wd=.less\/wd=.under)/\¬ wd=.pick:=by
 rcases aN with (rfl | rfl | rfl) | rfl | rfl | rfl<;>decide
theorem aMC{C:Calls}{R Wi Ns:D}{v:Int}{S:aF}{x:D}(wd:Wd)(aN:(wd=.and\/wd=.or\/wd=.xor)\/wd=.add\/wd=.sub\/wd=.mul)(h:ev C aJg (oe R Wi Ns wd v) S=qq (.d x,S)):xs C aAx (oe R Wi Ns wd v) S=qq (.rt (.d x),S):=by
 have t1:=fN C R Wi Ns v S wd;have t2:=gN C R Wi Ns v S wd;have t3:=iY C R Wi Ns v S wd;have t4:=rZ C R Wi Ns v S wd;have t5:=uM C R Wi Ns v S wd;have t6:=aAd C R Wi Ns v S wd;have t7:=pN C R Wi Ns v S wd;have t8:=uK C R Wi Ns v S wd;obtain⟨n1,n2,n3,n4,n5,n6,n7,n8⟩:=aPU aN;rw[dqF n1] at t1;rw[dqF n2] at t2;rw[dqF n3] at t3;rw[dqF n4] at t4;rw[dqF n5] at t5;rw[dqF n6] at t6;rw[dqF n7] at t7;rw[dqF n8] at t8;exact aP t1 (aP t2 (aP t3 (aP t4 (aP t5 (aP t6 (aP t7 (aP t8 (bH h))))))))
theorem aQT{wd:Wd}(aN:wd=.same\/wd=.less\/wd=.under):¬ wd=.num/\¬ wd=.not/\¬ (wd=.left\/wd=.right\/wd=.slide)/\¬ wd=.cut/\¬ wd=.wide/\¬ wd=.sign:=by
 rcases aN with rfl | rfl | rfl<;>decide
theorem mC(d:Nat){x R Wi Ns:D}{wd:Wd}{v:Nat}(S:aF)(e0:aH R (.int 0)=qq (.str wd.s))(e1:aH R (.int 1)=qq (.int v))(k:xs (aE fns (d+3)) aAx (oe R Wi Ns wd (v:Nat)) S=qq (.rt (.d x),S)):cl fns (d+4) 55 [.d R,.d Wi,.d Ns] S=qq (.d x,S):=
 cG (S1:=S) rfl (d+3) rfl rfl yAf (cF (S1:=S) (eE rfl e0) rfl (cF (S1:=S) (eE rfl e1) rfl k))
section
variable (d : Nat)(S : aF)(R Wi Ns : D)(w : Nat)(e1 : aH R (.int 1) = qq (.int (w : Nat)))
include e1
theorem aS8(n:Nat)(e0:aH R (.int 0)=qq (.str "num"))(e2:aH R (.int 2)=qq (.int n)):cl fns (d+4) 55 [.d R,.d Wi,.d Ns] S=qq (.d (.int n),S):=
 mC d (wd:=.num) S e0 e1 (bW (fN (aE fns (d+3)) R Wi Ns (w:Nat) S .num) (bH (eE rfl e2)))
theorem aSA(x:Nat)(hw:w<=64)(hx:x<2^w)(e0:aH R (.int 0)=qq (.str "not"))(i0:aH Ns (.int 0)=qq (.int x)):cl fns (d+4) 55 [.d R,.d Wi,.d Ns] S=qq (.d (.int ((2^w-1-x:Nat):Int)),S):=by
 refine mC d (wd:=.not) S e0 e1 (aP (fN (aE fns (d+3)) R Wi Ns (w:Nat) S .not) (bW (gN (aE fns (d+3)) R Wi Ns (w:Nat) S .not) (bH ?_)));have hq60:=cQ (d+2) w (by omega)
 simp only[gS0,i0,hq60,iA,aHu hx]
theorem aVt(wd:Wd)(aN:wd=.left\/wd=.right\/wd=.slide)(x k:Nat)(bV:1<=w)(hw:w<=64)(hx:x<2^w)(hk:k<64)(e0:aH R (.int 0)=qq (.str wd.s))(e3:aH R (.int 3)=qq (.int k))(i0:aH Ns (.int 0)=qq (.int x)):cl fns (d+4) 55 [.d R,.d Wi,.d Ns] S=qq (.d (.int ((shV wd w x k:Nat):Int)),S):=by
 have t1:=fN (aE fns (d+3)) R Wi Ns (w:Nat) S wd;have t2:=gN (aE fns (d+3)) R Wi Ns (w:Nat) S wd;have t3:=iY (aE fns (d+3)) R Wi Ns (w:Nat) S wd;rw[dqT aN] at t3;rw[dqF (by rcases aN with rfl | rfl | rfl<;>decide)] at t1 t2
 refine mC d (wd:=wd) S e0 e1 (aP t1 (aP t2 (bW t3 (bH ?_))));have hq61:=aL9 d wd aN w x k bV hw hx (by omega)
 simp only[gS0,i0,e3,hq61]
theorem aSe(x:Nat)(hw:w<=64)(e0:aH R (.int 0)=qq (.str "cut"))(i0:aH Ns (.int 0)=qq (.int x)):cl fns (d+4) 55 [.d R,.d Wi,.d Ns] S=qq (.d (.int ((x%2^w:Nat):Int)),S):=by
 refine mC d (wd:=.cut) S e0 e1 (aP (fN (aE fns (d+3)) R Wi Ns (w:Nat) S .cut) (aP (gN (aE fns (d+3)) R Wi Ns (w:Nat) S .cut) (aP (iY (aE fns (d+3)) R Wi Ns (w:Nat) S .cut) (bW (rZ (aE fns (d+3)) R Wi Ns (w:Nat) S .cut) (bH ?_)))));have hq62:=cQ (d+2) w (by omega)
 simp only[gS0,i0,hq62,dE,aFI]
theorem aQm(x:Nat)(e0:aH R (.int 0)=qq (.str "wide"))(i0:aH Ns (.int 0)=qq (.int x)):cl fns (d+4) 55 [.d R,.d Wi,.d Ns] S=qq (.d (.int x),S):=
 mC d (wd:=.wide) S e0 e1 (aP (fN (aE fns (d+3)) R Wi Ns (w:Nat) S .wide) (aP (gN (aE fns (d+3)) R Wi Ns (w:Nat) S .wide) (aP (iY (aE fns (d+3)) R Wi Ns (w:Nat) S .wide) (aP (rZ (aE fns (d+3)) R Wi Ns (w:Nat) S .wide) (bW (uM (aE fns (d+3)) R Wi Ns (w:Nat) S .wide) (bH (eE rfl i0)))))))
theorem aQr(x v:Nat)(hv:1<=v)(hvw:v<=w)(hw:w<=64)(e0:aH R (.int 0)=qq (.str "sign"))(i0:aH Ns (.int 0)=qq (.int x))(j0:aH Wi (.int 0)=qq (.int v)):cl fns (d+4) 55 [.d R,.d Wi,.d Ns] S=qq (.d (.int ((dD x v w:Nat):Int)),S):=by
 refine mC d (wd:=.sign) S e0 e1 (aP (fN (aE fns (d+3)) R Wi Ns (w:Nat) S .sign) (aP (gN (aE fns (d+3)) R Wi Ns (w:Nat) S .sign) (aP (iY (aE fns (d+3)) R Wi Ns (w:Nat) S .sign) (aP (rZ (aE fns (d+3)) R Wi Ns (w:Nat) S .sign) (aP (uM (aE fns (d+3)) R Wi Ns (w:Nat) S .sign) (bW (aAd (aE fns (d+3)) R Wi Ns (w:Nat) S .sign) (bH ?_)))))));have hq63:=qR (d+1) x v w S (by omega) (by omega) (by omega)
 simp only[gS0,i0,j0,hq63]
theorem aGX(wd:Wd)(aN:(wd=.and\/wd=.or\/wd=.xor)\/wd=.add\/wd=.sub\/wd=.mul)(x y:Nat)(hw:w<=64)(hx:x<2^w)(e0:aH R (.int 0)=qq (.str wd.s))(i0:aH Ns (.int 0)=qq (.int x))(i1:aH Ns (.int 1)=qq (.int y)):cl fns (d+4) 55 [.d R,.d Wi,.d Ns] S=qq (.d (.int ((xB wd w x y:Nat):Int)),S):=by
 refine mC d (wd:=wd) S e0 e1 (aMC wd aN ?_);simp only[gS6,aJg,aAx,bF,cC,reS,aDo,i0,i1,aLs (d+1) wd aN w x y hw hx]
theorem aR4(wd:Wd)(aN:wd=.same\/wd=.less\/wd=.under)(x y v:Nat)(hv1:1<=v)(hv:v<=64)(hx:x<2^v)(hy:y<2^v)(e0:aH R (.int 0)=qq (.str wd.s))(i0:aH Ns (.int 0)=qq (.int x))(i1:aH Ns (.int 1)=qq (.int y))(j0:aH Wi (.int 0)=qq (.int v)):cl fns (d+4) 55 [.d R,.d Wi,.d Ns] S=qq (.d (.int (((cmV wd v x y).toNat:Nat):Int)),S):=by
 have t1:=fN (aE fns (d+3)) R Wi Ns (w:Nat) S wd;have t2:=gN (aE fns (d+3)) R Wi Ns (w:Nat) S wd;have t3:=iY (aE fns (d+3)) R Wi Ns (w:Nat) S wd;have t4:=rZ (aE fns (d+3)) R Wi Ns (w:Nat) S wd;have t5:=uM (aE fns (d+3)) R Wi Ns (w:Nat) S wd;have t6:=aAd (aE fns (d+3)) R Wi Ns (w:Nat) S wd;have t7:=pN (aE fns (d+3)) R Wi Ns (w:Nat) S wd;obtain⟨n1,n2,n3,n4,n5,n6⟩:=aQT aN;rw[dqT aN] at t7;rw[dqF n1] at t1;rw[dqF n2] at t2;rw[dqF n3] at t3;rw[dqF n4] at t4;rw[dqF n5] at t5;rw[dqF n6] at t6;refine mC d (wd:=wd) S e0 e1 (aP t1 (aP t2 (aP t3 (aP t4 (aP t5 (aP t6 (bW t7 (bH ?_))))))));simp only[gS0,i0,i1,j0,aLn (d+1) wd aN v x y hv1 hv hx hy]
theorem aP6(z x y:Nat)(e0:aH R (.int 0)=qq (.str "pick"))(i0:aH Ns (.int 0)=qq (.int z))(i1:aH Ns (.int 1)=qq (.int x))(i2:aH Ns (.int 2)=qq (.int y)):cl fns (d+4) 55 [.d R,.d Wi,.d Ns] S=qq (.d (.int (((if z=1 then x else y):Nat):Int)),S):=by
 refine mC d (wd:=.pick) S e0 e1 (aP (fN (aE fns (d+3)) R Wi Ns (w:Nat) S .pick) (aP (gN (aE fns (d+3)) R Wi Ns (w:Nat) S .pick) (aP (iY (aE fns (d+3)) R Wi Ns (w:Nat) S .pick) (aP (rZ (aE fns (d+3)) R Wi Ns (w:Nat) S .pick) (aP (uM (aE fns (d+3)) R Wi Ns (w:Nat) S .pick) (aP (aAd (aE fns (d+3)) R Wi Ns (w:Nat) S .pick) (aP (pN (aE fns (d+3)) R Wi Ns (w:Nat) S .pick) (bW (uK (aE fns (d+3)) R Wi Ns (w:Nat) S .pick) (bH ?_)))))))))
 by_cases q:z=1
 ·have d1:(z==1)=true:=by rw[beq_iff_eq];exact q
  rw[if_pos q];simp only[gS0,i0,i1,bQ,lT,d1]
 ·have d1:(z==1)=false:=by rw[beq_eq_false_iff_ne];exact q
  rw[if_neg q];simp only[gS0,i0,i2,bQ,lT,d1]
end
theorem aHL{r:Rw}{ws ns:List Nat}(h:RwOk r ws)(hi:r.wd≠.in)(hl:nB ws ns)(d:Nat)(S:aF):cl fns (d+4) 55 [.d r.d,.d (ws*>nD),.d (ns*>nD)] S=qq (.d (.int ((cH r ws ns:Nat):Int)),S):=by
 cases h with
 | inp=>exact absurd rfl hi
 | num h1 h2 hn=>exact aS8 d S _ _ _ _ rfl _ rfl rfl
 | nt h1 h2 =>
   obtain⟨x,rfl,hx⟩:=eP hl;exact aSA d S _ _ _ _ rfl x h2 hx rfl rfl
 | sh h1 h2 aN hk =>
   rename_i wd w a k;obtain⟨x,rfl,hx⟩:=eP hl;have ev':cH ⟨wd,w,[a,k]⟩ [w] [x]=shV wd w x k:=by rcases aN with rfl | rfl | rfl<;>rfl
   rw[ev'];exact aVt d S _ _ _ w rfl wd aN x k h1 h2 hx hk rfl rfl rfl
 | cut h1 hv h2 =>
   obtain⟨x,rfl,hx⟩:=eP hl;exact aSe d S _ _ _ _ rfl x (xAi hv h2) rfl rfl
 | wide h1 hv h2 =>
   obtain⟨x,rfl,hx⟩:=eP hl;exact aQm d S _ _ _ _ rfl x rfl rfl
 | sign h1 hv h2 =>
   obtain⟨x,rfl,hx⟩:=eP hl;exact aQr d S _ _ _ _ rfl x _ h1 hv h2 rfl rfl rfl
 | bw h1 h2 aN =>
   rename_i wd w a b;obtain⟨x,y,rfl,hx,hy⟩:=kB hl;have ev':cH ⟨wd,w,[a,b]⟩ [w,w] [x,y]=xB wd w x y:=by rcases aN with rfl | rfl | rfl<;>rfl
   rw[ev'];exact aGX d S _ _ _ w rfl wd (.inl aN) x y h2 hx rfl rfl rfl
 | sm h1 h2 =>
   rename_i s w a b;obtain⟨x,y,rfl,hx,hy⟩:=kB hl;have aN:s.wd=.add\/s.wd=.sub\/s.wd=.mul:=by
    cases s
    ·exact .inl rfl
    ·exact .inr (.inl rfl)
    ·exact .inr (.inr rfl)
   have ev':cH ⟨s.wd,w,[a,b]⟩ [w,w] [x,y]=xB s.wd w x y:=by cases s<;>rfl
   rw[ev'];exact aGX d S _ _ _ w rfl s.wd (.inr aN) x y h2 hx rfl rfl rfl
 | cmp h1 h2 aN =>
   rename_i wd v a b;obtain⟨x,y,rfl,hx,hy⟩:=kB hl;have ev':cH ⟨wd,1,[a,b]⟩ [v,v] [x,y]=(cmV wd v x y).toNat:=by rcases aN with rfl | rfl | rfl<;>rfl
   rw[ev'];exact aR4 d S _ _ _ 1 rfl wd aN x y v h1 h2 hx hy rfl rfl rfl rfl
 | pick h1 h2 =>
   obtain⟨z,x,y,rfl,hz,hx,hy⟩:=aAG hl;exact aP6 d S _ _ _ _ rfl z x y rfl rfl rfl rfl
theorem aIn(wd:Wd):bB wd<=3:=by cases wd<;>decide
theorem uC(S0:aF)(l:List D)(x:D)(h:l.length<=1000):dF (S0++[qq l]) (.loc S0.length) (.d x)=qq (.d .none,S0++[qq (l++[x])]):=by
 unfold dF;simp only[yAe (yAb S0.length),yBb,yBw];rw[if_pos (by rw[zx];omega)]
 rw[yDp _ _ (yAb _),yBb];rfl
theorem kP(S0:aF)(l:List D):(S0++[qq l])[S0.length]? = qq (qq l):=by
 rw[yAe (yAb _),yBb];rfl
noncomputable def aT(r:Rw)(l:List Nat):List Nat:=(r.args.take (bB r.wd)).map (g0 l)
theorem aLV{α:Type}{l:List α}{vs:List D}{f:α->D}(h1:vs.length=l.length)(h2:∀ (i:Nat) (a:α),l[i]? = qq a->∃ v,vs[i]? = qq v/\v=f a):vs=l.map f:=by
 apply List.ext_getElem?;intro i;rw[xAb]
 by_cases c:i<l.length
 ·obtain⟨v,h3,rfl⟩:=h2 i l[i] (yAa c);rw[h3,yAa c];rfl
 ·rw[yEi (by omega),yEi (by omega)]
  rfl
theorem zF(d:Nat)(r:Rw)(w:W)(x:D)(f:Nat->D)(S:aF)(hv:∀ aC,dr (S++[qq aC]) w=qq x)(hx:∀ a∈r.args.take (bB r.wd),aH x (nD a)=qq (f a)):cl fns (d+2) 8 [.d r.d,w] S=qq (.d (.tuple ((r.args.take (bB r.wd)).map f)),S):=by
 have bZ:(r.args.take (bB r.wd)).length<=3:=by have:=aIn r.wd;rw[yCc];omega
 obtain⟨vs,S',e1,hS',hI,hvl,hq⟩:=aN2 (t:=.one 2) (fi:=lv (aE fns (d+1)) (.it (.call 7 (.cons (.var 0) .nil)))) (fe:=ev (aE fns (d+1)) (.ix (.var 1) (.var 2))) (env:=[qq (.d r.d),qq w,qz]) (S:=S) (S1:=S) nD (λ _ S'=>S'=S) (λ a v=>v=f a) (r.args.take (bB r.wd)) (by
  simp only[evs,qT d,fV]) (by rw[zx];omega) rfl (by
  intro a ha;refine⟨_,rfl,?_⟩;rintro j S' aC hj hS rfl;refine⟨f a,S',?_,rfl,rfl,rfl⟩;have hd:∀ {k:D->Option (W×aF)},(dr (S'++[qq aC]) w).bind k=k x:=λ {k}=>by rw[hv aC];rfl
  simp only[aDb,aCS,oT,f2,jH,hG,clr,Tg.slots,yBl,yCh,yGj,yFl,yCu,yBw,oB,hd];show((aH x (nD a)).bind λ z=>qq (W.d z,S'++[qq aC]))=_
  rw[hx a ha];rfl)
 subst hI;have e2:vs=(r.args.take (bB r.wd)).map f:=aLV hvl hq;subst e2;have e1':lv (aE fns (d+1)) aEq [qq (.d r.d),qq w,qz] S'=qq ((r.args.take (bB r.wd)).map f,S'):=e1;rw[aY rfl (d+1) _ S' rfl];simp only[gR1,aEP,e1',gB,fZ]
theorem vA{l:List Nat}{a:Nat}(h:a<l.length):(l.map nD)[a]? = qq (nD (g0 l a)):=by
 rw[xAb,yAa h];show qq (nD l[a])=qq (nD (l.getD a 0));rw[xAh,yAa h];rfl
theorem aGY(d:Nat)(r:Rw)(l:List Nat)(S:aF)(h:∀ a∈r.args.take (bB r.wd),a<l.length):cl fns (d+2) 8 [.d r.d,.d (l*>nD)] S=qq (.d (.tuple ((aT r l).map nD)),S):=by
 have:=zF d r (.d (l*>nD)) (l*>nD) (λ a=>nD (g0 l a)) S (λ _=>rfl) λ a ha=>iZ (vA (h a ha))
 rw[this,aT,yBn];rfl
theorem aPj(d:Nat)(r:Rw)(l:List Nat)(S0:aF)(h:∀ a∈r.args.take (bB r.wd),a<l.length):cl fns (d+2) 8 [.d r.d,.loc S0.length] (S0++[qq (l.map nD)])=qq (.d (.tuple ((aT r l).map nD)),S0++[qq (l.map nD)]):=by
 have:=zF d r (.loc S0.length) (.list (l.map nD)) (λ a=>nD (g0 l a)) (S0++[qq (l.map nD)]) (λ aC=>by
  show(match (S0++[qq (l.map nD)]++[qq aC])[S0.length]? with | some (qq ds)=>qq (yDs ds) | _=>qz)=_
  rw[yAq,yAe (yAb _),yBb];rfl) λ a ha=>jR (vA (h a ha))
 rw[this,aT,yBn];rfl
theorem aEG(d:Nat)(rs:List Rw)(o:D)(hl:rs.length<=1000)(S:aF):cl fns (d+1) 10 [.d (rs<*o)] S=qq (.d (.tuple ((~~~rs).map nD)),S):=by
 have i0:aH (rs<*o) (.int 0)=qq (rs*>Rw.d):=rfl;have hc:lv (aE fns d) aEy [qq (.d (rs<*o)),qz] S=qq ((~~~rs).map nD,S):=by
  rw[yBn];refine nU (fi:=lv (aE fns d) (.it (.ix (.var 0) (.int 0)))) (fe:=ev (aE fns d) (.ix (.var 1) (.int 1))) Rw.d (nD ∘ λ r=>r.w) rs ?_ (by rw[zx];omega) λ r hr=>?_
  ·simp only[gS0,i0,fV]
  ·refine⟨_,rfl,λ S'=>?_⟩
   simp only[gS0,clr,yBl,yCh,gG]
 rw[aY rfl d _ S rfl];simp only[gR1,aFn,hc,gB,fZ]
noncomputable def bT:List Rw->List Nat->Prop
 | [],is=>is=[]
 | r::rs,is=>if r.wd=.in then ∃ n is',is=n::is'/\n<2^r.w/\bT rs is' else bT rs is
def vU(rs:List Rw):Prop:=∀ (j:Nat) (r:Rw),rs[j]? = qq r->RwOk r (aT r (~~~rs))/\∀ a∈r.args.take (bB r.wd),a<j
theorem rH{W aC:List Nat}(h:∀ (i a w:Nat),aC[i]? = qq a->W[i]? = qq w->a<2^w):∀ (l:List Nat),(∀ a∈l,a<aC.length/\a<W.length)->nB (l.map (g0 W)) (l.map (g0 aC))
 | [],_=>True.intro
 | a::l,hl=>by
   obtain⟨h1,h2⟩:=hl a xAd;refine⟨h a _ _ ?_ ?_,rH h l λ b hb=>hl b (xAg _ hb)⟩
   ·show aC[a]? = qq (aC.getD a 0);rw[xAh,yAa h1];rfl
   ·show W[a]? = qq (W.getD a 0);rw[xAh,yAa h2];rfl
theorem aC0{r:Rw}{ws ns:List Nat}(h:RwOk r ws)(hl:nB ws ns):cH r ws ns<2^r.w:=by
 have hp:=xAf r.w;cases h with
 | inp=>exact hp
 | num h1 h2 hn=>exact hn
 | nt =>
   obtain⟨x,rfl,hx⟩:=eP hl;exact xAj (yGt _ _) (by omega)
 | sh h1 h2 aN hk =>
   obtain⟨x,rfl,hx⟩:=eP hl;rcases aN with rfl | rfl | rfl
   ·exact yHl _ hp
   ·exact xAj (Nat.div_le_self _ _) hx
   ·rename_i w a k;show dD x w (w+k)/2^k<2^w;rw[yEl (xAf k),<- yEy];exact tL hx h1 (by omega)
 | cut=>exact yHl _ hp
 | wide h1 hv h2 =>
   obtain⟨x,rfl,hx⟩:=eP hl;exact xAc hx (yAl (by decide) hv)
 | sign h1 hv h2 =>
   obtain⟨x,rfl,hx⟩:=eP hl;exact tL hx h1 hv
 | bw h1 h2 aN =>
   obtain⟨x,y,rfl,hx,hy⟩:=kB hl;rcases aN with rfl | rfl | rfl
   ·exact xAj yCo hx
   ·exact yBi hx hy
   ·exact yBs hx hy
 | sm h1 h2 =>
   obtain⟨x,y,rfl,hx,hy⟩:=kB hl;rename_i s w a b;cases s
   ·exact oE (((x:Nat):Int)+((y:Nat):Int)) w
   ·exact oE (((x:Nat):Int)-((y:Nat):Int)) w
   ·exact oE (((x:Nat):Int)*((y:Nat):Int)) w
 | cmp h1 h2 aN =>
   have q:∀ b:Bool,b.toNat<2^1:=λ b=>by cases b<;>decide
   rcases aN with rfl | rfl | rfl<;>exact q _
 | pick h1 h2 =>
   obtain⟨z,x,y,rfl,hz,hx,hy⟩:=aAG hl;show(if z=1 then x else y)<_
   split
   ·exact hx
   ·exact hy
theorem tW{α:Type}{l:List α}{j:Nat}{a:α}(h:l[j]? = qq a):l.drop j=a::l.drop (j+1):=by
 obtain⟨hl,rfl⟩:=gIm h;exact yCa hl
noncomputable def cL:List Rw->List Nat->List Nat->List Nat->List Nat
 | [],_,_,aC=>aC
 | r::rs,W,is,aC=>if r.wd=.in then cL rs W is.tail (aC++[g0 is 0]) else cL rs W is (aC++[cH r (aT r W) (aT r aC)])
structure Prg(rs:List Rw):Prop where
 l:rs.length<=100
 fit:vU rs
 ins:∃ is,bT rs is
 ws:∀ (j:Nat) (r:Rw),rs[j]? = qq r->1<=r.w/\r.w<=64
theorem mD{l:List Nat}{a:Nat}(h:a<l.length):l[a]? = qq (g0 l a):=by
 show l[a]? = qq (l.getD a 0);rw[xAh,yAa h];rfl
theorem aB5:∀ (rs:List Rw) (W is aC:List Nat),∃ t,cL rs W is aC=aC++t
 | [],W,is,aC=>⟨[],by simp[cL]⟩
 | r::rs,W,is,aC=>by
   unfold cL
   split
   ·obtain⟨t,h⟩:=aB5 rs W is.tail (aC++[g0 is 0]);exact⟨[g0 is 0]++t,by rw[h,yAq]⟩
   ·obtain⟨t,h⟩:=aB5 rs W is (aC++[cH r (aT r W) (aT r aC)]);exact⟨[cH r (aT r W) (aT r aC)]++t,by rw[h,yAq]⟩
theorem aCr:∀ (rs:List Rw) (W is aC:List Nat) (j:Nat) (r:Rw),rs[j]? = qq r->r.wd≠.in->(cL rs W is aC)[aC.length+j]? = qq (cH r (aT r W) (aT r ((cL rs W is aC).take (aC.length+j))))
 | [],W,is,aC,j,r,h,_=>by simp at h
 | q::rs,W,is,aC,0,r,h,hw=>by
   cases h;unfold cL;rw[if_neg hw];obtain⟨t,ht⟩:=aB5 rs W is (aC++[cH q (aT q W) (aT q aC)]);rw[ht,Nat.add_zero,yAq,yCz,yAe (yAb _),yBb];rfl
 | q::rs,W,is,aC,j+1,r,h,hw=>by
   have h':rs[j]? = qq r:=by simpa using h
   unfold cL
   split
   ·have:=aCr rs W is.tail (aC++[g0 is 0]) j r h' hw;rw[xAo,show aC.length+[g0 is 0].length+j=aC.length+(j+1) by simp;omega] at this
    exact this
   ·have:=aCr rs W is (aC++[cH q (aT q W) (aT q aC)]) j r h' hw;rw[xAo,show aC.length+[cH q (aT q W) (aT q aC)].length+j=aC.length+(j+1) by simp;omega] at this
    exact this
theorem aGh{r:Rw}{l:List Nat}{m:Nat}(h:∀ a∈r.args.take (bB r.wd),a<m):aT r (l.take m)=aT r l:=by
 unfold aT;refine yCg λ a ha=>?_
 show(l.take m).getD a 0=l.getD a 0;rw[xAh,xAh,yDw (h a ha)]
theorem aRP{rs:List Rw}(hf:vU rs)(is:List Nat){j:Nat}{r:Rw}(hr:rs[j]? = qq r)(hw:r.wd≠.in):(cL rs (~~~rs) is [])[j]? = qq (cH r (aT r (~~~rs)) (aT r (cL rs (~~~rs) is []))):=by
 have:=aCr rs (~~~rs) is [] j r hr hw;rw[yCn,yEd,aGh (hf j r hr).2] at this;exact this
theorem aCb:∀ (rs:List Rw) (W is aC:List Nat),(cL rs W is aC).length=aC.length+rs.length
 | [],_,_,_=>rfl
 | r::rs,W,is,aC=>by
   unfold cL
   split
   ·rw[aCb rs,xAo];simp;omega
   ·rw[aCb rs,xAo];simp;omega
theorem aHJ{W aC:List Nat}{z w:Nat}(h:∀ (i a w:Nat),aC[i]? = qq a->W[i]? = qq w->a<2^w)(hw:W[aC.length]? = qq w)(hz:z<2^w):∀ (i a w:Nat),(aC++[z])[i]? = qq a->W[i]? = qq w->a<2^w:=λ i a v h1 h2=>by
 by_cases c:i<aC.length
 ·rw[xAn c] at h1;exact h i a v h1 h2
 ·have ci:i=aC.length:=by
   have:=(gIm h1).1;simp at this;omega
  subst ci;rw[yAe (yAb _),yBb] at h1;cases h1;rw[hw] at h2;cases h2;exact hz
theorem aCx{rs0:List Rw}(hf:vU rs0):∀ (rs:List Rw) (is aC:List Nat),rs=rs0.drop aC.length->bT rs is->(∀ (i a w:Nat),aC[i]? = qq a->(rs0.map (·.w))[i]? = qq w->a<2^w)->∀ (i a w:Nat),(cL rs (rs0.map (·.w)) is aC)[i]? = qq a->(rs0.map (·.w))[i]? = qq w->a<2^w
 | [],is,aC,_,_,hb=>hb
 | r::rs,is,aC,hd,hi,hb=>by
   have hr:rs0[aC.length]? = qq r:=by
    have:=congrArg (λ l=>l[0]?) hd
    simp only[yBw,List.getElem?_drop,Nat.add_zero] at this;exact this.symm
   have hd':∀ z:Nat,rs=rs0.drop (aC++[z]).length:=λ z=>by
    rw[xAo,yEh];have:=congrArg List.tail hd;rw[List.tail_drop] at this;exact this
   have hw:(rs0.map (·.w))[aC.length]? = qq r.w:=by rw[xAb,hr];rfl
   have hj:aC.length<rs0.length:=(gIm hr).1;unfold cL
   split
   ·rename_i c;rw[bT,if_pos c] at hi;obtain⟨n,is',rfl,hn,hi'⟩:=hi;exact aCx hf rs is' (aC++[n]) (hd' n) hi' (aHJ hb hw hn)
   ·rename_i c;rw[bT,if_neg c] at hi;obtain⟨f1,f2⟩:=hf _ r hr;have lt:=rH hb (r.args.take (bB r.wd)) λ a ha=>⟨f2 a ha,by have:=f2 a ha;rw[yAd];omega⟩
    exact aCx hf rs is _ (hd' _) hi (aHJ hb hw (aC0 f1 lt))
theorem rL{rs:List Rw}(p:Prg rs){is:List Nat}(hi:bT rs is):(cL rs (~~~rs) is []).length=rs.length:=by
 rw[aCb];simp
theorem aAh{rs:List Rw}(p:Prg rs){is:List Nat}(hi:bT rs is){i a w:Nat}(h1:(cL rs (~~~rs) is [])[i]? = qq a)(h2:(~~~rs)[i]? = qq w):a<2^w:=aCx p.fit rs is [] rfl hi (λ i a w h=>by simp at h) i a w h1 h2
noncomputable def bO:List Rw->List Nat->List Nat->List Nat->List Nat->List Nat
 | r::rs,W,is,m::ms,aC=>if r.wd=.in then bO rs W is.tail ms (aC++[g0 is 0^^^m]) else bO rs W is ms (aC++[cH r (aT r W) (aT r aC)^^^m])
 | _,_,_,_,aC=>aC
structure MsOk(rs:List Rw)(ms:List Nat):Prop where
 l:ms.length=rs.length
 lt:∀ (j:Nat) (r:Rw) (m:Nat),rs[j]? = qq r->ms[j]? = qq m->m<2^r.w
theorem yF(d:Nat)(rs:List Rw)(o:D)(is ms:List Nat)(hl:rs.length<=100)(hf:vU rs)(hi:bT rs is)(hm:MsOk rs ms)(S:aF):cl fns (d+6) 56 [.d (rs<*o),.d (is*>nD),.d (ms*>nD)] S=qq (.d (.tuple ((bO rs (~~~rs) is ms []).map nD)),S)/\(bO rs (~~~rs) is ms []).length=rs.length/\∀ (i a w:Nat),(bO rs (~~~rs) is ms [])[i]? = qq a->(~~~rs)[i]? = qq w->a<2^w:=by
 have i0:aH (rs<*o) (.int 0)=qq (rs*>Rw.d):=rfl;obtain⟨P,hP⟩:∃ P:D,P=(rs<*o):=⟨_,rfl⟩;have wo:=aEG (d+4) rs o (by omega)
 rw[<- hP] at i0 wo ⊢;obtain⟨aI,S',p1,aC,tk,c6,c7,c8,rfl,rfl,al,ar,ai,ab⟩:=mG (t:=.many [6,7]) (fi:=lv (aE fns (d+5)) yN) (fb:=xs (aE fns (d+5)) tP) (env:=[qq (.d P),qq (.d (is*>nD)),qq (.d (ms*>nD)),qq (.d (.tuple ((~~~rs).map nD))),qq (.loc S.length),qq (.d (.int 0)),qz,qz,qz]) (S:=S++[qq []]) (S1:=S++[qq []]) (ds:=cX (rs.map Rw.d) (ms.map nD))
  (λ j env S'=>∃ (aC:List Nat) (tk:Nat) (c6 c7 c8:Option W),env=[qq (.d P),qq (.d (is*>nD)),qq (.d (ms*>nD)),qq (.d (.tuple ((~~~rs).map nD))),qq (.loc S.length),qq (.d (.int tk)),c6,c7,c8]/\S'=S++[qq (aC.map nD)]/\aC.length=j/\bO (rs.drop j) (~~~rs) (is.drop tk) (ms.drop j) aC=bO rs (~~~rs) is ms []/\bT (rs.drop j) (is.drop tk)/\∀ (i a w:Nat),aC[i]? = qq a->(~~~rs)[i]? = qq w->a<2^w)
  (by simp only[evs,yN,i0]) ⟨[],0,qz,qz,qz,rfl,rfl,rfl,rfl,hi,by simp⟩ (by
    rintro j dd env S' hd ⟨aC,tk,c6,c7,c8,rfl,rfl,al,ar,ai,ab⟩;obtain⟨a0,b0,ha,hb,rfl⟩:=zG _ _ j dd hd;rw[xAb] at ha hb;obtain⟨r,hr,rfl⟩:=Option.map_eq_some_iff.mp ha;obtain⟨m,hmj,rfl⟩:=Option.map_eq_some_iff.mp hb;have hmlt:=hm.lt j r m hr hmj;obtain⟨f1,f2⟩:=hf j r hr;have hj:j<rs.length:=(gIm hr).1;have hw:(~~~rs)[j]? = qq r.w:=by rw[xAb,hr];rfl
    have hWl:(~~~rs).length=rs.length:=yAd ..;rw[tW hr] at ar ai;rw[tW hmj] at ar;have more:∀ z:Nat,z<2^r.w->∀ (i a w:Nat),(aC++[z^^^m])[i]? = qq a->(~~~rs)[i]? = qq w->a<2^w:=λ z hz i a w h1 h2=>by
     by_cases c:i<aC.length
     ·rw[xAn c] at h1;exact ab i a w h1 h2
     ·have ci:i=j:=by
       have:=(gIm h1).1;simp at this;omega
      subst ci;rw[yAe (by omega),show i-aC.length=0 by omega] at h1
      cases h1;rw[hw] at h2;cases h2;exact yBs hz hmlt
    have ap:∀ z:Nat,dF (S++[qq (aC.map nD)]) (.loc S.length) (.d (.int z))=qq (.d .none,S++[qq ((aC++[z]).map nD)]):=λ z=>by
     rw[uC S (aC.map nD) _ (by rw[yAd];omega),yBt]
     rfl
    have xo:∀ z:Nat,bY .BitXor (.int z) (nD m)=qq (.int ((z^^^m:Nat):Int)):=λ z=>iA z m
    by_cases c:r.wd=.in
    ·have t:aV .Eq (.str r.wd.s) (.str "in")=qq (.bool true):=by rw[c];exact bN .in .in
     rw[bT,if_pos c] at ai;obtain⟨n,is',e1,hn,hi'⟩:=ai;rw[bO,if_pos c,e1] at ar;have e2:is'=is.drop (tk+1):=by rw[<- List.tail_drop,e1];rfl
     have e3:aH (is*>nD) (.int tk)=qq (.int n):=iZ (by
      have:(is.drop tk)[0]? = qq n:=by rw[e1];rfl
      rw[List.getElem?_drop,Nat.add_zero] at this;rw[xAb,this];rfl)
     have e4:((tk:Nat):Int)+1=((tk+1:Nat):Int):=by omega
     refine⟨_,[qq (.d P),qq (.d (is*>nD)),qq (.d (ms*>nD)),qq (.d (.tuple ((~~~rs).map nD))),qq (.loc S.length),qq (.d (.int ((tk+1:Nat):Int))),qq (.d r.d),qq (.d (nD m)),qq (.d (.int n))],S++[qq ((aC++[n^^^m]).map nD)],rfl,?_,aC++[n^^^m],tk+1,_,_,_,rfl,rfl,by simp[al],?_,?_,more n hn⟩
     ·simp only[gS1,tP,oD,t,e3,cW,e4,xo,fF,ap]
     ·rw[<- e2,<- ar];rfl
     ·rw[<- e2];exact hi'
    ·have t:aV .Eq (.str r.wd.s) (.str "in")=qq (.bool false):=by
      have:=bN r.wd .in;rw[dqF c] at this;exact this
     rw[bT,if_neg c] at ai;rw[bO,if_neg c] at ar;have lt:=rH ab (r.args.take (bB r.wd)) λ a ha=>⟨by have:=f2 a ha;omega,by have:=f2 a ha;omega⟩
     have o1:=aGY (d+3) r (~~~rs) (S++[qq (aC.map nD)]) λ a ha=>by have:=f2 a ha;omega
     have o2:=aPj (d+3) r aC S λ a ha=>by have:=f2 a ha;omega
     have wk:=aHL f1 c lt (d+1) (S++[qq (aC.map nD)]);have wl:=aC0 f1 lt;refine⟨_,[qq (.d P),qq (.d (is*>nD)),qq (.d (ms*>nD)),qq (.d (.tuple ((~~~rs).map nD))),qq (.loc S.length),qq (.d (.int tk)),qq (.d r.d),qq (.d (nD m)),qq (.d (.int ((cH r (aT r (~~~rs)) (aT r aC):Nat):Int)))],S++[qq ((aC++[cH r (aT r (~~~rs)) (aT r aC)^^^m]).map nD)],rfl,?_,_,tk,_,_,_,rfl,rfl,by simp[al],ar,ai,more _ wl⟩
     have wk':cl fns (d+5) 55 [.d r.d,.d (.tuple ((aT r (~~~rs)).map nD)),.d (.tuple ((aT r aC).map nD))] (S++[qq (aC.map nD)])=qq (.d (.int ((cH r (aT r (~~~rs)) (aT r aC):Nat):Int)),S++[qq (aC.map nD)]):=wk;simp only[evs,tP,oD,t,o1,o2,wk',xo,fF,ap])
 have zl:(cX (rs.map Rw.d) (ms.map nD)).length=rs.length:=by
  rw[tM,yAd,yAd,hm.l,Nat.min_self]
 rw[zl] at al ar;rw[yEt] at ar;have ar':aC=bO rs (~~~rs) is ms []:=by
  have e:bO [] (~~~rs) (is.drop tk) (ms.drop rs.length) aC=aC:=by unfold bO;rfl
  rw[<- e];exact ar
 subst ar';refine⟨?_,al,ab⟩;have p1':eB (.many [6,7]) (lv (aE fns (d+5)) yN) (xs (aE fns (d+5)) tP) [qq (.d P),qq (.d (is*>nD)),qq (.d (ms*>nD)),qq (.d (.tuple ((~~~rs).map nD))),qq (.loc S.length),qq (.d (.int 0)),qz,qz,qz] (S++[qq []])=qq (.nx [qq (.d P),qq (.d (is*>nD)),qq (.d (ms*>nD)),qq (.d (.tuple ((~~~rs).map nD))),qq (.loc S.length),qq (.d (.int tk)),c6,c7,c8],S++[qq ((bO rs (~~~rs) is ms []).map nD)]):=p1;have tk1:∀ x,yDn S.length (S++[x])=S:=λ x=>yCz
 rw[aY rfl (d+5) _ S rfl];simp only[gR1,aHp,wo,fD,p1',kP,gB,fZ,tk1]
theorem aGU(rs:List Rw):MsOk rs (yAc rs.length 0):=⟨yBk,λ j r m h1 h2=>by
 rw[yBj] at h2
 split at h2
 ·cases h2;exact xAf _
 ·cases h2⟩
theorem aO7(d:Nat)(rs:List Rw)(o:D)(is:List Nat)(hl:rs.length<=100)(hf:vU rs)(hi:bT rs is)(S:aF):cl fns (d+7) 57 [.d (rs<*o),.d (is*>nD)] S=qq (.d (.tuple ((bO rs (~~~rs) is (yAc rs.length 0) []).map nD)),S):=by
 have i0:aH (rs<*o) (.int 0)=qq (rs*>Rw.d):=rfl;have ln:iT [(rs*>Rw.d)]=qq (.int rs.length):=by
  show qq (yAj (((rs.map Rw.d).length:Nat):Int))=_;rw[yAd]
 have e:=(yF d rs o is _ hl hf hi (aGU rs) S).1;rw[yFm] at e;have e':cl fns (d+6) 56 [.d (rs<*o),.d (is*>nD),.d (.tuple (yAc rs.length (.int 0)))] S=qq (.d (.tuple ((bO rs (~~~rs) is (yAc rs.length 0) []).map nD)),S):=e;rw[aY rfl (d+6) _ S rfl];have hq64:=aBS (x:=.int 0) (show rs.length<=1000 by omega)
 simp only[gR1,aKp,i0,ln,hq64,e']
theorem zB:∀ (rs:List Rw) (W is ms aC:List Nat),∃ t,bO rs W is ms aC=aC++t
 | [],W,is,ms,aC=>⟨[],by simp[bO]⟩
 | _::_,W,is,[],aC=>⟨[],by simp[bO]⟩
 | r::rs,W,is,m::ms,aC=>by
   rw[bO]
   split
   ·obtain⟨t,h⟩:=zB rs W is.tail ms (aC++[g0 is 0^^^m]);exact⟨[g0 is 0^^^m]++t,by rw[h,yAq]⟩
   ·obtain⟨t,h⟩:=zB rs W is ms (aC++[cH r (aT r W) (aT r aC)^^^m]);exact⟨[cH r (aT r W) (aT r aC)^^^m]++t,by rw[h,yAq]⟩
theorem aHH{r:Rw}{rs:List Rw}{W is ms aC R:List Nat}{m:Nat}(h:bO (r::rs) W is (m::ms) aC=R)(hr:r.wd=.in)(hi:bT (r::rs) is):∃ n is',is=n::is'/\bT rs is'/\R[aC.length]? = qq (n^^^m)/\bO rs W is' ms (aC++[n^^^m])=R:=by
 rw[bT,if_pos hr] at hi;obtain⟨n,is',rfl,hn,hi'⟩:=hi;rw[bO,if_pos hr] at h;have h':bO rs W is' ms (aC++[n^^^m])=R:=h;obtain⟨t,ht⟩:=zB rs W is' ms (aC++[n^^^m]);refine⟨n,is',rfl,hi',?_,h'⟩;rw[<- h',ht,yAq,yAe (yAb _),yBb];rfl
theorem aHE{r:Rw}{rs:List Rw}{W is ms aC R:List Nat}{m:Nat}(h:bO (r::rs) W is (m::ms) aC=R)(hr:r.wd≠.in)(hi:bT (r::rs) is)(hf:∀ a∈r.args.take (bB r.wd),a<aC.length):bT rs is/\R[aC.length]? = qq (cH r (aT r W) (aT r R)^^^m)/\∃ z,bO rs W is ms (aC++[z])=R:=by
 rw[bT,if_neg hr] at hi;rw[bO,if_neg hr] at h;obtain⟨t,ht⟩:=zB rs W is ms (aC++[cH r (aT r W) (aT r aC)^^^m]);have e:aT r aC=aT r R:=by
  rw[<- h,ht,<- aGh (l:=aC++[cH r (aT r W) (aT r aC)^^^m]++t) hf,yAq,yCz]
 refine⟨hi,?_,_,h⟩;rw[<- e,<- h,ht,yAq,yAe (yAb _),yBb];rfl
theorem aNE{n w:Nat}(hn:n<2^w):(2^w-1)^^^n=2^w-1-n:=by
 rw[Nat.xor_comm];exact aHu hn
noncomputable def tD(n w:Nat):Ft:=⟨2^w-1-n,n,1⟩
theorem aI6{n w:Nat}(hn:n<2^w)(hw:1<=w):FtOk (tD n w) w:=⟨by show 2^w-1-n<2^w;have:=xAf w;omega,hn,yAb 1,hw⟩
theorem aPA{n w:Nat}(hn:n<2^w):Hd (tD n w) n w:=by
 refine⟨λ i hi=>?_,λ i hi=>hi,lD _ _⟩
 have hi':(2^w-1-n).testBit i=true:=hi
 by_cases c:i<w
 ·rw[zX hn c] at hi';simpa using hi'
 ·exact cM hn (by omega)
theorem aHK{w:Nat}(hw:1<=w):gJ jL w=jL:=by
 have u:dC 0 1 w=0:=by
  unfold dC;rw[Nat.zero_and,if_pos rfl]
 have t:tr 0 w=0:=by
  unfold tr;rw[Nat.zero_xor];have:bl (2^w-1)=w:=aBO (uH w) (.inr (by rw[cN,dqT (by omega)]))
  omega
 show Ft.mk (dC 0 1 w) (dC 0 1 w) (wI 1 (tr (dC 0 1 w) w) (tr (dC 0 1 w) w))=⟨0,0,1⟩;rw[u,t];rfl
theorem aNs(d n w:Nat)(hn:n<2^w)(bV:1<=w)(hw:w<=64)(S:aF):cl fns (d+4) 49 [.d (.tuple [.str "num",.int w,.int n]),.d (.tuple []),.d (.tuple [])] S=qq (.d (gJ (tD n w) w).d,S):=by
 have nf:cl fns (d+2) 35 [.d (.int w),.d (.int n)] S=qq (.d (tD n w).d,S):=by
  rw[aY rfl (d+1) _ S rfl];have hq65:=cQ d w (by omega)
  simp only[gR1,aF6,hq65,iA,aNE hn]
 have i2:aH (.tuple [.str "num",.int w,.int n]) (.int 2)=qq (.int n):=rfl;refine aCk d _ _ _ S w (tD n w) rfl ?_ (aI6 hn bV) hw;have t1:=mP (aE fns (d+2)) (.tuple [.str "num",.int w,.int n]) (.tuple []) (.tuple []) (w:Nat) S .num;have t2:=fN (aE fns (d+2)) (.tuple [.str "num",.int w,.int n]) (.tuple []) (.tuple []) (w:Nat) S .num;refine cG (S1:=S) rfl (d+2) rfl rfl yAf (cF (S1:=S) (w:=.d (.str Wd.num.s)) (eE rfl rfl) rfl (cF (S1:=S) (w:=.d (.int w)) (eE rfl rfl) rfl (aP t1 (bW t2 (bH ?_)))));simp only[gS0,i2,nf]
theorem aOP(d w:Nat)(bV:1<=w)(hw:w<=64)(S:aF):cl fns (d+4) 49 [.d (.tuple [.str "in",.int w]),.d (.tuple []),.d (.tuple [])] S=qq (.d jL.d,S):=by
 have t1:=mP (aE fns (d+2)) (.tuple [.str "in",.int w]) (.tuple []) (.tuple []) (w:Nat) S .in;have hk:FtOk jL w:=⟨xAf w,xAf w,yAb 1,bV⟩;have r:=aCk d (.tuple [.str "in",.int w]) (.tuple []) (.tuple []) S w jL rfl (cG (S1:=S) rfl (d+2) rfl rfl yAf (cF (S1:=S) (w:=.d (.str Wd.in.s)) (eE rfl rfl) rfl (cF (S1:=S) (w:=.d (.int w)) (eE rfl rfl) rfl (bW t1 (bH rfl))))) hk hw;rw[aHK bV] at r;exact r
noncomputable def qJ:List Ft->List Nat->List Nat->Prop
 | f::Fs,w::ws,n::ns=>(n<2^w/\Hd f n w)/\qJ Fs ws ns
 | [],[],[]=>True
 | _,_,_=>False
noncomputable def sR:List Ft->List Nat->Prop
 | f::Fs,w::ws=>Op f w/\sR Fs ws
 | [],[]=>True
 | _,_=>False
structure RG(r:Rw)(ws:List Nat)(Fs:List Ft):Prop where
 g:∃ g:Ft,FtOk g r.w/\(∀ d S,cl fns (d+7) 49 [.d r.d,.d (ws*>nD),.d (Fs*>Ft.d)] S=qq (.d (gJ g r.w).d,S))/\(∀ ns,qJ Fs ws ns->r.wd≠.in->Hd g (cH r ws ns) r.w)/\(r.wd=.in->∀ z,Hd g z r.w)
theorem wE{w:Nat}{Fs:List Ft}(h:sR Fs [w]):∃ f,Fs=[f]/\Op f w:=by
 rcases Fs with _ | ⟨a,_ | ⟨b,r⟩⟩
 ·exact h.elim
 ·exact⟨a,rfl,h.1⟩
 ·exact h.2.elim
theorem aDO{w v:Nat}{Fs:List Ft}(h:sR Fs [w,v]):∃ f g,Fs=[f,g]/\Op f w/\Op g v:=by
 rcases Fs with _ | ⟨a,_ | ⟨b,_ | ⟨c,r⟩⟩⟩
 ·exact h.elim
 ·exact h.2.elim
 ·exact⟨a,b,rfl,h.1,h.2.1⟩
 ·exact h.2.2.elim
theorem aW3{w v u:Nat}{Fs:List Ft}(h:sR Fs [w,v,u]):∃ f g k,Fs=[f,g,k]/\Op f w/\Op g v/\Op k u:=by
 rcases Fs with _ | ⟨a,_ | ⟨b,_ | ⟨c,_ | ⟨e,r⟩⟩⟩⟩
 ·exact h.elim
 ·exact h.2.elim
 ·exact h.2.2.elim
 ·exact⟨a,b,c,rfl,h.1,h.2.1,h.2.2.1⟩
 ·exact h.2.2.2.elim
theorem wD{f:Ft}{w:Nat}{ns:List Nat}(h:qJ [f] [w] ns):∃ a,ns=[a]/\a<2^w/\Hd f a w:=by
 rcases ns with _ | ⟨a,_ | ⟨b,r⟩⟩
 ·exact h.elim
 ·exact⟨a,rfl,h.1⟩
 ·exact h.2.elim
theorem aDJ{f g:Ft}{w v:Nat}{ns:List Nat}(h:qJ [f,g] [w,v] ns):∃ a b,ns=[a,b]/\(a<2^w/\Hd f a w)/\b<2^v/\Hd g b v:=by
 rcases ns with _ | ⟨a,_ | ⟨b,_ | ⟨c,r⟩⟩⟩
 ·exact h.elim
 ·exact h.2.elim
 ·exact⟨a,b,rfl,h.1,h.2.1⟩
 ·exact h.2.2.elim
theorem aWU{f g k:Ft}{w v u:Nat}{ns:List Nat}(h:qJ [f,g,k] [w,v,u] ns):∃ a b c,ns=[a,b,c]/\(a<2^w/\Hd f a w)/\(b<2^v/\Hd g b v)/\c<2^u/\Hd k c u:=by
 rcases ns with _ | ⟨a,_ | ⟨b,_ | ⟨c,_ | ⟨e,r⟩⟩⟩⟩
 ·exact h.elim
 ·exact h.2.elim
 ·exact h.2.2.elim
 ·exact⟨a,b,c,rfl,h.1,h.2.1,h.2.2.1⟩
 ·exact h.2.2.2.elim
theorem mN{r:Rw}{ws:List Nat}{Fs:List Ft}(hi:r.wd≠.in)(h2:r.w<=64)(g:Ft)(hg:FtOk g r.w)(ho:∀ d S,cl fns (d+6) 48 [.d r.d,.d (ws*>nD),.d (Fs*>Ft.d)] S=qq (.d g.d,S))(hh:∀ ns,qJ Fs ws ns->Hd g (cH r ws ns) r.w):RG r ws Fs:=
 ⟨g,hg,λ d S=>aCk (d+3) _ _ _ S r.w g (gG r) (ho d S) hg h2,λ ns h _=>hh ns h,λ h=>absurd h hi⟩
theorem aRt{f:Ft}{w a:Nat}(o:Op f w):RG ⟨.not,w,[a]⟩ [w] [f]:=
 mN (λ h=>nomatch h) o.w2 ⟨f.O,f.N,f.A⟩ ⟨o.ok.lO,o.ok.lN,o.ok.a1,o.ok.aw⟩ (λ d S=>aN8 (d+5) _ _ _ (w:Nat) S f rfl rfl rfl) λ ns h=>by
  obtain⟨x,rfl,hx,hf⟩:=wD h;exact aNZ o.ok o.dj hx hf
theorem aVi{wd:Wd}(h:wd=.left\/wd=.right\/wd=.slide):wd≠.in:=by rcases h with rfl | rfl | rfl<;>decide
theorem aUD{wd:Wd}(h:wd=.and\/wd=.or\/wd=.xor):wd≠.in:=by rcases h with rfl | rfl | rfl<;>decide
theorem aVy{wd:Wd}(h:wd=.same\/wd=.less\/wd=.under):wd≠.in:=by rcases h with rfl | rfl | rfl<;>decide
theorem aVs(s:Sw):s.wd≠.in:=by cases s<;>decide
theorem aUK{f:Ft}{w a k:Nat}(wd:Wd)(aN:wd=.left\/wd=.right\/wd=.slide)(hk:k<64)(o:Op f w):RG ⟨wd,w,[a,k]⟩ [w] [f]:=by
 refine mN (aVi aN) o.w2 (shN wd w f k) ?_ (λ d S=>aLG (d+5) _ _ _ (w:Nat) S wd aN f k _ rfl rfl rfl rfl (aB0 (d+1) wd aN w f k o.ok o.w1 o.w2 (by omega) S)) λ ns h=>?_
 ·rcases aN with rfl | rfl | rfl
  ·exact aPb o.ok o.dj o.w1 k
  ·exact aNP o.ok o.dj o.w1 k
  ·exact aNH o.ok o.dj o.w1 k
 ·obtain⟨x,rfl,hx,hf⟩:=wD h;rcases aN with rfl | rfl | rfl
  ·exact aMu o.ok o.dj hx hf k
  ·exact aLM o.ok o.dj hx hf k
  ·exact aLQ o.ok o.dj hx hf o.w1 k
theorem aSE{f:Ft}{w v a:Nat}(h1:1<=w)(hv:w<=v)(o:Op f v):RG ⟨.cut,w,[a]⟩ [v] [f]:=
 mN (λ h=>nomatch h) (xAi hv o.w2) (vZ v w f) (aTj o.ok o.dj o.w1 h1 hv) (λ d S=>aCc (d+5) _ _ _ (w:Nat) S .cut (.inl rfl) f (v:Nat) _ rfl rfl rfl rfl (aQ5 (d+3) v w f hv (xAi hv o.w2) S)) λ ns h=>by
  obtain⟨x,rfl,hx,hf⟩:=wD h;exact aN7 o.ok o.dj hx hf hv
theorem aOJ{f:Ft}{w v a:Nat}(hv:v<=w)(h2:w<=64)(o:Op f v):RG ⟨.wide,w,[a]⟩ [v] [f]:=
 mN (λ h=>nomatch h) h2 (mK v w f) (aPx o.ok o.dj o.w1 hv) (λ d S=>aCc (d+5) _ _ _ (w:Nat) S .wide (.inr (.inl rfl)) f (v:Nat) _ rfl rfl rfl rfl (aPf (d+2) v w f hv h2 S)) λ ns h=>by
  obtain⟨x,rfl,hx,hf⟩:=wD h;exact aMO o.ok o.dj hx hf hv
theorem aOM{f:Ft}{w v a:Nat}(hv:v<=w)(h2:w<=64)(o:Op f v):RG ⟨.sign,w,[a]⟩ [v] [f]:=
 mN (λ h=>nomatch h) h2 (vJ v w f) (aQb o.ok o.dj o.w1 hv) (λ d S=>aCc (d+5) _ _ _ (w:Nat) S .sign (.inr (.inr rfl)) f (v:Nat) _ rfl rfl rfl rfl (aOV (d+2) v w f o.w1 hv h2 S)) λ ns h=>by
  obtain⟨x,rfl,hx,hf⟩:=wD h;exact aMS o.ok o.dj hx hf o.w1 hv
theorem aUl{f g:Ft}{w a b:Nat}(wd:Wd)(aN:wd=.and\/wd=.or\/wd=.xor)(o:Op f w)(o':Op g w):RG ⟨wd,w,[a,b]⟩ [w,w] [f,g]:=by
 obtain⟨n,hb',eb,ej⟩:∃ n,(n=0\/n=1\/n=2)/\bwN wd f g=tB n f g/\∀ x y:Nat,cH ⟨wd,w,[a,b]⟩ [w,w] [x,y]=bwv n x y:=by
  rcases aN with rfl | rfl | rfl
  ·exact⟨0,.inl rfl,rfl,λ x y=>rfl⟩
  ·exact⟨1,.inr (.inl rfl),rfl,λ x y=>rfl⟩
  ·exact⟨2,.inr (.inr rfl),rfl,λ x y=>rfl⟩
 refine mN (aUD aN) o.w2 (tB n f g) (aVb hb' o.ok o.dj o'.ok o'.dj) (λ d S=>?_) λ ns h=>?_
 ·have q:=aO4 (d+3) (Rw.mk wd w [a,b]).d (.tuple [nD w,nD w]) (.tuple [f.d,g.d]) (w:Nat) S wd aN f g rfl rfl rfl rfl;rw[eb] at q;exact q
 ·obtain⟨x,y,rfl,⟨hx,h1⟩,hy,h2⟩:=aDJ h;rw[ej];exact aPL hb' o.ok o.dj h1 o'.ok o'.dj h2
theorem aVd{f g:Ft}{w a b:Nat}(s:Sw)(o:Op f w)(o':Op g w):RG ⟨s.wd,w,[a,b]⟩ [w,w] [f,g]:=by
 obtain⟨p,hp,h⟩:=o.ho;obtain⟨q,hq,h'⟩:=o'.ho;refine mN (aVs s) o.w2 (wJ s w f g) (aS6 s o.ok o'.ok hp hq h h') (λ d S=>aNS d _ _ _ w S s f g rfl rfl rfl rfl o.ok o'.ok (aTo s w f g o.ok o'.ok hp hq h h') o.w2) λ ns hn=>?_
 obtain⟨x,y,rfl,⟨hx,h1⟩,hy,h2⟩:=aDJ hn;have e:cH ⟨s.wd,w,[a,b]⟩ [w,w] [x,y]=rs (s.oc (x:Nat) (y:Nat)) w:=by cases s<;>rfl
 rw[e];exact aN1 s o.ok o'.ok hx hy h1 h2
theorem aRz{f g:Ft}{v a b:Nat}(wd:Wd)(aN:wd=.same\/wd=.less\/wd=.under)(o:Op f v)(o':Op g v):RG ⟨wd,1,[a,b]⟩ [v,v] [f,g]:=by
 have hk:FtOk (oU wd v f g) 1:=by rcases aUi wd v f g with h | h | h<;>rw[h]<;>exact⟨by decide,by decide,by decide,by decide⟩
 refine mN (aVy aN) (show 1<=64 by omega) (oU wd v f g) hk (λ d S=>aMq (d+1) _ _ _ ((1:Nat):Int) S wd aN v f g rfl rfl rfl rfl rfl ⟨o.ok,o.dj⟩ ⟨o'.ok,o'.dj⟩ o.w1 o.w2) λ ns hn=>?_
 obtain⟨x,y,rfl,⟨hx,h1⟩,hy,h2⟩:=aDJ hn;rcases aN with rfl | rfl | rfl
 ·exact aMy o.ok hx hy h1 h2
 ·exact aM3 o.ok o'.ok hx hy h1 h2
 ·exact aLS o.ok o'.ok o.dj o'.dj o.w1 hx hy h1 h2
theorem aPE{t f g:Ft}{w c a b:Nat}(ot:Op t 1)(o:Op f w)(o':Op g w):RG ⟨.pick,w,[c,a,b]⟩ [1,w,w] [t,f,g]:=
 mN (λ h=>nomatch h) o.w2 (oS t f g) (aVx o.ok o'.ok) (λ d S=>aL0 (d+4) _ _ _ (w:Nat) S t f g rfl rfl rfl rfl rfl) λ ns hn=>by
  obtain⟨z,x,y,rfl,⟨hz,h0⟩,⟨hx,h1⟩,hy,h2⟩:=aWU hn;exact aMB h0 hz h1 h2
theorem aRW{w n:Nat}(h1:1<=w)(h2:w<=64)(hn:n<2^w):RG ⟨.num,w,[n]⟩ [] []:=
 ⟨tD n w,aI6 hn h1,λ d S=>aNs (d+3) n w hn h1 h2 S,λ ns _ _=>aPA hn,λ h=>nomatch h⟩
theorem aVu{w:Nat}(h1:1<=w)(h2:w<=64):RG ⟨.in,w,[]⟩ [] []:=by
 refine⟨jL,⟨xAf w,xAf w,yAb 1,h1⟩,λ d S=>?_,λ ns _ h=>absurd rfl h,λ _ z=>⟨λ i h=>rF h,λ i h=>rF h,lD _ _⟩⟩
 have:=aOP (d+3) w h1 h2 S;rw[aHK h1];exact this
theorem rg{r:Rw}{ws:List Nat}(h:RwOk r ws){Fs:List Ft}(o:sR Fs ws):RG r ws Fs:=by
 cases h with
 | inp h1 h2 =>
   rcases Fs with _ | ⟨f,Fs⟩
   ·exact aVu h1 h2
   ·exact o.elim
 | num h1 h2 hn =>
   rcases Fs with _ | ⟨f,Fs⟩
   ·exact aRW h1 h2 hn
   ·exact o.elim
 | nt h1 h2 =>
   obtain⟨f,rfl,o1⟩:=wE o;exact aRt o1
 | sh h1 h2 aN hk =>
   obtain⟨f,rfl,o1⟩:=wE o;exact aUK _ aN hk o1
 | cut h1 hv h2 =>
   obtain⟨f,rfl,o1⟩:=wE o;exact aSE h1 hv o1
 | wide h1 hv h2 =>
   obtain⟨f,rfl,o1⟩:=wE o;exact aOJ hv h2 o1
 | sign h1 hv h2 =>
   obtain⟨f,rfl,o1⟩:=wE o;exact aOM hv h2 o1
 | bw h1 h2 aN =>
   obtain⟨f,g,rfl,o1,o2⟩:=aDO o;exact aUl _ aN o1 o2
 | sm h1 h2 =>
   obtain⟨f,g,rfl,o1,o2⟩:=aDO o;exact aVd _ o1 o2
 | cmp h1 h2 aN =>
   obtain⟨f,g,rfl,o1,o2⟩:=aDO o;exact aRz _ aN o1 o2
 | pick h1 h2 =>
   obtain⟨t,f,g,rfl,ot,o1,o2⟩:=aW3 o;exact aPE ot o1 o2
noncomputable def f0(F:List Ft)(a:Nat):Ft:=F.getD a ⟨0,0,1⟩
noncomputable def iJ(r:Rw)(F:List Ft):List Ft:=(r.args.take (bB r.wd)).map (f0 F)
structure Snd(rs:List Rw)(F:List Ft):Prop where
 ok:∀ (i:Nat) (f:Ft) (w:Nat),F[i]? = qq f->(~~~rs)[i]? = qq w->FtOk f w
 hold:∀ is,bT rs is->∀ (i:Nat) (f:Ft) (w n:Nat),F[i]? = qq f->(~~~rs)[i]? = qq w->(cL rs (~~~rs) is [])[i]? = qq n->Hd f n w
theorem pO{F:List Ft}{a:Nat}(h:a<F.length):F[a]? = qq (f0 F a):=by
 show F[a]? = qq (F.getD a ⟨0,0,1⟩);rw[xAh,yAa h];rfl
theorem aPC{rs:List Rw}(p:Prg rs){a w:Nat}(h:(~~~rs)[a]? = qq w):1<=w/\w<=64:=by
 rw[xAb] at h;obtain⟨r,hr,rfl⟩:=Option.map_eq_some_iff.mp h;exact p.ws a r hr
theorem aHd{rs:List Rw}(p:Prg rs){F:List Ft}(s:Snd rs F):∀ (l:List Nat),(∀ a∈l,a<F.length/\a<rs.length)->sR (l.map (f0 F)) (l.map (g0 (~~~rs)))
 | [],_=>True.intro
 | a::l,h=>by
   obtain⟨h1,h2⟩:=h a xAd;have hw:=mD (l:=rs.map (·.w)) (a:=a) (by rw[yAd];exact h2)
   have hf:=pO h1;obtain⟨is,hi⟩:=p.ins;have hn:=mD (l:=cL rs (~~~rs) is []) (a:=a) (by rw[rL p hi];exact h2)
   obtain⟨w1,w2⟩:=aPC p hw;exact⟨⟨s.ok a _ _ hf hw,⟨_,aAh p hi hn hw,s.hold is hi a _ _ _ hf hw hn⟩,w1,w2⟩,aHd p s l λ b hb=>h b (xAg _ hb)⟩
theorem aH5{rs:List Rw}(p:Prg rs){F:List Ft}(s:Snd rs F){is:List Nat}(hi:bT rs is):∀ (l:List Nat),(∀ a∈l,a<F.length/\a<rs.length)->qJ (l.map (f0 F)) (l.map (g0 (~~~rs))) (l.map (g0 (cL rs (~~~rs) is [])))
 | [],_=>True.intro
 | a::l,h=>by
   obtain⟨h1,h2⟩:=h a xAd;have hw:=mD (l:=rs.map (·.w)) (a:=a) (by rw[yAd];exact h2)
   have hf:=pO h1;have hn:=mD (l:=cL rs (~~~rs) is []) (a:=a) (by rw[rL p hi];exact h2)
   exact⟨⟨aAh p hi hn hw,s.hold is hi a _ _ _ hf hw hn⟩,aH5 p s hi l λ b hb=>h b (xAg _ hb)⟩
structure Nx(rs:List Rw)(F:List Ft)(j:Nat)(r:Rw)(g:Ft):Prop where
 ok:FtOk g r.w
 rule:∀ d S,cl fns (d+7) 49 [.d r.d,.d (.tuple ((aT r (~~~rs)).map nD)),.d (.tuple ((iJ r F).map Ft.d))] S=qq (.d g.d,S)
 hold:∀ is,bT rs is->∀ n,(cL rs (~~~rs) is [])[j]? = qq n->Hd g n r.w
theorem aMN{rs:List Rw}(p:Prg rs){F:List Ft}(s:Snd rs F){j:Nat}{r:Rw}(hr:rs[j]? = qq r)(hF:j<=F.length):∃ g,Nx rs F j r g:=by
 obtain⟨f1,f2⟩:=p.fit j r hr;have hj:j<rs.length:=(gIm hr).1;have hb:∀ a∈r.args.take (bB r.wd),a<F.length/\a<rs.length:=λ a ha=>by have:=f2 a ha;omega
 obtain⟨g,gk,rl,h1,h2⟩:=(rg f1 (aHd p s _ hb)).g;refine⟨gJ g r.w,aTq gk,rl,λ is hi n hn=>(aNz gk).mpr ?_⟩
 by_cases c:r.wd=.in
 ·exact h2 c n
 ·have e:=aRP p.fit is hr c;rw[hn] at e;cases e;exact h1 _ (aH5 p s hi _ hb) c
theorem aNw{rs:List Rw}{F:List Ft}(s:Snd rs F){r:Rw}{g f:Ft}(hr:rs[F.length]? = qq r)(nx:Nx rs F F.length r g)(fk:FtOk f r.w)(hN:∀ i,f.N.testBit i=true->g.N.testBit i=true)(hO:∀ i,f.O.testBit i=true->g.O.testBit i=true)(hA:f.A<=g.A):Snd rs (F++[f]):=by
 have last:∀ {i:Nat}{x:Ft},(F++[f])[i]? = qq x->F[i]? = qq x\/(i=F.length/\x=f):=λ {i x} h=>by
  by_cases c:i<F.length
  ·rw[xAn c] at h;exact .inl h
  ·have hl:=(gIm h).1;simp at hl;have:i=F.length:=by omega
   subst this;rw[yAe (yAb _),yBb] at h;cases h;exact .inr ⟨rfl,rfl⟩
 have hw:(~~~rs)[F.length]? = qq r.w:=by rw[xAb,hr];rfl
 refine⟨λ i x w h1 h2=>?_,λ is hi i x w n h1 h2 h3=>?_⟩
 ·rcases last h1 with h | ⟨rfl,rfl⟩
  ·exact s.ok i x w h h2
  ·rw[hw] at h2;cases h2;exact fk
 ·rcases last h1 with h | ⟨rfl,rfl⟩
  ·exact s.hold is hi i x w n h h2 h3
  ·rw[hw] at h2;cases h2;have q:=nx.hold is hi n h3;exact⟨λ i hi=>q.1 i (hN i hi),λ i hi=>q.2.1 i (hO i hi),rO hA q.2.2⟩
theorem aOT(rs:List Rw):Snd rs []:=⟨λ i f w h=>by simp at h,λ is hi i f w n h=>by simp at h⟩
theorem aQi(d:Nat)(r:Rw)(F:List Ft)(S0:aF)(h:∀ a∈r.args.take (bB r.wd),a<F.length):cl fns (d+2) 8 [.d r.d,.loc S0.length] (S0++[qq (F.map Ft.d)])=qq (.d (.tuple ((iJ r F).map Ft.d)),S0++[qq (F.map Ft.d)]):=by
 have:=zF d r (.loc S0.length) (.list (F.map Ft.d)) (λ a=>(f0 F a).d) (S0++[qq (F.map Ft.d)]) (λ aC=>by
  show(match (S0++[qq (F.map Ft.d)]++[qq aC])[S0.length]? with | some (qq ds)=>qq (yDs ds) | _=>qz)=_
  rw[yAq,yAe (yAb _),yBb];rfl) λ a ha=>jR (by rw[xAb,pO (h a ha)];rfl)
 rw[this,iJ,yBn];rfl
theorem aOe{r:Rw}{F:List Ft}{f:Ft}(h:∀ a∈r.args.take (bB r.wd),a<F.length):iJ r (F++[f])=iJ r F:=by
 unfold iJ;refine yCg λ a ha=>?_
 show(F++[f]).getD a ⟨0,0,1⟩=F.getD a ⟨0,0,1⟩;rw[xAh,xAh,xAn (h a ha)]
theorem aSc{F:List Ft}{f:Ft}{a:Nat}(h:a<F.length):f0 (F++[f]) a=f0 F a:=by
 show(F++[f]).getD a ⟨0,0,1⟩=F.getD a ⟨0,0,1⟩;rw[xAh,xAh,xAn h]
theorem aTl(F:List Ft)(f:Ft):f0 (F++[f]) F.length=f:=by
 show(F++[f]).getD F.length ⟨0,0,1⟩=f;rw[xAh,yAe (yAb _),yBb];rfl
def sY(rs:List Rw)(F:List Ft):Prop:=∀ (i:Nat) (r:Rw),i<F.length->rs[i]? = qq r->∃ g,g=f0 F i/\Nx rs F i r g
theorem aHl{rs:List Rw}(p:Prg rs){F:List Ft}{f:Ft}{i:Nat}{r:Rw}{g:Ft}(hi:i<=F.length)(hr:rs[i]? = qq r)(nx:Nx rs F i r g):Nx rs (F++[f]) i r g:=by
 refine⟨nx.ok,?_,nx.hold⟩;rw[aOe λ a ha=>by have:=(p.fit i r hr).2 a ha;omega]
 exact nx.rule
theorem aNq{rs:List Rw}(p:Prg rs){F:List Ft}(h:sY rs F){r:Rw}{g:Ft}(hr:rs[F.length]? = qq r)(nx:Nx rs F F.length r g):sY rs (F++[g]):=λ i q hi hq=>by
 by_cases c:i<F.length
 ·obtain⟨g',rfl,h1⟩:=h i q c hq;exact⟨_,(aSc c).symm,aHl p (by omega) hq h1⟩
 ·have ci:i=F.length:=by simp at hi;omega
  subst ci;rw[hr] at hq;cases hq;exact⟨g,(aTl F g).symm,aHl p (yAb _) hr nx⟩
theorem aET(d:Nat)(rs:List Rw)(o:D)(p:Prg rs)(S:aF):∃ F:List Ft,F.length=rs.length/\Snd rs F/\sY rs F/\cl fns (d+9) 50 [.d (rs<*o)] S=qq (.d (F*>Ft.d),S):=by
 have i0:aH (rs<*o) (.int 0)=qq (rs*>Rw.d):=rfl;have pl:=p.l;obtain⟨aI,S',p1,F,c3,rfl,rfl,fl,fs,fo⟩:=mG (t:=.one 3) (fi:=lv (aE fns (d+8)) xR) (fb:=xs (aE fns (d+8)) xS) (env:=[qq (.d (rs<*o)),qq (.d (.tuple ((~~~rs).map nD))),qq (.loc S.length),qz]) (S:=S++[qq []]) (S1:=S++[qq []]) (ds:=rs.map Rw.d)
  (λ j env S'=>∃ (F:List Ft) (c3:Option W),env=[qq (.d (rs<*o)),qq (.d (.tuple ((~~~rs).map nD))),qq (.loc S.length),c3]/\S'=S++[qq (F.map Ft.d)]/\F.length=j/\Snd rs F/\sY rs F)
  (by
    simp only[evs,xR,i0,fV]) ⟨[],qz,rfl,rfl,rfl,aOT rs,λ i r hi=>absurd hi (yDy i)⟩ (by
    rintro j dd env S' hd ⟨F,c3,rfl,rfl,fl,fs,fo⟩;rw[xAb] at hd;obtain⟨r,hr,rfl⟩:=Option.map_eq_some_iff.mp hd;subst fl;obtain⟨f1,f2⟩:=p.fit _ r hr;have hj:F.length<rs.length:=(gIm hr).1;have hWl:(~~~rs).length=rs.length:=yAd ..;obtain⟨g,nx⟩:=aMN p fs hr (yAb _);have o1:=aGY (d+6) r (~~~rs) (S++[qq (F.map Ft.d)]) λ a ha=>by have:=f2 a ha;omega
    have o2:=aQi (d+6) r F S λ a ha=>f2 a ha
    have rl:=nx.rule (d+1) (S++[qq (F.map Ft.d)]);have ap:dF (S++[qq (F.map Ft.d)]) (.loc S.length) (.d g.d)=qq (.d .none,S++[qq ((F++[g]).map Ft.d)]):=by
     rw[uC S (F.map Ft.d) _ (by rw[yAd];omega),yBt]
     rfl
    refine⟨_,[qq (.d (rs<*o)),qq (.d (.tuple ((~~~rs).map nD))),qq (.loc S.length),qq (.d r.d)],S++[qq ((F++[g]).map Ft.d)],rfl,?_,F++[g],_,rfl,rfl,by simp,aNw fs hr nx nx.ok (λ i h=>h) (λ i h=>h) (yAb _),aNq p fo hr nx⟩
    simp only[evs,xS,o1,o2,rl,fF,ap])
 rw[yAd] at fl;refine⟨F,fl,fs,fo,?_⟩;have p1':eB (.one 3) (lv (aE fns (d+8)) xR) (xs (aE fns (d+8)) xS) [qq (.d (rs<*o)),qq (.d (.tuple ((~~~rs).map nD))),qq (.loc S.length),qz] (S++[qq []])=qq (.nx [qq (.d (rs<*o)),qq (.d (.tuple ((~~~rs).map nD))),qq (.loc S.length),c3],S++[qq (F.map Ft.d)]):=p1;have tk1:∀ x,yDn S.length (S++[x])=S:=λ x=>yCz
 rw[aY rfl (d+8) _ S rfl];have hq66:=aEG (d+7) rs o (by omega)
 simp only[gR1,aFX,hq66,fD,p1',kP,gB,fZ,tk1]
theorem aBL:∀ (rs:List Rw) (ws:List Nat),dN ws rs->∀ (j:Nat) (r:Rw),rs[j]? = qq r->gD (ws++(rs.take j).map (·.w)) r
 | [],_,_,j,r,h=>by simp at h
 | q::rs,ws,⟨h1,h2⟩,0,r,h=>by
   cases h;simpa using h1
 | q::rs,ws,⟨h1,h2⟩,j+1,r,h=>by
   have:=aBL rs (ws++[q.w]) h2 j r (by simpa using h)
   simpa using this
theorem aKw{a n:Nat}(h:a<n):∀ x∈[a],x<n:=λ x hx=>by
 rw[List.mem_singleton.mp hx];exact h
theorem aJ0{a b n:Nat}(h:a<n)(h':b<n):∀ x∈[a,b],x<n:=λ x hx=>by
 rcases List.mem_cons.mp hx with rfl | hx
 ·exact h
 ·exact aKw h' x hx
theorem aWW{a b c n:Nat}(h:a<n)(h':b<n)(h'':c<n):∀ x∈[a,b,c],x<n:=λ x hx=>by
 rcases List.mem_cons.mp hx with rfl | hx
 ·exact h
 ·exact aJ0 h' h'' x hx
theorem aJX{n:Nat}:∀ x∈([]:List Nat),x<n:=λ x hx=>by simp at hx
section
variable {ws W : List Nat}{n : Nat}(hw : ∀ a v, ws[a]? = qq v -> g0 W a = v /\ 1 <= v /\ v <= 64 /\ a<n)
include hw
theorem pI{wd:Wd}{w a v:Nat}{args:List Nat}(e:(args.take (bB wd))=[a])(h:ws[a]? = qq v)(k:RwOk ⟨wd,w,args⟩ [v]):RwOk ⟨wd,w,args⟩ (aT ⟨wd,w,args⟩ W)/\∀ x∈args.take (bB wd),x<n:=by
 obtain⟨e1,_,_,e4⟩:=hw a v h;have:aT ⟨wd,w,args⟩ W=[v]:=by
  show(args.take (bB wd)).map (g0 W)=[v];rw[e,yAt,yFa,e1]
 rw[this,e];exact⟨k,aKw e4⟩
theorem pK{wd:Wd}{w a b v u:Nat}{args:List Nat}(e:(args.take (bB wd))=[a,b])(h:ws[a]? = qq v)(h':ws[b]? = qq u)(k:RwOk ⟨wd,w,args⟩ [v,u]):RwOk ⟨wd,w,args⟩ (aT ⟨wd,w,args⟩ W)/\∀ x∈args.take (bB wd),x<n:=by
 obtain⟨e1,_,_,e4⟩:=hw a v h;obtain⟨d1,_,_,d4⟩:=hw b u h';have:aT ⟨wd,w,args⟩ W=[v,u]:=by
  show(args.take (bB wd)).map (g0 W)=[v,u];rw[e,yAt,yAt,yFa,e1,d1]
 rw[this,e];exact⟨k,aJ0 e4 d4⟩
omit hw in
theorem aUg{wd:Wd}{w:Nat}(h:gD ws ⟨wd,w,[]⟩):RwOk ⟨wd,w,[]⟩ (aT ⟨wd,w,[]⟩ W)/\∀ x∈yDn (bB wd) [],x<n:=by
 cases wd
 case «in» => exact⟨.inp h.1 h.2.1,aJX⟩
 all_goals exact h.2.2.elim
theorem aU1{wd:Wd}{w a:Nat}(h:gD ws ⟨wd,w,[a]⟩):RwOk ⟨wd,w,[a]⟩ (aT ⟨wd,w,[a]⟩ W)/\∀ x∈yDn (bB wd) [a],x<n:=by
 cases wd
 case num=>exact⟨.num h.1 h.2.1 h.2.2,aJX⟩
 case not=>exact pI hw rfl h.2.2 (.nt h.1 h.2.1)
 case cut =>
  obtain⟨v,q1,q2⟩:=h.2.2;exact pI hw rfl q1 (.cut h.1 q2 (hw a v q1).2.2.1)
 case wide =>
  obtain⟨v,q1,q2⟩:=h.2.2;exact pI hw rfl q1 (.wide (hw a v q1).2.1 q2 h.2.1)
 case sign =>
  obtain⟨v,q1,q2⟩:=h.2.2;exact pI hw rfl q1 (.sign (hw a v q1).2.1 q2 h.2.1)
 all_goals exact h.2.2.elim
theorem aCY{wd:Wd}(aN:wd=.same\/wd=.less\/wd=.under){w a b:Nat}(q:w=1/\∃ v,ws[a]? = qq v/\ws[b]? = qq v)(e:bB wd=2):RwOk ⟨wd,w,[a,b]⟩ (aT ⟨wd,w,[a,b]⟩ W)/\∀ x∈yDn (bB wd) [a,b],x<n:=by
 obtain⟨rfl,v,q1,q2⟩:=q;exact pK hw (by rw[e];rfl) q1 q2 (.cmp (hw a v q1).2.1 (hw a v q1).2.2.1 aN)
theorem aUe{wd:Wd}{w a b:Nat}(h:gD ws ⟨wd,w,[a,b]⟩):RwOk ⟨wd,w,[a,b]⟩ (aT ⟨wd,w,[a,b]⟩ W)/\∀ x∈yDn (bB wd) [a,b],x<n:=by
 cases wd
 case left=>exact pI hw rfl h.2.2.1 (.sh h.1 h.2.1 (.inl rfl) h.2.2.2)
 case right=>exact pI hw rfl h.2.2.1 (.sh h.1 h.2.1 (.inr (.inl rfl)) h.2.2.2)
 case slide=>exact pI hw rfl h.2.2.1 (.sh h.1 h.2.1 (.inr (.inr rfl)) h.2.2.2)
 case and=>exact pK hw rfl h.2.2.1 h.2.2.2 (.bw h.1 h.2.1 (.inl rfl))
 case or=>exact pK hw rfl h.2.2.1 h.2.2.2 (.bw h.1 h.2.1 (.inr (.inl rfl)))
 case xor=>exact pK hw rfl h.2.2.1 h.2.2.2 (.bw h.1 h.2.1 (.inr (.inr rfl)))
 case add=>exact pK hw rfl h.2.2.1 h.2.2.2 (.sm (s:=.add) h.1 h.2.1)
 case sub=>exact pK hw rfl h.2.2.1 h.2.2.2 (.sm (s:=.sub) h.1 h.2.1)
 case mul=>exact pK hw rfl h.2.2.1 h.2.2.2 (.sm (s:=.mul) h.1 h.2.1)
 case same=>exact aCY hw (.inl rfl) h.2.2 rfl
 case less=>exact aCY hw (.inr (.inl rfl)) h.2.2 rfl
 case under=>exact aCY hw (.inr (.inr rfl)) h.2.2 rfl
 all_goals exact h.2.2.elim
theorem aTp{wd:Wd}{w a b c:Nat}(h:gD ws ⟨wd,w,[a,b,c]⟩):RwOk ⟨wd,w,[a,b,c]⟩ (aT ⟨wd,w,[a,b,c]⟩ W)/\∀ x∈yDn (bB wd) [a,b,c],x<n:=by
 cases wd
 case pick =>
  obtain⟨q1,q2,q3⟩:=h.2.2;obtain⟨e1,_,_,e4⟩:=hw a _ q1;obtain⟨d1,_,_,d4⟩:=hw b _ q2;obtain⟨c1,_,_,c4⟩:=hw c _ q3;have:aT ⟨.pick,w,[a,b,c]⟩ W=[1,w,w]:=by
   show [g0 W a,g0 W b,g0 W c]=[1,w,w];rw[e1,d1,c1]
  rw[this];exact⟨.pick h.1 h.2.1,aWW e4 d4 c4⟩
 all_goals exact h.2.2.elim
omit hw in
theorem aUm{wd:Wd}{w a b c e:Nat}{t:List Nat}(h:gD ws ⟨wd,w,a::b::c::e::t⟩):False:=by
 cases wd
 all_goals exact h.2.2
theorem aO2{r:Rw}(h:gD ws r):RwOk r (aT r W)/\∀ x∈r.args.take (bB r.wd),x<n:=by
 obtain⟨wd,w,args⟩:=r
 match args,h with
 | [],h=>exact aUg h
 | [a],h=>exact aU1 hw h
 | [a,b],h=>exact aUe hw h
 | [a,b,c],h=>exact aTp hw h
 | _::_::_::_::_,h=>exact(aUm h).elim
end
theorem aGB:∀ rs:List Rw,∃ is,bT rs is
 | []=>⟨[],rfl⟩
 | r::rs=>by
   obtain⟨is,h⟩:=aGB rs
   by_cases c:r.wd=.in
   ·refine⟨0::is,?_⟩;rw[bT,if_pos c];exact⟨0,is,rfl,xAf _,h⟩
   ·refine⟨is,?_⟩;rw[bT,if_neg c];exact h
theorem aSk{rs:List Rw}(h:dN [] rs)(hl:rs.length<=100):Prg rs:=by
 have ws:∀ (j:Nat) (r:Rw),rs[j]? = qq r->1<=r.w/\r.w<=64:=λ j r hr=>by
  have:=aBL rs [] h j r hr;exact⟨this.1,this.2.1⟩
 refine⟨hl,λ j r hr=>?_,aGB rs,ws⟩
 have ok:=aBL rs [] h j r hr;rw[yFk] at ok;refine aO2 (n:=j) (λ a v ha=>?_) ok
 have hj:j<rs.length:=(gIm hr).1;have haj:a<j:=by
  have:=(gIm ha).1;rw[yAd,yCc] at this;omega
 rw[xAb,yDw haj] at ha;obtain⟨q,hq,rfl⟩:=Option.map_eq_some_iff.mp ha;obtain⟨w1,w2⟩:=ws a q hq;refine⟨?_,w1,w2,haj⟩;show(~~~rs).getD a 0=q.w;rw[xAh,xAb,hq];rfl
noncomputable abbrev sT(T:aF)(ns:List Int)(k:Nat)(x:Int):aF:=qq (bG ns k x)::T
theorem aI4(T:aF)(ns:List Int)(k:Nat)(x:Int)(h:T.length<=40):aM (qz::T) 0 50 ns k x []=sT T ns k x:=by
 unfold aM;rw[yFl,yDx];simp;omega
theorem aVX(T:aF)(h:T.length<=40):At0 (qz::T) 0 50:=⟨by simp,by decide⟩
section
variable {ns : List Int}{k : Nat}{x : Int}
theorem aTh(T:aF)(hT:T.length<=40)(d m:Nat)(hm:0<m)(hm2:m<2^64)(hk:k<=100000):∃ (r:Nat) (x':Int),r<m/\cl fns (d+1) 65 [.loc 0,.d (.int m)] (sT T ns k x)=qq (.d (.int r),sT T ns (k+1) x'):=by
 obtain⟨r,x',hr,e⟩:=eY (rs:=[]) (ns:=ns) (k:=k) (x:=x) (aVX T hT) d m hm hm2 hk;rw[aI4 T _ _ _ hT,aI4 T _ _ _ hT] at e;exact⟨r,x',hr,e⟩
end
theorem aAA{m i:Nat}(h:m.testBit i=true):i<bl m:=by
 by_cases c:i<bl m
 ·exact c
 ·rw[cM (pP m) (by omega)] at h
  cases h
theorem aIS(i:Nat):bl (2^i)=i+1:=aBO (yBx (by decide) (by omega)) (.inr (by simp))
theorem aQR(i:Nat):(2:Nat)^i≠0:=yEc (xAf i)
theorem lW(i t:Nat):(2^i).testBit t=decide (i=t):=yDg
noncomputable def gQ(x w:Nat):Nat:=if x/2^w=0 then x else (x&&&(2^w-1))|||2^(w-1)
theorem pC{x w t:Nat}(hw:1<=w):(gQ x w).testBit t=true ↔ (t<w/\x.testBit t=true)\/(t=w-1/\∃ j,w<=j/\x.testBit j=true):=by
 unfold gQ
 split
 ·rename_i h;rw[aBn] at h;constructor
  ·intro z;refine .inl ⟨?_,z⟩
   by_cases c:t<w
   ·exact c
   ·rw[h t (by omega)] at z;cases z
  ·rintro (⟨_,z⟩ | ⟨_,j,h1,h2⟩)
   ·exact z
   ·rw[h j h1] at h2;cases h2
 ·rename_i h;rw[xAp,yAh,cN,lW];have h':∃ j,w<=j/\x.testBit j=true:=by
   rw[aBn] at h
   by_cases c:∃ j,w<=j/\x.testBit j=true
   ·exact c
   ·refine absurd (λ i hi=>?_) h
    cases q:x.testBit i with
    | false=>rfl
    | true=>exact absurd ⟨i,hi,q⟩ c
  constructor
  ·intro z;simp only[yDz,yAk,decide_eq_true_eq] at z;rcases z with ⟨z1,z2⟩ | z
   ·exact .inl ⟨z2,z1⟩
   ·exact .inr ⟨z.symm,h'⟩
  ·rintro (⟨z1,z2⟩ | ⟨z,_⟩)
   ·simp[z1,z2]
   ·simp[z]
theorem aG1{x w:Nat}(hw:1<=w):gQ x w<2^w:=by
 apply yCm;intro i hi;cases q:(gQ x w).testBit i with
 | false=>rfl
 | true =>
   rcases (pC hw).mp q with ⟨h,_⟩ | ⟨h,_⟩<;>omega
structure Fc where
 N:Nat
 O:Nat
 A:Nat
noncomputable instance:Inhabited Fc:=⟨⟨0,0,0⟩⟩
noncomputable def aX(wd:Wd)(w kk:Nat)(ws:List Nat)(fs:List Fc)(m:Nat):List Nat:=
 if m=0 then yAc (bB wd) 0 else
 match wd with
 | .in | .num=>[]
 | .not | .cut=>[m]
 | .xor=>[m,m]
 | .and=>[dB m (dB (fs.getD 1 default).N (fs.getD 0 default).N),dB m (fs.getD 0 default).N]
 | .or=>[dB m (dB (fs.getD 1 default).O (fs.getD 0 default).O),dB m (fs.getD 0 default).O]
 | .add | .sub=>[2^bl m-1,2^bl m-1]
 | .mul=>[2^(bl m-min (bl m) (lr (fs.getD 1 default).N))-1,2^(bl m-min (bl m-min (bl m) (lr (fs.getD 1 default).N)) (lr (fs.getD 0 default).N))-1]
 | .left=>[m/2^kk]
 | .right=>[(m*2^kk)&&&(2^w-1)]
 | .slide=>[gQ (m*2^kk) w]
 | .wide=>[m&&&(2^ws.getD 0 0-1)]
 | .sign=>[gQ m (ws.getD 0 0)]
 | .same | .less | .under=>[2^ws.getD 0 0-1,2^ws.getD 1 0-1]
 | .pick=>if (fs.getD 0 default).O=1 then [1,m,0] else if (fs.getD 0 default).N=1 then [1,0,m] else [1,m,m]
def wC(wd:Wd)(w:Nat)(ws:List Nat):Prop:=1<=w/\w<=64/\match wd with
 | .in | .num=>ws=[]
 | .not | .left | .right | .slide=>ws=[w]
 | .and | .or | .xor | .add | .sub | .mul=>ws=[w,w]
 | .cut=>∃ v,ws=[v]/\w<=v/\v<=64
 | .wide | .sign=>∃ v,ws=[v]/\v<=w/\1<=v
 | .same | .less | .under=>w=1/\∃ v,ws=[v,v]/\1<=v/\v<=64
 | .pick=>ws=[1,w,w]
theorem aNm{wd:Wd}{w kk m:Nat}{ws:List Nat}{fs:List Fc}:(aX wd w kk ws fs m).length=bB wd:=by
 unfold aX
 split
 ·simp
 ·cases wd<;>first | rfl | (simp only;split<;>first | rfl | (split<;>rfl))
theorem rQ{P:Nat->Prop}{m:Nat}(f:Nat->Nat)(hf:∀ i j,i<=j->f i<=f j)(h0:m≠0)(t:Nat):(2^f (bl m)-1).testBit t=true ↔ ∃ i,m.testBit i=true/\(2^f (bl (2^i))-1).testBit t=true:=by
 rw[cN,decide_eq_true_eq];constructor
 ·intro h;refine⟨bl m-1,aCI h0,?_⟩;rw[cN,decide_eq_true_eq,aIS];have:=aBM h0;rw[show bl m-1+1=bl m by omega]
  exact h
 ·rintro ⟨i,h1,h2⟩;rw[cN,decide_eq_true_eq,aIS] at h2;exact xAc h2 (hf _ _ (aAA h1))
theorem mB{m x t:Nat}(h:m≠0):x.testBit t=true ↔ ∃ i,m.testBit i=true/\x.testBit t=true:=by
 constructor
 ·intro z;exact⟨bl m-1,aCI h,z⟩
 ·rintro ⟨_,_,z⟩;exact z
theorem kT{m t:Nat}:m.testBit t=true ↔ ∃ i,m.testBit i=true/\(2^i).testBit t=true:=by
 constructor
 ·intro z;exact⟨t,z,by rw[lW];simp⟩
 ·rintro ⟨i,h1,h2⟩;rw[lW,decide_eq_true_eq] at h2;rw[<- h2];exact h1
theorem zW{m y t:Nat}:(dB m y).testBit t=true ↔ ∃ i,m.testBit i=true/\(dB (2^i) y).testBit t=true:=by
 rw[jO];constructor
 ·intro z;rw[yAk] at z;exact⟨t,z.1,by rw[jO,lW];simp[z.2]⟩
 ·rintro ⟨i,h1,h2⟩;rw[jO,lW,yAk,decide_eq_true_eq] at h2;obtain⟨rfl,h3⟩:=h2;rw[h1,h3];rfl
theorem oW(x k t:Nat):(x*2^k).testBit t=(decide (k<=t)&&x.testBit (t-k)):=by rw[Nat.testBit_mul_two_pow]
theorem aHn{f:Nat->Nat}{m w t:Nat}(hw:1<=w)(hf:∀ t,(f m).testBit t=true ↔ ∃ i,m.testBit i=true/\(f (2^i)).testBit t=true):(gQ (f m) w).testBit t=true ↔ ∃ i,m.testBit i=true/\(gQ (f (2^i)) w).testBit t=true:=by
 rw[pC hw];constructor
 ·rintro (⟨h1,h2⟩ | ⟨h1,j,h2,h3⟩)
  ·obtain⟨i,h3,h4⟩:=(hf t).mp h2;exact⟨i,h3,(pC hw).mpr (.inl ⟨h1,h4⟩)⟩
  ·obtain⟨i,h4,h5⟩:=(hf j).mp h3;exact⟨i,h4,(pC hw).mpr (.inr ⟨h1,j,h2,h5⟩)⟩
 ·rintro ⟨i,h1,h2⟩;rcases (pC hw).mp h2 with ⟨h3,h4⟩ | ⟨h3,j,h4,h5⟩
  ·exact .inl ⟨h3,(hf t).mpr ⟨i,h1,h4⟩⟩
  ·exact .inr ⟨h3,j,h4,(hf j).mpr ⟨i,h1,h5⟩⟩
theorem aIJ{m k t:Nat}:(m*2^k).testBit t=true ↔ ∃ i,m.testBit i=true/\(2^i*2^k).testBit t=true:=by
 rw[oW,yAk,decide_eq_true_eq];constructor
 ·rintro ⟨h1,h2⟩;exact⟨t-k,h2,by rw[oW,lW];simp[h1]⟩
 ·rintro ⟨i,h1,h2⟩;rw[oW,lW,yAk,decide_eq_true_eq,decide_eq_true_eq] at h2;exact⟨h2.1,by rw[<- h2.2];exact h1⟩
theorem aId{f:Nat->Nat}{m y t:Nat}(hf:∀ t,(f m).testBit t=true ↔ ∃ i,m.testBit i=true/\(f (2^i)).testBit t=true):(f m&&&y).testBit t=true ↔ ∃ i,m.testBit i=true/\(f (2^i)&&&y).testBit t=true:=by
 rw[yAh,yAk];constructor
 ·rintro ⟨h1,h2⟩;obtain⟨i,h3,h4⟩:=(hf t).mp h1;exact⟨i,h3,by rw[yAh,h4,h2];rfl⟩
 ·rintro ⟨i,h1,h2⟩;rw[yAh,yAk] at h2;exact⟨(hf t).mpr ⟨i,h1,h2.1⟩,h2.2⟩
theorem aQB{m k t:Nat}:(m/2^k).testBit t=true ↔ ∃ i,m.testBit i=true/\(2^i/2^k).testBit t=true:=by
 rw[eZ];constructor
 ·intro h;exact⟨k+t,h,by rw[eZ,lW];simp⟩
 ·rintro ⟨i,h1,h2⟩;rw[eZ,lW,decide_eq_true_eq] at h2;rw[<- h2];exact h1
theorem pG{m t:Nat}:(0:Nat).testBit t=true ↔ ∃ i,m.testBit i=true/\(0:Nat).testBit t=true:=by simp
theorem aPZ(wd:Wd)(w kk:Nat)(ws:List Nat)(fs:List Fc)(m c t:Nat)(hk:wC wd w ws):((aX wd w kk ws fs m).getD c 0).testBit t=true ↔ ∃ i,m.testBit i=true/\((aX wd w kk ws fs (2^i)).getD c 0).testBit t=true:=by
 by_cases h0:m=0
 ·subst h0;have e:(aX wd w kk ws fs 0).getD c 0=0:=by
   unfold aX;rw[if_pos rfl,xAh,yBj]
   split<;>rfl
  rw[e];simp
 ·have two:∀ {a b:Nat}{f g:Nat->Nat},(a.testBit t=true ↔ ∃ i,m.testBit i=true/\(f i).testBit t=true)->(b.testBit t=true ↔ ∃ i,m.testBit i=true/\(g i).testBit t=true)->(([a,b].getD c 0).testBit t=true ↔ ∃ i,m.testBit i=true/\([f i,g i].getD c 0).testBit t=true):=λ {a b f g} h1 h2=>by
   match c with
   | 0=>exact h1
   | 1=>exact h2
   | c+2=>exact pG
  have one:∀ {a:Nat}{f:Nat->Nat},(a.testBit t=true ↔ ∃ i,m.testBit i=true/\(f i).testBit t=true)->(([a].getD c 0).testBit t=true ↔ ∃ i,m.testBit i=true/\([f i].getD c 0).testBit t=true):=λ {a f} h1=>by
   match c with
   | 0=>exact h1
   | c+1=>exact pG
  have three:∀ {a b e:Nat}{f g h:Nat->Nat},(a.testBit t=true ↔ ∃ i,m.testBit i=true/\(f i).testBit t=true)->(b.testBit t=true ↔ ∃ i,m.testBit i=true/\(g i).testBit t=true)->(e.testBit t=true ↔ ∃ i,m.testBit i=true/\(h i).testBit t=true)->(([a,b,e].getD c 0).testBit t=true ↔ ∃ i,m.testBit i=true/\([f i,g i,h i].getD c 0).testBit t=true):=λ {a b e f g h} h1 h2 h3=>by
   match c with
   | 0=>exact h1
   | 1=>exact h2
   | 2=>exact h3
   | c+3=>exact pG
  have e1:∀ i,aX wd w kk ws fs (2^i)=_:=λ i=>if_neg (aQR i)
  have e0:aX wd w kk ws fs m=_:=if_neg h0;simp only[e1];rw[e0];obtain⟨bV,cI,hk⟩:=hk;cases wd with
  | «in» => exact pG
  | num=>exact pG
  | not=>exact one kT
  | cut=>exact one kT
  | xor=>exact two kT kT
  | and=>exact two zW zW
  | or=>exact two zW zW
  | add=>exact two (rQ (P:=λ _=>True) id (λ _ _ h=>h) h0 t) (rQ (P:=λ _=>True) id (λ _ _ h=>h) h0 t)
  | sub=>exact two (rQ (P:=λ _=>True) id (λ _ _ h=>h) h0 t) (rQ (P:=λ _=>True) id (λ _ _ h=>h) h0 t)
  | mul=>exact two (rQ (P:=λ _=>True) (λ h=>h-min h (lr (fs.getD 1 default).N)) (λ _ _ h=>by omega) h0 t) (rQ (P:=λ _=>True) (λ h=>h-min (h-min h (lr (fs.getD 1 default).N)) (lr (fs.getD 0 default).N)) (λ _ _ h=>by omega) h0 t)
  | left=>exact one aQB
  | right=>exact one (aId (f:=λ m=>m*2^kk) λ t=>aIJ)
  | slide=>exact one (aHn (f:=λ m=>m*2^kk) bV λ t=>aIJ)
  | wide=>exact one (aId (f:=λ m=>m) λ t=>kT)
  | sign =>
    obtain⟨v,rfl,h1,h2⟩:=hk;exact one (aHn (f:=λ m=>m) h2 λ t=>kT)
  | same=>exact two (mB h0) (mB h0)
  | less=>exact two (mB h0) (mB h0)
  | under=>exact two (mB h0) (mB h0)
  | pick =>
    simp only
    split
    ·exact three (mB h0) kT pG
    ·split
     ·exact three (mB h0) pG kT
     ·exact three (mB h0) kT kT
theorem iB{k v:Nat}(h:k<=v):2^k-1<2^v:=by
 have h1:=xAf k;have h2:(2:Nat)^k<=2^v:=yAl (by decide) h
 omega
theorem zN{m y v:Nat}(h:m<2^v):dB m y<2^v:=xAj (yGt _ _) h
theorem aOR(wd:Wd)(w kk:Nat)(ws:List Nat)(fs:List Fc)(m c v:Nat)(hk:wC wd w ws)(hm:m<2^w)(hv:ws[c]? = qq v):(aX wd w kk ws fs m).getD c 0<2^v:=by
 by_cases h0:m=0
 ·subst h0;have e:(aX wd w kk ws fs 0).getD c 0=0:=by
   unfold aX;rw[if_pos rfl,xAh,yBj]
   split<;>rfl
  rw[e];exact xAf _
 have hb:bl m<=w:=sA hm;have e0:aX wd w kk ws fs m=_:=if_neg h0;rw[e0];have one:∀ {a u:Nat},ws=[u]->a<2^u->[a].getD c 0<2^v:=λ {a u} e h=>by
  subst e
  match c,hv with
  | 0,hv=>cases hv;exact h
  | c+1,hv=>simp at hv
 have two:∀ {a b u x:Nat},ws=[u,x]->a<2^u->b<2^x->[a,b].getD c 0<2^v:=λ {a b u x} e h h2=>by
  subst e
  match c,hv with
  | 0,hv=>cases hv;exact h
  | 1,hv=>cases hv;exact h2
  | c+2,hv=>simp at hv
 have three:∀ {a b e u x y:Nat},ws=[u,x,y]->a<2^u->b<2^x->e<2^y->[a,b,e].getD c 0<2^v:=λ {a b e u x y} e' h h2 h3=>by
  subst e'
  match c,hv with
  | 0,hv=>cases hv;exact h
  | 1,hv=>cases hv;exact h2
  | 2,hv=>cases hv;exact h3
  | c+3,hv=>simp at hv
 obtain⟨bV,cI,hk⟩:=hk;cases wd with
 | «in» => rw[hk] at hv;simp at hv
 | num=>rw[hk] at hv;simp at hv
 | not=>exact one hk hm
 | cut =>
   obtain⟨u,e,h1,h2⟩:=hk;exact one e (xAc hm (yAl (by decide) h1))
 | xor=>exact two hk hm hm
 | and=>exact two hk (zN hm) (zN hm)
 | or=>exact two hk (zN hm) (zN hm)
 | add=>exact two hk (iB hb) (iB hb)
 | sub=>exact two hk (iB hb) (iB hb)
 | mul=>exact two hk (iB (by omega)) (iB (by omega))
 | left=>exact one hk (xAj (Nat.div_le_self _ _) hm)
 | right=>exact one hk (Nat.and_lt_two_pow _ (iB (yAb _)))
 | slide=>exact one hk (aG1 bV)
 | wide =>
   obtain⟨u,e,h1,h2⟩:=hk;subst e;exact one rfl (Nat.and_lt_two_pow _ (iB (yAb _)))
 | sign =>
   obtain⟨u,e,h1,h2⟩:=hk;subst e;exact one rfl (aG1 h2)
 | same =>
   obtain⟨_,u,e,h1,h2⟩:=hk;subst e;exact two rfl (iB (yAb _)) (iB (yAb _))
 | less =>
   obtain⟨_,u,e,h1,h2⟩:=hk;subst e;exact two rfl (iB (yAb _)) (iB (yAb _))
 | under =>
   obtain⟨_,u,e,h1,h2⟩:=hk;subst e;exact two rfl (iB (yAb _)) (iB (yAb _))
 | pick =>
   simp only
   split
   ·exact three hk (by decide) hm (xAf _)
   ·split
    ·exact three hk (by decide) (xAf _) hm
    ·exact three hk (by decide) hm hm
noncomputable def Fc.d(f:Fc):D:=.tuple [.int f.N,.int f.O,.int f.A]
theorem aAV(f:Fc):aH f.d (.int 0)=qq (.int f.N):=rfl
theorem aAT(f:Fc):aH f.d (.int 1)=qq (.int f.O):=rfl
theorem aJu(a:D):aH (.tuple [a]) (.int 0)=qq a:=rfl
theorem aAm(a b:D):aH (.tuple [a,b]) (.int 0)=qq a:=rfl
theorem aAu(a b:D):aH (.tuple [a,b]) (.int 1)=qq b:=rfl
theorem aTF(a b c:D):aH (.tuple [a,b,c]) (.int 0)=qq a:=rfl
theorem aFe(d a b m:Nat)(S:aF):cl fns (d+1) 11 [.d (.int a),.d (.int b),.d (.int m)] S=qq (.d (.tuple [.int ((dB m (dB b a):Nat):Int),.int ((dB m a:Nat):Int)]),S):=by
 rw[aY rfl d _ S rfl];simp only[gR1,aEE,aPd,aOu]
theorem aNX(i j:Nat):(if ((j:Nat):Int)<((i:Nat):Int) then ((j:Nat):Int) else ((i:Nat):Int))=((min i j:Nat):Int):=by
 by_cases c:j<i
 ·rw[if_pos (by omega),yHd (by omega)]
 ·rw[if_neg (by omega),Nat.min_eq_left (by omega)]
theorem aLA(d a b m:Nat)(hm:m<2^64)(S:aF):cl fns (d+3) 12 [.d (.int a),.d (.int b),.d (.int m)] S=qq (.d (.tuple [.int ((2^(bl m-min (bl m) (lr b))-1:Nat):Int),.int ((2^(bl m-min (bl m-min (bl m) (lr b)) (lr a))-1:Nat):Int)]),S):=by
 have hb:=sA hm;have e1:((bl m:Nat):Int)-((min (bl m) (lr b):Nat):Int)=((bl m-min (bl m) (lr b):Nat):Int):=by omega
 have e2:((bl m:Nat):Int)-((min (bl m-min (bl m) (lr b)) (lr a):Nat):Int)=((bl m-min (bl m-min (bl m) (lr b)) (lr a):Nat):Int):=by omega
 rw[aY rfl (d+2) _ S rfl];simp only[evs,fQ,aFS,zC (d+1),aC8 d,pY,aNX,cS,e1,e2,cQ (d+1) (bl m-min (bl m) (lr b)) (by omega),cQ (d+1) (bl m-min (bl m-min (bl m) (lr b)) (lr a)) (by omega)]
theorem aFN(d y w:Nat)(hw:1<=w)(cI:w<=1000)(S:aF):cl fns (d+2) 13 [.d (.int y),.d (.int w)] S=qq (.d (.int ((gQ y w:Nat):Int)),S):=by
 have e1:(w:Int)-1=((w-1:Nat):Int):=by omega
 rw[aY rfl (d+1) _ S rfl];unfold gQ
 by_cases c:y/2^w=0
 ·have d1:(y/2^w==0)=true:=by rw[beq_iff_eq];exact c
  rw[if_pos c];simp only[gR1,aCq,fL,bQ,fX,d1]
 ·have d1:(y/2^w==0)=false:=by rw[beq_eq_false_iff_ne];exact c
  rw[if_neg c];have hq67:=cQ d w (by omega)
  have hq68:=eX (show w-1<=100000 by omega)
  simp only[gR1,aCq,fL,bQ,fX,d1,hq67,dE,cS,e1,hq68,fA]
theorem aPr(d w kk m:Nat)(S:aF):cl fns (d+3) 14 [.d (.str "left"),.d (.int w),.d (.int kk),.d (.int m)] S=qq (.d (.int ((m/2^kk:Nat):Int)),S):=by
 have c1:aV .Eq (.str "left") (.str "left")=qq (.bool true):=bN .left .left;rw[aY rfl (d+2) _ S rfl];simp only[gR1,xV,c1,fL]
theorem aOs(d w kk m:Nat)(hw:w<=64)(hk:kk<=64)(hm:m<2^64)(S:aF):cl fns (d+3) 14 [.d (.str "right"),.d (.int w),.d (.int kk),.d (.int m)] S=qq (.d (.int (((m*2^kk)&&&(2^w-1):Nat):Int)),S):=by
 have c1:aV .Eq (.str "right") (.str "left")=qq (.bool false):=bN .right .left;have c2:aV .Eq (.str "right") (.str "right")=qq (.bool true):=bN .right .right;rw[aY rfl (d+2) _ S rfl];have hq69:=rE hm (show 64+kk<=100000 by omega)
 have hq70:=cQ (d+1) w (by omega)
 simp only[gR1,xV,c1,c2,hq69,hq70,dE]
theorem aN4(d w kk m:Nat)(bV:1<=w)(hw:w<=64)(hk:kk<=64)(hm:m<2^64)(S:aF):cl fns (d+3) 14 [.d (.str "slide"),.d (.int w),.d (.int kk),.d (.int m)] S=qq (.d (.int ((gQ (m*2^kk) w:Nat):Int)),S):=by
 have c1:aV .Eq (.str "slide") (.str "left")=qq (.bool false):=bN .slide .left;have c2:aV .Eq (.str "slide") (.str "right")=qq (.bool false):=bN .slide .right;rw[aY rfl (d+2) _ S rfl];have hq71:=rE hm (show 64+kk<=100000 by omega)
 simp only[gR1,xV,c1,c2,hq71,aFN d _ w bV (by omega)]
theorem aLm(d:Nat)(f:Fc)(m:Nat)(S:aF):cl fns (d+1) 15 [.d f.d,.d (.int m)] S=qq (.d (.tuple ((if f.O=1 then [1,m,0] else if f.N=1 then [1,0,m] else [1,m,m]).map nD)),S):=by
 rw[aY rfl d _ S rfl]
 by_cases c1:f.O=1
 ·have d1:(f.O==1)=true:=by rw[beq_iff_eq];exact c1
  rw[if_pos c1];simp only[gR1,yH,aAT,bQ,lT,d1]
 ·have d1:(f.O==1)=false:=by rw[beq_eq_false_iff_ne];exact c1
  rw[if_neg c1]
  by_cases c2:f.N=1
  ·have d2:(f.N==1)=true:=by rw[beq_iff_eq];exact c2
   rw[if_pos c2];simp only[gR1,yH,aAT,aAV,bQ,lT,d1,d2]
  ·have d2:(f.N==1)=false:=by rw[beq_eq_false_iff_ne];exact c2
   rw[if_neg c2];simp only[gR1,yH,aAT,aAV,bQ,lT,d1,d2]
def rY(wd:Wd)(args:List Nat)(kk:Nat):Prop:=match wd with
 | .in=>args=[]
 | .num=>∃ n,args=[n]
 | .not | .cut | .wide | .sign=>∃ a,args=[a]
 | .left | .right | .slide=>∃ a,args=[a,kk]/\kk<64
 | .pick=>∃ a b c,args=[a,b,c]
 | _=>∃ a b,args=[a,b]
theorem aB8{wd:Wd}{args:List Nat}{kk:Nat}(h:rY wd args kk):(args.take (bB wd)).length=bB wd:=by
 cases wd<;>first
  | (obtain rfl:=h;rfl)
  | (obtain⟨a,b,c,rfl⟩:=h;rfl)
  | (obtain⟨a,b,rfl⟩:=h;rfl)
  | (obtain⟨a,rfl,_⟩:=h;rfl)
  | (obtain⟨a,rfl⟩:=h;rfl)
theorem aVe(a:Wd):aV .In (.str a.s) (.tuple [.str "add",.str "sub"])=qq (.bool (decide (a=.add\/a=.sub))):=by cases a<;>rfl
theorem aVh{wd:Wd}{w a k:Nat}:aH (Rw.mk wd w [a,k]).d (.int 3)=qq (.int k):=rfl
theorem aAP{α:Type}{l:List α}(h:l.length=1):∃ a,l=[a]:=List.length_eq_one_iff.mp h
theorem aDq{α:Type}{l:List α}(h:l.length=2):∃ a b,l=[a,b]:=by
 match l,h with
 | [a,b],_=>exact⟨a,b,rfl⟩
theorem aVU{α:Type}{l:List α}(h:l.length=3):∃ a b c,l=[a,b,c]:=by
 match l,h with
 | [a,b,c],_=>exact⟨a,b,c,rfl⟩
noncomputable abbrev eA(R W G:D)(m:Nat)(x:Wd):aU:=[qq (.d R),qq (.d W),qq (.d G),qq (.d (.int m)),qq (.d (.str x.s))]
noncomputable def aK:Nat->Sx
 | 0=>bF aEN
 | k+1=>bF (aK k)
section
variable (C : Calls)(R W G : D)(m : Nat)(S : aF)(x : Wd)
theorem aDC:tv C (.cmp .Eq (.var 4) (.str "and")) (eA R W G m x) S=qq (decide (x=.and),S):=cU rfl (bN x .and)
theorem aKl:tv C (.cmp .Eq (.var 4) (.str "or")) (eA R W G m x) S=qq (decide (x=.or),S):=cU rfl (bN x .or)
theorem aJN:tv C (.cmp .In (.var 4) (.tup (.cons (.str "add") (.cons (.str "sub") .nil)))) (eA R W G m x) S=qq (decide (x=.add\/x=.sub),S):=gR rfl rfl (aVe x)
theorem aJ3:tv C (.cmp .Eq (.var 4) (.str "mul")) (eA R W G m x) S=qq (decide (x=.mul),S):=cU rfl (bN x .mul)
theorem aJQ:tv C (.cmp .In (.var 4) (.con "SHIFTS" rA)) (eA R W G m x) S=qq (decide (x=.left\/x=.right\/x=.slide),S):=gR rfl rfl (aB3 x)
theorem aDx:tv C (.cmp .Eq (.var 4) (.str "wide")) (eA R W G m x) S=qq (decide (x=.wide),S):=cU rfl (bN x .wide)
theorem aJT:tv C (.cmp .Eq (.var 4) (.str "sign")) (eA R W G m x) S=qq (decide (x=.sign),S):=cU rfl (bN x .sign)
theorem aDP:tv C (.cmp .In (.var 4) (.con "COMPARES" qW)) (eA R W G m x) S=qq (decide (x=.same\/x=.less\/x=.under),S):=gR rfl rfl (zH x)
theorem aKx:tv C (.cmp .Eq (.var 4) (.str "pick")) (eA R W G m x) S=qq (decide (x=.pick),S):=cU rfl (bN x .pick)
variable {C R W G m S}{r : Option (Fl×aF)}
theorem jD{k:Nat}{c:E}{t:Sx}{b:Bool}(e:aK k=.seq (.ifs c t .skip) (aK (k+1)))(h:tv C c (eA R W G m x) S=qq (b,S))(hb:b=false)(g:xs C (aK (k+1)) (eA R W G m x) S=r):xs C (aK k) (eA R W G m x) S=r:=by
 subst hb;rw[e];exact aP h g
theorem aJ4(h:(decide (x=.and)||decide (x=.or))=false)(g:xs C (aK 2) (eA R W G m x) S=r):xs C (aK 0) (eA R W G m x) S=r:=by
 obtain⟨h1,h2⟩:=Bool.or_eq_false_iff.mp h;exact jD x rfl (aDC C R W G m S x) h1 (jD x rfl (aKl C R W G m S x) h2 g)
theorem aJ9(h:(decide (x=.and)||decide (x=.or))=false)(h2:decide (x=.add\/x=.sub)=false)(g:xs C (aK 3) (eA R W G m x) S=r):xs C (aK 0) (eA R W G m x) S=r:=aJ4 x h (jD x rfl (aJN C R W G m S x) h2 g)
theorem aKy(h:(decide (x=.and)||decide (x=.or))=false)(h2:(decide (x=.add\/x=.sub)||decide (x=.mul))=false)(g:xs C (aK 4) (eA R W G m x) S=r):xs C (aK 0) (eA R W G m x) S=r:=by
 obtain⟨h3,h4⟩:=Bool.or_eq_false_iff.mp h2;exact aJ9 x h h3 (jD x rfl (aJ3 C R W G m S x) h4 g)
theorem aDy(h:(decide (x=.and)||decide (x=.or))=false)(h2:(decide (x=.add\/x=.sub)||decide (x=.mul))=false)(h5:decide (x=.left\/x=.right\/x=.slide)=false)(g:xs C (aK 5) (eA R W G m x) S=r):xs C (aK 0) (eA R W G m x) S=r:=aKy x h h2 (jD x rfl (aJQ C R W G m S x) h5 g)
theorem aDS(h:(decide (x=.and)||decide (x=.or))=false)(h2:(decide (x=.add\/x=.sub)||decide (x=.mul))=false)(h5:decide (x=.left\/x=.right\/x=.slide)=false)(h6:(decide (x=.wide)||decide (x=.sign))=false)(g:xs C (aK 7) (eA R W G m x) S=r):xs C (aK 0) (eA R W G m x) S=r:=by
 obtain⟨h3,h4⟩:=Bool.or_eq_false_iff.mp h6;exact aDy x h h2 h5 (jD x rfl (aDx C R W G m S x) h3 (jD x rfl (aJT C R W G m S x) h4 g))
theorem aWc(h:(decide (x=.and)||decide (x=.or))=false)(h2:(decide (x=.add\/x=.sub)||decide (x=.mul))=false)(h5:decide (x=.left\/x=.right\/x=.slide)=false)(h6:(decide (x=.wide)||decide (x=.sign))=false)(h8:(decide (x=.same\/x=.less\/x=.under)||decide (x=.pick))=false)(g:xs C (aK 9) (eA R W G m x) S=r):xs C (aK 0) (eA R W G m x) S=r:=by
 obtain⟨h3,h4⟩:=Bool.or_eq_false_iff.mp h8;exact aDS x h h2 h5 h6 (jD x rfl (aDP C R W G m S x) h3 (jD x rfl (aKx C R W G m S x) h4 g))
end
section
variable (d w kk m : Nat)(ws : List Nat)(R W : D)(S : aF)(h0 : m≠0)
include h0
theorem aQs(f g:Fc):xs (aE fns (d+3)) (aK 0) (eA R W (.tuple ([f,g].map Fc.d)) m .and) S=qq (.rt (.d (.tuple ((aX .and w kk ws [f,g] m).map nD))),S):=by
 rw[show aX .and w kk ws [f,g] m=_ from if_neg h0]
 refine bW (aDC _ _ _ _ _ _ .and) (bH ?_);simp only[gS0,aAm,aAu,aAV,aFe (d+2),nD,yBo,yBv]
theorem aSR(f g:Fc):xs (aE fns (d+3)) (aK 0) (eA R W (.tuple ([f,g].map Fc.d)) m .or) S=qq (.rt (.d (.tuple ((aX .or w kk ws [f,g] m).map nD))),S):=by
 rw[show aX .or w kk ws [f,g] m=_ from if_neg h0]
 refine jD .or rfl (aDC _ _ _ _ _ _ .or) rfl (bW (aKl _ _ _ _ _ _ .or) (bH ?_));simp only[gS0,aAm,aAu,aAT,aFe (d+2),nD,yBo,yBv]
theorem aHb(x:Wd)(hx:decide (x=.add\/x=.sub)=true)(h1:(decide (x=.and)||decide (x=.or))=false)(G:D)(bm:m<2^10000):xs (aE fns (d+3)) (aK 0) (eA R W G m x) S=qq (.rt (.d (.tuple ([2^bl m-1,2^bl m-1].map nD))),S):=by
 have t:=aJN (aE fns (d+3)) R W G m S x;rw[hx] at t;refine aJ4 x h1 (bW t (bH ?_));simp only[gS0,aGL (d+1) m _ bm,nD]
theorem aPv(f g:Fc)(hm:m<2^64):xs (aE fns (d+3)) (aK 0) (eA R W (.tuple ([f,g].map Fc.d)) m .mul) S=qq (.rt (.d (.tuple ((aX .mul w kk ws [f,g] m).map nD))),S):=by
 rw[show aX .mul w kk ws [f,g] m=_ from if_neg h0]
 refine aJ9 .mul rfl rfl (bW (aJ3 _ _ _ _ _ _ .mul) (bH ?_));simp only[evs,aAm,aAu,aAV,aLA d f.N g.N m hm,nD,yBo,yBv]
theorem aCM(x:Wd)(hx:decide (x=.left\/x=.right\/x=.slide)=true)(h1:(decide (x=.and)||decide (x=.or))=false)(h2:(decide (x=.add\/x=.sub)||decide (x=.mul))=false)(a:Nat)(G:D){z:Nat}(sl:cl fns (d+3) 14 [.d (.str x.s),.d (.int w),.d (.int kk),.d (.int m)] S=qq (.d (.int z),S)):xs (aE fns (d+3)) (aK 0) (eA (Rw.mk x w [a,kk]).d W G m x) S=qq (.rt (.d (.tuple ([z].map nD))),S):=by
 have t:=aJQ (aE fns (d+3)) (Rw.mk x w [a,kk]).d W G m S x;rw[hx] at t;have r1:aH (Rw.mk x w [a,kk]).d (.int 1)=qq (.int w):=gG _;refine aKy x h1 h2 (bW t (bH ?_));simp only[evs,r1,aVh,sl,nD]
theorem aOi(v:Nat)(hv:v<=64)(G:D):xs (aE fns (d+3)) (aK 0) (eA R (.tuple ([v].map nD)) G m .wide) S=qq (.rt (.d (.tuple ([m&&&(2^v-1)].map nD))),S):=by
 refine aDy .wide rfl rfl rfl (bW (aDx _ _ _ _ _ _ .wide) (bH ?_));have hq72:=cQ (d+2) v (by omega)
 simp only[gS0,nD,aJu,hq72,dE]
theorem aNh(v:Nat)(hv1:1<=v)(hv:v<=64)(G:D):xs (aE fns (d+3)) (aK 0) (eA R (.tuple ([v].map nD)) G m .sign) S=qq (.rt (.d (.tuple ([gQ m v].map nD))),S):=by
 refine aDy .sign rfl rfl rfl (jD .sign rfl (aDx _ _ _ _ _ _ .sign) rfl (bW (aJT _ _ _ _ _ _ .sign) (bH ?_)));have hq73:=aFN (d+1) m v hv1 (by omega)
 simp only[gS0,nD,aJu,hq73]
theorem aCB(x:Wd)(hx:decide (x=.same\/x=.less\/x=.under)=true)(h1:(decide (x=.and)||decide (x=.or))=false)(h2:(decide (x=.add\/x=.sub)||decide (x=.mul))=false)(h5:decide (x=.left\/x=.right\/x=.slide)=false)(h6:(decide (x=.wide)||decide (x=.sign))=false)(v:Nat)(hv:v<=64)(G:D):xs (aE fns (d+3)) (aK 0) (eA R (.tuple ([v,v].map nD)) G m x) S=qq (.rt (.d (.tuple ([2^v-1,2^v-1].map nD))),S):=by
 have t:=aDP (aE fns (d+3)) R (.tuple ([v,v].map nD)) G m S x;rw[hx] at t;refine aDS x h1 h2 h5 h6 (bW t (bH ?_));have hq74:=cQ (d+2) v (by omega)
 simp only[gS0,nD,aAm,aAu,hq74]
theorem aN0(f g h:Fc):xs (aE fns (d+3)) (aK 0) (eA R W (.tuple ([f,g,h].map Fc.d)) m .pick) S=qq (.rt (.d (.tuple ((aX .pick w kk ws [f,g,h] m).map nD))),S):=by
 rw[show aX .pick w kk ws [f,g,h] m=_ from if_neg h0]
 refine aDS .pick rfl rfl rfl rfl (jD .pick rfl (aDP _ _ _ _ _ _ .pick) rfl (bW (aKx _ _ _ _ _ _ .pick) (bH ?_)));simp only[gS0,aTF,aLm (d+2),yBo]
omit h0 in
theorem aTS(n:Nat)(h:n<=10):bY .Mult (.tuple [.int m]) (.int ((n:Nat):Int))=qq (.tuple ((yAc n m).map nD)):=by
 rw[aBS (k:=n) (by omega),yFm]
 rfl
theorem uA(x:Wd)(args:List Nat)(ha:rY x args kk)(h1:(decide (x=.and)||decide (x=.or))=false)(h2:(decide (x=.add\/x=.sub)||decide (x=.mul))=false)(h5:decide (x=.left\/x=.right\/x=.slide)=false)(h6:(decide (x=.wide)||decide (x=.sign))=false)(h8:(decide (x=.same\/x=.less\/x=.under)||decide (x=.pick))=false)(G:D):xs (aE fns (d+3)) (aK 0) (eA (Rw.mk x w args).d W G m x) S=qq (.rt (.d (.tuple ((yAc (bB x) m).map nD))),S):=by
 have op:cl fns (d+3) 7 [.d (Rw.mk x w args).d] S=qq (.d (.tuple ((args.take (bB x)).map nD)),S):=qT (d+2) ⟨x,w,args⟩ S;have lop:iT [.tuple ((args.take (bB x)).map nD)]=qq (.int ((bB x:Nat):Int)):=by
  simp only[dY,dZ,yAd,aB8 ha]
 have rp:=aTS m (bB x) (by cases x<;>decide)
 refine aWc x h1 h2 h5 h6 h8 (bH ?_);simp only[gS0,op,lop,rp]
end
theorem aM5(d:Nat)(wd:Wd)(w:Nat)(args:List Nat)(kk:Nat)(ws:List Nat)(fs:List Fc)(m:Nat)(hk:wC wd w ws)(hf:fs.length=bB wd)(ha:rY wd args kk)(hm:m<2^w)(h0:m≠0)(S:aF) :
 cl fns (d+4) 16 [.d (Rw.mk wd w args).d,.d (ws*>nD),.d (fs*>Fc.d),.d (.int m)] S=qq (.d (.tuple ((aX wd w kk ws fs m).map nD)),S):=by
 have hm64:m<2^64:=xAc hm (yAl (by decide) hk.2.1)
 have r0:aH (Rw.mk wd w args).d (.int 0)=qq (.str wd.s):=oD _;have bm:m<2^10000:=aIM hm64 (by decide)
 refine cG rfl (d+3) rfl rfl (yAf) (cF (S1:=S) (w:=.d (.str wd.s)) (aI:=eA (Rw.mk wd w args).d (ws*>nD) (fs*>Fc.d) m wd) (by simp only[evs,r0]) rfl ?_)
 show xs (aE fns (d+3)) (aK 0) (eA (Rw.mk wd w args).d (ws*>nD) (fs*>Fc.d) m wd) S=_;clear r0;obtain⟨bV,cI,hk⟩:=hk;have e0:aX wd w kk ws fs m=_:=if_neg h0;cases wd
 case and=>obtain⟨f,g,rfl⟩:=aDq hf;exact aQs d w kk m ws _ _ S h0 f g
 case or=>obtain⟨f,g,rfl⟩:=aDq hf;exact aSR d w kk m ws _ _ S h0 f g
 case add=>rw[e0];exact aHb d m _ _ S h0 .add rfl rfl _ bm
 case sub=>rw[e0];exact aHb d m _ _ S h0 .sub rfl rfl _ bm
 case mul=>obtain⟨f,g,rfl⟩:=aDq hf;exact aPv d w kk m ws _ _ S h0 f g hm64
 case left =>
  obtain⟨a,rfl,hkk⟩:=ha;rw[e0];exact aCM d w kk m _ S h0 .left rfl rfl rfl a _ (aPr d w kk m S)
 case right =>
  obtain⟨a,rfl,hkk⟩:=ha;rw[e0];exact aCM d w kk m _ S h0 .right rfl rfl rfl a _ (aOs d w kk m cI (by omega) hm64 S)
 case slide =>
  obtain⟨a,rfl,hkk⟩:=ha;rw[e0];exact aCM d w kk m _ S h0 .slide rfl rfl rfl a _ (aN4 d w kk m bV cI (by omega) hm64 S)
 case wide =>
  obtain⟨v,rfl,hv1,hv2⟩:=hk;rw[e0];exact aOi d m _ S h0 v (by omega) _
 case sign =>
  obtain⟨v,rfl,hv1,hv2⟩:=hk;rw[e0];exact aNh d m _ S h0 v (by omega) (by omega) _
 case same =>
  obtain⟨_,v,rfl,hv1,hv2⟩:=hk;rw[e0];exact aCB d m _ S h0 .same rfl rfl rfl rfl rfl v (by omega) _
 case less =>
  obtain⟨_,v,rfl,hv1,hv2⟩:=hk;rw[e0];exact aCB d m _ S h0 .less rfl rfl rfl rfl rfl v (by omega) _
 case under =>
  obtain⟨_,v,rfl,hv1,hv2⟩:=hk;rw[e0];exact aCB d m _ S h0 .under rfl rfl rfl rfl rfl v (by omega) _
 case pick=>obtain⟨f,g,h,rfl⟩:=aVU hf;exact aN0 d w kk m ws _ _ S h0 f g h
 case «in» => rw[e0];exact uA d w kk m _ S h0 .in args ha rfl rfl rfl rfl rfl _
 case num=>rw[e0];exact uA d w kk m _ S h0 .num args ha rfl rfl rfl rfl rfl _
 case not=>rw[e0];exact uA d w kk m _ S h0 .not args ha rfl rfl rfl rfl rfl _
 case cut=>rw[e0];exact uA d w kk m _ S h0 .cut args ha rfl rfl rfl rfl rfl _
 case xor=>rw[e0];exact uA d w kk m _ S h0 .xor args ha rfl rfl rfl rfl rfl _
theorem aNR(n:Nat)(h:n<=10):bY .Mult (.tuple [.int 0]) (.int ((n:Nat):Int))=qq (.tuple ((yAc n 0).map nD)):=by
 rw[aBS (k:=n) (by omega),yFm]
 rfl
theorem aPy(d:Nat)(wd:Wd)(w:Nat)(args:List Nat)(kk:Nat)(ws:List Nat)(fs:List Fc)(m:Nat)(hk:wC wd w ws)(hf:fs.length=bB wd)(ha:rY wd args kk)(hm:m<2^w)(S:aF) :
 cl fns (d+5) 17 [.d (Rw.mk wd w args).d,.d (ws*>nD),.d (fs*>Fc.d),.d (.int m)] S=qq (.d (.tuple ((aX wd w kk ws fs m).map nD)),S):=by
 rw[aY rfl (d+4) _ S rfl]
 by_cases h0:m=0
 ·have d0:(m==0)=true:=by rw[beq_iff_eq];exact h0
  have e0:aX wd w kk ws fs m=yAc (bB wd) 0:=if_pos h0;have lop:iT [.tuple ((args.take (bB wd)).map nD)]=qq (.int ((bB wd:Nat):Int)):=by
   simp only[dY,dZ,yAd,aB8 ha]
  have op:cl fns (d+4) 7 [.d (Rw.mk wd w args).d] S=qq (.d (.tuple ((args.take (bB wd)).map nD)),S):=qT (d+3) ⟨wd,w,args⟩ S;rw[e0];have hq75:=aNR (bB wd) (by cases wd<;>decide)
  simp only[gR1,aDm,bQ,fX,d0,op,lop,hq75]
 ·have d0:(m==0)=false:=by rw[beq_eq_false_iff_ne];exact h0
  simp only[gR1,aDm,bQ,fX,d0,aM5 d wd w args kk ws fs m hk hf ha hm h0]
noncomputable def nE(r:Rw):List Nat:=r.args.take (bB r.wd)
noncomputable def pZ(r:Rw):Nat:=r.args.getD 1 0
noncomputable def iM(r:Rw)(F:List Ft):List Fc:=(iJ r F).map λ f=>⟨f.N,f.O,f.A⟩
noncomputable def hB(rs:List Rw)(F:List Ft)(r:Rw)(m:Nat):List Nat:=aX r.wd r.w (pZ r) (aT r (~~~rs)) (iM r F) m
noncomputable def dI(rs:List Rw)(F:List Ft)(r:Rw)(m:Nat):List (Nat×Nat):=(nE r).zip (hB rs F r m)
noncomputable def pD(p:Nat×Nat):D:=.tuple [nD p.1,nD p.2]
theorem vL{r:Rw}{ws:List Nat}(h:RwOk r ws):wC r.wd r.w ws/\rY r.wd r.args (pZ r):=by
 cases h with
 | inp h1 h2=>exact⟨⟨h1,h2,rfl⟩,rfl⟩
 | num h1 h2 hn=>exact⟨⟨h1,h2,rfl⟩,_,rfl⟩
 | nt h1 h2=>exact⟨⟨h1,h2,rfl⟩,_,rfl⟩
 | sh h1 h2 aN hk=>rcases aN with rfl | rfl | rfl<;>exact⟨⟨h1,h2,rfl⟩,_,rfl,hk⟩
 | cut h1 hv h2=>exact⟨⟨h1,xAi hv h2,_,rfl,hv,h2⟩,_,rfl⟩
 | wide h1 hv h2=>exact⟨⟨xAi h1 hv,h2,_,rfl,hv,h1⟩,_,rfl⟩
 | sign h1 hv h2=>exact⟨⟨xAi h1 hv,h2,_,rfl,hv,h1⟩,_,rfl⟩
 | bw h1 h2 aN=>rcases aN with rfl | rfl | rfl<;>exact⟨⟨h1,h2,rfl⟩,_,_,rfl⟩
 | sm h1 h2 =>
   rename_i s w a b;cases s<;>exact⟨⟨h1,h2,rfl⟩,_,_,rfl⟩
 | cmp h1 h2 aN=>rcases aN with rfl | rfl | rfl<;>exact⟨⟨yAb 1,(show 1<=64 by decide),rfl,_,rfl,h1,h2⟩,_,_,rfl⟩
 | pick h1 h2=>exact⟨⟨h1,h2,rfl⟩,_,_,_,rfl⟩
theorem aIk:∀ as bs:List Nat,cX (as.map nD) (bs.map nD)=(as.zip bs).map pD
 | [],_=>by cases ‹List Nat› <;> rfl
 | _::_,[]=>rfl
 | a::as,b::bs=>by
   show yBm [nD a,nD b]::cX (as.map nD) (bs.map nD)=pD (a,b)::(as.zip bs).map pD;rw[aIk as bs];rfl
theorem aVm(r:Rw)(F:List Ft):(iM r F).map Fc.d=(iJ r F).map Ft.d:=by
 unfold iM;rw[yBn];rfl
theorem aCT(d a:Nat){rs:List Rw}{r:Rw}(hr:rs[a]? = qq r)(o:D)(S:aF):cl fns (d+1) 9 [.d (rs<*o),.d (.int a)] S=qq (.d (.int r.w),S):=by
 have i0:aH (rs<*o) (.int 0)=qq (rs*>Rw.d):=rfl;have e1:aH (rs*>Rw.d) (.int a)=qq r.d:=iZ (by rw[xAb,hr];rfl)
 rw[aY rfl d _ S rfl];simp only[gR1,aFC,i0,e1,gG]
theorem pX{rs:List Rw}{a:Nat}{r:Rw}(hr:rs[a]? = qq r):g0 (~~~rs) a=r.w:=by
 show(~~~rs).getD a 0=_;rw[xAh,xAb,hr];rfl
theorem aQc{fa fb:FE}{env:aU}{S S1 S2:aF}{as bs:List Nat}(h1:fa env S=qq (.d (as*>nD),S1))(h2:fb env S1=qq (.d (bs*>nD),S2))(hl:as.length<=1000):sB fa fb env S=qq ((as.zip bs).map pD,S2):=by
 have e:qB fa fb env S=qq ((as.zip bs).map pD,S2):=by
  unfold qB;rw[h1,oB,h2,oB,<- aIk];rfl
 unfold sB aJ7;rw[e,oB,if_pos];show((as.zip bs).map pD).length<=1000000;rw[yAd,List.length_zip];omega
theorem aCy(r:Rw):(nE r).length<=3:=by
 have:=aIn r.wd;unfold nE;rw[yCc];omega
section
variable {rs : List Rw}{F : List Ft}{r : Rw}{k m : Nat}
theorem aO5(p:Prg rs)(hr:rs[k]? = qq r):(iM r F).length=bB r.wd:=by
 have h:=(vL (p.fit k r hr).1).2;unfold iM iJ;rw[yAd,yAd];exact aB8 h
theorem aEU(d:Nat)(p:Prg rs)(hr:rs[k]? = qq r)(hF:F.length=rs.length)(hm:m<2^r.w)(o:D)(S:aF):cl fns (d+6) 18 [.d (rs<*o),.d (F*>Ft.d),.d (.int k),.d (.int m)] S=qq (.d (.list ((dI rs F r m).map pD)),S):=by
 have i0:aH (rs<*o) (.int 0)=qq (rs*>Rw.d):=rfl;have e1:aH (rs*>Rw.d) (.int k)=qq r.d:=iZ (by rw[xAb,hr];rfl)
 obtain⟨f1,f2'⟩:=p.fit k r hr;have hk:k<rs.length:=(gIm hr).1;have ol:=aCy r;have hc:lv (aE fns (d+5)) aEC [qq (.d (rs<*o)),qq (.d (F*>Ft.d)),qq (.d (.int k)),qq (.d (.int m)),qq (.d r.d),qz,qz,qz] S=qq ((aT r (~~~rs)).map nD,S):=by
  unfold aT;rw[yBn];refine nU (fi:=lv (aE fns (d+5)) (.it (.call 7 (.cons (.var 4) .nil)))) (fe:=ev (aE fns (d+5)) (.call 9 (.cons (.var 0) (.cons (.var 7) .nil)))) nD (nD ∘ g0 (~~~rs)) (r.args.take (bB r.wd)) ?_ (by rw[zx];have:(r.args.take (bB r.wd)).length<=3:=ol;omega) λ a ha=>?_
  ·simp only[gS0,qT (d+4),fV]
  ·refine⟨_,rfl,λ S'=>?_⟩
   have haj:=f2' a ha;have hq:rs[a]? = qq rs[a]:=yAa (by omega)
   have e2:=aCT (d+4) a hq o S';have e2':cl fns (d+5) 9 [.d (rs<*o),.d (nD a)] S'=qq (.d (.int (rs[a].w:Nat)),S'):=e2;simp only[evs,clr,yBl,yCh,e2'];show _=qq (W.d (nD (g0 (~~~rs) a)),S');rw[pX hq];rfl
 have o2:=zF (d+3) r (.d (F*>Ft.d)) (F*>Ft.d) (λ a=>(f0 F a).d) S (λ _=>rfl) λ a ha=>iZ (by rw[xAb,pO (by have:=f2' a ha;omega)];rfl)
 have o2':cl fns (d+5) 8 [.d r.d,.d (F*>Ft.d)] S=qq (.d (.tuple ((iM r F).map Fc.d)),S):=by
  rw[o2,aVm,iJ,yBn];rfl
 obtain⟨w1,w2⟩:=vL f1;have nk:=aPy d r.wd r.w r.args (pZ r) (aT r (~~~rs)) (iM r F) m w1 (aO5 p hr) w2 hm S;have nk':cl fns (d+5) 17 [.d r.d,.d (.tuple ((aT r (~~~rs)).map nD)),.d (.tuple ((iM r F).map Fc.d)),.d (.int m)] S=qq (.d (.tuple ((hB rs F r m).map nD)),S):=nk;have lz:∀ fa:FE,∀ env:aU,fa env S=qq (.d (.tuple ((nE r).map nD)),S)->env[6]? = qq (qq (.d (.tuple ((hB rs F r m).map nD))))->sB fa (jH 6) env S=qq ((dI rs F r m).map pD,S):=λ fa env h h6=>aQc h (aGQ h6) (by omega)
 rw[aY rfl (d+5) _ S rfl];simp only[evs,fQ,aFl,i0,e1,hc,gB,fZ,o2',nk'];rw[lz _ _ (by simp only[evs,qT (d+4)];rfl) rfl]
 simp only[gS0,True]
end
noncomputable def cJ(M:List Nat)(q:Nat×Nat):List Nat:=M.set q.1 (M.getD q.1 0|||q.2)
noncomputable def eM(rs:List Rw)(F:List Ft)(M:List Nat)(k:Nat):List Nat:=match rs[k]? with
 | some r=>(dI rs F r (M.getD k 0)).foldl cJ M
 | none=>M
noncomputable def fS(rs:List Rw)(F:List Ft):Nat->List Nat->List Nat
 | 0,M=>M
 | k+1,M=>fS rs F k (eM rs F M k)
noncomputable def cZ(rs:List Rw)(M:List Nat)(o:Nat):List Nat:=M.set o (2^g0 (~~~rs) o-1)
noncomputable def jG(rs:List Rw)(aD:List Nat):List Nat:=aD.foldl (cZ rs) (yAc rs.length 0)
noncomputable def bK(rs:List Rw)(F:List Ft)(aD:List Nat):List Nat:=fS rs F rs.length (jG rs aD)
structure Bd(rs:List Rw)(M:List Nat):Prop where
 l:M.length=rs.length
 lt:∀ (i:Nat) (r:Rw),rs[i]? = qq r->M.getD i 0<2^r.w
theorem aE9{α β:Type}{f:β->α->β}{l:List α}{j:Nat}{q:α}(M:β)(h:l[j]? = qq q):(l.take (j+1)).foldl f M=f ((l.take j).foldl f M) q:=by
 rw[List.take_add_one,h];simp
theorem nL{M:List Nat}{a i v:Nat}(h:a≠i):(M.set a v).getD i 0=M.getD i 0:=by
 rw[xAh,xAh,yBc h]
theorem oX{M:List Nat}{a v:Nat}(h:a<M.length):(M.set a v).getD a 0=v:=by
 rw[xAh,yAz h];rfl
theorem pF{M:List Nat}{i:Nat}(h:i<M.length):M[i]? = qq (M.getD i 0):=by
 rw[xAh,yAa h];rfl
section
variable {rs : List Rw}{F : List Ft}{r : Rw}{k m : Nat}{M : List Nat}
theorem uP(p:Prg rs)(hr:rs[k]? = qq r)(hm:m<2^r.w)(q:Nat×Nat)(hq:q∈dI rs F r m):q.1<k/\∀ r',rs[q.1]? = qq r'->q.2<2^r'.w:=by
 obtain⟨f1,f2⟩:=p.fit k r hr;obtain⟨w1,w2⟩:=vL f1;obtain⟨c,hc⟩:=yDu hq;obtain⟨a,b⟩:=q;unfold dI at hc;rw[yEr] at hc;obtain⟨h1,h2⟩:=hc;refine⟨f2 a (xAl h1),λ r' hr'=>?_⟩
 have hv:(aT r (~~~rs))[c]? = qq r'.w:=by
  unfold aT;have h1':(r.args.take (bB r.wd))[c]? = qq a:=h1;rw[xAb,h1'];show qq (g0 (~~~rs) a)=_;rw[pX hr']
 have:=aOR r.wd r.w (pZ r) (aT r (~~~rs)) (iM r F) m c r'.w w1 hm hv;have e:(hB rs F r m).getD c 0=b:=by
  rw[xAh,h2];rfl
 rw[<- e];exact this
theorem aIZ(h:Bd rs M){q:Nat×Nat}(h1:q.1<rs.length)(h2:∀ r',rs[q.1]? = qq r'->q.2<2^r'.w):Bd rs (cJ M q):=by
 refine⟨by unfold cJ;rw[yAy];exact h.l,λ i r hr=>?_⟩
 unfold cJ
 by_cases c:q.1=i
 ·rw[c] at h1 h2 ⊢;rw[oX (by rw[h.l];exact h1)]
  exact yBi (h.lt i r hr) (h2 r hr)
 ·rw[nL c];exact h.lt i r hr
theorem aIR(p:Prg rs)(hr:rs[k]? = qq r)(hm:m<2^r.w):∀ (l:List (Nat×Nat)) (M:List Nat),(∀ q∈l,q∈dI rs F r m)->Bd rs M->Bd rs (l.foldl cJ M)
 | [],_,_,h=>h
 | q::l,M,hl,h=>by
   have hk:k<rs.length:=(gIm hr).1;obtain⟨a,b⟩:=uP p hr hm q (hl q xAd);exact aIR p hr hm l _ (λ x hx=>hl x (xAg _ hx)) (aIZ h (by omega) b)
theorem zU:Bd rs (yAc rs.length 0):=by
 refine⟨yBk,λ i r hr=>?_⟩
 have hi:i<rs.length:=(gIm hr).1;rw[xAh,yBj,if_pos hi];exact xAf _
theorem aMY{o:Nat}(hr:rs[o]? = qq r):cZ rs M o=M.set o (2^r.w-1):=by
 unfold cZ;rw[pX hr]
theorem aHC(h:Bd rs M){o:Nat}(ho:o<rs.length):Bd rs (cZ rs M o):=by
 refine⟨by unfold cZ;rw[yAy];exact h.l,λ i r hr=>?_⟩
 unfold cZ
 by_cases c:o=i
 ·subst c;rw[oX (by rw[h.l];exact ho),pX hr]
  have:=xAf r.w;omega
 ·rw[nL c];exact h.lt i r hr
theorem zO:∀ (l:List Nat) (M:List Nat),(∀ o∈l,o<rs.length)->Bd rs M->Bd rs (l.foldl (cZ rs) M)
 | [],_,_,h=>h
 | o::l,M,hl,h=>zO l _ (λ x hx=>hl x (xAg _ hx)) (aHC h (hl o xAd))
theorem aCC(S:aF)(M:List Nat)(a v:Nat)(ha:a<M.length):iC (S++[qq (M.map nD)]) (.loc S.length) (.d (.int a)) (.d (.int v))=qq (S++[qq ((M.set a v).map nD)]):=by
 unfold iC;simp only[kP];unfold hU;rw[yAd,if_pos (by omega),if_pos (by omega),oB,yAp,yDp _ _ (yAb _),yBb,List.map_set]
 rfl
theorem aIf{M:List Nat}{i:Nat}(h:i<M.length):aH (.list (M.map nD)) (.int i)=qq (.int ((M.getD i 0:Nat):Int)):=jR (by rw[xAb,pF h];rfl)
theorem aJI{fa fb:FE}{env:aU}{S:aF}{n:Nat}(h1:fa env S=qq (.d (.list [.int 0]),S))(h2:fb env S=qq (.d (.int n),S))(hn:n<=1000):wA fa fb env S=qq ((yAc n 0).map nD,S):=by
 have hz:(([.int 0]:List D)).length*(((n:Nat):Int)).toNat<=qy:=by rw[yAp,zx];simp;omega
 have hd:dr S (.d (.list [.int 0]))=qq (.list [.int 0]):=rfl;unfold wA;rw[h1,oB,h2,oB];show((dr S (.d (.list [.int 0]))).bind _)=_;rw[hd,oB];show(if ((n:Nat):Int)<2^63 /\ -(2^63)<=((n:Nat):Int)/\(([.int 0]:List D)).length*(((n:Nat):Int)).toNat<=qy then qq (vP (((n:Nat):Int)).toNat [yAj 0],S) else qz)=_
 rw[if_pos ⟨by omega,by omega,hz⟩,yAp,aNF,yFm]
 rfl
theorem aNd(d:Nat)(p:Prg rs)(hr:rs[k]? = qq r)(hF:F.length=rs.length)(o:D)(S:aF)(h:Bd rs M)(c3 c5 c6 c7 c8:Option W):∃ c7' c8':Option W,Bd rs (eM rs F M k)/\eB (.many [7,8]) (lv (aE fns (d+6)) yY) (xs (aE fns (d+6)) yZ) [qq (.d (rs<*o)),qq (.d (F*>Ft.d)),qq (.loc S.length),c3,qq (.d (.int k)),c5,c6,c7,c8] (S++[qq (M.map nD)])=qq (.nx [qq (.d (rs<*o)),qq (.d (F*>Ft.d)),qq (.loc S.length),c3,qq (.d (.int k)),c5,c6,c7',c8'],S++[qq ((eM rs F M k).map nD)]):=by
 have hk:k<rs.length:=(gIm hr).1;have hm:=h.lt k r hr;have e0:=aIf (M:=M) (i:=k) (by rw[h.l];exact hk)
 have rn:=aEU d p hr hF hm o (S++[qq (M.map nD)]);have eR:eM rs F M k=(dI rs F r (M.getD k 0)).foldl cJ M:=by unfold eM;rw[hr]
 obtain⟨aI,S',p1,c7',c8',hb,rfl,rfl⟩:=mG (t:=.many [7,8]) (fi:=lv (aE fns (d+6)) yY) (fb:=xs (aE fns (d+6)) yZ) (env:=[qq (.d (rs<*o)),qq (.d (F*>Ft.d)),qq (.loc S.length),c3,qq (.d (.int k)),c5,c6,c7,c8]) (S:=S++[qq (M.map nD)]) (S1:=S++[qq (M.map nD)]) (ds:=(dI rs F r (M.getD k 0)).map pD)
  (λ j env S'=>∃ c7 c8:Option W,Bd rs (((dI rs F r (M.getD k 0)).take j).foldl cJ M)/\env=[qq (.d (rs<*o)),qq (.d (F*>Ft.d)),qq (.loc S.length),c3,qq (.d (.int k)),c5,c6,c7,c8]/\S'=S++[qq ((((dI rs F r (M.getD k 0)).take j).foldl cJ M).map nD)])
  (by simp only[evs,yY,kP,e0,rn,fV]) ⟨c7,c8,h,rfl,rfl⟩ (by
    rintro j dd env S' hd ⟨c7,c8,hb,rfl,rfl⟩;rw[xAb] at hd;obtain⟨q,hq,rfl⟩:=Option.map_eq_some_iff.mp hd;obtain⟨q1,q2⟩:=uP p hr hm q (xAl hq);have ql:q.1<(((dI rs F r (M.getD k 0)).take j).foldl cJ M).length:=by rw[hb.l];omega
    have ft:=aE9 (f:=cJ) M hq;have e1:=aIf ql;have pe:iC (S++[qq ((((dI rs F r (M.getD k 0)).take j).foldl cJ M).map nD)]) (.loc S.length) (.d (.int (q.1:Nat))) (.d (.int (((((dI rs F r (M.getD k 0)).take j).foldl cJ M).getD q.1 0|||q.2:Nat):Int)))=qq (S++[qq ((cJ (((dI rs F r (M.getD k 0)).take j).foldl cJ M) q).map nD)]):=aCC S _ q.1 _ ql
    refine⟨[qq (.d (rs<*o)),qq (.d (F*>Ft.d)),qq (.loc S.length),c3,qq (.d (.int k)),c5,c6,qq (.d (.int (q.1:Nat))),qq (.d (.int (q.2:Nat)))],[qq (.d (rs<*o)),qq (.d (F*>Ft.d)),qq (.loc S.length),c3,qq (.d (.int k)),c5,c6,qq (.d (.int (q.1:Nat))),qq (.d (.int (q.2:Nat)))],S++[qq ((cJ (((dI rs F r (M.getD k 0)).take j).foldl cJ M) q).map nD)],rfl,?_,_,_,?_,rfl,by rw[ft]⟩
    ·simp only[gS1,yZ,kP,e1,fA,jE,pe]
    ·rw[ft];exact aIZ hb (by omega) q2)
 rw[yAd,yAf,<- eR] at hb p1;exact⟨c7',c8',hb,p1⟩
theorem aGI(d:Nat)(p:Prg rs)(hF:F.length=rs.length)(aD:List Nat)(ho:∀ o∈aD,o<rs.length)(S:aF):Bd rs (bK rs F aD)/\cl fns (d+7) 19 [.d (rs<*(aD*>nD)),.d (F*>Ft.d)] S=qq (.d (.tuple ((bK rs F aD).map nD)),S):=by
 have pl:=p.l;have lR:iT [(rs*>Rw.d)]=qq (.int rs.length):=by
  show qq (yAj (((rs.map Rw.d).length:Nat):Int))=_;rw[yAd]
 obtain⟨env1,S1,p1,c3,hb0,rfl,rfl⟩:=mG (t:=.one 3) (fi:=lv (aE fns (d+6)) aBE) (fb:=xs (aE fns (d+6)) aBQ) (env:=[qq (.d (rs<*(aD*>nD))),qq (.d (F*>Ft.d)),qq (.loc S.length),qz,qz,qq (.d (rs*>Rw.d)),qq (.d (aD*>nD)),qz,qz]) (S:=S++[qq ((yAc rs.length 0).map nD)]) (S1:=S++[qq ((yAc rs.length 0).map nD)]) (ds:=aD.map nD)
  (λ j env S'=>∃ c3:Option W,Bd rs ((aD.take j).foldl (cZ rs) (yAc rs.length 0))/\env=[qq (.d (rs<*(aD*>nD))),qq (.d (F*>Ft.d)),qq (.loc S.length),c3,qz,qq (.d (rs*>Rw.d)),qq (.d (aD*>nD)),qz,qz]/\S'=S++[qq (((aD.take j).foldl (cZ rs) (yAc rs.length 0)).map nD)])
  (by simp only[evs,aBE,fV]) ⟨qz,zU,rfl,rfl⟩ (by
    rintro j dd env S' hd ⟨c3,hb,rfl,rfl⟩;rw[xAb] at hd;obtain⟨q,hq,rfl⟩:=Option.map_eq_some_iff.mp hd;have hql:=ho q (xAl hq);have hr:rs[q]? = qq rs[q]:=yAa hql;have ft:=aE9 (f:=cZ rs) (yAc rs.length 0) hq;have wo:=aCT (d+5) q hr (aD*>nD) (S++[qq (((aD.take j).foldl (cZ rs) (yAc rs.length 0)).map nD)]);have fu:=cQ (d+5) rs[q].w (by have:=(p.ws q _ hr).2;omega) (S++[qq (((aD.take j).foldl (cZ rs) (yAc rs.length 0)).map nD)])
    have pe:iC (S++[qq (((aD.take j).foldl (cZ rs) (yAc rs.length 0)).map nD)]) (.loc S.length) (.d (.int q)) (.d (.int ((2^rs[q].w-1:Nat):Int)))=qq (S++[qq ((cZ rs ((aD.take j).foldl (cZ rs) (yAc rs.length 0)) q).map nD)]):=by
     rw[aMY hr];exact aCC S _ q _ (by rw[hb.l];exact hql)
    refine⟨[qq (.d (rs<*(aD*>nD))),qq (.d (F*>Ft.d)),qq (.loc S.length),qq (.d (.int q)),qz,qq (.d (rs*>Rw.d)),qq (.d (aD*>nD)),qz,qz],[qq (.d (rs<*(aD*>nD))),qq (.d (F*>Ft.d)),qq (.loc S.length),qq (.d (.int q)),qz,qq (.d (rs*>Rw.d)),qq (.d (aD*>nD)),qz,qz],S++[qq ((cZ rs ((aD.take j).foldl (cZ rs) (yAc rs.length 0)) q).map nD)],rfl,?_,_,?_,rfl,by rw[ft]⟩
    ·simp only[gS1,aBQ,wo,fu,jE,pe]
    ·rw[ft];exact aHC hb hql)
 rw[yAd,yAf] at hb0 p1;have un1:nK .USub (.int 1)=qq (.int (-1)):=rfl;have i3:lv (aE fns (d+6)) yT [qq (.d (rs<*(aD*>nD))),qq (.d (F*>Ft.d)),qq (.loc S.length),c3,qz,qq (.d (rs*>Rw.d)),qq (.d (aD*>nD)),qz,qz] (S++[qq ((jG rs aD).map nD)])=qq (kY (((rs.length:Nat):Int)-1) rs.length,S++[qq ((jG rs aD).map nD)]):=by
  have hc:(-(2^62)<=((rs.length:Nat):Int)-1/\((rs.length:Nat):Int)-1<2^62 /\ -(2^62)<=(-1:Int)/\(-1:Int)<2^62)/\(-1:Int) = -1:=⟨⟨by omega,by omega,by decide,by decide⟩,rfl⟩
  have hn:(((rs.length:Nat):Int)-1-(-1)).toNat=rs.length:=by omega
  simp only[evs,yT,aAq,lR,cS,un1];rw[if_pos ⟨hc.1,True.intro⟩,hn]
 obtain⟨env2,S2,p2,c4,c7,c8,M,hb,hM,rfl,rfl⟩:=mG (t:=.one 4) (fi:=lv (aE fns (d+6)) yT) (fb:=xs (aE fns (d+6)) aBK) (env:=[qq (.d (rs<*(aD*>nD))),qq (.d (F*>Ft.d)),qq (.loc S.length),c3,qz,qq (.d (rs*>Rw.d)),qq (.d (aD*>nD)),qz,qz]) (S:=S++[qq ((jG rs aD).map nD)]) (S1:=S++[qq ((jG rs aD).map nD)]) (ds:=kY (((rs.length:Nat):Int)-1) rs.length)
  (λ j env S'=>∃ (c4 c7 c8:Option W) (M:List Nat),Bd rs M/\fS rs F (rs.length-j) M=bK rs F aD/\env=[qq (.d (rs<*(aD*>nD))),qq (.d (F*>Ft.d)),qq (.loc S.length),c3,c4,qq (.d (rs*>Rw.d)),qq (.d (aD*>nD)),c7,c8]/\S'=S++[qq (M.map nD)])
  i3 ⟨qz,qz,qz,jG rs aD,hb0,rfl,rfl,rfl⟩ (by
   rintro j dd env S' hd ⟨c4,c7,c8,M,hb,hM,rfl,rfl⟩;have hj:j<rs.length:=by
    have:=(gIm hd).1;rw[qQ] at this;exact this
   rw[aBv _ _ j hj] at hd;have ek:((rs.length:Nat):Int)-1-((j:Nat):Int)=((rs.length-1-j:Nat):Int):=by omega
   rw[ek] at hd;cases hd;have hr:rs[rs.length-1-j]? = qq rs[rs.length-1-j]:=yAa (by omega)
   obtain⟨c7',c8',hb',e⟩:=aNd d p hr hF (aD*>nD) S hb c3 (qq (.d (rs*>Rw.d))) (qq (.d (aD*>nD))) c7 c8;refine⟨[qq (.d (rs<*(aD*>nD))),qq (.d (F*>Ft.d)),qq (.loc S.length),c3,qq (.d (.int ((rs.length-1-j:Nat):Int))),qq (.d (rs*>Rw.d)),qq (.d (aD*>nD)),c7,c8],[qq (.d (rs<*(aD*>nD))),qq (.d (F*>Ft.d)),qq (.loc S.length),c3,qq (.d (.int ((rs.length-1-j:Nat):Int))),qq (.d (rs*>Rw.d)),qq (.d (aD*>nD)),c7',c8'],S++[qq ((eM rs F M (rs.length-1-j)).map nD)],rfl,?_,_,_,_,_,hb',?_,rfl,rfl⟩
   ·simp only[gS1,aBK,e]
   ·rw[<- hM,show rs.length-j=(rs.length-1-j)+1 by omega]
    show _=fS rs F (rs.length-1-j) (eM rs F M (rs.length-1-j));rw[show rs.length-(j+1)=rs.length-1-j by omega])
 rw[qQ,yBb] at hM;have hM':M=bK rs F aD:=hM;subst hM';refine⟨hb,?_⟩;have tk1:∀ x,yDn S.length (S++[x])=S:=λ x=>yCz
 have q0:xs (aE fns (d+6)) (cC gC) [qq (.d (rs<*(aD*>nD))),qq (.d (F*>Ft.d)),qz,qz,qz,qz,qz,qz,qz] S=qq (.nx [qq (.d (rs<*(aD*>nD))),qq (.d (F*>Ft.d)),qz,qz,qz,qq (.d (rs*>Rw.d)),qq (.d (aD*>nD)),qz,qz],S):=by
  simp only[gS2,cC,gC,True]
 have q1:xs (aE fns (d+6)) (cC (bF gC)) [qq (.d (rs<*(aD*>nD))),qq (.d (F*>Ft.d)),qz,qz,qz,qq (.d (rs*>Rw.d)),qq (.d (aD*>nD)),qz,qz] S=qq (.nx [qq (.d (rs<*(aD*>nD))),qq (.d (F*>Ft.d)),qq (.loc S.length),qz,qz,qq (.d (rs*>Rw.d)),qq (.d (aD*>nD)),qz,qz],S++[qq ((yAc rs.length 0).map nD)]):=by
  simp only[cC,bF,gC,uW,aAf,aCu,fR,fD];rw[aJI (n:=rs.length) (by simp only[evs]) (by simp only[evs,lR]) (by omega)]
  simp only[gS0,True]
 have e:gC=.seq (cC gC) (.seq (cC (bF gC)) (.seq (cC (bF (bF gC))) (.seq (cC (bF (bF (bF gC)))) (bF (bF (bF (bF gC))))))):=rfl;have p1':xs (aE fns (d+6)) (cC (bF (bF gC))) [qq (.d (rs<*(aD*>nD))),qq (.d (F*>Ft.d)),qq (.loc S.length),qz,qz,qq (.d (rs*>Rw.d)),qq (.d (aD*>nD)),qz,qz] (S++[qq ((yAc rs.length 0).map nD)])=qq (.nx [qq (.d (rs<*(aD*>nD))),qq (.d (F*>Ft.d)),qq (.loc S.length),c3,qz,qq (.d (rs*>Rw.d)),qq (.d (aD*>nD)),qz,qz],S++[qq ((jG rs aD).map nD)]):=p1;have p2':xs (aE fns (d+6)) (cC (bF (bF (bF gC)))) [qq (.d (rs<*(aD*>nD))),qq (.d (F*>Ft.d)),qq (.loc S.length),c3,qz,qq (.d (rs*>Rw.d)),qq (.d (aD*>nD)),qz,qz] (S++[qq ((jG rs aD).map nD)])=qq (.nx [qq (.d (rs<*(aD*>nD))),qq (.d (F*>Ft.d)),qq (.loc S.length),c3,c4,qq (.d (rs*>Rw.d)),qq (.d (aD*>nD)),c7,c8],S++[qq ((bK rs F aD).map nD)]):=p2;have fl:xs (aE fns (d+6)) gC [qq (.d (rs<*(aD*>nD))),qq (.d (F*>Ft.d)),qz,qz,qz,qz,qz,qz,qz] S=qq (.rt (.d (.tuple ((bK rs F aD).map nD))),S++[qq ((bK rs F aD).map nD)]):=by
  rw[e,fM q0,fM q1,fM p1',fM p2'];simp only[gS2,bF,gC,kP,gB,fZ]
 rw[aY rfl (d+6) _ S rfl];show((xs (aE fns (d+6)) gC [qq (.d (rs<*(aD*>nD))),qq (.d (F*>Ft.d)),qz,qz,qz,qz,qz,qz,qz] S).bind _)=_;rw[fl];simp only[oB,jY,tk1]
end
theorem aBC{t:Tg}{fb:FS}{S:aF}{P:aU->Prop}{r:W}:∀ (ds:List D) (q:Nat) (env:aU),q<ds.length->P env->(∀ j dd env,j<q->ds[j]? = qq dd->P env->∃ e1 aI,t.put dd env=qq e1/\fb e1 S=qq (.nx aI,S)/\P aI)->(∀ dd env,ds[q]? = qq dd->P env->∃ e1,t.put dd env=qq e1/\fb e1 S=qq (.rt r,S))->fB t fb ds env S=qq (.rt r,S)
 | [],q,_,h,_,_,_=>absurd h (yDy q)
 | dd::ds,0,env,_,h0,_,h2=>by
   obtain⟨e1,h3,h4⟩:=h2 dd env rfl h0;simp only[fB,h3,oB,h4]
 | dd::ds,q+1,env,hq,h0,h1,h2=>by
   obtain⟨e1,aI,h3,h4,h5⟩:=h1 0 dd env (Nat.succ_pos q) rfl h0;simp only[fB,h3,oB,h4];exact aBC ds q aI (by simpa using hq) h5 (λ j x e hj hx he=>h1 (j+1) x e (by omega) (by simpa using hx) he) λ x e hx he=>h2 x e (by simpa using hx) he
theorem aFL{α:Type}(g:α->Bool)(l:List α):lY (l.map λ x=>yBd (g x))=qq (l.map g):=by
 induction l with
 | nil=>rfl
 | cons x r ih=>simp only[yAt,lY,ih,yBp]
theorem aQ7{α:Type}(g:α->Bool)(l:List α):vX [.list (l.map λ x=>yBd (g x))]=qq (.bool (l.any g)):=by
 simp only[vX,aFL,oB];congr 2;rw[List.any_map];rfl
section
variable {rs : List Rw}{F : List Ft}{r : Rw}{k m : Nat}{M : List Nat}
theorem zT{M:List Nat}{i:Nat}(h:i<M.length):aH (M*>nD) (.int i)=qq (.int ((M.getD i 0:Nat):Int)):=iZ (by rw[xAb,pF h];rfl)
end
noncomputable def aAL(M:List Nat)(q:Nat×Nat):Bool:=!(dB q.2 (M.getD q.1 0)==0)
noncomputable def sO(rs:List Rw)(F:List Ft)(M:List Nat)(k:Nat):Bool:=match rs[k]? with
 | some r=>(dI rs F r (M.getD k 0)).any (aAL M)
 | none=>false
noncomputable def sU(rs:List Rw)(aD M:List Nat):Bool:=aD.any λ o=>!(dB (2^g0 (~~~rs) o-1) (M.getD o 0)==0)
def Wr(rs:List Rw)(F:List Ft)(aD M:List Nat)(o:Option Nat):Prop:=(∃ q,q<rs.length/\(∀ k,k<q->sO rs F M k=false)/\sO rs F M q=true/\o=qq q)\/((∀ k,k<rs.length->sO rs F M k=false)/\o=cond (sU rs aD M) (qq rs.length) qz)
section
variable {rs : List Rw}{F : List Ft}{r : Rw}{k m : Nat}{M : List Nat}
theorem aB6{n j:Nat}{dd:D}(h:((yAu n).map λ k=>yAj ((k:Nat):Int))[j]? = qq dd):j<n/\dd=.int j:=by
 have hj:j<n:=by
  have:=(gIm h).1;simpa using this
 rw[xAb,List.getElem?_range hj] at h;cases h;exact⟨hj,rfl⟩
end
def Sb(a b:Nat):Prop:=∀ i,a.testBit i=true->b.testBit i=true
theorem Sb.refl(a:Nat):Sb a a:=λ _ h=>h
theorem Sb.trans{a b c:Nat}(h:Sb a b)(k:Sb b c):Sb a c:=λ i x=>k i (h i x)
theorem aQX(a b:Nat):Sb a (a|||b):=λ i h=>by rw[xAp,h,Bool.true_or]
theorem aRa(a b:Nat):Sb b (a|||b):=λ i h=>by rw[xAp,h,yHj]
theorem aHi{M:List Nat}{q:Nat×Nat}:aAL M q=false ↔ Sb q.2 (M.getD q.1 0):=by
 have h:=aBI q.2 (M.getD q.1 0);unfold aAL;constructor
 ·intro e;refine h.mp ?_;cases c:(dB q.2 (M.getD q.1 0)==0) with
  | true=>exact beq_iff_eq.mp c
  | false=>rw[c] at e;cases e
 ·intro e;rw[beq_iff_eq.mpr (h.mpr e)];rfl
theorem aPG(M:List Nat)(q:Nat×Nat)(i:Nat):Sb (M.getD i 0) ((cJ M q).getD i 0):=by
 unfold cJ
 by_cases c:q.1=i
 ·subst c
  by_cases l:q.1<M.length
  ·rw[oX l];exact aQX _ _
  ·rw[yDx (by omega)]
   exact Sb.refl _
 ·rw[nL c];exact Sb.refl _
theorem aCo:∀ (l:List (Nat×Nat)) (M:List Nat) (i:Nat),Sb (M.getD i 0) ((l.foldl cJ M).getD i 0)
 | [],_,_=>Sb.refl _
 | q::l,M,i=>(aPG M q i).trans (aCo l (cJ M q) i)
theorem aNU(M:List Nat)(q:Nat×Nat):(cJ M q).length=M.length:=by unfold cJ;rw[yAy]
theorem aHj:∀ (l:List (Nat×Nat)) (M:List Nat) (q:Nat×Nat),q∈l->q.1<M.length->Sb q.2 ((l.foldl cJ M).getD q.1 0)
 | [],_,_,h,_=>by cases h
 | x::l,M,q,h,hl=>by
   rcases List.mem_cons.mp h with rfl | h
   ·refine Sb.trans ?_ (aCo l (cJ M q) q.1);unfold cJ;rw[oX hl];exact aRa _ _
   ·exact aHj l (cJ M x) q h (by rw[aNU];exact hl)
theorem aGf:∀ (l:List (Nat×Nat)) (M:List Nat) (i:Nat),(∀ q∈l,q.1≠i)->(l.foldl cJ M).getD i 0=M.getD i 0
 | [],_,_,_=>rfl
 | q::l,M,i,h=>by
   show(l.foldl cJ (cJ M q)).getD i 0=_;rw[aGf l (cJ M q) i λ x hx=>h x (xAg _ hx)]
   unfold cJ;exact nL (h q xAd)
section
variable {rs : List Rw}{F : List Ft}{r : Rw}{k m : Nat}{M : List Nat}
theorem zP(hr:rs[k]? = qq r):eM rs F M k=(dI rs F r (M.getD k 0)).foldl cJ M:=by unfold eM;rw[hr]
theorem zV(p:Prg rs)(hk:k<rs.length)(h:Bd rs M):Bd rs (eM rs F M k):=by
 have hr:rs[k]? = qq rs[k]:=yAa hk;rw[zP hr];exact aIR p hr (h.lt k _ hr) _ M (λ q hq=>hq) h
theorem aCe:∀ (k:Nat) (M:List Nat) (i:Nat),Sb (M.getD i 0) ((fS rs F k M).getD i 0)
 | 0,_,_=>Sb.refl _
 | k+1,M,i=>by
   refine Sb.trans ?_ (aCe k (eM rs F M k) i);unfold eM;cases rs[k]? with
   | none=>exact Sb.refl _
   | some r=>exact aCo _ M i
theorem aGq(p:Prg rs)(h:Bd rs M){i:Nat}(hi:k<=i)(hk:k<rs.length):(eM rs F M k).getD i 0=M.getD i 0:=by
 have hr:rs[k]? = qq rs[k]:=yAa hk;rw[zP hr];refine aGf _ M i λ q hq=>?_
 have:=(uP p hr (h.lt k _ hr) q hq).1;omega
theorem aBR(p:Prg rs):∀ (k:Nat) (M:List Nat) (i:Nat),Bd rs M->k<=rs.length->k<=i+1->(fS rs F k M).getD i 0=M.getD i 0
 | 0,_,_,_,_,_=>rfl
 | k+1,M,i,h,hk,hi=>by
   show(fS rs F k (eM rs F M k)).getD i 0=_;rw[aBR p k _ i (zV p (by omega) h) (by omega) (by omega),aGq p h (by omega) (by omega)]
theorem aHg(p:Prg rs):∀ (k:Nat) (M:List Nat),Bd rs M->k<=rs.length->Bd rs (fS rs F k M)
 | 0,_,h,_=>h
 | k+1,M,h,hk=>aHg p k _ (zV p (by omega) h) (by omega)
theorem aGp(p:Prg rs):∀ (k:Nat) (M:List Nat),Bd rs M->k<=rs.length->∀ (j:Nat) (r:Rw),j<k->rs[j]? = qq r->∀ q∈dI rs F r ((fS rs F k M).getD j 0),Sb q.2 ((fS rs F k M).getD q.1 0)
 | 0,_,_,_,j,_,hj,_,_,_=>absurd hj (yDy j)
 | k+1,M,h,hk,j,r,hj,hr,q,hq=>by
   have hb:=zV (F:=F) p (show k<rs.length by omega) h
   by_cases c:j=k
   ·subst c;have e:(fS rs F (j+1) M).getD j 0=M.getD j 0:=aBR p (j+1) M j h hk (yAb _);rw[e] at hq;have a:=(uP p hr (h.lt j r hr) q hq).1;show Sb q.2 ((fS rs F j (eM rs F M j)).getD q.1 0);refine Sb.trans ?_ (aCe j (eM rs F M j) q.1);rw[zP hr];exact aHj _ M q hq (by rw[h.l];omega)
   ·exact aGp p k (eM rs F M k) hb (by omega) j r (by omega) hr q hq
theorem aG8:∀ (l:List Nat) (M:List Nat) (o:Nat),o<M.length->(o∈l\/M.getD o 0=2^g0 (~~~rs) o-1)->(l.foldl (cZ rs) M).getD o 0=2^g0 (~~~rs) o-1
 | [],_,_,_,h=>by
   rcases h with h | h
   ·cases h
   ·exact h
 | x::l,M,o,hl,h=>by
   show(l.foldl (cZ rs) (cZ rs M x)).getD o 0=_;refine aG8 l (cZ rs M x) o (by unfold cZ;rw[yAy];exact hl) ?_
   by_cases c:x=o
   ·subst c
    right
    unfold cZ;exact oX hl
   ·rcases h with h | h
    ·rcases List.mem_cons.mp h with h | h
     ·exact absurd h.symm c
     ·exact .inl h
    ·right
     unfold cZ;rw[nL c];exact h
theorem uQ(p:Prg rs){aD:List Nat}(ho:∀ o∈aD,o<rs.length):Bd rs (bK rs F aD):=aHg p _ _ (zO aD _ ho zU) (yAb _)
theorem aLZ(p:Prg rs){aD:List Nat}(ho:∀ o∈aD,o<rs.length):Wr rs F aD (bK rs F aD) qz:=by
 have h0:Bd rs (jG rs aD):=zO aD _ ho zU;refine .inr ⟨λ k hk=>?_,?_⟩
 ·have hr:rs[k]? = qq rs[k]:=yAa hk;unfold sO;rw[hr];show List.any _ _=false;rw[yGp];intro q hq;have bq:aAL (bK rs F aD) q=false:=aHi.mpr (aGp p rs.length (jG rs aD) h0 (yAb _) k _ hk hr q hq);rw[bq];exact yBe
 ·have:sU rs aD (bK rs F aD)=false:=by
   unfold sU;rw[yGp];intro o hm;have e:(jG rs aD).getD o 0=2^g0 (~~~rs) o-1:=aG8 aD _ o (by rw[yBk];exact ho o hm) (.inl hm)
   have s:Sb (2^g0 (~~~rs) o-1) ((bK rs F aD).getD o 0):=by
    rw[<- e];exact aCe rs.length (jG rs aD) o
   rw[(aBI _ _).mpr s];decide
  rw[this];rfl
end
theorem uT{a b L:Nat}(h:∀ i,i<L->a.testBit i=b.testBit i):∃ q:Int,((a:Nat):Int)=(b:Nat)+((2^L:Nat):Int)*q:=by
 have e:a%2^L=b%2^L:=by
  apply xAm;intro i;rw[yAr,yAr]
  by_cases c:i<L
  ·rw[h i c]
  ·rw[dqF c,yBh,yBh]
 have h1:=yEm a (2^L);have h2:=yEm b (2^L);refine⟨((a/2^L:Nat):Int)-((b/2^L:Nat):Int),?_⟩;rw[Int.mul_sub,<- yCi,<- yCi];generalize 2^L*(a/2^L)=x at *;generalize 2^L*(b/2^L)=y at *;omega
theorem aC3{a b v:Nat}(ha:a<2^v)(hb:b<2^v)(h:∀ i,i<v->a.testBit i=b.testBit i):a=b:=by
 apply xAm;intro i
 by_cases c:i<v
 ·exact h i c
 ·rw[cM ha (by omega),cM hb (by omega)]
theorem aJl(x:Int){w t:Nat}(ht:t<w):(rs x w).testBit t=(rs x (t+1)).testBit t:=by
 rw[<- aH4 x (show t+1<=w by omega),yAr,dqT (show t<t+1 by omega),yAn]
theorem aCE{x y q:Int}{w t h:Nat}(ht:t<w)(hh:t<h)(e:x=y+((2^h:Nat):Int)*q):(rs x w).testBit t=(rs y w).testBit t:=by
 rw[aJl x ht,aJl y ht];have e2:x=y+((2^(t+1):Nat):Int)*(((2^(h-(t+1)):Nat):Int)*q):=by
  rw[e,<- Int.mul_assoc,<- yCi,<- yEy,show t+1+(h-(t+1))=h by omega]
 rw[e2,aQP]
theorem aGd{a u:Nat}(h:∀ i,i<u->a.testBit i=false):∃ y:Int,((a:Nat):Int)=((2^u:Nat):Int)*y:=by
 obtain⟨q,e⟩:=uT (a:=a) (b:=0) (L:=u) λ i hi=>by rw[h i hi,yBa]
 exact⟨q,by rw[e];omega⟩
def sK(fs:List Fc)(ns:List Nat):Prop:=∀ c i,((fs.getD c default).N.testBit i=true->(g0 ns c).testBit i=false)/\((fs.getD c default).O.testBit i=true->(g0 ns c).testBit i=true)
def Ag(want os ns:List Nat):Prop:=∀ c i,(want.getD c 0).testBit i=true->(g0 os c).testBit i=(g0 ns c).testBit i
section
variable {w kk m t : Nat}{fs : List Fc}(hm : m<2 ^ w)(ht : m.testBit t = true)
include hm ht
theorem sP:t<w:=by
 by_cases c:t<w
 ·exact c
 ·rw[cM hm (by omega)] at ht;cases ht
theorem iF:m≠0:=λ h=>by rw[h,yBa] at ht;cases ht
theorem aRL{a b:Nat}(ha:a<2^w)(hb:b<2^w)(ag:Ag (aX .not w kk [w] fs m) [b] [a]):(2^w-1-b).testBit t=(2^w-1-a).testBit t:=by
 have h0:=iF hm ht;have e:(aX .not w kk [w] fs m).getD 0 0=m:=by unfold aX;rw[if_neg h0];rfl
 have q:b.testBit t=a.testBit t:=ag 0 t (by rw[e];exact ht)
 have tl:=sP hm ht;have c1:=nW hb t;have c2:=nW ha t;unfold oP at c1 c2;rw[c1,c2,q]
theorem aPK{a b:Nat}(ag:Ag (aX .left w kk [w] fs m) [b] [a]):(b*2^kk%2^w).testBit t=(a*2^kk%2^w).testBit t:=by
 have h0:=iF hm ht;have e:(aX .left w kk [w] fs m).getD 0 0=m/2^kk:=by unfold aX;rw[if_neg h0];rfl
 rw[yAr,yAr,oW,oW]
 by_cases c:kk<=t
 ·have q:b.testBit (t-kk)=a.testBit (t-kk):=ag 0 (t-kk) (by rw[e,eZ,show kk+(t-kk)=t by omega];exact ht)
  rw[q]
 ·rw[dqF c,yBh,yBh]
theorem aNk{a b:Nat}(ha:a<2^w)(hb:b<2^w)(ag:Ag (aX .right w kk [w] fs m) [b] [a]):(b/2^kk).testBit t=(a/2^kk).testBit t:=by
 have h0:=iF hm ht;have e:(aX .right w kk [w] fs m).getD 0 0=(m*2^kk)&&&(2^w-1):=by unfold aX;rw[if_neg h0];rfl
 rw[eZ,eZ]
 by_cases c:kk+t<w
 ·exact ag 0 (kk+t) (by rw[e,yAh,cN,oW,dqT c,dqT (show kk<=kk+t by omega),show kk+t-kk=t by omega,ht];rfl)
 ·rw[cM ha (by omega),cM hb (by omega)]
theorem aHh{f a b v:Nat}(hv:1<=v){j:Nat}(hj:f.testBit j=true)(ag:∀ i,(gQ f v).testBit i=true->b.testBit i=a.testBit i):(if j<v then b.testBit j else b.testBit (v-1))=(if j<v then a.testBit j else a.testBit (v-1)):=by
 by_cases c:j<v
 ·rw[if_pos c,if_pos c];exact ag j ((pC hv).mpr (.inl ⟨c,hj⟩))
 ·rw[if_neg c,if_neg c];exact ag (v-1) ((pC hv).mpr (.inr ⟨rfl,j,by omega,hj⟩))
theorem aNp{a b:Nat}(hw:1<=w)(ha:a<2^w)(hb:b<2^w)(ag:Ag (aX .slide w kk [w] fs m) [b] [a]):(dD b w (w+kk)/2^kk).testBit t=(dD a w (w+kk)/2^kk).testBit t:=by
 have h0:=iF hm ht;have tl:=sP hm ht;have e:(aX .slide w kk [w] fs m).getD 0 0=gQ (m*2^kk) w:=by unfold aX;rw[if_neg h0];rfl
 have hj:(m*2^kk).testBit (kk+t)=true:=by rw[oW,dqT (show kk<=kk+t by omega),show kk+t-kk=t by omega,ht];rfl
 have q:=aHh hm ht (v:=w) (a:=a) (b:=b) hw hj λ i hi=>ag 0 i (by rw[e];exact hi)
 rw[eZ,eZ,qS hb hw (by omega),qS ha hw (by omega),dqT (show kk+t<w+kk by omega),yAn,yAn]
 exact q
theorem aQu{a b v:Nat}(hv:1<=v)(hvw:v<=w)(ha:a<2^v)(hb:b<2^v)(ag:Ag (aX .sign w kk [v] fs m) [b] [a]):(dD b v w).testBit t=(dD a v w).testBit t:=by
 have h0:=iF hm ht;have tl:=sP hm ht;have e:(aX .sign w kk [v] fs m).getD 0 0=gQ m v:=by unfold aX;rw[if_neg h0];rfl
 have q:=aHh hm ht (v:=v) (a:=a) (b:=b) hv ht λ i hi=>ag 0 i (by rw[e];exact hi)
 rw[qS hb hv hvw,qS ha hv hvw,dqT tl,yAn,yAn];exact q
theorem aRM{a b v:Nat}(ag:Ag (aX .cut w kk [v] fs m) [b] [a]):(b%2^w).testBit t=(a%2^w).testBit t:=by
 have h0:=iF hm ht;have e:(aX .cut w kk [v] fs m).getD 0 0=m:=by unfold aX;rw[if_neg h0];rfl
 have q:b.testBit t=a.testBit t:=ag 0 t (by rw[e];exact ht)
 rw[yAr,yAr,q]
theorem aOH{a b v:Nat}(ha:a<2^v)(hb:b<2^v)(ag:Ag (aX .wide w kk [v] fs m) [b] [a]):b.testBit t=a.testBit t:=by
 have h0:=iF hm ht;have e:(aX .wide w kk [v] fs m).getD 0 0=m&&&(2^v-1):=by unfold aX;rw[if_neg h0];rfl
 by_cases c:t<v
 ·exact ag 0 t (by rw[e,yAh,cN,ht,dqT c];rfl)
 ·rw[cM ha (by omega),cM hb (by omega)]
theorem aQS{a b c e:Nat}{ws:List Nat}(ag:Ag (aX .xor w kk ws fs m) [c,e] [a,b]):(c^^^e).testBit t=(a^^^b).testBit t:=by
 have h0:=iF hm ht;have e0:(aX .xor w kk ws fs m).getD 0 0=m:=by unfold aX;rw[if_neg h0];rfl
 have e1:(aX .xor w kk ws fs m).getD 1 0=m:=by unfold aX;rw[if_neg h0];rfl
 have q:c.testBit t=a.testBit t:=ag 0 t (by rw[e0];exact ht)
 have r:e.testBit t=b.testBit t:=ag 1 t (by rw[e1];exact ht)
 rw[yAm,yAm,q,r]
theorem aRf{a b c e:Nat}{ws:List Nat}(F:sK fs [a,b])(ag:Ag (aX .and w kk ws fs m) [c,e] [a,b]):(c&&&e).testBit t=(a&&&b).testBit t:=by
 have h0:=iF hm ht;have e0:(aX .and w kk ws fs m).getD 0 0=dB m (dB (fs.getD 1 default).N (fs.getD 0 default).N):=by unfold aX;rw[if_neg h0];rfl
 have e1:(aX .and w kk ws fs m).getD 1 0=dB m (fs.getD 0 default).N:=by unfold aX;rw[if_neg h0];rfl
 have g0':=ag 0 t;have g1':=ag 1 t;have f0:=(F 0 t).1;have f1:=(F 1 t).1;rw[e0,jO,jO,ht,yAn] at g0';rw[e1,jO,ht,yAn] at g1'
 change _->c.testBit t=a.testBit t at g0'
 change _->e.testBit t=b.testBit t at g1'
 change _->a.testBit t=false at f0
 change _->b.testBit t=false at f1
 rw[yAh,yAh]
 revert g0' g1' f0 f1
 cases (fs.getD 0 default).N.testBit t<;>cases (fs.getD 1 default).N.testBit t<;>cases a.testBit t<;>cases b.testBit t<;>cases c.testBit t<;>cases e.testBit t<;>decide
theorem aVk{a b c e:Nat}{ws:List Nat}(F:sK fs [a,b])(ag:Ag (aX .or w kk ws fs m) [c,e] [a,b]):(c|||e).testBit t=(a|||b).testBit t:=by
 have h0:=iF hm ht;have e0:(aX .or w kk ws fs m).getD 0 0=dB m (dB (fs.getD 1 default).O (fs.getD 0 default).O):=by unfold aX;rw[if_neg h0];rfl
 have e1:(aX .or w kk ws fs m).getD 1 0=dB m (fs.getD 0 default).O:=by unfold aX;rw[if_neg h0];rfl
 have g0':=ag 0 t;have g1':=ag 1 t;have f0:=(F 0 t).2;have f1:=(F 1 t).2;rw[e0,jO,jO,ht,yAn] at g0';rw[e1,jO,ht,yAn] at g1'
 change _->c.testBit t=a.testBit t at g0'
 change _->e.testBit t=b.testBit t at g1'
 change _->a.testBit t=true at f0
 change _->b.testBit t=true at f1
 rw[xAp,xAp]
 revert g0' g1' f0 f1
 cases (fs.getD 0 default).O.testBit t<;>cases (fs.getD 1 default).O.testBit t<;>cases a.testBit t<;>cases b.testBit t<;>cases c.testBit t<;>cases e.testBit t<;>decide
theorem aH6{wd:Wd}{ws:List Nat}(aN:wd=.add\/wd=.sub){a b c e:Nat}(ag:Ag (aX wd w kk ws fs m) [c,e] [a,b]):(∃ q:Int,((c:Nat):Int)=(a:Nat)+((2^bl m:Nat):Int)*q)/\∃ q:Int,((e:Nat):Int)=(b:Nat)+((2^bl m:Nat):Int)*q:=by
 have h0:=iF hm ht;have e0:(aX wd w kk ws fs m).getD 0 0=2^bl m-1:=by unfold aX;rw[if_neg h0];rcases aN with rfl | rfl<;>rfl
 have e1:(aX wd w kk ws fs m).getD 1 0=2^bl m-1:=by unfold aX;rw[if_neg h0];rcases aN with rfl | rfl<;>rfl
 exact⟨uT λ i hi=>ag 0 i (by rw[e0,cN,dqT hi]),uT λ i hi=>ag 1 i (by rw[e1,cN,dqT hi])⟩
theorem aSu{ws:List Nat}{a b c e:Nat}(ag:Ag (aX .add w kk ws fs m) [c,e] [a,b]):(rs ((c:Nat)+(e:Nat):Int) w).testBit t=(rs ((a:Nat)+(b:Nat):Int) w).testBit t:=by
 obtain⟨⟨q,e1⟩,r,e2⟩:=aH6 hm ht (.inl rfl) ag;refine aCE (q:=q+r) (sP hm ht) (aAA ht) ?_;rw[e1,e2,Int.mul_add];omega
theorem aSs{ws:List Nat}{a b c e:Nat}(ag:Ag (aX .sub w kk ws fs m) [c,e] [a,b]):(rs ((c:Nat)-(e:Nat):Int) w).testBit t=(rs ((a:Nat)-(b:Nat):Int) w).testBit t:=by
 obtain⟨⟨q,e1⟩,r,e2⟩:=aH6 hm ht (.inr rfl) ag;refine aCE (q:=q-r) (sP hm ht) (aAA ht) ?_;rw[e1,e2,Int.mul_sub];omega
theorem aTe{ws:List Nat}{a b c e:Nat}(F:sK fs [a,b])(ag:Ag (aX .mul w kk ws fs m) [c,e] [a,b]):(rs ((c:Nat)*(e:Nat):Int) w).testBit t=(rs ((a:Nat)*(b:Nat):Int) w).testBit t:=by
 have h0:=iF hm ht;have e0:(aX .mul w kk ws fs m).getD 0 0=2^(bl m-min (bl m) (lr (fs.getD 1 default).N))-1:=by unfold aX;rw[if_neg h0];rfl
 have e1:(aX .mul w kk ws fs m).getD 1 0=2^(bl m-min (bl m-min (bl m) (lr (fs.getD 1 default).N)) (lr (fs.getD 0 default).N))-1:=by unfold aX;rw[if_neg h0];rfl
 obtain⟨u,hu⟩:∃ u,u=min (bl m) (lr (fs.getD 1 default).N):=⟨_,rfl⟩;obtain⟨g,hg⟩:∃ g,g=min (bl m-u) (lr (fs.getD 0 default).N):=⟨_,rfl⟩;rw[<- hu] at e0 e1;rw[<- hg] at e1;have a0:∀ i,i<bl m-u->c.testBit i=a.testBit i:=λ i hi=>ag 0 i (by rw[e0,cN,dqT hi])
 have a1:∀ i,i<bl m-g->e.testBit i=b.testBit i:=λ i hi=>ag 1 i (by rw[e1,cN,dqT hi])
 have zb:∀ i,i<u->b.testBit i=false:=λ i hi=>(F 1 i).1 (rG (by omega))
 have za:∀ i,i<g->a.testBit i=false:=λ i hi=>(F 0 i).1 (rG (by omega))
 obtain⟨q,eq⟩:=uT a0;obtain⟨r,er⟩:=uT a1;obtain⟨y,ey⟩:=aGd (a:=e) (u:=u) λ i hi=>by rw[a1 i (by omega)];exact zb i hi
 obtain⟨z,ez⟩:=aGd za;have p1:((2^(bl m-u):Nat):Int)*((2^u:Nat):Int)=((2^bl m:Nat):Int):=by rw[<- yCi,<- yEy,show bl m-u+u=bl m by omega]
 have p2:((2^g:Nat):Int)*((2^(bl m-g):Nat):Int)=((2^bl m:Nat):Int):=by rw[<- yCi,<- yEy,show g+(bl m-g)=bl m by omega]
 refine aCE (q:=q*y+z*r) (sP hm ht) (aAA ht) ?_;generalize ((2^(bl m-u):Nat):Int)=P1 at *;generalize ((2^(bl m-g):Nat):Int)=P2 at *;generalize ((2^bl m:Nat):Int)=P at *;generalize ((2^u:Nat):Int)=Q1 at *;generalize ((2^g:Nat):Int)=Q2 at *;generalize ((a:Nat):Int)=A at *;generalize ((b:Nat):Int)=B at *;generalize ((c:Nat):Int)=C at *;generalize ((e:Nat):Int)=E' at *
 calc C*E'=A*E'+P1*q*E':=by rw[eq,Int.add_mul]
  _=A*(B+P2*r)+P1*q*(Q1*y):=by rw[<- er,<- ey]
  _=A*B+Q2*z*(P2*r)+P1*q*(Q1*y):=by rw[Int.mul_add,<- ez]
  _=A*B+P*(q*y+z*r):=by
   have h1:Q2*z*(P2*r)=P*(z*r):=by rw[<- p2];simp only[Int.mul_assoc,Int.mul_left_comm]
   have h2:P1*q*(Q1*y)=P*(q*y):=by rw[<- p1];simp only[Int.mul_assoc,Int.mul_left_comm]
   rw[h1,h2,Int.mul_add];omega
theorem aRJ{wd:Wd}{v:Nat}(aN:wd=.same\/wd=.less\/wd=.under){a b c e:Nat}(ha:a<2^v)(hb:b<2^v)(hc:c<2^v)(he:e<2^v)(ag:Ag (aX wd w kk [v,v] fs m) [c,e] [a,b]):c=a/\e=b:=by
 have h0:=iF hm ht;have e0:(aX wd w kk [v,v] fs m).getD 0 0=2^v-1:=by unfold aX;rw[if_neg h0];rcases aN with rfl | rfl | rfl<;>rfl
 have e1:(aX wd w kk [v,v] fs m).getD 1 0=2^v-1:=by unfold aX;rw[if_neg h0];rcases aN with rfl | rfl | rfl<;>rfl
 exact⟨aC3 hc ha λ i hi=>ag 0 i (by rw[e0,cN,dqT hi]),aC3 he hb λ i hi=>ag 1 i (by rw[e1,cN,dqT hi])⟩
theorem aQg{ws:List Nat}{z a b z' c e:Nat}(hz:z<2^1)(hz':z'<2^1)(F:sK fs [z,a,b])(ag:Ag (aX .pick w kk ws fs m) [z',c,e] [z,a,b]):(if z'=1 then c else e).testBit t=(if z=1 then a else b).testBit t:=by
 have h0:=iF hm ht;have en:aX .pick w kk ws fs m=if (fs.getD 0 default).O=1 then [1,m,0] else if (fs.getD 0 default).N=1 then [1,0,m] else [1,m,m]:=by unfold aX;rw[if_neg h0]
 have e0:(aX .pick w kk ws fs m).getD 0 0=1:=by rw[en];split;rfl;split<;>rfl
 have ez:z'=z:=aC3 hz' hz λ i hi=>ag 0 i (by rw[e0,show i=0 by omega];rfl)
 subst ez;have o1:(fs.getD 0 default).O=1->z'=1:=λ h=>by
  have:=(F 0 0).2 (by rw[h];rfl)
  have q:z'.testBit 0=true:=this;rcases (show z'=0\/z'=1 by omega) with rfl | rfl
  ·cases q
  ·rfl
 have n1:(fs.getD 0 default).N=1->z'≠1:=λ h=>by
  have:=(F 0 0).1 (by rw[h];rfl)
  have q:z'.testBit 0=false:=this;rintro rfl;cases q
 by_cases c1:z'=1
 ·rw[if_pos c1,if_pos c1];refine ag 1 t ?_;rw[en]
  split
  ·exact ht
  ·rw[if_neg λ h=>n1 h c1]
   exact ht
 ·rw[if_neg c1,if_neg c1];refine ag 2 t ?_;rw[en,if_neg λ h=>c1 (o1 h)]
  split
  ·exact ht
  ·exact ht
end
theorem aSr{wd:Wd}{w kk m t:Nat}{args ws ns os:List Nat}{fs:List Fc}(h:RwOk ⟨wd,w,args⟩ ws)(hk:rY wd args kk)(hm:m<2^w)(ht:m.testBit t=true)(ln:nB ws ns)(lo:nB ws os)(F:sK fs ns)(ag:Ag (aX wd w kk ws fs m) os ns):(cH ⟨wd,w,args⟩ ws os).testBit t=(cH ⟨wd,w,args⟩ ws ns).testBit t:=by
 cases h with
 | inp=>rfl
 | num=>rfl
 | nt h1 h2 =>
   obtain⟨a,rfl,ha⟩:=eP ln;obtain⟨b,rfl,hb⟩:=eP lo;exact aRL hm ht ha hb ag
 | sh h1 h2 aN hk' =>
   rename_i a0 k;obtain⟨a,rfl,ha⟩:=eP ln;obtain⟨b,rfl,hb⟩:=eP lo;have ek:k=kk:=by
    rcases aN with rfl | rfl | rfl
    all_goals
     obtain⟨a1,e,_⟩:=hk;injection e with _ e
     injection e
   subst ek;rcases aN with rfl | rfl | rfl
   ·exact aPK hm ht ag
   ·exact aNk hm ht ha hb ag
   ·exact aNp hm ht h1 ha hb ag
 | cut h1 hv h2 =>
   obtain⟨a,rfl,ha⟩:=eP ln;obtain⟨b,rfl,hb⟩:=eP lo;exact aRM hm ht ag
 | wide h1 hv h2 =>
   obtain⟨a,rfl,ha⟩:=eP ln;obtain⟨b,rfl,hb⟩:=eP lo;exact aOH hm ht ha hb ag
 | sign h1 hv h2 =>
   obtain⟨a,rfl,ha⟩:=eP ln;obtain⟨b,rfl,hb⟩:=eP lo;exact aQu hm ht h1 hv ha hb ag
 | bw h1 h2 aN =>
   obtain⟨a,b,rfl,ha,hb⟩:=kB ln;obtain⟨c,e,rfl,hc,he⟩:=kB lo;rcases aN with rfl | rfl | rfl
   ·exact aRf hm ht F ag
   ·exact aVk hm ht F ag
   ·exact aQS hm ht ag
 | sm h1 h2 =>
   rename_i s _ _;obtain⟨a,b,rfl,ha,hb⟩:=kB ln;obtain⟨c,e,rfl,hc,he⟩:=kB lo;cases s with
   | add=>exact aSu hm ht ag
   | sub=>exact aSs hm ht ag
   | mul=>exact aTe hm ht F ag
 | cmp h1 h2 aN =>
   obtain⟨a,b,rfl,ha,hb⟩:=kB ln;obtain⟨c,e,rfl,hc,he⟩:=kB lo;obtain⟨rfl,rfl⟩:=aRJ hm ht aN ha hb hc he ag;rfl
 | pick h1 h2 =>
   obtain⟨z,a,b,rfl,hz,ha,hb⟩:=aAG ln;obtain⟨z',c,e,rfl,hz',hc,he⟩:=aAG lo;exact aQg hm ht hz hz' F ag
theorem tT:∀ (rs:List Rw) (W is aC:List Nat),bO rs W is (yAc rs.length 0) aC=cL rs W is aC
 | [],_,_,_=>rfl
 | r::rs,W,is,aC=>by
   rw[yBf,yAx,bO,cL,yEn,yEn,tT rs,tT rs]
theorem aJr{W:List Nat}:∀ (rs:List Rw) (is ms ms' aC acc' R R':List Nat),aC.length=acc'.length->bT rs is->ms.length=rs.length->ms'.length=rs.length->(∀ (j:Nat) (r:Rw),rs[j]? = qq r->∀ a∈r.args.take (bB r.wd),a<aC.length+j)->bO rs W is ms aC=R->bO rs W is ms' acc'=R'->∀ (j:Nat) (r:Rw),rs[j]? = qq r->(∃ n,R[aC.length+j]? = qq (n^^^ms.getD j 0)/\R'[aC.length+j]? = qq (n^^^ms'.getD j 0))\/(R[aC.length+j]? = qq (cH r (aT r W) (aT r R)^^^ms.getD j 0)/\R'[aC.length+j]? = qq (cH r (aT r W) (aT r R')^^^ms'.getD j 0))
 | [],_,_,_,_,_,_,_,_,_,_,_,_,_,_,j,r,h=>by simp at h
 | r0::rs,is,[],_,_,_,_,_,_,_,h,_,_,_,_,_,_,_=>by simp at h
 | r0::rs,is,_::_,[],_,_,_,_,_,_,_,h,_,_,_,_,_,_=>by simp at h
 | r0::rs,is,m::ms,m'::ms',aC,acc',R,R',ha,hi,l1,l2,hf,h1,h2,j,r,hr=>by
   have go:∀ (is':List Nat) (z z':Nat),bT rs is'->bO rs W is' ms (aC++[z])=R->bO rs W is' ms' (acc'++[z'])=R'->∀ j,rs[j]? = qq r->(∃ n,R[aC.length+(j+1)]? = qq (n^^^ms.getD j 0)/\R'[aC.length+(j+1)]? = qq (n^^^ms'.getD j 0))\/(R[aC.length+(j+1)]? = qq (cH r (aT r W) (aT r R)^^^ms.getD j 0)/\R'[aC.length+(j+1)]? = qq (cH r (aT r W) (aT r R')^^^ms'.getD j 0)):=λ is' z z' hi' g1 g2 j hj=>by
    have e:(aC++[z]).length=aC.length+1:=by simp
    have e':(acc'++[z']).length=aC.length+1:=by simp[ha]
    have:=aJr rs is' ms ms' (aC++[z]) (acc'++[z']) R R' (by rw[e,e']) hi' (by simpa using l1) (by simpa using l2) (λ j r hr a q=>by
     have:=hf (j+1) r hr a q;rw[e];omega) g1 g2 j r hj
    rw[e,Nat.add_right_comm,Nat.add_assoc] at this;exact this
   by_cases c:r0.wd=.in
   ·obtain⟨n,is1,rfl,hi1,a1,g1⟩:=aHH h1 c hi;obtain⟨n',is2,e,hi2,a2,g2⟩:=aHH h2 c hi;cases e;cases j with
    | zero=>exact .inl ⟨n,a1,by rw[ha];exact a2⟩
    | succ j=>exact go is1 _ _ hi1 g1 g2 j hr
   ·have hf0:∀ a∈r0.args.take (bB r0.wd),a<aC.length:=λ a q=>hf 0 r0 rfl a q
    obtain⟨hi1,a1,z,g1⟩:=aHE h1 c hi hf0;obtain⟨hi2,a2,z',g2⟩:=aHE h2 c hi (ha▸hf0);cases j with
    | zero =>
      cases hr;exact .inr ⟨a1,by rw[ha];exact a2⟩
    | succ j=>exact go is z z' hi1 g1 g2 j hr
section
variable {rs : List Rw}{F : List Ft}{M T is aD : List Nat}
theorem aNC(p:Prg rs)(s:Snd rs F)(hF:F.length=rs.length)(hi:bT rs is){k:Nat}{r:Rw}(hr:rs[k]? = qq r):sK (iM r F) (aT r (cL rs (~~~rs) is [])):=λ c i=>by
 obtain⟨f1,f2⟩:=p.fit k r hr;have hk:k<rs.length:=(gIm hr).1;unfold iM iJ aT g0;rw[yBn,xAh,xAh,xAb,xAb];cases e:(r.args.take (bB r.wd))[c]? with
 | none=>exact⟨λ z=>absurd z (by rw[show((Option.map _ qz:Option Fc).getD default).N=0 from rfl,yBa];decide),λ z=>absurd z (by rw[show((Option.map _ qz:Option Fc).getD default).O=0 from rfl,yBa];decide)⟩
 | some a =>
   have ha:=f2 a (xAl e);have hw:=mD (l:=rs.map (·.w)) (a:=a) (by rw[yAd];omega)
   have hn:=mD (l:=cL rs (~~~rs) is []) (a:=a) (by rw[rL p hi];omega)
   obtain⟨h1,h2,_⟩:=s.hold is hi a _ _ _ (pO (by omega)) hw hn
   exact⟨h1 i,h2 i⟩
theorem aLO(p:Prg rs)(s:Snd rs F)(hF:F.length=rs.length)(hi:bT rs is)(hb:Bd rs M)(hw:∀ k,k<rs.length->sO rs F M k=false)(hT:MsOk rs T)(lt:∀ (i a w:Nat),(bO rs (~~~rs) is T [])[i]? = qq a->(~~~rs)[i]? = qq w->a<2^w)(ll:(bO rs (~~~rs) is T []).length=rs.length)(dj:∀ k i,(M.getD k 0).testBit i=true->(T.getD k 0).testBit i=false):∀ k,k<rs.length->∀ i,(M.getD k 0).testBit i=true->(g0 (bO rs (~~~rs) is T []) k).testBit i=(g0 (cL rs (~~~rs) is []) k).testBit i:=by
 intro k
 induction k using Nat.strongRecOn with
 | ind k ih =>
   intro hk i hb';have hr:rs[k]? = qq rs[k]:=yAa hk;generalize rs[k]=r at hr;obtain⟨f1,f2⟩:=p.fit k r hr;have R:=aJr (W:=rs.map (·.w)) rs is T (yAc rs.length 0) [] [] _ _ rfl hi hT.l yBk (λ j r hr a ha=>by rw[yCn,yEd];exact(p.fit j r hr).2 a ha) rfl rfl k r hr
   rw[tT,yCn,yEd,show(yAc rs.length 0).getD k 0=0 by rw[xAh,yBj,if_pos hk];rfl,yEn] at R
   have t0:=dj k i hb';have hx:∀ n:Nat,(n^^^T.getD k 0).testBit i=n.testBit i:=λ n=>by rw[yAm,t0,Bool.xor_false]
   have gk:∀ {l:List Nat}{v:Nat},l[k]? = qq v->g0 l k=v:=λ {l v} e=>by
    show l.getD k 0=v;rw[xAh,e];rfl
   rcases R with ⟨n,r1,r2⟩ | ⟨r1,r2⟩
   ·rw[gk r1,gk r2,hx,yEn]
   ·rw[gk r1,gk r2,hx];obtain⟨w1,w2⟩:=vL f1;have len:∀ a∈r.args.take (bB r.wd),a<rs.length:=λ a ha=>by have:=f2 a ha;omega
    refine aSr (kk:=pZ r) (fs:=iM r F) f1 w2 (hb.lt k r hr) hb' (rH (λ i a w h1 h2=>aAh p hi h1 h2) _ λ a ha=>⟨by rw[rL p hi];exact len a ha,by rw[yAd];exact len a ha⟩) (rH lt _ λ a ha=>⟨by rw[ll];exact len a ha,by rw[yAd];exact len a ha⟩) (aNC p s hF hi hr) λ c j hj=>?_
    unfold aT g0;rw[xAh,xAh,xAb,xAb];cases e:(r.args.take (bB r.wd))[c]? with
    | none=>rfl
    | some a =>
      have ha:=f2 a (xAl e);refine ih a ha (by omega) j ?_
      have hq:∃ v,(hB rs F r (M.getD k 0))[c]? = qq v/\v.testBit j=true:=by
       have hj':((hB rs F r (M.getD k 0)).getD c 0).testBit j=true:=hj;rw[xAh] at hj';cases q:(hB rs F r (M.getD k 0))[c]? with
       | none=>rw[q] at hj';rw[show(qz:Option Nat).getD 0=0 from rfl,yBa] at hj';cases hj'
       | some v=>rw[q] at hj';exact⟨v,rfl,hj'⟩
      obtain⟨v,hv,hj2⟩:=hq;have hm:(a,v)∈dI rs F r (M.getD k 0):=by
       refine xAl (i:=c) ?_;unfold dI nE;rw[yEr];exact⟨e,hv⟩
      have b1:=hw k hk;unfold sO at b1;rw[hr] at b1;exact aHi.mp (by simpa using List.any_eq_false.mp b1 _ hm) j hj2
end
theorem aFj(d:Nat)(rs:D)(aD N:List Nat)(ho:∀ o∈aD,o<N.length)(hl:aD.length<=8)(S:aF):cl fns (d+1) 58 [.d (.tuple [rs,(aD*>nD)]),.d (N*>nD)] S=qq (.d (.tuple ((aD.map (g0 N)).map nD)),S):=by
 have i1:aH (.tuple [rs,(aD*>nD)]) (.int 1)=qq (aD*>nD):=rfl;have hc:lv (aE fns d) aEZ [qq (.d (.tuple [rs,(aD*>nD)])),qq (.d (N*>nD)),qz] S=qq ((aD.map (g0 N)).map nD,S):=by
  rw[yBn];refine nU (fi:=lv (aE fns d) (.it (.ix (.var 0) (.int 1)))) (fe:=ev (aE fns d) (.ix (.var 1) (.var 2))) nD (nD ∘ g0 N) aD ?_ (by rw[zx];omega) λ o h=>?_
  ·simp only[gS0,i1,fV]
  ·refine⟨_,rfl,λ S'=>?_⟩
   have e:aH (N*>nD) (nD o)=qq (nD (g0 N o)):=iZ (vA (ho o h));simp only[gS0,clr,yBl,yCh,e]
 rw[aY rfl d _ S rfl];simp only[gR1,aGm,hc,gB,fZ]
theorem aF3:∀ (l:List (Nat×Nat)) (M:List Nat) (a b:Nat),((l.foldl cJ M).getD a 0).testBit b=true->(M.getD a 0).testBit b=true\/∃ q∈l,q.1=a/\q.2.testBit b=true
 | [],M,a,b,h=>.inl h
 | q::l,M,a,b,h=>by
   rcases aF3 l (cJ M q) a b h with h | ⟨q',h1,h2⟩
   ·unfold cJ at h
    by_cases c:q.1=a
    ·subst c
     by_cases c2:q.1<M.length
     ·rw[oX c2,xAp,yDz] at h;rcases h with h | h
      ·exact .inl h
      ·exact .inr ⟨q,xAd,rfl,h⟩
     ·rw[yDx (by omega)] at h
      exact .inl h
    ·rw[nL c] at h;exact .inl h
   ·exact .inr ⟨q',xAg _ h1,h2⟩
theorem aFP{rs:List Rw}:∀ (l:List Nat) (M:List Nat) (a b:Nat),((l.foldl (cZ rs) M).getD a 0).testBit b=true->a∈l\/(M.getD a 0).testBit b=true
 | [],M,a,b,h=>.inr h
 | o::l,M,a,b,h=>by
   rcases aFP l (cZ rs M o) a b h with h | h
   ·exact .inl (xAg _ h)
   ·by_cases c:o=a
    ·subst c;exact .inl xAd
    ·unfold cZ at h;rw[nL c] at h;exact .inr h
noncomputable def nb(rs:List Rw)(F:List Ft)(k i a b:Nat):Bool:=match rs[k]? with
 | some r=>(dI rs F r (2^i)).any λ q=>(q.1==a)&&q.2.testBit b
 | none=>false
section
variable {rs : List Rw}{F : List Ft}{r : Rw}{k m : Nat}{M : List Nat}
theorem aPH(p:Prg rs)(hr:rs[k]? = qq r){m b:Nat}(q:Nat×Nat)(hq:q∈dI rs F r m)(hb:q.2.testBit b=true):∃ i,m.testBit i=true/\nb rs F k i q.1 b=true:=by
 obtain⟨f1,f2⟩:=p.fit k r hr;obtain⟨w1,w2⟩:=vL f1;obtain⟨c,hc⟩:=yDu hq;obtain⟨a,v⟩:=q;unfold dI at hc;rw[yEr] at hc;obtain⟨h1,h2⟩:=hc;have e:(hB rs F r m).getD c 0=v:=by
  rw[xAh,h2];rfl
 have ht:((aX r.wd r.w (pZ r) (aT r (~~~rs)) (iM r F) m).getD c 0).testBit b=true:=by
  unfold hB at e;rw[e];exact hb
 rw[aPZ r.wd r.w (pZ r) (aT r (~~~rs)) (iM r F) m c b w1] at ht;obtain⟨i,hi,hn⟩:=ht;have hl:c<(hB rs F r (2^i)).length:=by
  have:=(gIm h2).1;unfold hB at this ⊢;rw[aNm] at this ⊢;exact this
 have h3:(hB rs F r (2^i))[c]? = qq ((hB rs F r (2^i)).getD c 0):=pF hl;refine⟨i,hi,?_⟩;unfold nb;rw[hr];refine List.any_eq_true.mpr ⟨(a,(hB rs F r (2^i)).getD c 0),?_,?_⟩
 ·unfold dI;exact xAl (i:=c) (List.getElem?_zip_eq_some.mpr ⟨h1,h3⟩)
 ·show((a==a)&&((hB rs F r (2^i)).getD c 0).testBit b)=true;rw[beq_self_eq_true,yAn];exact hn
theorem aFZ(p:Prg rs):∀ (n:Nat) (M:List Nat) (a b:Nat),Bd rs M->n<=rs.length->((fS rs F n M).getD a 0).testBit b=true->(M.getD a 0).testBit b=true\/∃ k i,k<n/\((fS rs F n M).getD k 0).testBit i=true/\nb rs F k i a b=true
 | 0,M,a,b,_,_,h=>.inl h
 | n+1,M,a,b,hM,hn,h=>by
   have hr:rs[n]? = qq rs[n]:=yAa (by omega)
   have bd:=zV (F:=F) p (show n<rs.length by omega) hM
   have fr:(fS rs F (n+1) M).getD n 0=M.getD n 0:=by
    show(fS rs F n (eM rs F M n)).getD n 0=_;rw[aBR p n _ n bd (by omega) (by omega),aGq p hM (yAb _) (by omega)]
   rcases aFZ p n (eM rs F M n) a b bd (by omega) h with h | ⟨k,i,h1,h2,h3⟩
   ·rw[zP hr] at h;rcases aF3 _ _ _ _ h with h | ⟨q,h1,h2,h3⟩
    ·exact .inl h
    ·obtain⟨i,h4,h5⟩:=aPH p hr q h1 h3;subst h2;exact .inr ⟨n,i,by omega,by rw[fr];exact h4,h5⟩
   ·exact .inr ⟨k,i,by omega,h2,h3⟩
theorem aJF(p:Prg rs){i a b:Nat}(hr:rs[k]? = qq r)(hi:i<r.w)(h:nb rs F k i a b=true):a<k/\a∈nE r:=by
 unfold nb at h;rw[hr] at h;obtain⟨q,h1,h2⟩:=List.any_eq_true.mp h;rw[yAk,beq_iff_eq] at h2;have h3:=(uP p hr (yBx (by decide) hi) q h1).1
 rw[h2.1] at h3;refine⟨h3,?_⟩;obtain⟨x,y⟩:=q;have:=(yGc h1).1;rw[<- h2.1];exact this
theorem aNo(p:Prg rs){aD:List Nat}(ho:∀ o∈aD,o<rs.length){a b:Nat}(h:((bK rs F aD).getD a 0).testBit b=true):a∈aD\/∃ k i,a<k/\k<rs.length/\((bK rs F aD).getD k 0).testBit i=true/\nb rs F k i a b=true:=by
 have bd:=zO aD _ ho (zU (rs:=rs));rcases aFZ p rs.length _ a b bd (yAb _) h with h | ⟨k,i,h1,h2,h3⟩
 ·rcases aFP _ _ _ _ h with h | h
  ·exact .inl h
  ·have z:(yAc rs.length 0).getD a 0=0:=by
    rw[xAh,yBj]
    split<;>rfl
   rw[z,yBa] at h;cases h
 ·have hr:rs[k]? = qq rs[k]:=yAa h1;have hi:i<rs[k].w:=by
   have hb:=(uQ (F:=F) p ho).lt k _ hr;refine yHa λ c=>?_
   have:=yDi (xAc hb (yAl (by decide) c))
   exact absurd h2 (by rw[show(bK rs F aD).getD k 0=_ from rfl] at this;rw[show(fS rs F rs.length (List.foldl (cZ rs) (yAc rs.length 0) aD))=bK rs F aD from rfl,this];decide)
  exact .inr ⟨k,i,(aJF p hr hi h3).1,h1,h2,h3⟩
end
theorem sI(n b:Nat):((((n/2^b)&&&1:Nat):Int)==1)=n.testBit b:=by
 rw[lT,Nat.and_one_is_mod,yDt];cases h:decide (n/2^b%2=1) with
 | true=>rw[oqT h];rfl
 | false=>rw[beq_eq_false_iff_ne];exact of_decide_eq_false h
theorem aWG(n b:Nat):((((n/2^b)&&&1:Nat):Int)==0) = !n.testBit b:=by
 rw[fX,Nat.and_one_is_mod,yDt];have:=yHl (n/2^b) (show 0<2 by decide)
 cases h:decide (n/2^b%2=1) with
 | true=>rw[oqT h];rfl
 | false =>
   have:=of_decide_eq_false h;rw[show n/2^b%2=0 by omega]
   rfl
theorem aCm:∀ L:List Nat,hZ (L.map nD)=true
 | []=>rfl
 | a::r=>by
   show(fO (nD a)&&hZ (r.map nD))=true;rw[aCm r];rfl
theorem aCO(a:Nat):∀ L:List Nat,kD (.int a) (L.map nD)=decide (a∈L)
 | []=>by rw[dqF yCe];rfl
 | b::L=>by
   have ih:=aCO a L;show(yCl (.int b) (.int a)||kD (.int a) (L.map nD))=_
   rw[ih];have e:yCl (.int b) (.int a)=decide (a=b):=by
    show(((b:Nat):Int)==((a:Nat):Int))=_;rw[lV]
    by_cases c:a=b
    ·subst c;simp
    ·rw[dqF c,beq_eq_false_iff_ne];exact λ h=>c h.symm
   rw[e]
   by_cases c:a=b<;>by_cases c2:a∈L<;>simp[c,c2]
theorem aS2(a:Nat)(L:List Nat):aV .In (.int a) (L*>nD)=qq (.bool (decide (a∈L))):=by
 show((if fO (.int a)=true/\hZ (L.map nD)=true then qq (kD (.int a) (L.map nD)) else qz).map yBd)=_
 rw[if_pos ⟨rfl,aCm L⟩,aCO];rfl
theorem aMK(a:Nat)(L:List Nat):aV .NotIn (.int a) (L*>nD)=qq (.bool (!decide (a∈L))):=by
 show((if fO (.int a)=true/\hZ (L.map nD)=true then qq (!kD (.int a) (L.map nD)) else qz).map yBd)=_
 rw[if_pos ⟨rfl,aCm L⟩,aCO];rfl
section
variable {rs : List Rw}{F : List Ft}{r : Rw}{k m : Nat}{M : List Nat}
theorem aLC(d:Nat)(p:Prg rs)(hr:rs[k]? = qq r)(hF:F.length=rs.length)(i a b:Nat)(hi:i<r.w)(o:D)(S:aF):cl fns (d+7) 20 [.d (rs<*o),.d (F*>Ft.d),.d (.tuple [.int k,.int i]),.d (.int a),.d (.int b)] S=qq (.d (.bool (nb rs F k i a b)),S):=by
 have ew:=(p.ws _ r hr).2;have sh:=eX (w:=i) (by omega)
 have rn:=aEU d p hr hF (yBx (by decide) hi:2^i<2^r.w) o S
 obtain⟨P,hP⟩:∃ P:D,P=(rs<*o):=⟨_,rfl⟩;rw[<- hP] at rn ⊢;have en:nb rs F k i a b=(dI rs F r (2^i)).any λ q=>(q.1==a)&&q.2.testBit b:=by unfold nb;rw[hr]
 obtain⟨l,hl⟩:∃ l,l=dI rs F r (2^i):=⟨_,rfl⟩;have ll:l.length<=1000:=by
  rw[hl];unfold dI;rw[List.length_zip];have:=aCy r;omega
 rw[<- hl] at rn en;have hc:lv (aE fns (d+6)) aEF [qq (.d P),qq (.d (F*>Ft.d)),qq (.d (.tuple [.int k,.int i])),qq (.d (.int a)),qq (.d (.int b)),qq (.d (.list (l.map pD))),qz,qz] S=qq (l.map λ q=>yBd ((q.1==a)&&q.2.testBit b),S):=by
  refine nU (fi:=lv (aE fns (d+6)) (.it (.var 5))) (fe:=ev (aE fns (d+6)) (.and (.cmp .Eq (.var 6) (.var 3)) (.cmp .Eq (.bin .BitAnd (.bin .RShift (.var 7) (.var 4)) (.int 1)) (.int 1)))) pD (λ q=>yBd ((q.1==a)&&q.2.testBit b)) l ?_ (by rw[zx];omega) λ q hq=>?_
  ·simp only[gS0,fV]
  ·refine⟨[qq (.d P),qq (.d (F*>Ft.d)),qq (.d (.tuple [.int k,.int i])),qq (.d (.int a)),qq (.d (.int b)),qq (.d (.list (l.map pD))),qq (.d (.int (q.1:Nat))),qq (.d (.int (q.2:Nat)))],rfl,λ S'=>?_⟩
   cases c:q.1==a with
   | true=>simp only[evs,bQ,lV,c,fL,nM,sI,yAn]
   | false=>simp only[evs,bQ,lV,c,yBh]
 have an:=aQ7 (λ q:Nat×Nat=>(q.1==a)&&q.2.testBit b) l
 have i0:aH (.tuple [.int k,.int i]) (.int 0)=qq (.int k):=rfl;have i1:aH (.tuple [.int k,.int i]) (.int 1)=qq (.int i):=rfl;rw[aY rfl (d+6) _ _ rfl,en];simp only[gR1,aFk,i0,i1,sh,rn,hc,an,yAf]
noncomputable def bI(rs:List Rw)(F:List Ft)(M:List Nat)(a b k i:Nat):Bool:=(M.getD k 0).testBit i&&nb rs F k i a b
noncomputable abbrev eN(P:D)(F:List Ft)(M:List Nat)(a b:Nat)(c5 c6:Option W):aU:=[qq (.d P),qq (.d (F*>Ft.d)),qq (.d (M*>nD)),qq (.d (.int a)),qq (.d (.int b)),c5,c6]
theorem aOl(d:Nat)(p:Prg rs)(hr:rs[k]? = qq r)(hF:F.length=rs.length)(h:Bd rs M)(i a b:Nat)(hi:i<r.w)(o:D)(S:aF):xs (aE fns (d+7)) kM (eN (rs<*o) F M a b (qq (.d (.int k))) (qq (.d (.int i)))) S=cond (bI rs F M a b k i) (qq (.rt (.d (pD (k,i))),S)) (qq (.nx (eN (rs<*o) F M a b (qq (.d (.int k))) (qq (.d (.int i)))),S)):=by
 have nbk:=aLC d p hr hF i a b hi o S;have em:=zT (M:=M) (i:=k) (by rw[h.l];exact(gIm hr).1)
 unfold bI;cases c:(M.getD k 0).testBit i with
 | false =>
   rw[yBh,cond_false];simp only[gS2,kM,eN,em,fL,nM,bQ,sI,c]
 | true =>
   cases c2:nb rs F k i a b with
   | false =>
     rw[c2] at nbk;rw[yCy,cond_false];simp only[gS2,kM,eN,em,fL,nM,bQ,sI,c,nbk]
   | true =>
     rw[c2] at nbk;rw[yCf,cond_true];simp only[gS2,kM,eN,em,fL,nM,bQ,sI,c,nbk]
theorem aIU(d:Nat)(p:Prg rs)(hr:rs[k]? = qq r)(hF:F.length=rs.length)(h:Bd rs M)(a b:Nat)(o:D)(S:aF)(c6:Option W):(∃ i,i<r.w/\bI rs F M a b k i=true/\xs (aE fns (d+7)) kL (eN (rs<*o) F M a b (qq (.d (.int k))) c6) S=qq (.rt (.d (pD (k,i))),S))\/((∀ i,i<r.w->bI rs F M a b k i=false)/\∃ c6',xs (aE fns (d+7)) kL (eN (rs<*o) F M a b (qq (.d (.int k))) c6) S=qq (.nx (eN (rs<*o) F M a b (qq (.d (.int k))) c6'),S)):=by
 have ew:=(p.ws _ r hr).2;have pl:=λ i hi=>aOl d p hr hF h i a b hi o S
 have wo:=aCT (d+6) k hr o S;have i0:aH (rs<*o) (.int 0)=qq (rs*>Rw.d):=rfl;obtain⟨P,hP⟩:∃ P:D,P=(rs<*o):=⟨_,rfl⟩;rw[<- hP] at wo i0 ⊢;simp only[<- hP] at pl;have er1:aH (rs*>Rw.d) (.int k)=qq r.d:=iZ (by rw[xAb,hr];rfl)
 have eo:cl fns (d+7) 7 [.d r.d] S=qq (.d (.tuple ((nE r).map nD)),S):=qT (d+6) r S;have it:=aS2 a (nE r)
 by_cases ca:a∈nE r
 ·rw[dqT ca] at it;have hi:lv (aE fns (d+7)) oV (eN P F M a b (qq (.d (.int k))) c6) S=qq ((yAu r.w).map (λ k=>yAj ((k:Nat):Int)),S):=by
   simp only[oV,lH,kQ,kU,kS,lA,kZ];exact qU (by simp only[evs,eN,wo]) (by omega)
  obtain⟨q,hq,h1,h2⟩:=aFb (λ i=>decide (i<r.w) && !bI rs F M a b k i) r.w (by
   rw[Bool.and_eq_false_iff];exact .inl (dqF (yCb _)))
  have good:∀ i,i<q->bI rs F M a b k i=false:=λ i hi=>by
   have:=h1 i hi;simp only[yAk] at this;cases c:bI rs F M a b k i with
   | false=>rfl
   | true=>rw[c] at this;exact absurd this.2 (by decide)
  by_cases c:q<r.w
  ·have h2':(decide (q<r.w) && !bI rs F M a b k q)=false:=h2;rw[dqT c,yAn] at h2';have h3:bI rs F M a b k q=true:=by
    cases e:bI rs F M a b k q with
    | true=>rfl
    | false=>rw[e] at h2';cases h2'
   refine .inl ⟨q,c,h3,?_⟩;have lp:eB (.one 6) (lv (aE fns (d+7)) oV) (xs (aE fns (d+7)) kM) (eN P F M a b (qq (.d (.int k))) c6) S=qq (.rt (.d (pD (k,q))),S):=by
    unfold eB;rw[hi,oB];show fB (.one 6) (xs (aE fns (d+7)) kM) ((yAu r.w).map (λ k=>yAj ((k:Nat):Int))) (eN P F M a b (qq (.d (.int k))) c6) S=_
    refine aBC (P:=λ env=>∃ c6:Option W,env=eN P F M a b (qq (.d (.int k))) c6) _ q _ (by simpa using c) ⟨c6,rfl⟩ ?_ ?_
    ·rintro j dd env hj hd ⟨c6,rfl⟩;obtain⟨hjn,rfl⟩:=aB6 hd;have w:=pl j hjn;rw[good j hj,cond_false] at w;exact⟨_,_,rfl,w,_,rfl⟩
    ·rintro dd env hd ⟨c6,rfl⟩;obtain⟨hjn,rfl⟩:=aB6 hd;have w:=pl q hjn;rw[h3,cond_true] at w;exact⟨_,rfl,w⟩
   simp only[evs,kL,eN,i0,er1,eo,it];have lp':eB (.one 6) (lv (aE fns (d+7)) oV) (xs (aE fns (d+7)) kM) [qq (.d P),qq (.d (F*>Ft.d)),qq (.d (M*>nD)),qq (.d (.int a)),qq (.d (.int b)),qq (.d (.int k)),c6] S=qq (.rt (.d (pD (k,q))),S):=lp;simp only[lp',oB]
  ·have all:∀ i,i<r.w->bI rs F M a b k i=false:=λ i hi=>good i (by omega)
   refine .inr ⟨all,?_⟩;obtain⟨aI,lp,c6',rfl⟩:=aRU (t:=.one 6) (fi:=lv (aE fns (d+7)) oV) (fb:=xs (aE fns (d+7)) kM) (env:=eN P F M a b (qq (.d (.int k))) c6) (S:=S) (S1:=S) (ds:=(yAu r.w).map (λ k=>yAj ((k:Nat):Int))) (λ env=>∃ c6:Option W,env=eN P F M a b (qq (.d (.int k))) c6) hi ⟨c6,rfl⟩ (by
    rintro dd hdd env ⟨c6,rfl⟩;obtain⟨j,hj,rfl⟩:=List.mem_map.mp hdd;have hjn:j<r.w:=by simpa using hj
    have w:=pl j hjn;rw[all j hjn,cond_false] at w;exact⟨_,_,rfl,w,_,rfl⟩)
   refine⟨c6',?_⟩;simp only[evs,kL,eN,i0,er1,eo,it];have lp':eB (.one 6) (lv (aE fns (d+7)) oV) (xs (aE fns (d+7)) kM) [qq (.d P),qq (.d (F*>Ft.d)),qq (.d (M*>nD)),qq (.d (.int a)),qq (.d (.int b)),qq (.d (.int k)),c6] S=qq (.nx (eN P F M a b (qq (.d (.int k))) c6'),S):=lp;simp only[lp',oB]
 ·rw[dqF ca] at it;refine .inr ⟨λ i hi=>?_,c6,?_⟩
  ·cases c:bI rs F M a b k i with
   | false=>rfl
   | true =>
     unfold bI at c;rw[yAk] at c;exact absurd (aJF p hr hi c.2).2 ca
  ·simp only[gS2,kL,eN,i0,er1,eo,it]
theorem aLz(d:Nat)(p:Prg rs)(hF:F.length=rs.length)(h:Bd rs M)(a b:Nat){k0 i0:Nat}(ha:a<k0)(hk0:k0<rs.length)(hi0:i0<rs[k0].w)(hh:bI rs F M a b k0 i0=true)(o:D)(S:aF):∃ (k i:Nat) (r:Rw),a<k/\k<rs.length/\rs[k]? = qq r/\i<r.w/\bI rs F M a b k i=true/\cl fns (d+8) 21 [.d (rs<*o),.d (F*>Ft.d),.d (M*>nD),.d (.int a),.d (.int b)] S=qq (.d (pD (k,i)),S):=by
 have pl:=p.l
 let any:Nat->Bool:=λ j=>decide (a+1+j<rs.length)&&(yAu (g0 (~~~rs) (a+1+j))).all λ i=>!bI rs F M a b (a+1+j) i
 have lM:iT [(M*>nD)]=qq (.int rs.length):=by
  show qq (yAj (((M.map nD).length:Nat):Int))=_;rw[yAd,h.l]
 have ea:((a:Nat):Int)+1=((a+1:Nat):Int):=rfl;have hi:lv (aE fns (d+7)) xO (eN (rs<*o) F M a b qz qz) S=qq ((yAu (rs.length-(a+1))).map (λ k=>yAj ((a+1+k:Nat):Int)),S):=by
  simp only[xO,lH,kQ,kU,kS,lA,kZ];exact aLw (S1:=S) (S2:=S) (by simp only[evs,eN,cW,ea]) (by simp only[evs,eN,lM]) (by omega) (by omega)
 have hno:∀ k r,rs[k]? = qq r->g0 (~~~rs) k=r.w:=λ k r hr=>pX hr
 have rat:∀ {j:Nat}{dd:D},((yAu (rs.length-(a+1))).map λ k=>yAj ((a+1+k:Nat):Int))[j]? = qq dd->j<rs.length-(a+1)/\dd=.int ((a+1+j:Nat):Int):=λ {j dd} hd=>by
  have hj:j<rs.length-(a+1):=by
   have:=(gIm hd).1;simpa using this
  rw[xAb,List.getElem?_range hj] at hd;cases hd;exact⟨hj,rfl⟩
 have some0:any (k0-(a+1))=false:=by
  show(decide (a+1+(k0-(a+1))<rs.length)&&(yAu (g0 (~~~rs) (a+1+(k0-(a+1))))).all λ i=>!bI rs F M a b (a+1+(k0-(a+1))) i)=false
  rw[show a+1+(k0-(a+1))=k0 by omega,Bool.and_eq_false_iff]
  refine .inr ?_;rw[List.all_eq_false];refine⟨i0,?_,by rw[hh];decide⟩
  rw[hno k0 _ (yAa hk0)];exact List.mem_range.mpr hi0
 obtain⟨q,hq,h1,h2⟩:=aFb any (k0-(a+1)) some0;have hql:a+1+q<rs.length:=by omega
 have hr:rs[a+1+q]? = qq rs[a+1+q]:=yAa hql;have good:∀ j,j<q->∀ i,i<g0 (~~~rs) (a+1+j)->bI rs F M a b (a+1+j) i=false:=λ j hj i hi=>by
  have:=h1 j hj;have t:(decide (a+1+j<rs.length)&&(yAu (g0 (~~~rs) (a+1+j))).all λ i=>!bI rs F M a b (a+1+j) i)=true:=this
  rw[yAk,List.all_eq_true] at t;have:=t.2 i (List.mem_range.mpr hi);cases c:bI rs F M a b (a+1+j) i with
  | false=>rfl
  | true=>rw[c] at this;cases this
 have bad:¬ ∀ i,i<rs[a+1+q].w->bI rs F M a b (a+1+q) i=false:=λ hall=>by
  have t:(decide (a+1+q<rs.length)&&(yAu (g0 (~~~rs) (a+1+q))).all λ i=>!bI rs F M a b (a+1+q) i)=false:=h2
  rw[dqT hql,yAn,List.all_eq_false] at t;obtain⟨i,h3,h4⟩:=t;rw[hno _ _ hr] at h3;rw[hall i (List.mem_range.mp h3)] at h4;exact h4 rfl
 have rq:=λ c6=>aIU d p hr hF h a b o S c6
 have rj:∀ j,j<q->∀ c6,∃ c6',xs (aE fns (d+7)) kL (eN (rs<*o) F M a b (qq (.d (.int ((a+1+j:Nat):Int)))) c6) S=qq (.nx (eN (rs<*o) F M a b (qq (.d (.int ((a+1+j:Nat):Int)))) c6'),S):=λ j hj c6=>by
  have hrj:rs[a+1+j]? = qq rs[a+1+j]:=yAa (by omega)
  rcases aIU d p hrj hF h a b o S c6 with ⟨i,h3,h4,_⟩ | ⟨_,e⟩
  ·rw[good j hj i (by rw[hno _ _ hrj];exact h3)] at h4
   cases h4
  ·exact e
 obtain⟨P,hP⟩:∃ P:D,P=(rs<*o):=⟨_,rfl⟩;simp only[<- hP] at hi rq rj ⊢;have rq':∀ c6,∃ i,i<rs[a+1+q].w/\bI rs F M a b (a+1+q) i=true/\xs (aE fns (d+7)) kL (eN P F M a b (qq (.d (.int ((a+1+q:Nat):Int)))) c6) S=qq (.rt (.d (pD (a+1+q,i))),S):=λ c6=>by
  rcases rq c6 with e | ⟨e,_⟩
  ·exact e
  ·exact absurd e bad
 have lp:∀ n env,n<=q->(∃ c5 c6,env=eN P F M a b c5 c6)->∃ i,i<rs[a+1+q].w/\bI rs F M a b (a+1+q) i=true/\fB (.one 5) (xs (aE fns (d+7)) kL) (((yAu (rs.length-(a+1))).map (λ k=>yAj ((a+1+k:Nat):Int))).drop (q-n)) env S=qq (.rt (.d (pD (a+1+q,i))),S):=λ n=>by
  induction n with
  | zero =>
    rintro env _ ⟨c5,c6,rfl⟩;obtain⟨i,h3,h4,e⟩:=rq' c6;refine⟨i,h3,h4,?_⟩;have hx:q<((yAu (rs.length-(a+1))).map (λ k=>yAj ((a+1+k:Nat):Int))).length:=by simp;omega
    rw[Nat.sub_zero,yCa hx,yEu,List.getElem_range];simp only[fB];rw[show Tg.put (.one 5) (yAj ((a+1+q:Nat):Int)) (eN P F M a b c5 c6)=qq (eN P F M a b (qq (.d (.int ((a+1+q:Nat):Int)))) c6) from rfl,oB,e]
    rfl
  | succ n ih =>
    rintro env hn ⟨c5,c6,rfl⟩;have hx:q-(n+1)<((yAu (rs.length-(a+1))).map (λ k=>yAj ((a+1+k:Nat):Int))).length:=by simp;omega
    obtain⟨c6',e⟩:=rj (q-(n+1)) (by omega) c6
    obtain⟨i,h3,h4,e2⟩:=ih (eN P F M a b (qq (.d (.int ((a+1+(q-(n+1)):Nat):Int)))) c6') (by omega) ⟨_,_,rfl⟩
    refine⟨i,h3,h4,?_⟩;rw[yCa hx,yEu,List.getElem_range];simp only[fB];rw[show Tg.put (.one 5) (yAj ((a+1+(q-(n+1)):Nat):Int)) (eN P F M a b c5 c6)=qq (eN P F M a b (qq (.d (.int ((a+1+(q-(n+1)):Nat):Int)))) c6) from rfl,oB,e,show q-(n+1)+1=q-n by omega]
    exact e2
 obtain⟨i,h3,h4,e⟩:=lp q (eN P F M a b qz qz) (yAb _) ⟨qz,qz,rfl⟩;refine⟨a+1+q,i,_,by omega,hql,hr,h3,h4,?_⟩
 rw[yBb,yEp] at e;have lp':xs (aE fns (d+7)) (cC qX) (eN P F M a b qz qz) S=qq (.rt (.d (pD (a+1+q,i))),S):=by
  show eB (.one 5) (lv (aE fns (d+7)) xO) (xs (aE fns (d+7)) kL) (eN P F M a b qz qz) S=_;unfold eB;rw[hi,oB];exact e
 have e5:qX=.seq (cC qX) (bF qX):=rfl;refine cG (S1:=S) rfl (d+7) rfl rfl yAf ?_;show xs (aE fns (d+7)) qX (eN P F M a b qz qz) S=_;rw[e5];simp only[lB,dR,lp',oB]
end
def Lk(rs:List Rw)(F:List Ft)(x y:Nat×Nat):Prop:=y.1<rs.length/\y.2<g0 (~~~rs) y.1/\nb rs F y.1 y.2 x.1 x.2=true
noncomputable def Pth(rs:List Rw)(F:List Ft)(aD:List Nat):(Nat×Nat)->List (Nat×Nat)->Prop
 | x,[]=>x.1∈aD
 | x,y::l=>Lk rs F x y/\Pth rs F aD y l
section
variable {rs : List Rw}{F : List Ft}{M : List Nat}
noncomputable abbrev eW(P:D)(F:List Ft)(a0 b0:Nat)(M:List Nat)(x:Nat×Nat)(n:Nat):aU:=[qq (.d P),qq (.d (F*>Ft.d)),qq (.d (.int a0)),qq (.d (.int b0)),qq (.d (M*>nD)),qq (.d (pD x)),qq (.loc n)]
theorem aDw(x:Nat×Nat):aH (pD x) (.int 0)=qq (.int (x.1:Nat)):=rfl
theorem aWD(x:Nat×Nat):aH (pD x) (.int 1)=qq (.int (x.2:Nat)):=rfl
theorem aGk(d:Nat)(p:Prg rs)(hF:F.length=rs.length)(aD:List Nat)(ho:∀ o∈aD,o<rs.length)(a0 b0:Nat)(S:aF):∀ (n N:Nat) (x:Nat×Nat) (pre:List (Nat×Nat)),rs.length-x.1<=n->n<N->pre.length+n<=102->((bK rs F aD).getD x.1 0).testBit x.2=true ->
 ∃ l y,Pth rs F aD x l/\l.length<=n/\gY (tv (aE fns (d+9)) pE) (xs (aE fns (d+9)) uJ) N (eW (rs<*(aD*>nD)) F a0 b0 (bK rs F aD) x S.length) (S++[qq (pre.map pD)])=qq (.nx (eW (rs<*(aD*>nD)) F a0 b0 (bK rs F aD) y S.length),S++[qq ((pre++l).map pD)])
 | n,0,x,pre,_,h,_,_=>absurd h (yDy n)
 | n,N+1,x,pre,hn,hN,hp,hx=>by
   have i1:aH (rs<*(aD*>nD)) (.int 1)=qq (aD*>nD):=rfl;have ni:=aMK x.1 aD
   by_cases c:x.1∈aD
   ·refine⟨[],x,c,yEx _,?_⟩;rw[dqT c] at ni;have t:tv (aE fns (d+9)) pE (eW (rs<*(aD*>nD)) F a0 b0 (bK rs F aD) x S.length) (S++[qq (pre.map pD)])=qq (false,S++[qq (pre.map pD)]):=by
     simp only[gS2,pE,eW,aDw,i1,ni]
    simp only[gY,t,oB,yAo,if_false,yDd]
   ·rw[dqF c] at ni;have t:tv (aE fns (d+9)) pE (eW (rs<*(aD*>nD)) F a0 b0 (bK rs F aD) x S.length) (S++[qq (pre.map pD)])=qq (true,S++[qq (pre.map pD)]):=by
     simp only[gS2,pE,eW,aDw,i1,ni]
    have bd:=uQ (F:=F) p ho;rcases aNo p ho hx with h | ⟨k0,j0,h1,h2,h3,h4⟩
    ·exact absurd h c
    have hr0:rs[k0]? = qq rs[k0]:=yAa h2;have hj0:j0<rs[k0].w:=by
     have hb:=bd.lt k0 _ hr0;refine yHa λ c=>?_
     have:=yDi (xAc hb (yAl (by decide) c))
     rw[this] at h3;cases h3
    have hh:bI rs F (bK rs F aD) x.1 x.2 k0 j0=true:=by
     unfold bI;rw[h3,h4];rfl
    obtain⟨k,i,r,g1,g2,g3,g4,g5,g6⟩:=aLz (d+1) p hF bd x.1 x.2 h1 h2 hj0 hh (aD*>nD) (S++[qq (pre.map pD)]);unfold bI at g5;rw[yAk] at g5;have ap:dF (S++[qq (pre.map pD)]) (.loc S.length) (.d (pD (k,i)))=qq (.d .none,S++[qq ((pre++[(k,i)]).map pD)]):=by
     rw[uC S (pre.map pD) _ (by rw[yAd];omega),yBt]
     rfl
    obtain⟨n',rfl⟩:∃ n',n=n'+1:=⟨n-1,by omega⟩
    obtain⟨l,y,q1,q2,q3⟩:=aGk d p hF aD ho a0 b0 S n' N (k,i) (pre++[(k,i)]) (by show rs.length-k<=n';omega) (by omega) (by rw[xAo,yEh];omega) g5.1
    have b:xs (aE fns (d+9)) uJ (eW (rs<*(aD*>nD)) F a0 b0 (bK rs F aD) x S.length) (S++[qq (pre.map pD)])=qq (.nx (eW (rs<*(aD*>nD)) F a0 b0 (bK rs F aD) (k,i) S.length),S++[qq ((pre++[(k,i)]).map pD)]):=by
     simp only[gS2,uJ,eW,aDw,aWD,g6,fF,ap]
    refine⟨(k,i)::l,y,⟨⟨g2,?_,g5.2⟩,q1⟩,by rw[yBf];omega,?_⟩
    ·show i<g0 (~~~rs) k;rw[pX g3];exact g4
    ·simp only[gY,t,oB,if_true,b];rw[q3,yAq];rfl
end
section
variable {rs : List Rw}{F : List Ft}{M : List Nat}
theorem aSG(d:Nat)(p:Prg rs)(hF:F.length=rs.length)(aD:List Nat)(ho:∀ o∈aD,o<rs.length)(a b:Nat)(ha:a<rs.length)(S:aF):∃ l,(((bK rs F aD).getD a 0).testBit b=false/\l=[]\/((bK rs F aD).getD a 0).testBit b=true/\l.length<=102/\∃ t,l=(a,b)::t/\Pth rs F aD (a,b) t) /\
 cl fns (d+10) 22 [.d (rs<*(aD*>nD)),.d (F*>Ft.d),.d (.int a),.d (.int b)] S=qq (.d (l*>pD),S):=by
 obtain⟨bd,ak⟩:=aGI (d+2) p hF aD ho S;have em:=zT (M:=bK rs F aD) (i:=a) (by rw[bd.l];exact ha)
 have z:=aWG ((bK rs F aD).getD a 0) b;have pl:=p.l;cases c:((bK rs F aD).getD a 0).testBit b with
 | false =>
   rw[c] at z;refine⟨[],.inl ⟨rfl,rfl⟩,?_⟩;rw[aY rfl (d+9) _ S rfl];simp only[gR1,aDI,ak,em,fL,nM,bQ,z]
 | true =>
   rw[c] at z;obtain⟨l,y,q1,q2,q3⟩:=aGk d p hF aD ho a b S rs.length 100000 (a,b) [(a,b)] (by show rs.length-a<=_;omega) (by omega) (by rw[yEh];omega) c
   refine⟨(a,b)::l,.inr ⟨rfl,by rw[yBf];omega,l,rfl,q1⟩,?_⟩
   have q3':gY (tv (aE fns (d+9)) pE) (xs (aE fns (d+9)) uJ) 100000 [qq (.d (rs<*(aD*>nD))),qq (.d (F*>Ft.d)),qq (.d (.int a)),qq (.d (.int b)),qq (.d (.tuple ((bK rs F aD).map nD))),qq (.d (.tuple [.int a,.int b])),qq (.loc S.length)] (S++[qq [.tuple [.int a,.int b]]])=qq (.nx (eW (rs<*(aD*>nD)) F a b (bK rs F aD) y S.length),S++[qq (((a,b)::l).map pD)]):=q3;have tk1:∀ x,yDn S.length (S++[x])=S:=λ x=>yCz
   rw[aY rfl (d+9) _ S rfl];simp only[gR2,aDI,eW,ak,em,fL,nM,bQ,z,fD,q3',kP,gB,fZ,tk1]
end
theorem aJB(p:Bool):aV .NotEq (.bool p) (.bool p)=qq (.bool false):=by cases p<;>rfl
noncomputable def fG(n a b:Nat):List Nat:=(yAc n 0).set a (2^b)
theorem aHW(n a b:Nat):(fG n a b).length=n:=by unfold fG;rw[yAy,yBk]
theorem aRK(n k:Nat):(yAc n 0).getD k 0=0:=by
 rw[xAh,yBj]
 split<;>rfl
theorem aDl{n a b k:Nat}(h:a≠k):(fG n a b).getD k 0=0:=by
 unfold fG;rw[nL h,aRK]
theorem aDd{n a b:Nat}(h:a<n):(fG n a b).getD a 0=2^b:=oX (by rw[yBk];exact h)
theorem aAl{rs:List Rw}{a b:Nat}{r:Rw}(hr:rs[a]? = qq r)(hb:b<r.w):MsOk rs (fG rs.length a b):=⟨aHW _ _ _,λ j q m h1 h2=>by
 have hj:j<(fG rs.length a b).length:=(gIm h2).1;rw[pF hj] at h2;cases h2
 by_cases c:a=j
 ·subst c;rw[hr] at h1;cases h1;rw[aDd (gIm hr).1];exact yBx (by decide) hb
 ·rw[aDl c];exact xAf _⟩
theorem aAb:∀ A B:List Nat,PyData.eqvAll (A.map nD) (B.map nD)=decide (A=B)
 | [],[]=>rfl
 | [],b::B=>by rw[dqF (by simp)];rfl
 | a::A,[]=>by rw[dqF (by simp)];rfl
 | a::A,b::B=>by
   have ih:=aAb A B;simp only[yAt,PyData.eqvAll,ih];have e:yCl (nD a) (nD b)=decide (a=b):=by
    show(((a:Nat):Int)==((b:Nat):Int))=_;rw[lV]
    by_cases c:a=b
    ·subst c;simp
    ·rw[dqF c,beq_eq_false_iff_ne];exact c
   rw[e]
   by_cases c:a=b<;>by_cases c2:A=B<;>simp[c,c2]
theorem aQO(A B:List Nat):aV .NotEq (A*>nD) (B*>nD)=qq (.bool !decide (A=B)):=by
 have h1:∀ L:List Nat,(yBm (L.map nD)).canLay0=true:=rT;have h2:(yBm (A.map nD)).depth<=60:=by
  show yBu (A.map nD)+1<=60;rw[rB];decide
 have h3:yCl (A*>nD) (B*>nD)=decide (A=B):=aAb A B;unfold aV lI;simp only[];rw[if_pos ⟨h1 A,h1 B,h2⟩,h3];rfl
theorem aSB(A B:List Nat):aV .NotEq (.list (A.map nD)) (.list (B.map nD))=qq (.bool !decide (A=B)):=by
 have h1:∀ L:List Nat,(yDs (L.map nD)).canLay0=true:=rT;have h2:(yDs (A.map nD)).depth<=60:=by
  show yBu (A.map nD)+1<=60;rw[rB];decide
 have h3:yCl (.list (A.map nD)) (.list (B.map nD))=decide (A=B):=aAb A B;unfold aV lI;simp only[];rw[if_pos ⟨h1 A,h1 B,h2⟩,h3];rfl
noncomputable def dX(rs:List Rw)(aD:List Nat)(a b:Nat)(is:List Nat):Bool:=!decide (aD.map (g0 (bO rs (~~~rs) is (fG rs.length a b) []))=aD.map (g0 (cL rs (~~~rs) is [])))
section
variable {rs : List Rw}{F : List Ft}{r : Rw}{a b : Nat}{aD : List Nat}
theorem aJW(rs:List Rw):iT [(rs*>Rw.d)]=qq (.int rs.length):=by
 show qq (yAj (((rs.map Rw.d).length:Nat):Int))=_;rw[yAd]
theorem aMv(d:Nat)(p:Prg rs)(hr:rs[a]? = qq r)(hb:b<r.w)(o:D)(S:aF):cl fns (d+1) 60 [.d (rs<*o),.d (.int a),.d (.int b)] S=qq (.d (.tuple ((fG rs.length a b).map nD)),S):=by
 have ha:a<rs.length:=(gIm hr).1;have w64:=(p.ws a r hr).2;have pl:=p.l;have i0:aH (rs<*o) (.int 0)=qq (rs*>Rw.d):=rfl;have lR:=aJW rs;have sh:bY .LShift (.int 1) (.int b)=qq (.int ((2^b:Nat):Int)):=eX (by omega)
 have pe:=aCC S (yAc rs.length 0) a (2^b) (by rw[yBk];exact ha)
 have rp:=aJI (fa:=ev (aE fns d) (.fz (.lst (.cons (.int 0) .nil)))) (fb:=ev (aE fns d) (.blt .len (.cons (.ix (.var 0) (.int 0)) .nil))) (env:=[qq (.d (rs<*o)),qq (.d (.int a)),qq (.d (.int b)),qz]) (S:=S) (n:=rs.length) rfl (by simp only[evs,i0,lR]) (by omega)
 have tk1:∀ x,yDn S.length (S++[x])=S:=λ x=>yCz
 rw[aY rfl d _ S rfl];have gl:=kP S ((fG rs.length a b).map nD);have pe':iC (S++[qq ((yAc rs.length 0).map nD)]) (.loc S.length) (.d (.int a)) (.d (.int ((2^b:Nat):Int)))=qq (S++[qq ((fG rs.length a b).map nD)]):=pe;simp only[gR1,aEx,lB,uW,aAf,aCu,dR,fR,fD,rp,jE,sh,pe',gl,gB,fZ,tk1]
theorem aPJ(d:Nat)(p:Prg rs){is:List Nat}(hi:bT rs is)(ho:∀ o∈aD,o<rs.length)(hol:aD.length<=8)(S:aF):cl fns (d+8) 59 [.d (rs<*(aD*>nD)),.d (is*>nD)] S=qq (.d (.tuple ((aD.map (g0 (cL rs (~~~rs) is []))).map nD)),S):=by
 have rn:=aO7 d rs (aD*>nD) is p.l p.fit hi S;rw[tT] at rn;have oo:=aFj (d+6) (rs*>Rw.d) aD (cL rs (~~~rs) is []) (by rw[rL p hi];exact ho) hol S
 rw[aY rfl (d+7) _ S rfl];simp only[gR1,aJK,rn,oo]
theorem aLI(d:Nat)(p:Prg rs){is:List Nat}(hi:bT rs is)(hr:rs[a]? = qq r)(hb:b<r.w)(ho:∀ o∈aD,o<rs.length)(hol:aD.length<=8)(S:aF):cl fns (d+9) 61 [.d (rs<*(aD*>nD)),.d (.int a),.d (.int b),.d (is*>nD)] S=qq (.d (.bool (dX rs aD a b is)),S):=by
 have sm:=aMv (d+7) p hr hb (aD*>nD) S;obtain⟨tn,tl,_⟩:=yF (d+2) rs (aD*>nD) is _ p.l p.fit hi (aAl hr hb) S;have oo:=aFj (d+7) (rs*>Rw.d) aD (bO rs (~~~rs) is (fG rs.length a b) []) (by rw[tl];exact ho) hol S
 have td:=aPJ d p hi ho hol S;have ne:=aQO (aD.map (g0 (bO rs (~~~rs) is (fG rs.length a b) []))) (aD.map (g0 (cL rs (~~~rs) is [])));rw[aY rfl (d+8) _ S rfl];simp only[gR1,aGK,sm,tn,oo,td,ne]
theorem aL7(p:Prg rs)(s:Snd rs F)(hF:F.length=rs.length){is:List Nat}(hi:bT rs is)(hr:rs[a]? = qq r)(hb:b<r.w)(ho:∀ o∈aD,o<rs.length)(hn:((bK rs F aD).getD a 0).testBit b=false):dX rs aD a b is=false:=by
 have ha:a<rs.length:=(gIm hr).1;have wr:=aLZ (F:=F) p ho;have bd:=uQ (F:=F) p ho;obtain⟨_,tl,lt⟩:=yF 0 rs (aD*>nD) is _ p.l p.fit hi (aAl hr hb) [];rcases wr with ⟨q,_,_,_,h⟩ | ⟨w1,w2⟩
 ·cases h
 have ag:=aLO p s hF hi bd w1 (aAl hr hb) lt tl (λ k i h=>by
  by_cases c:a=k
  ·subst c;rw[aDd ha,yDg];refine dqF λ e=>?_
   subst e;rw[hn] at h;cases h
  ·rw[aDl c,yBa])
 unfold dX;rw[dqT]
 ·rfl
 refine yCg λ o hm=>?_
 have hol:=ho o hm;have b2:sU rs aD (bK rs F aD)=false:=by
  cases c:sU rs aD (bK rs F aD) with
  | false=>rfl
  | true=>rw[c] at w2;cases w2
 unfold sU at b2;have:=List.any_eq_false.mp b2 o hm;have fo:Sb (2^g0 (~~~rs) o-1) ((bK rs F aD).getD o 0):=by
  refine(aBI _ _).mp ?_;cases c:dB (2^g0 (~~~rs) o-1) ((bK rs F aD).getD o 0)==0 with
  | true=>exact beq_iff_eq.mp c
  | false=>rw[c] at this;exact absurd rfl this
 have hw:=mD (l:=rs.map (·.w)) (a:=o) (by rw[yAd];exact hol)
 have h1:=lt o _ _ (mD (by rw[tl];exact hol)) hw
 have h2:=aAh p hi (mD (l:=cL rs (~~~rs) is []) (a:=o) (by rw[rL p hi];exact hol)) hw
 apply xAm;intro i
 by_cases c:i<g0 (~~~rs) o
 ·refine ag o hol i (fo i ?_);rw[cN,dqT c]
 ·rw[yDi (xAc h1 (yAl (by decide) (by omega))),yDi (xAc h2 (yAl (by decide) (by omega)))]
end
noncomputable def tN(is:List Nat):D:=(is*>nD)
theorem aCR{ts:List (List Nat)}{j:Nat}{dd:D}(h:(((ts.map tN).zipIdx).map λ p=>yBm [.int (p.2:Nat),p.1])[j]? = qq dd):∃ is,ts[j]? = qq is/\dd=.tuple [.int j,tN is]:=by
 rw[xAb,List.getElem?_zipIdx,xAb] at h;cases e:ts[j]? with
 | none=>rw[e] at h;cases h
 | some is =>
   rw[e] at h;refine⟨is,rfl,?_⟩;simpa using h.symm
def nC(rs:List Rw)(F:List Ft)(aD:List Nat)(a b:Nat)(L:List Bool)(x:D):Prop:=(true∈L/\x=.tuple [.str "try",.int ((L.idxOf true:Nat):Int)])\/(true ∉ L/\(((bK rs F aD).getD a 0).testBit b=false/\x=.tuple [.str "unasked",.tuple []]\/((bK rs F aD).getD a 0).testBit b=true/\∃ t,t.length<=102/\Pth rs F aD (a,b) t/\x=.tuple [.str "way",.tuple (((a,b)::t).map pD)]))
theorem aME{α:Type}(f:α->Bool)(l:List α)(h:true∈l.map f):(l.map f).idxOf true<l.length/\(∀ j x,j<(l.map f).idxOf true->l[j]? = qq x->f x=false)/\∀ x,l[(l.map f).idxOf true]? = qq x->f x=true:=by
 have h1:(l.map f).idxOf true<(l.map f).length:=List.idxOf_lt_length_iff.mpr h;have h2:=h1;rw[yAd] at h2;refine⟨h2,λ j x hj hx=>?_,λ x hx=>?_⟩
 ·have hl:j<l.length:=(gIm hx).1;have:=List.not_of_lt_findIdx (p:=(· == true)) (xs:=l.map f) hj;rw[yEu] at this;have e:l[j]=x:=(gIm hx).2;rw[e] at this;simpa using this
 ·have:=List.getElem_idxOf h1;rw[yEu] at this;have e:=(gIm hx).2;rw[e] at this;exact this
section
variable {rs : List Rw}{F : List Ft}{r : Rw}{a b : Nat}{aD : List Nat}
theorem aFY(d:Nat)(p:Prg rs)(hF:F.length=rs.length)(eF:∀ S,cl fns (d+10) 50 [.d (rs<*(aD*>nD))] S=qq (.d (F*>Ft.d),S))(hr:rs[a]? = qq r)(hb:b<r.w)(ho:∀ o∈aD,o<rs.length)(hol:aD.length<=8)(ts:List (List Nat))(hi:∀ is∈ts,bT rs is)(S:aF):∃ x,nC rs F aD a b (ts.map (dX rs aD a b)) x/\cl fns (d+11) 62 [.d (rs<*(aD*>nD)),.d (.int a),.d (.int b),.d (ts*>tN)] S=qq (.d x,S):=by
 have ha:a<rs.length:=(gIm hr).1;have mm:=λ is (h:is∈ts)=>aLI (d+1) p (hi is h) hr hb ho hol S
 have eF':=eF S;obtain⟨l,hw,ew⟩:=aSG d p hF aD ho a b ha S;obtain⟨P,hP⟩:∃ P:D,P=(rs<*(aD*>nD)):=⟨_,rfl⟩;simp only[<- hP] at mm eF' ew ⊢;have it:lv (aE fns (d+10)) qV [qq (.d P),qq (.d (.int a)),qq (.d (.int b)),qq (.d (ts*>tN)),qz,qz,qz] S=qq (((ts.map tN).zipIdx).map λ p=>yBm [.int (p.2:Nat),p.1],S):=by
  simp only[qV,lH,kQ,kU,kS,lA,kZ];exact aEJ rfl
 have body:∀ (j:Nat) (is:List Nat) (c4:Option W),is∈ts->xs (aE fns (d+10)) oZ [qq (.d P),qq (.d (.int a)),qq (.d (.int b)),qq (.d (ts*>tN)),c4,qq (.d (.int j)),qq (.d (tN is))] S=cond (dX rs aD a b is) (qq (.rt (.d (.tuple [.str "try",.int j])),S)) (qq (.nx [qq (.d P),qq (.d (.int a)),qq (.d (.int b)),qq (.d (ts*>tN)),c4,qq (.d (.int j)),qq (.d (tN is))],S)):=λ j is c4 h=>by
  have m:=mm is h;have m':cl fns (d+10) 61 [.d P,.d (.int a),.d (.int b),.d (tN is)] S=qq (.d (.bool (dX rs aD a b is)),S):=m;cases c:dX rs aD a b is with
  | true =>
    rw[c] at m';simp only[gS1,oZ,m',cond_true]
  | false =>
    rw[c] at m';simp only[gS1,oZ,m',cond_false]
 by_cases ht:true∈ts.map (dX rs aD a b)
 ·obtain⟨q1,q2,q3⟩:=aME (dX rs aD a b) ts ht;refine⟨_,.inl ⟨ht,rfl⟩,?_⟩;generalize (ts.map (dX rs aD a b)).idxOf true=q at q1 q2 q3 ⊢;have lp:eB (.many [5,6]) (lv (aE fns (d+10)) qV) (xs (aE fns (d+10)) oZ) [qq (.d P),qq (.d (.int a)),qq (.d (.int b)),qq (.d (ts*>tN)),qz,qz,qz] S=qq (.rt (.d (.tuple [.str "try",.int q])),S):=by
   unfold eB;rw[it,oB];refine aBC (P:=λ env=>∃ c5 c6:Option W,env=[qq (.d P),qq (.d (.int a)),qq (.d (.int b)),qq (.d (ts*>tN)),qz,c5,c6]) _ q _ (by simpa using q1) ⟨qz,qz,rfl⟩ ?_ ?_
   ·rintro j dd env hj hd ⟨c5,c6,rfl⟩;obtain⟨is,hs,rfl⟩:=aCR hd;have:=body j is qz (xAl hs);rw[q2 j is hj hs,cond_false] at this;exact⟨_,_,rfl,this,_,_,rfl⟩
   ·rintro dd env hd ⟨c5,c6,rfl⟩;obtain⟨is,hs,rfl⟩:=aCR hd;have:=body q is qz (xAl hs);rw[q3 is hs,cond_true] at this;exact⟨_,rfl,this⟩
  rw[aY rfl (d+10) _ S rfl];simp only[gR1,zJ,lp,yAf]
 ·obtain⟨aI,S',p1,c5,c6,rfl,rfl⟩:=mG (t:=.many [5,6]) (fi:=lv (aE fns (d+10)) qV) (fb:=xs (aE fns (d+10)) oZ) (env:=[qq (.d P),qq (.d (.int a)),qq (.d (.int b)),qq (.d (ts*>tN)),qz,qz,qz]) (S:=S) (S1:=S) (ds:=((ts.map tN).zipIdx).map λ p=>yBm [.int (p.2:Nat),p.1])
   (λ _ env S'=>∃ c5 c6:Option W,env=[qq (.d P),qq (.d (.int a)),qq (.d (.int b)),qq (.d (ts*>tN)),qz,c5,c6]/\S=S') it ⟨qz,qz,rfl,rfl⟩ (by
     rintro j dd env S' hd ⟨c5,c6,rfl,rfl⟩;obtain⟨is,hs,rfl⟩:=aCR hd;have:=body j is qz (xAl hs);have nm:dX rs aD a b is=false:=by
      cases c:dX rs aD a b is with
      | false=>rfl
      | true=>exact absurd (List.mem_map.mpr ⟨is,xAl hs,c⟩) ht
     rw[nm,cond_false] at this;exact⟨_,_,_,rfl,this,_,_,rfl,rfl⟩)
  have p1':eB (.many [5,6]) (lv (aE fns (d+10)) qV) (xs (aE fns (d+10)) oZ) [qq (.d P),qq (.d (.int a)),qq (.d (.int b)),qq (.d (ts*>tN)),qz,qz,qz] S=qq (.nx [qq (.d P),qq (.d (.int a)),qq (.d (.int b)),qq (.d (ts*>tN)),qz,c5,c6],S):=p1;have ln:iT [(l*>pD)]=qq (.int l.length):=by
   show qq (yAj (((l.map pD).length:Nat):Int))=_;rw[yAd]
  rcases hw with ⟨u1,u2⟩ | ⟨u1,u2,t,u3,u4⟩
  ·subst u2;refine⟨_,.inr ⟨ht,.inl ⟨u1,rfl⟩⟩,?_⟩;have c:aV .Gt (.int (([]:List (Nat×Nat)).length:Nat)) (.int 0)=qq (.bool false):=rfl;rw[aY rfl (d+10) _ S rfl];simp only[gR1,zJ,p1',eF',ew,ln,c,yAf]
  ·refine⟨_,.inr ⟨ht,.inr ⟨u1,t,by rw[u3,yBf] at u2;omega,u4,rfl⟩⟩,?_⟩
   rw[<- u3];have c:aV .Gt (.int l.length) (.int 0)=qq (.bool true):=by
    rw[gM,dqT];rw[u3,yBf];omega
   generalize l.map pD=l' at *;rw[aY rfl (d+10) _ S rfl];simp only[gR1,zJ,p1',eF',ew,ln,c,yAf]
end
theorem aI2:∀ L:List Bool,kD (.bool true) (L.map yBd)=decide (true∈L)
 | []=>by rw[dqF yCe];rfl
 | b::L=>by
   have ih:=aI2 L;show(yCl (.bool b) (.bool true)||kD (.bool true) (L.map yBd))=_
   rw[ih];cases b<;>by_cases c2:true∈L<;>simp[c2,yCl]
theorem aIj:∀ L:List Bool,hZ (L.map yBd)=true
 | []=>rfl
 | a::r=>by
   show(fO (yBd a)&&hZ (r.map yBd))=true;rw[aIj r];rfl
theorem aNt(L:List Bool):aV .In (.bool true) (.list (L.map yBd))=qq (.bool (decide (true∈L))):=by
 show((if fO (.bool true)=true/\hZ (L.map yBd)=true then qq (kD (.bool true) (L.map yBd)) else qz).map yBd)=_
 rw[if_pos ⟨rfl,aIj L⟩,aI2];rfl
theorem aMt{L:List Bool}(h:true∈L)(S:aF):aAX S (.d (.list (L.map yBd))) (.d (.bool true))=qq (.d (.int ((L.idxOf true:Nat):Int)),S):=by
 show((lY (L.map yBd)).bind λ ns=>if true∈ns then qq (W.d (.int ((ns.idxOf true:Nat):Int)),S) else qz)=_
 have:=aFL (λ b:Bool=>b) L
 rw[List.map_id'] at this;rw[show(L.map yBd)=L.map λ x=>yBd x from rfl,this,oB,if_pos h]
theorem aSl(n:Nat):aV .Eq (.tuple [.str "try",.int n]) (.tuple [.str "try",.int n])=qq (.bool true):=by
 have e:yCl (.tuple [.str "try",.int n]) (.tuple [.str "try",.int n])=true:=by simp[yCl,PyData.eqvAll]
 have l:(yHk "try").canLay0=true:=by kernel_rfl
 have h:(yBm [.str "try",.int n]).canLay0=true:=by
  simp only[PyData.canLay0,yDb,yCf];exact l
 unfold aV lI;simp only[];rw[if_pos ⟨h,h,by simp[PyData.depth,yBu]⟩,e]
 rfl
theorem aVf:aV .Eq (.tuple [.str "unasked",.tuple []]) (.tuple [.str "unasked",.tuple []])=qq (.bool true):=by kernel_rfl
theorem aIO:aV .Eq (.str "way") (.str "way")=qq (.bool true):=by kernel_rfl
theorem aQH{f g:Ft}(h:f.d=g.d):f=g:=by
 cases f;cases g;injection h with h
 injection h with h1 h
 injection h with h2 h
 injection h with h3 h
 injection h1 with h1
 injection h2 with h2
 injection h3 with h3
 cases Int.ofNat.inj h1;cases Int.ofNat.inj h2;cases Int.ofNat.inj h3;rfl
theorem aNV{rs:List Rw}{F F':List Ft}(p:Prg rs)(h:F.length=rs.length)(h':F'.length=rs.length)(o:sY rs F)(o':sY rs F'):F=F':=by
 have key:∀ i,i<rs.length->f0 F i=f0 F' i:=λ i=>by
  induction i using Nat.strongRecOn with
  | ind i ih =>
    intro hi;have hr:rs[i]? = qq rs[i]:=yAa hi;obtain⟨g,hg,n1⟩:=o i _ (by omega) hr
    obtain⟨g',hg',n2⟩:=o' i _ (by omega) hr
    have e:iJ rs[i] F=iJ rs[i] F':=by
     unfold iJ;refine yCg λ a ha=>?_
     have:=(p.fit i _ hr).2 a ha;exact ih a this (by omega)
    have r1:=n1.rule 0 [];rw[e,n2.rule 0 []] at r1;rw[<- hg,<- hg'];injection r1 with r1
    injection r1 with r1
    injection r1 with r1
    exact(aQH r1).symm
 refine yGy (by omega) λ i h1 h2=>?_
 have:=key i (by omega)
 have a1:=pO h1;have a2:=pO h2;rw[yAa h1] at a1;rw[yAa h2] at a2;rw[Option.some.inj a1,Option.some.inj a2,this]
theorem aMn(rs:List Rw)(o:D)(p:Prg rs):∃ F:List Ft,F.length=rs.length/\Snd rs F/\∀ (d:Nat) (S:aF),cl fns (d+9) 50 [.d (rs<*o)] S=qq (.d (F*>Ft.d),S):=by
 obtain⟨F,h1,h2,h3,_⟩:=aET 0 rs o p [];refine⟨F,h1,h2,λ d S=>?_⟩
 obtain⟨F',g1,g2,g3,g4⟩:=aET d rs o p S;rw[aNV p h1 g1 h3 g3];exact g4
noncomputable def bX(rs:List Rw):List Nat:=(rs.filter λ r=>decide (r.wd=.in)).map (·.w)
noncomputable def iI:Nat->List Nat->List Nat
 | _,[]=>[]
 | c,w::ws=>(c%2^w)::iI (c/2^w) ws
theorem aCi:∀ (rs:List Rw) (c:Nat),bT rs (iI c (bX rs))
 | [],c=>rfl
 | r::rs,c=>by
   rw[bT]
   by_cases h:r.wd=.in
   ·rw[if_pos h];have e:bX (r::rs)=r.w::bX rs:=by
     unfold bX;rw[List.filter_cons_of_pos (by simpa using h)]
     rfl
    rw[e];exact⟨c%2^r.w,iI (c/2^r.w) (bX rs),rfl,yHl _ (xAf _),aCi rs _⟩
   ·rw[if_neg h];have e:bX (r::rs)=bX rs:=by
     unfold bX;rw[List.filter_cons_of_neg (by simpa using h)]
    rw[e];exact aCi rs c
theorem aOa(c w:Nat):c&&&(2^w-1)=c%2^w:=yCp c w
theorem aMf(d c:Nat)(ws:List Nat)(hl:ws.length<=100)(hw:∀ w∈ws,w<=64)(S:aF):cl fns (d+2) 63 [.d (.int c),.d (.list (ws.map nD))] S=qq (.d (tN (iI c ws)),S):=by
 obtain⟨aI,S',p1,c',aC,c3,al,ae,rfl,rfl⟩:=mG (t:=.one 3) (fi:=lv (aE fns (d+1)) xJ) (fb:=xs (aE fns (d+1)) xK) (env:=[qq (.d (.int c)),qq (.d (.list (ws.map nD))),qq (.loc S.length),qz]) (S:=S++[qq []]) (S1:=S++[qq []]) (ds:=ws.map nD)
  (λ j env S'=>∃ (c':Nat) (aC:List Nat) (c3:Option W),aC.length=j/\aC++iI c' (ws.drop j)=iI c ws/\env=[qq (.d (.int c')),qq (.d (.list (ws.map nD))),qq (.loc S.length),c3]/\S'=S++[qq (aC.map nD)])
  (by simp only[evs,xJ,fV]) ⟨c,[],qz,rfl,rfl,rfl,rfl⟩ (by
    rintro j dd env S' hd ⟨c',aC,c3,al,ae,rfl,rfl⟩;rw[xAb] at hd;obtain⟨w,hw',rfl⟩:=Option.map_eq_some_iff.mp hd;have hj:j<ws.length:=(gIm hw').1;have h64:=hw w (xAl hw');have fu:=cQ d w (by omega) (S++[qq (aC.map nD)])
    have ba:=dE c' (2^w-1);rw[aOa] at ba;have ap:dF (S++[qq (aC.map nD)]) (.loc S.length) (.d (.int ((c'%2^w:Nat):Int)))=qq (.d .none,S++[qq ((aC++[c'%2^w]).map nD)]):=by
     rw[uC S (aC.map nD) _ (by rw[yAd];omega),yBt]
     rfl
    refine⟨[qq (.d (.int c')),qq (.d (.list (ws.map nD))),qq (.loc S.length),qq (.d (.int w))],[qq (.d (.int ((c'/2^w:Nat):Int))),qq (.d (.list (ws.map nD))),qq (.loc S.length),qq (.d (.int w))],S++[qq ((aC++[c'%2^w]).map nD)],rfl,?_,c'/2^w,aC++[c'%2^w],_,by simp[al],?_,rfl,rfl⟩
    ·simp only[gS1,xK,fu,ba,fF,ap,fL]
    ·rw[<- ae,tW hw',iI,yAq];rfl)
 rw[yAd,yEt] at ae;have ae':aC=iI c ws:=by rw[<- ae];simp[iI]
 have p1':eB (.one 3) (lv (aE fns (d+1)) xJ) (xs (aE fns (d+1)) xK) [qq (.d (.int c)),qq (.d (.list (ws.map nD))),qq (.loc S.length),qz] (S++[qq []])=qq (.nx [qq (.d (.int c')),qq (.d (.list (ws.map nD))),qq (.loc S.length),c3],S++[qq (aC.map nD)]):=p1;have tk1:∀ x,yDn S.length (S++[x])=S:=λ x=>yCz
 rw[aY rfl (d+1) _ S rfl];simp only[evs,fQ,aEL,fD,p1',kP,gB,fZ,tk1];rw[ae'];rfl
theorem aFR:∀ l:List Nat,mH (l.map nD)=qq (l.map λ n:Nat=>(n:Int))
 | []=>rfl
 | a::l=>by
   have ih:=aFR l;simp only[yAt,nD,mH,ih,yBp]
theorem zD:∀ l:List Nat,(l.map λ n:Nat=>(n:Int)).sum=((l.sum:Nat):Int)
 | []=>rfl
 | a::l=>by rw[yAt,yGv,yGv,zD l];omega
theorem aRk(l:List Nat):vW [.list (l.map nD)]=qq (.int ((l.sum:Nat):Int)):=by
 simp only[vW,aFR,oB,zD]
theorem aMV(d:Nat){rs:List Rw}(p:Prg rs)(o:D)(h8:(bX rs).sum<=8)(S:aF):cl fns (d+3) 64 [.d (rs<*o)] S=qq (.d (.tuple (((yAu (2^(bX rs).sum)).map λ c=>iI c (bX rs)).map tN)),S):=by
 have pl:=p.l;have i0:aH (rs<*o) (.int 0)=qq (rs*>Rw.d):=rfl;obtain⟨P,hP⟩:∃ P:D,P=(rs<*o):=⟨_,rfl⟩;rw[<- hP] at i0 ⊢;have hc1:lv (aE fns (d+2)) aEz [qq (.d P),qz,qz,qz,qz] S=qq ((bX rs).map nD,S):=by
  have e:(bX rs).map nD=(rs.filter λ r=>decide (r.wd=.in)).map λ r=>nD r.w:=by unfold bX;rw[yBn];rfl
  rw[e];refine zE (fi:=lv (aE fns (d+2)) (.it (.ix (.var 0) (.int 0)))) (fc:=tv (aE fns (d+2)) (.cmp .Eq (.ix (.var 3) (.int 0)) (.str "in"))) (fe:=ev (aE fns (d+2)) (.ix (.var 3) (.int 1))) Rw.d (λ r=>nD r.w) (λ r=>decide (r.wd=.in)) rs ?_ (by rw[zx];omega) λ r hr=>?_
  ·simp only[gS0,i0,fV]
  ·have t:aV .Eq (.str r.wd.s) (.str "in")=qq (.bool (decide (r.wd=.in))):=bN r.wd .in;have r1:=gG r;refine⟨[qq (.d P),qz,qz,qq (.d r.d),qz],rfl,λ aC=>?_,λ _ aC=>?_⟩
   ·simp only[gS0,oD,t]
   ·simp only[gS0,r1]
 have hw:∀ w∈bX rs,w<=64:=λ w h=>by
  unfold bX at h;obtain⟨r,hr,rfl⟩:=List.mem_map.mp h;obtain⟨i,hi⟩:=yDu (List.mem_filter.mp hr).1;exact(p.ws i r hi).2
 have hl:(bX rs).length<=100:=by
  unfold bX;rw[yAd];have:=List.length_filter_le (λ r=>decide (r.wd=.in)) rs
  omega
 have sm:=aRk (bX rs);have sh:bY .LShift (.int 1) (.int (((bX rs).sum:Nat):Int))=qq (.int ((2^(bX rs).sum:Nat):Int)):=eX (by omega)
 have h256:2^(bX rs).sum<=256:=yAl (by decide) h8
 have gt:aV .Gt (.int (((bX rs).sum:Nat):Int)) (.int 8)=qq (.bool false):=by rw[gM,dqF (by omega)]
 generalize bX rs=ws at *;have hc0:∀ S,lv (aE fns (d+2)) aEA [qq (.d P),qq (.d (.list (ws.map nD))),qq (.d (.int ((ws.sum:Nat):Int))),qz,qz] S=qq ((yAu (2^ws.sum)).map λ c=>tN (iI c ws),S):=λ S=>by
  refine nU (fi:=lv (aE fns (d+2)) (.rng1 (.bin .LShift (.int 1) (.var 2)))) (fe:=ev (aE fns (d+2)) (.call 63 (.cons (.var 4) (.cons (.var 1) .nil)))) nD (λ c=>tN (iI c ws)) (yAu (2^ws.sum)) ?_ (by rw[zx,yFs];omega) λ c hc=>?_
  ·simp only[lH,kQ,kU,kS,lA,kZ];exact qU (by simp only[evs,sh]) (by omega)
  ·refine⟨_,rfl,λ S'=>?_⟩
   have co:cl fns (d+2) 63 [.d (nD c),.d (.list (ws.map nD))] S'=qq (.d (tN (iI c ws)),S'):=aMf d c ws hl hw S';simp only[gS0,clr,yBl,yCh,co]
 have hc0':=hc0 S;rw[yBn];refine cG (env:=[qq (.d P),qz,qz,qz,qz]) rfl (d+2) rfl rfl yAf ?_;refine gP (e1:=[qq (.d P),qq (.d (.list (ws.map nD))),qz,qz,qz]) (S1:=S) (by simp only[rJ,fR,hJ,hc1,oB];rfl) ?_
 refine cF (w:=.d (.int ((ws.sum:Nat):Int))) (S1:=S) ?_ rfl (aP (S1:=S) ?_ (bH ?_))
 ·simp only[gS0,sm]
 ·simp only[gS0,gt]
 ·simp only[gS0,hc0',gB,fZ]
theorem aO0(a:Wd):aV .In (.str a.s) (.tuple [.str "in",.str "num"])=qq (.bool (decide (a=.in\/a=.num))):=by cases a<;>rfl
theorem aQo(a:Wd):aV .In (.str a.s) (.tuple [.str "and",.str "or",.str "xor",.str "add",.str "sub",.str "mul",.str "same",.str "less",.str "under"])=qq (.bool (decide (bB a=2))):=by cases a<;>rfl
theorem aPk(d:Nat)(wd:Wd)(S:aF):cl fns (d+1) 76 [.d (.str wd.s)] S=qq (.d (.int (bB wd:Nat)),S):=by
 have m0:=aO0 wd;have m2:=aQo wd;have mp:aV .Eq (.str wd.s) (.str "pick")=qq (.bool (decide (wd=.pick))):=bN wd .pick;refine cG rfl d rfl rfl yAf ?_
 by_cases c0:wd=.in\/wd=.num
 ·rw[dqT c0] at m0;refine bW (S1:=S) (gR rfl rfl m0) (bH ?_);rcases c0 with rfl | rfl<;>rfl
 rw[dqF c0] at m0;refine aP (S1:=S) (gR rfl rfl m0) ?_
 by_cases c2:bB wd=2
 ·rw[dqT c2] at m2;refine bW (S1:=S) (gR rfl rfl m2) (bH ?_);rw[c2];rfl
 rw[dqF c2] at m2;refine aP (S1:=S) (gR rfl rfl m2) (bH ?_)
 by_cases c3:wd=.pick
 ·subst c3;rw[dqT rfl] at mp;have hq76:=rK (i:=2) (j:=1) (by decide) (by decide)
  simp only[gS0,mp,rR,rS,hq76,cW]
 ·rw[dqF c3] at mp;have e:bB wd=1:=by
   cases wd
   all_goals first | rfl | exact absurd rfl c2 | exact absurd rfl c3 | exact absurd (.inl rfl) c0 | exact absurd (.inr rfl) c0
  rw[e];have hq77:=rK (i:=2) (j:=0) (by decide) (by decide)
  simp only[gS0,mp,rR,rS,hq77,cW]
section
variable (S : aF)
theorem wW(x y:Option (List D)):(S++[x,y])[S.length]? = qq x:=by rw[yAe (yAb _),yBb];rfl
theorem g2b(x y:Option (List D)):(S++[x,y])[S.length+1]? = qq y:=by rw[yAe (by omega),Nat.add_sub_cancel_left];rfl
theorem s2a(x y z:Option (List D)):(S++[x,y]).set S.length z=S++[z,y]:=by rw[yDp _ _ (yAb _),yBb];rfl
theorem s2b(x y z:Option (List D)):(S++[x,y]).set (S.length+1) z=S++[x,z]:=by rw[yDp _ _ (by omega),Nat.add_sub_cancel_left];rfl
theorem aKf(l:List D)(y:Option (List D))(v:D)(h:l.length<=1000):dF (S++[qq l,y]) (.loc S.length) (.d v)=qq (.d .none,S++[qq (l++[v]),y]):=by
 unfold dF;simp only[wW,s2a];rw[if_pos (by rw[zx];omega)]
theorem aVN(x:Option (List D))(v:D)(l:List D):sJ (S++[x,qq (v::l)]) (.loc (S.length+1)) (.d (.int 0))=qq (.d v,S++[x,qq l]):=by
 unfold sJ;simp only[g2b,s2b]
theorem aWI(M:List Nat)(y:Option (List D))(a v:Nat)(ha:a<M.length):iC (S++[qq (M.map nD),y]) (.loc S.length) (.d (.int a)) (.d (.int v))=qq (S++[qq ((M.set a v).map nD),y]):=by
 unfold iC;simp only[wW];unfold hU;rw[yAd,if_pos (by omega),if_pos (by omega),oB,yAp,s2a,List.map_set]
 rfl
end
theorem aGV{α:Type}{t:Tg}{fi:FL}{fe:FE}{env:aU}{S S1:aF}(enc g:α->D)(l:List α)(hi:fi env S=qq (l.map enc,S1))(hz:l.length<=qy)
 (h:∀ a∈l,∃ e1,t.put (enc a) (clr t.slots env)=qq e1/\∀ aC,fe e1 (S1++[qq aC])=qq (.d (g a),S1++[qq aC])):gS t fi lJ fe env S=qq (l.map g,S1):=by
 rw[zE (fc:=lJ) enc g (λ _=>true) l hi hz λ a ha=>let ⟨e1,h1,h2⟩:=h a ha;⟨e1,h1,λ _=>rfl,λ _=>h2⟩]
 rw[List.filter_eq_self.mpr (λ _ _=>rfl)]
theorem aWh{rs:List Rw}{j:Nat}{dd:D}(h:(((rs.map Rw.d).zipIdx).map λ p=>yBm [.int (p.2:Nat),p.1])[j]? = qq dd):∃ r,rs[j]? = qq r/\dd=.tuple [.int j,r.d]:=by
 rw[xAb,List.getElem?_zipIdx,xAb] at h;cases e:rs[j]? with
 | none=>rw[e] at h;cases h
 | some r =>
   rw[e] at h;refine⟨r,rfl,?_⟩;simpa using h.symm
theorem aOh{aC:List Nat}{j z v:Nat}(h:aC.length=j):(aC++[z]).set j v=aC++[v]:=by
 rw[yDp _ _ (by omega),show j-aC.length=0 by omega]
 rfl
noncomputable abbrev eO(P T Pl:D)(n:Nat)(c5 c6 c7 c8:Option W):aU:=[qq (.d P),qq (.d T),qq (.d Pl),qq (.loc n),qq (.loc (n+1)),c5,c6,c7,c8,qz,qz]
theorem aGw(d:Nat){rs:List Rw}(p:Prg rs){aD:List Nat}(ho:∀ o∈aD,o<rs.length)(hol:aD.length<=8){is ms:List Nat}(hi:bT rs is)(hm:MsOk rs ms)(pa:Int)(pb:Nat)(hpb:pb<=64)(h1:∀ k m,ms[k]? = qq m->(pa==((k:Nat):Int))=true->m=2^pb)(h2:∀ k m,ms[k]? = qq m->(pa==((k:Nat):Int))=false->m=0)(S:aF):cl fns (d+6) 77 [.d (rs<*(aD*>nD)),.d (tN is),.d (.tuple [.int pa,.int pb])] S=qq (.d (.list ((aD.map (g0 (bO rs (~~~rs) is ms []))).map nD)),S):=by
 have hl:=p.l;have hf:=p.fit;have i0:aH (rs<*(aD*>nD)) (.int 0)=qq (rs*>Rw.d):=rfl;have i1:aH (rs<*(aD*>nD)) (.int 1)=qq (aD*>nD):=rfl;obtain⟨_,rl,_⟩:=yF 0 rs (aD*>nD) is ms hl hf hi hm [];obtain⟨P,hP⟩:∃ P:D,P=(rs<*(aD*>nD)):=⟨_,rfl⟩;rw[<- hP] at i0 i1 ⊢;obtain⟨Pl,hPl⟩:∃ Pl:D,Pl=.tuple [.int pa,.int pb]:=⟨_,rfl⟩;have q0:aH Pl (.int 0)=qq (.int pa):=by rw[hPl];rfl
 have q1:aH Pl (.int 1)=qq (.int pb):=by rw[hPl];rfl
 rw[<- hPl];have sh:bY .LShift (.int 1) (.int pb)=qq (.int ((2^pb:Nat):Int)):=eX (by omega)
 have rowA:∀ a,a<rs.length->aH (rs*>Rw.d) (nD a)=qq (rs.getD a ⟨.in,0,[]⟩).d/\(rs.getD a ⟨.in,0,[]⟩).w=g0 (~~~rs) a:=λ a ha=>by
  have hr:rs[a]? = qq rs[a]:=yAa ha;rw[xAh,hr,pX hr];exact⟨iZ (by rw[xAb,hr];rfl),rfl⟩
 have it:lv (aE fns (d+5)) tI (eO P (tN is) Pl S.length qz qz qz qz) (S++[qq [],qq (is.map nD)])=qq (((rs.map Rw.d).zipIdx).map λ p=>yBm [.int (p.2:Nat),p.1],S++[qq [],qq (is.map nD)]):=by
  simp only[tI,lH,kQ,kU,kS,lA,kZ];exact aEJ (by simp only[evs,i0])
 obtain⟨aI,S',p1,aC,is',c5,c6,c7,c8,rfl,rfl,al,ar,ai,ab⟩:=mG (t:=.many [5,6]) (fi:=lv (aE fns (d+5)) tI) (fb:=xs (aE fns (d+5)) kN) (env:=eO P (tN is) Pl S.length qz qz qz qz) (S:=S++[qq [],qq (is.map nD)]) (S1:=S++[qq [],qq (is.map nD)]) (ds:=((rs.map Rw.d).zipIdx).map λ p=>yBm [.int (p.2:Nat),p.1])
  (λ j env S'=>∃ (aC is':List Nat) (c5 c6 c7 c8:Option W),env=eO P (tN is) Pl S.length c5 c6 c7 c8/\S'=S++[qq (aC.map nD),qq (is'.map nD)]/\aC.length=j/\bO (rs.drop j) (~~~rs) is' (ms.drop j) aC=bO rs (~~~rs) is ms []/\bT (rs.drop j) is'/\∀ (i a w:Nat),aC[i]? = qq a->(~~~rs)[i]? = qq w->a<2^w)
  it ⟨[],is,qz,qz,qz,qz,rfl,rfl,rfl,rfl,hi,by simp⟩ (by
   rintro j dd env S' hd ⟨aC,is',c5,c6,c7,c8,rfl,rfl,al,ar,ai,ab⟩;obtain⟨r,hr,rfl⟩:=aWh hd;obtain⟨f1,f2⟩:=hf j r hr;have hj:j<rs.length:=(gIm hr).1;have hmj:ms[j]? = qq (ms.getD j 0):=pF (by rw[hm.l];exact hj)
   generalize ms.getD j 0=m at hmj;have hmlt:=hm.lt j r m hr hmj;have hw:(~~~rs)[j]? = qq r.w:=by rw[xAb,hr];rfl
   have hWl:(~~~rs).length=rs.length:=yAd ..;rw[tW hr] at ar ai;rw[tW hmj] at ar;have more:∀ z:Nat,z<2^r.w->∀ (i a w:Nat),(aC++[z^^^m])[i]? = qq a->(~~~rs)[i]? = qq w->a<2^w:=λ z hz i a w h1 h2=>by
    by_cases c:i<aC.length
    ·rw[xAn c] at h1;exact ab i a w h1 h2
    ·have ci:i=j:=by
      have:=(gIm h1).1;simp at this;omega
     subst ci;rw[yAe (by omega),show i-aC.length=0 by omega] at h1
     cases h1;rw[hw] at h2;cases h2;exact yBs hz hmlt
   have pl:∀ (z:Nat) (T:List Nat) (c7 c8:Option W),xs (aE fns (d+5)) (cC (bF kN)) (eO P (tN is) Pl S.length (qq (.d (.int j))) (qq (.d r.d)) c7 c8) (S++[qq ((aC++[z]).map nD),qq (T.map nD)])=qq (.nx (eO P (tN is) Pl S.length (qq (.d (.int j))) (qq (.d r.d)) c7 c8),S++[qq ((aC++[z^^^m]).map nD),qq (T.map nD)]):=λ z T c7 c8=>by
    cases c:pa==((j:Nat):Int) with
    | false =>
      have:=h2 j m hmj c;subst this;rw[yEn];simp only[gS3,cC,bF,kN,q0,bQ,c]
    | true =>
      have:=h1 j m hmj c;subst this;have ga:(S++[qq ((aC++[z]).map nD),qq (T.map nD)])[S.length]? = qq (qq ((aC++[z]).map nD)):=wW S _ _;have ix:aH (.list ((aC++[z]).map nD)) (.int j)=qq (.int z):=jR (by
       rw[xAb,yAe (by omega),show j-aC.length=0 by omega]
       rfl)
      have xo:bY .BitXor (.int z) (.int ((2^pb:Nat):Int))=qq (.int ((z^^^2^pb:Nat):Int)):=iA z (2^pb);have pu:=aWI S (aC++[z]) (qq (T.map nD)) j (z^^^2^pb) (by simp[al])
      rw[aOh al] at pu;simp only[gS3,cC,bF,kN,q0,bQ,c,ga,ix,q1,sh,xo,jE,pu]
   have e0:kN=.seq (cC kN) (.seq (cC (bF kN)) .skip):=rfl
   by_cases c:r.wd=.in
   ·have t:aV .Eq (.str r.wd.s) (.str "in")=qq (.bool true):=by rw[c];exact bN .in .in
    rw[bT,if_pos c] at ai;obtain⟨n,is'',rfl,hn,hi'⟩:=ai;rw[bO,if_pos c] at ar;have pp:sJ (S++[qq (aC.map nD),qq (nD n::is''.map nD)]) (.loc (S.length+1)) (.d (.int 0))=qq (.d (.int n),S++[qq (aC.map nD),qq (is''.map nD)]):=aVN S (qq (aC.map nD)) (nD n) (is''.map nD);have ap:dF (S++[qq (aC.map nD),qq (is''.map nD)]) (.loc S.length) (.d (.int n))=qq (.d .none,S++[qq ((aC++[n]).map nD),qq (is''.map nD)]):=by
     rw[aKf S (aC.map nD) _ _ (by rw[yAd];omega),yBt]
     rfl
    refine⟨eO P (tN is) Pl S.length (qq (.d (.int j))) (qq (.d r.d)) c7 c8,eO P (tN is) Pl S.length (qq (.d (.int j))) (qq (.d r.d)) c7 c8,S++[qq ((aC++[n^^^m]).map nD),qq (is''.map nD)],rfl,?_,aC++[n^^^m],is'',_,_,_,_,rfl,rfl,by simp[al],ar,hi',more n hn⟩
    rw[e0];refine gP (e1:=eO P (tN is) Pl S.length (qq (.d (.int j))) (qq (.d r.d)) c7 c8) (S1:=S++[qq ((aC++[n]).map nD),qq (is''.map nD)]) ?_ (gP (pl n is'' c7 c8) rfl);simp only[gS2,cC,kN,oD,t,aAN,pp,fF,ap]
   ·have t:aV .Eq (.str r.wd.s) (.str "in")=qq (.bool false):=by
     have:=bN r.wd .in;rw[dqF c] at this;exact this
    rw[bT,if_neg c] at ai;rw[bO,if_neg c] at ar;have lt:=rH ab (r.args.take (bB r.wd)) λ a ha=>⟨by have:=f2 a ha;omega,by have:=f2 a ha;omega⟩
    have wk:=aHL f1 c lt (d+1) (S++[qq (aC.map nD),qq (is'.map nD)]);have wl:cH r (aT r (~~~rs)) (aT r aC)<2^r.w:=aC0 f1 lt;have ol:=aCy r;have ol':(r.args.take (bB r.wd)).length<=3:=ol;have mo:=aPk (d+4) r.wd (S++[qq (aC.map nD),qq (is'.map nD)]);have f2c:(2:Int)+((bB r.wd:Nat):Int)=((2+bB r.wd:Nat):Int):=by omega
    have ga:(S++[qq (aC.map nD),qq (is'.map nD)])[S.length]? = qq (qq (aC.map nD)):=wW S _ _;have hc2:lv (aE fns (d+5)) aED (eO P (tN is) Pl S.length (qq (.d (.int j))) (qq (.d r.d)) (qq (.d (.tuple ((r.args.take (bB r.wd)).map nD)))) c8) (S++[qq (aC.map nD),qq (is'.map nD)])=qq ((aT r (~~~rs)).map nD,S++[qq (aC.map nD),qq (is'.map nD)]):=by
     unfold aT;rw[yBn];refine nU (fi:=lv (aE fns (d+5)) (.it (.var 7))) (fe:=ev (aE fns (d+5)) (.ix (.ix (.ix (.var 0) (.int 0)) (.var 10)) (.int 1))) nD (nD ∘ g0 (~~~rs)) (r.args.take (bB r.wd)) ?_ (by rw[zx];omega) λ a ha=>?_
     ·simp only[gS0,fV]
     ·refine⟨_,rfl,λ S'=>?_⟩
      have haj:=f2 a ha;obtain⟨g1,g2⟩:=rowA a (by omega)
      have g3:=gG (rs.getD a ⟨.in,0,[]⟩);rw[g2] at g3;simp only[gS0,clr,yBl,yCh,i0,g1,g3]
    have hc1:∀ c8,lv (aE fns (d+5)) aEw (eO P (tN is) Pl S.length (qq (.d (.int j))) (qq (.d r.d)) (qq (.d (.tuple ((r.args.take (bB r.wd)).map nD)))) c8) (S++[qq (aC.map nD),qq (is'.map nD)])=qq ((aT r aC).map nD,S++[qq (aC.map nD),qq (is'.map nD)]):=λ c8=>by
     unfold aT;rw[yBn];have hL:(S++[qq (aC.map nD),qq (is'.map nD)]).length=S.length+2:=by simp
     refine aGV (fi:=lv (aE fns (d+5)) (.it (.var 7))) (fe:=ev (aE fns (d+5)) (.ix (.var 3) (.var 10))) nD (nD ∘ g0 aC) (r.args.take (bB r.wd)) ?_ (by rw[zx];omega) λ a ha=>?_
     ·simp only[gS0,fV]
     ·refine⟨_,rfl,λ x=>?_⟩
      have haj:=f2 a ha;have ge:(S++[qq (aC.map nD),qq (is'.map nD)]++[qq x])[S.length]? = qq (qq (aC.map nD)):=by
       rw[xAn (by rw[hL];omega)]
       exact ga
      have e:aH (.list (aC.map nD)) (nD a)=qq (nD (g0 aC a)):=jR (vA (by omega))
      simp only[gS0,clr,yBl,yCh,ge,e]
    have wk':cl fns (d+5) 55 [.d r.d,.d (.tuple ((aT r (~~~rs)).map nD)),.d (.tuple ((aT r aC).map nD))] (S++[qq (aC.map nD),qq (is'.map nD)])=qq (.d (.int ((cH r (aT r (~~~rs)) (aT r aC):Nat):Int)),S++[qq (aC.map nD),qq (is'.map nD)]):=wk;generalize cH r (aT r (~~~rs)) (aT r aC)=z at ar wk' wl;have ap:dF (S++[qq (aC.map nD),qq (is'.map nD)]) (.loc S.length) (.d (.int z))=qq (.d .none,S++[qq ((aC++[z]).map nD),qq (is'.map nD)]):=by
     rw[aKf S (aC.map nD) _ _ (by rw[yAd];omega),yBt]
     rfl
    refine⟨eO P (tN is) Pl S.length (qq (.d (.int j))) (qq (.d r.d)) c7 c8,eO P (tN is) Pl S.length (qq (.d (.int j))) (qq (.d r.d)) (qq (.d (.tuple ((r.args.take (bB r.wd)).map nD)))) (qq (.d (.tuple ((aT r (~~~rs)).map nD)))),S++[qq ((aC++[z^^^m]).map nD),qq (is'.map nD)],rfl,?_,aC++[z^^^m],is',_,_,_,_,rfl,rfl,by simp[al],ar,ai,more z wl⟩
    rw[e0];refine gP (e1:=eO P (tN is) Pl S.length (qq (.d (.int j))) (qq (.d r.d)) (qq (.d (.tuple ((r.args.take (bB r.wd)).map nD)))) (qq (.d (.tuple ((aT r (~~~rs)).map nD))))) (S1:=S++[qq ((aC++[z]).map nD),qq (is'.map nD)]) ?_ (gP (pl z is' _ _) rfl);have sl:ev (aE fns (d+5)) (.sl (.var 6) (.cons (.int 2) .nil) (.cons (.bin .Add (.int 2) (.call 76 (.cons (.ix (.var 6) (.int 0)) .nil))) .nil)) (eO P (tN is) Pl S.length (qq (.d (.int j))) (qq (.d r.d)) c7 c8) (S++[qq (aC.map nD),qq (is'.map nD)])=qq (.d (.tuple ((r.args.take (bB r.wd)).map nD)),S++[qq (aC.map nD),qq (is'.map nD)]):=by
     simp only[aAn];refine aGT r (bB r.wd) (by simp only[evs]) (by simp only[evs,lG]) ?_
     simp only[gS0,lG,oD,mo,cW,f2c]
    refine sC (S1:=S++[qq (aC.map nD),qq (is'.map nD)]) (by simp only[evs,oD,t]) (cF sl rfl (cF (w:=.d (.tuple ((aT r (~~~rs)).map nD))) (S1:=S++[qq (aC.map nD),qq (is'.map nD)]) ?_ rfl ?_))
    ·simp only[gS0,hc2,gB,fZ]
    ·simp only[evs,hc1,gB,fZ,wk',fF,ap])
 have zl:(((rs.map Rw.d).zipIdx).map λ p=>yBm [.int (p.2:Nat),p.1]).length=rs.length:=by simp
 rw[zl] at al ar ai;rw[yEt] at ar ai;have ar':aC=bO rs (~~~rs) is ms []:=by
  have e:bO [] (~~~rs) is' (ms.drop rs.length) aC=aC:=by unfold bO;rfl
  rw[<- e];exact ar
 rw[<- ar'] at rl ⊢;have ga:(S++[qq (aC.map nD),qq (is'.map nD)])[S.length]? = qq (qq (aC.map nD)):=wW S _ _;have hL:(S++[qq (aC.map nD),qq (is'.map nD)]).length=S.length+2:=by simp
 have hc:lv (aE fns (d+5)) aEB (eO P (tN is) Pl S.length c5 c6 c7 c8) (S++[qq (aC.map nD),qq (is'.map nD)])=qq ((aD.map (g0 aC)).map nD,S++[qq (aC.map nD),qq (is'.map nD)]):=by
  rw[yBn];refine aGV (fi:=lv (aE fns (d+5)) (.it (.ix (.var 0) (.int 1)))) (fe:=ev (aE fns (d+5)) (.ix (.var 3) (.var 9))) nD (nD ∘ g0 aC) aD ?_ (by rw[zx];omega) λ o h=>?_
  ·simp only[gS0,i1,fV]
  ·refine⟨_,rfl,λ x=>?_⟩
   have ge:(S++[qq (aC.map nD),qq (is'.map nD)]++[qq x])[S.length]? = qq (qq (aC.map nD)):=by
    rw[xAn (by rw[hL];omega)]
    exact ga
   have e:aH (.list (aC.map nD)) (nD o)=qq (nD (g0 aC o)):=jR (vA (by rw[rl];exact ho o h))
   simp only[gS0,clr,yBl,yCh,ge,e]
 have p1':xs (aE fns (d+5)) (.loop (.many [5,6]) tI kN) (eO P (tN is) Pl S.length qz qz qz qz) (S++[qq [],qq (is.map nD)])=qq (.nx (eO P (tN is) Pl S.length c5 c6 c7 c8),S++[qq (aC.map nD),qq (is'.map nD)]):=p1;have so:vH (tN is)=qq (is.map nD):=rfl;have s1:(S++[qq []]).length=S.length+1:=by simp
 rw[aY rfl (d+5) _ S rfl];have full:xs (aE fns (d+5)) aBA [qq (.d P),qq (.d (tN is)),qq (.d Pl),qz,qz,qz,qz,qz,qz,qz,qz] S=qq (.rt (.d (.list ((aD.map (g0 aC)).map nD))),S++[qq (aC.map nD),qq (is'.map nD)]):=by
  refine cF (w:=.loc S.length) (S1:=S++[qq []]) ?_ rfl (cF (w:=.loc (S.length+1)) (S1:=S++[qq [],qq (is.map nD)]) ?_ rfl (gP p1' (bH ?_)))
  ·simp only[gS0,fD]
  ·simp only[gS0,fD,aAH,so,s1,yAq]
  ·simp only[gS0,hc]
 show((xs (aE fns (d+5)) aBA [qq (.d P),qq (.d (tN is)),qq (.d Pl),qz,qz,qz,qz,qz,qz,qz,qz] S).bind _)=_;rw[full];have tk:(S++[qq (aC.map nD),qq (is'.map nD)]).take S.length=S:=yCz;simp only[oB,jY,tk]
noncomputable def oN(rs:List Rw)(aD is:List Nat):D:=.list ((aD.map (g0 (cL rs (~~~rs) is []))).map nD)
theorem aQN(A B:List Nat):aV .Eq (.list (A.map nD)) (.list (B.map nD))=qq (.bool (decide (A=B))):=by
 have h1:∀ L:List Nat,(yDs (L.map nD)).canLay0=true:=rT;have h2:(yDs (A.map nD)).depth<=60:=by
  show yBu (A.map nD)+1<=60;rw[rB];decide
 have h3:yCl (.list (A.map nD)) (.list (B.map nD))=decide (A=B):=aAb A B;unfold aV lI;simp only[];rw[if_pos ⟨h1 A,h1 B,h2⟩,h3];rfl
theorem aDT(f g:List Nat->D):∀ ts:List (List Nat),cX (ts.map f) (ts.map g)=ts.map λ is=>yBm [f is,g is]
 | []=>rfl
 | is::ts=>by
   have ih:=aDT f g ts;simp only[yAt,cX,ih]
theorem aTL:aV .Eq (.str "unasked") (.str "try")=qq (.bool false):=by kernel_rfl
theorem aUV:aV .Eq (.str "unasked") (.str "way")=qq (.bool false):=by kernel_rfl
theorem aVa:aV .Eq (.str "way") (.str "try")=qq (.bool false):=by kernel_rfl
theorem aUn:aV .Eq (.str "unasked") (.str "unasked")=qq (.bool true):=by kernel_rfl
section
variable {rs : List Rw}{F : List Ft}{r : Rw}{a b : Nat}{aD : List Nat}
theorem aGO(d:Nat)(p:Prg rs)(ho:∀ o∈aD,o<rs.length)(hol:aD.length<=8){is:List Nat}(hi:bT rs is)(hr:rs[a]? = qq r)(hb:b<r.w)(S:aF):cl fns (d+6) 77 [.d (rs<*(aD*>nD)),.d (tN is),.d (.tuple [.int a,.int b])] S=qq (.d (.list ((aD.map (g0 (bO rs (~~~rs) is (fG rs.length a b) []))).map nD)),S):=by
 have w64:=(p.ws a r hr).2;have ha:a<rs.length:=(gIm hr).1;refine aGw d p ho hol hi (aAl hr hb) ((a:Nat):Int) b (by omega) (λ k m h1 h2=>?_) (λ k m h1 h2=>?_) S
 ·have e:a=k:=by
   have:=beq_iff_eq.mp h2;omega
  subst e;rw[pF (by rw[aHW];exact ha),aDd ha] at h1
  exact(Option.some.inj h1).symm
 ·have e:a≠k:=λ z=>by
   subst z;exact absurd h2 (by simp)
  have hk:k<(fG rs.length a b).length:=(gIm h1).1;rw[pF hk,aDl e] at h1;exact(Option.some.inj h1).symm
theorem aNg(d:Nat)(p:Prg rs)(ho:∀ o∈aD,o<rs.length)(hol:aD.length<=8){is:List Nat}(hi:bT rs is)(S:aF):cl fns (d+6) 77 [.d (rs<*(aD*>nD)),.d (tN is),.d (.tuple [.int (-1),.int 0])] S=qq (.d (oN rs aD is),S):=by
 have:=aGw d p ho hol hi (aGU rs) (-1) 0 (by omega) (λ k m h1 h2=>by
  have:=beq_iff_eq.mp h2;omega) (λ k m h1 h2=>by
  rw[yBj] at h1
  split at h1
  ·cases h1;rfl
  ·cases h1) S
 rw[tT] at this;exact this
theorem aNb(d:Nat)(p:Prg rs)(sd:Snd rs F)(hF:F.length=rs.length)(eF:∀ S,cl fns (d+10) 50 [.d (rs<*(aD*>nD))] S=qq (.d (F*>Ft.d),S))(hr:rs[a]? = qq r)(hb:b<r.w)(ho:∀ o∈aD,o<rs.length)(hol:aD.length<=8)(ts:List (List Nat))(hl:ts.length<=1000)(hi:∀ is∈ts,bT rs is)(S:aF):cl fns (d+12) 78 [.d (rs<*(aD*>nD)),.d (ts*>tN),.d (.list (ts.map (oN rs aD))),.d (.tuple ((bK rs F aD).map nD)),.d (.tuple [.int a,.int b])] S=qq (.d (.bool true),S):=by
 have ha:a<rs.length:=(gIm hr).1;obtain⟨y,hy,ey⟩:=aFY (F:=F) (a:=a) (b:=b) (aD:=aD) d p hF eF hr hb ho hol ts hi S;have lo:=λ is (h:is∈ts) S=>aGO (d+5) p ho hol (hi is h) hr hb S
 have bd:=uQ (F:=F) p ho;have em:=zT (M:=bK rs F aD) (i:=a) (by rw[bd.l];exact ha)
 have z:=sI ((bK rs F aD).getD a 0) b;have no:true∈ts.map (dX rs aD a b)->((bK rs F aD).getD a 0).testBit b=true:=λ h=>by
  obtain⟨is,h1,h2⟩:=List.mem_map.mp h;cases c:((bK rs F aD).getD a 0).testBit b with
  | true=>rfl
  | false=>rw[aL7 p sd hF (hi is h1) hr hb ho c] at h2;cases h2
 have hz:=aDT tN (oN rs aD) ts;obtain⟨P,hP⟩:∃ P:D,P=(rs<*(aD*>nD)):=⟨_,rfl⟩;simp only[<- hP] at ey lo ⊢;obtain⟨Pl,hPl⟩:∃ Pl:D,Pl=.tuple [.int a,.int b]:=⟨_,rfl⟩;have q0:aH Pl (.int 0)=qq (.int a):=by rw[hPl];rfl
 have q1:aH Pl (.int 1)=qq (.int b):=by rw[hPl];rfl
 simp only[<- hPl] at lo ⊢;have hc:lv (aE fns (d+11)) aEu [qq (.d P),qq (.d (ts*>tN)),qq (.d (.list (ts.map (oN rs aD)))),qq (.d (.tuple ((bK rs F aD).map nD))),qq (.d Pl),qz,qz,qz,qz,qz] S=qq ((ts.map (dX rs aD a b)).map yBd,S):=by
  rw[yBn];refine nU (fi:=lv (aE fns (d+11)) (.zip (.var 1) (.var 2))) (fe:=ev (aE fns (d+11)) (.cmp .NotEq (.call 77 (.cons (.var 0) (.cons (.var 8) (.cons (.var 4) .nil)))) (.var 9))) (λ is=>yBm [tN is,oN rs aD is]) (yBd ∘ dX rs aD a b) ts ?_ (by rw[zx];omega) λ is hm=>?_
  ·simp only[gS0,hz]
  ·refine⟨[qq (.d P),qq (.d (ts*>tN)),qq (.d (.list (ts.map (oN rs aD)))),qq (.d (.tuple ((bK rs F aD).map nD))),qq (.d Pl),qz,qz,qz,qq (.d (tN is)),qq (.d (oN rs aD is))],rfl,λ S'=>?_⟩
   have lo':=lo is hm S';have ne:aV .NotEq (.list ((aD.map (g0 (bO rs (~~~rs) is (fG rs.length a b) []))).map nD)) (oN rs aD is)=qq (.bool (dX rs aD a b is)):=aSB _ _;simp only[gS0,lo',ne]
 have ib:=aNt (ts.map (dX rs aD a b));obtain⟨L,hL⟩:∃ L,L=ts.map (dX rs aD a b):=⟨_,rfl⟩;rw[<- hL] at hy no ib hc;have ixb:=λ h=>aMt (L:=L) h S
 generalize (bK rs F aD).map nD=Mk at *;refine cG (env:=[qq (.d P),qq (.d (ts*>tN)),qq (.d (.list (ts.map (oN rs aD)))),qq (.d (.tuple Mk)),qq (.d Pl),qz,qz,qz,qz,qz]) rfl (d+11) rfl rfl yAf ?_;refine gP (e1:=[qq (.d P),qq (.d (ts*>tN)),qq (.d (.list (ts.map (oN rs aD)))),qq (.d (.tuple Mk)),qq (.d Pl),qq (.d (.list (L.map yBd))),qz,qz,qz,qz]) (S1:=S) (by simp only[rJ,fR,hJ,hc,oB];rfl) ?_
 refine cF (w:=.d (.bool (((bK rs F aD).getD a 0).testBit b))) (S1:=S) ?_ rfl (cF (w:=.d y) (S1:=S) ?_ rfl ?_)
 ·simp only[gS0,q0,q1,em,fL,nM,bQ,z]
 ·simp only[gS0,q0,q1,ey]
 generalize ts.map (oN rs aD)=o1 at *;generalize ts.map tN=o2 at *;rcases hy with ⟨h1,rfl⟩ | ⟨h1,h⟩
 ·have nn:=no h1;have ix:=ixb h1;have et:=aSl (L.idxOf true);rw[dqT h1] at ib;rw[nn];generalize L.map yBd=L' at *;refine bW (S1:=S) ?_ (bH ?_)
  ·simp only[gS0,ib]
  ·simp only[gS0,aAS,ix,et]
 ·rw[dqF h1] at ib;generalize L.map yBd=L' at *;refine aP (S1:=S) ?_ ?_
  ·simp only[gS0,ib]
  rcases h with ⟨h2,rfl⟩ | ⟨h2,t,h3,h4,rfl⟩
  ·rw[h2];have e1:=aTL;have e2:=aUV;have e3:=aVf;have e4:=aJB false;have j0:aH (.tuple [.str "unasked",.tuple []]) (.int 0)=qq (.str "unasked"):=rfl;refine aP (S1:=S) ?_ (bH ?_)
   ·simp only[gS0,j0,e1,e2,e4]
   ·simp only[gS0,j0,e2,e3]
  ·rw[h2];have e1:=aVa;have e2:=aIO;have e4:=aJB true;have j0:aH (.tuple [.str "way",.tuple (((a,b)::t).map pD)]) (.int 0)=qq (.str "way"):=rfl;generalize yBm [.str "way",.tuple (((a,b)::t).map pD)]=Q at *;refine aP (S1:=S) ?_ (bH ?_)
   ·simp only[gS0,j0,e1,e2,e4]
   ·simp only[gS0,j0,e2]
end
noncomputable def pT:Sx:=bF (bF (bF iN))
noncomputable def pR(k:Nat):Sx:=match k with
 | 0=>cC iN
 | 1=>cC (bF iN)
 | 2=>cC (bF (bF iN))
 | 4=>cC pT
 | 5=>cC (bF pT)
 | 6=>cC (bF (bF pT))
 | 7=>cC (bF (bF (bF pT)))
 | _=>cC (bF (bF (bF (bF pT))))
theorem aOm:pT=.seq (pR 4) (.seq (pR 5) (.seq (pR 6) (.seq (pR 7) (.seq (pR 8) .skip)))):=rfl
theorem aPn:iN=.seq (pR 0) (.seq (pR 1) (.seq (pR 2) pT)):=rfl
theorem aN6{S:aF}{p:Nat}(h:At S 0 p)(ns:List Int)(k:Nat)(x:Int)(rs:List Rw):∃ T,aM S 0 p ns k x rs=qq (bG ns k x)::T:=by
 have hs:=h.toAt0.state (ns:=ns) (k:=k) (x:=x) (rs:=rs);rcases e:aM S 0 p ns k x rs with _ | ⟨a,T⟩
 ·rw[e] at hs;cases hs
 ·rw[e] at hs;cases hs;exact⟨T,rfl⟩
theorem zM{S:aF}{p:Nat}(h:At S 0 p)(ns:List Int)(k:Nat)(x:Int)(rs:List Rw)(T:aF):aM (S++T) 0 p ns k x rs=aM S 0 p ns k x rs++T:=by
 unfold aM;rw[List.set_append_left _ _ h.hn,List.set_append_left _ _ (by rw[yAy];exact h.hp)]
theorem At.app{S:aF}{p:Nat}(h:At S 0 p)(T:aF):At (S++T) 0 p:=⟨⟨by rw[xAo];have:=h.hn;omega,h.ne⟩,by rw[xAo];have:=h.hp;omega⟩
theorem aND{l:List Nat}{q n:Nat}(h:∀ o∈l,o<n)(hq:q<n):∀ o∈l++[q],o<n:=λ o ho=>by
 rcases List.mem_append.mp ho with ho | ho
 ·exact h o ho
 ·rw[yBr] at ho;subst ho;exact hq
theorem aOB{a m:Nat}(h:a=m+1)(h2:m<=7):a<=8:=by omega
noncomputable abbrev eQ(most q p:Nat)(a4 a5 a6:Option W):aU:=[qq (.loc 0),qq (.d (.int most)),qq (.d (.int q)),qq (.loc p),a4,a5,a6]
theorem aUE{S:aF}{p:Nat}(h:At S 0 p){ns:List Int}{k:Nat}{x:Int}{rs:List Rw}(d most q:Nat)(hm:most<=30)(ok:dN [] rs)(l0:0<rs.length)(l1:rs.length<=40)(hk:k<=50000) :
 ∃ (aJ:List Rw) (aD:List Nat) (k':Nat) (x':Int) (T:aF),(∃ t,aJ=rs++t/\GP.noIn t)/\dN [] aJ/\0<aJ.length/\aJ.length<=40/\k'<=k+700/\(∀ o∈aD,o<aJ.length)/\aD.length<=8/\xs (aE fns (d+5)) pT (eQ most q p qz qz qz) (aM S 0 p ns k x rs)=qq (.rt (.d (aJ<*(aD*>nD))),qq (bG ns k' x')::T):=by
 obtain⟨env1,S1,p1,a4,aJ,k1,x1,nx1,ok1,l0',l1',hk1,rfl,rfl⟩:=aIL (t:=.one 4) (fi:=lv (aE fns (d+5)) xL) (fb:=xs (aE fns (d+5)) xM) (env:=(eQ most q p qz qz qz)) (S:=aM S 0 p ns k x rs)
  (λ j env S'=>∃ (a4:Option W) (rs2:List Rw) (k':Nat) (x:Int),(∃ t,rs2=rs++t/\GP.noIn t)/\dN [] rs2/\0<rs2.length/\rs2.length<=40/\k'<=k+20*j/\env=(eQ most q p a4 qz qz)/\S'=aM S 0 p ns k' x rs2)
  (show lv (aE fns (d+5)) xL _ _=qq ((yAu most).map (λ k=>yAj (k:Nat)),_) by
    simp only[xL,lH,kQ,kU,kS,lA,kZ];exact qU rfl (by omega))
  ⟨qz,rs,k,x,⟨[],by simp,GP.noIn_nil⟩,ok,l0,l1,by omega,rfl,rfl⟩ (by
   rintro j dd env S' hj ⟨a4,rs,k',x,⟨t0,ht0,m0⟩,ok,l0,l1,hk',rfl,rfl⟩;have hj':j<most:=by simpa using hj
   refine⟨(eQ most q p (qq (.d dd)) qz qz),(eQ most q p (qq (.d dd)) qz qz),?_⟩
   by_cases c:rs.length<37
   ·have d1:decide (((rs.length:Nat):Int)<37)=true:=dqT (by omega)
    obtain⟨k2,x',aJ,ok',⟨t1,ht1,m1⟩,g1,g2,hk2,e⟩:=GP.row_ok (ns:=ns) (k:=k') (x:=x) h d ok l0 (by omega) (by omega)
    refine⟨_,rfl,?_,qq (.d dd),aJ,k2,x',⟨t0++t1,by rw[ht1,ht0,yAq],GP.noIn_app m0 m1⟩,ok',by omega,by omega,by omega,rfl,rfl⟩
    simp only[gS1,xM,h.rows,dY,dZ,GP.rows_len,eG,d1,e]
   ·have d1:decide (((rs.length:Nat):Int)<37)=false:=dqF (by omega)
    refine⟨_,rfl,?_,qq (.d dd),rs,k',x,⟨t0,ht0,m0⟩,ok,l0,l1,by omega,rfl,rfl⟩
    simp only[evs,xM,h.rows,dY,dZ,GP.rows_len,eG,d1])
 have hk2:k1<=k+600:=by simp at hk1;omega
 obtain⟨q2,x2,hq2,e2⟩:=eY (ns:=ns) (k:=k1) (x:=x1) (rs:=aJ) h.toAt0 (d+4) aJ.length l0' (by omega) (by omega)
 obtain⟨q3,x3,hq3,e3⟩:=gL (ns:=ns) (k:=k1+1) (x:=x2) (rs:=aJ) h.toAt0 (d+4) 4 (i:=4) rfl (by decide) (by decide) (by omega)
 obtain⟨b3,hb3,eb3⟩:=b2i ((q3:Int)==1);obtain⟨y,hy,ey⟩:=at2 (.int (((aJ.length:Nat):Int)-1)) (.int q2) hb3;obtain⟨y0,hy0,rfl⟩:∃ y0:Nat,y0<aJ.length/\y=nD y0:=by
  rcases hy with rfl | rfl
  ·have e9:((aJ.length:Nat):Int)-1=((aJ.length-1:Nat):Int):=by omega
   exact⟨aJ.length-1,by omega,by rw[e9];rfl⟩
  ·exact⟨q2,hq2,rfl⟩
 have p5:xs (aE fns (d+5)) (pR 5) (eQ most q p a4 qz qz) (aM S 0 p ns k1 x1 aJ)=qq (.nx (eQ most q p a4 (qq (.d (.list [.int (((aJ.length:Nat):Int)-1),.int q2]))) qz),aM S 0 p ns (k1+1) x2 aJ):=by
  simp only[gS5,pR,pT,bF,cC,iN,h.rows,dY,dZ,GP.rows_len,cS,e2]
 have p6:xs (aE fns (d+5)) (pR 6) (eQ most q p a4 (qq (.d (.list [.int (((aJ.length:Nat):Int)-1),.int q2]))) qz) (aM S 0 p ns (k1+1) x2 aJ)=qq (.nx (eQ most q p a4 (qq (.d (.list [.int (((aJ.length:Nat):Int)-1),.int q2]))) (qq (.loc S.length))),aM (S++[qq [nD y0]]) 0 p ns (k1+2) x3 aJ):=by
  have hl:(aM S 0 p ns (k1+1+1) x3 aJ).length=S.length:=h.toAt0.len;rw[zM h];simp only[gS5,pR,pT,bF,cC,iN,fD,e3,bQ,rR,rS,eb3,ey,hl]
 obtain⟨q4,x4,hq4,e4⟩:=gL (ns:=ns) (k:=k1+2) (x:=x3) (rs:=aJ) (At.app h [qq [nD y0]]).toAt0 (d+4) 3 (i:=3) rfl (by decide) (by decide) (by omega)
 obtain⟨q5,x5,hq5,e5⟩:=gL (ns:=ns) (k:=k1+3) (x:=x4) (rs:=aJ) (At.app h [qq [nD y0]]).toAt0 (d+4) 8 (i:=8) rfl (by decide) (by decide) (by omega)
 obtain⟨b5,hb5,eb5⟩:=b2i ((q5:Int)==1);obtain⟨z,hz,ez⟩:=at2 (.int q4) (.int 7) hb5;obtain⟨m,hm7,rfl⟩:∃ m:Nat,m<=7/\z=.int m:=by
  rcases hz with rfl | rfl
  ·exact⟨_,by omega,rfl⟩
  ·exact⟨7,by decide,rfl⟩
 obtain⟨env2,S2,p4,a4',aD,k6,x6,ol,oa,hk6,rfl,rfl⟩:=aIL (t:=.one 4) (fi:=lv (aE fns (d+5)) aBj) (fb:=xs (aE fns (d+5)) aBk) (env:=(eQ most q p a4 (qq (.d (.list [.int (((aJ.length:Nat):Int)-1),.int q2]))) (qq (.loc S.length)))) (S:=aM (S++[qq [nD y0]]) 0 p ns (k1+2) x3 aJ) (S1:=aM (S++[qq [nD y0]]) 0 p ns (k1+2+1+1) x5 aJ) (ds:=(yAu m).map (λ k=>yAj (k:Nat)))
  (λ j env S'=>∃ (a4:Option W) (aD:List Nat) (k:Nat) (x:Int),aD.length=j+1/\(∀ o∈aD,o<aJ.length)/\k<=k1+4+j/\env=(eQ most q p a4 (qq (.d (.list [.int (((aJ.length:Nat):Int)-1),.int q2]))) (qq (.loc S.length)))/\S'=aM (S++[qq (aD.map nD)]) 0 p ns k x aJ)
  (by
    simp only[aBj,lH,kQ,kU,kS,lA,kZ];refine qU ?_ (by omega)
    simp only[evs,e4,e5,bQ,rR,rS,eb5,ez])
  ⟨a4,[y0],k1+4,x5,rfl,λ o ho=>by rw[yBr] at ho;subst ho;exact hy0,by omega,rfl,rfl⟩ (by
   rintro j dd env S' hj ⟨a4,aD,k,x,ol,oa,hk,rfl,rfl⟩;have hj':j<m:=by simpa using hj
   have hA:=At.app h [qq (aD.map nD)];obtain⟨q6,x6,hq6,e6⟩:=eY (ns:=ns) (k:=k) (x:=x) (rs:=aJ) hA.toAt0 (d+4) aJ.length l0' (by omega) (by omega)
   refine⟨(eQ most q p (qq (.d dd)) (qq (.d (.list [.int (((aJ.length:Nat):Int)-1),.int q2]))) (qq (.loc S.length))),(eQ most q p (qq (.d dd)) (qq (.d (.list [.int (((aJ.length:Nat):Int)-1),.int q2]))) (qq (.loc S.length))),aM (S++[qq ((aD++[q6]).map nD)]) 0 p ns (k+1) x6 aJ,rfl,?_,qq (.d dd),aD++[q6],k+1,x6,by simp[ol],aND oa hq6,by omega,rfl,rfl⟩
   have ap:dF (aM (S++[qq (aD.map nD)]) 0 p ns (k+1) x6 aJ) (.loc S.length) (.d (.int q6))=qq (.d .none,aM (S++[qq ((aD++[q6]).map nD)]) 0 p ns (k+1) x6 aJ):=by
    rw[zM h,zM h,yBt];have hl:(aM S 0 p ns (k+1) x6 aJ).length=S.length:=h.toAt0.len;have:=uC (aM S 0 p ns (k+1) x6 aJ) (aD.map nD) (.int q6) (by rw[yAd];omega)
    rw[hl] at this;exact this
   simp only[evs,aBk,hA.rows,dY,dZ,GP.rows_len,e6,fF,ap])
 have hk7:k6<=k1+4+m:=by simpa using hk6
 obtain⟨T,hT⟩:=aN6 (At.app h [qq (aD.map nD)]) ns k6 x6 aJ;refine⟨aJ,aD,k6,x6,T,nx1,ok1,l0',l1',by omega,oa,aOB (by simpa using ol) hm7,?_⟩
 have p4':xs (aE fns (d+5)) (pR 4) (eQ most q p qz qz qz) (aM S 0 p ns k x rs)=qq (.nx (eQ most q p a4 qz qz),aM S 0 p ns k1 x1 aJ):=p1;have p7':xs (aE fns (d+5)) (pR 7) (eQ most q p a4 (qq (.d (.list [.int (((aJ.length:Nat):Int)-1),.int q2]))) (qq (.loc S.length))) (aM (S++[qq [nD y0]]) 0 p ns (k1+2) x3 aJ)=qq (.nx (eQ most q p a4' (qq (.d (.list [.int (((aJ.length:Nat):Int)-1),.int q2]))) (qq (.loc S.length))),aM (S++[qq (aD.map nD)]) 0 p ns k6 x6 aJ):=p4;rw[aOm,fM p4',fM p5,fM p6,fM p7',<- hT];have g2:(aM (S++[qq (aD.map nD)]) 0 p ns k6 x6 aJ)[S.length]? = qq (qq (aD.map nD)):=by
  rw[zM h];have hl:(aM S 0 p ns k6 x6 aJ).length=S.length:=h.toAt0.len;rw[<- hl];exact kP _ _
 simp only[gS5,pR,pT,bF,cC,iN,(At.app h [qq (aD.map nD)]).rows,g2,gB,fZ]
theorem aHm{fc:FT}{fb:FS}(I:Nat->aU->aF->Prop)(Q:aU->aF->Prop)(step:∀ m env S,I m env S->(∃ S1,fc env S=qq (false,S1)/\Q env S1)\/(∃ S1 aI S2 m',m'<m/\fc env S=qq (true,S1)/\fb env S1=qq (.nx aI,S2)/\I m' aI S2)):∀ (n m:Nat) (env:aU) (S:aF),m<n->I m env S->∃ aI S',gY fc fb n env S=qq (.nx aI,S')/\Q aI S'
 | 0,m,_,_,h,_=>absurd h (yDy m)
 | n+1,m,env,S,h,hI=>by
   rcases step m env S hI with ⟨S1,h1,h2⟩ | ⟨S1,aI,S2,m',h1,h2,h3,h4⟩
   ·refine⟨env,S1,?_,h2⟩;simp only[gY,h1,yBp,yAo,if_false]
   ·obtain⟨e2,S3,g1,g2⟩:=aHm I Q step n m' aI S2 (by omega) h4
    refine⟨e2,S3,?_,g2⟩;simp only[gY,h2,yBp,if_true,h3];exact g1
theorem aRu(a:Wd):(yHk a.s).canLay0=true:=by cases a<;>kernel_rfl
theorem aIN:∀ rs:List Rw,yDb (rs.map Rw.d)=true
 | []=>rfl
 | r::rs=>by
   have ih:=aIN rs;have h:(r.d).canLay0=true:=by
    show yDb (.str r.wd.s::nD r.w::r.args.map nD)=true;simp only[yDb,aRu,yAn];exact rT (r.w::r.args)
   simp only[yAt,yDb,ih,h,yCf]
theorem aIs:∀ rs:List Rw,yBu (rs.map Rw.d)<=1
 | []=>yEx _
 | r::rs=>by
   have ih:=aIs rs;simp only[yAt,yBu];refine Nat.max_le.mpr ⟨?_,ih⟩;show yBu (.str r.wd.s::(r.w::r.args).map nD)+1<=1;simp only[yBu];rw[rB];exact yAb _
theorem aDp(rs:List Rw):aV .Eq (.list (rs.map Rw.d)) (.list [])=qq (.bool rs.isEmpty):=by
 have h1:(yDs (rs.map Rw.d)).canLay0=true:=aIN rs;have h2:(yDs (rs.map Rw.d)).depth<=60:=by
  show yBu (rs.map Rw.d)+1<=60;have:=aIs rs;omega
 unfold aV lI;simp only[];rw[if_pos ⟨h1,rfl,h2⟩];cases rs<;>rfl
theorem aNr{l:List D}{x:D}:aH (.list (l++[x])) (.int (-1))=qq x:=by
 show(hU (l++[x]).length (-1)).bind (λ j=>(l++[x])[j]?)=_
 unfold hU;have hl:(l++[x]).length=l.length+1:=by simp
 rw[hl,if_neg (by decide),if_pos (by omega),oB,show((-1:Int)+((l.length+1:Nat):Int)).toNat=l.length by omega,yAe (yAb _),yBb]
 rfl
theorem aHy(rs t:List Rw):bX (rs++t)=bX rs++bX t:=by
 unfold bX;rw[List.filter_append,yBt]
theorem aSD{t:List Rw}(h:GP.noIn t):bX t=[]:=by
 unfold bX;rw[List.filter_eq_nil_iff.mpr λ r hr=>by simpa using h r hr]
 rfl
theorem A2:At [qz,qz] 0 1:=⟨⟨by decide,by decide⟩,by decide⟩
noncomputable abbrev eS(most m:Nat):aU:=[qq (.loc 0),qq (.d (.int most)),qq (.d (.int m)),qq (.loc 1),qz,qz,qz]
theorem aNu(d most room:Nat)(ns:List Int)(k:Nat)(x:Int)(hm:most<=30)(hr8:room<=8)(hk:k<=10000):∃ (rs:List Rw) (aD:List Nat) (k':Nat) (x':Int),dN [] rs/\0<rs.length/\rs.length<=40/\(∀ o∈aD,o<rs.length)/\aD.length<=8/\(bX rs).sum<=8/\k'<=k+1000/\cl fns (d+6) 75 [.loc 0,.d (.int most),.d (.int room)] [qq (bG ns k x)]=qq (.d (rs<*(aD*>nD)),[qq (bG ns k' x')]):=by
 obtain⟨aI,S',pw,m,rs,k1,x1,ok,hs,hl,hk1,rfl,rfl⟩:=aHm (fc:=tv (aE fns (d+5)) qP) (fb:=xs (aE fns (d+5)) xN)
  (λ m env S=>∃ (rs:List Rw) (k':Nat) (x':Int),dN [] rs/\(bX rs).sum+m<=room/\rs.length+m<=room/\k'+2*m<=k+2*room/\env=eS most m/\S=aM [qz,qz] 0 1 ns k' x' rs)
  (λ env S=>∃ (m:Nat) (rs:List Rw) (k':Nat) (x':Int),dN [] rs/\(bX rs).sum<=room/\rs.length<=room/\k'<=k+2*room+1/\env=eS most m/\S=aM [qz,qz] 0 1 ns k' x' rs)
  (by
    rintro m env S ⟨rs,k',x',ok,hs,hl,hk',rfl,rfl⟩;have er:=aDp rs;have hrows:=A2.rows (ns:=ns) (k:=k') (x:=x') (rs:=rs)
    by_cases c0:m=0
    ·subst c0;have d0:decide ((0:Int)<((0:Nat):Int))=false:=rfl;refine .inl ⟨_,?_,0,rs,k',x',ok,by omega,by omega,by omega,rfl,rfl⟩
     simp only[gS1,qP,gM,d0]
    have d0:decide ((0:Int)<((m:Nat):Int))=true:=dqT (by omega)
    have body:∀ (k2:Nat) (x2:Int),k2<=k'+1->∃ aI S2 m',m'<m/\xs (aE fns (d+5)) xN (eS most m) (aM [qz,qz] 0 1 ns k2 x2 rs)=qq (.nx aI,S2)/\∃ (rs:List Rw) (k':Nat) (x':Int),dN [] rs/\(bX rs).sum+m'<=room/\rs.length+m'<=room/\k'+2*m'<=k+2*room/\aI=eS most m'/\S2=aM [qz,qz] 0 1 ns k' x' rs:=λ k2 x2 hk2=>by
     obtain⟨q,x3,hq,e⟩:=eY (ns:=ns) (k:=k2) (x:=x2) (rs:=rs) A2.toAt0 (d+4) m (by omega) (by omega) (by omega)
     have f1:(1:Int)+(q:Int)=((1+q:Nat):Int):=by omega
     have ap:dF (aM [qz,qz] 0 1 ns (k2+1) x3 rs) (.loc 1) (.d (.tuple [.str "in",.int ((1+q:Nat):Int)]))=qq (.d .none,aM [qz,qz] 0 1 ns (k2+1) x3 (rs++[⟨.in,1+q,[]⟩])):=GP.app_row A2 (by omega) ⟨.in,1+q,[]⟩
     have h2:=A2.rows (ns:=ns) (k:=k2+1) (x:=x3) (rs:=rs++[⟨.in,1+q,[]⟩]);have il:aH (.list ((rs++[(⟨.in,1+q,[]⟩:Rw)]).map Rw.d)) (.int (-1))=qq (Rw.d ⟨.in,1+q,[]⟩):=by
      rw[yBt];exact aNr
     have i1:=gG ⟨.in,1+q,[]⟩;have un:nK .USub (.int 1)=qq (.int (-1)):=rfl;have f2:((m:Nat):Int)-((1+q:Nat):Int)=((m-(1+q):Nat):Int):=by omega
     have iw:(bX (rs++[(⟨.in,1+q,[]⟩:Rw)])).sum=(bX rs).sum+(1+q):=by
      rw[aHy,List.sum_append];have:bX [(⟨.in,1+q,[]⟩:Rw)]=[1+q]:=rfl;rw[this,List.sum_singleton]
     refine⟨eS most (m-(1+q)),aM [qz,qz] 0 1 ns (k2+1) x3 (rs++[⟨.in,1+q,[]⟩]),m-(1+q),by omega,?_,rs++[⟨.in,1+q,[]⟩],k2+1,x3,xU ok ⟨by show 1<=1+q;omega,by show 1+q<=64;omega,True.intro⟩,by rw[iw];omega,by rw[xAo];show rs.length+1+_<=_;omega,by omega,rfl,rfl⟩
     simp only[gS1,xN,e,cW,f1,fF,ap,h2,un,il,i1,cS,f2]
    cases hE:rs.isEmpty with
    | true =>
      rw[hE] at er;obtain⟨aI,S2,m',g1,g2,g3⟩:=body k' x' (by omega)
      refine .inr ⟨_,aI,S2,m',g1,?_,g2,g3⟩;simp only[gS1,qP,gM,d0,hrows,er]
    | false =>
      rw[hE] at er;obtain⟨q,x3,hq,e⟩:=gL (ns:=ns) (k:=k') (x:=x') (rs:=rs) A2.toAt0 (d+4) 3 (i:=3) rfl (by decide) (by decide) (by omega)
      by_cases cq:0<q
      ·have dq:decide ((0:Int)<(q:Int))=true:=dqT (by omega)
       obtain⟨aI,S2,m',g1,g2,g3⟩:=body (k'+1) x3 (by omega)
       refine .inr ⟨_,aI,S2,m',g1,?_,g2,g3⟩;simp only[gS1,qP,gM,d0,hrows,er,e,dq]
      ·have dq:decide ((0:Int)<(q:Int))=false:=dqF (by omega)
       refine .inl ⟨aM [qz,qz] 0 1 ns (k'+1) x3 rs,?_,m,rs,k'+1,x3,ok,by omega,by omega,by omega,rfl,rfl⟩
       simp only[evs,qP,gM,d0,hrows,er,e,dq])
  100000 room (eS most room) (aM [qz,qz] 0 1 ns k x []) (by omega) ⟨[],k,x,trivial,by show 0+room<=room;omega,by show 0+room<=room;omega,yAb _,rfl,rfl⟩
 have er:=aDp rs;have hrows:=A2.rows (ns:=ns) (k:=k1) (x:=x1) (rs:=rs);obtain⟨rs2,k2,x2,ok2,l2,ll2,w2,hk2,e2⟩:∃ (rs2:List Rw) (k2:Nat) (x2:Int),dN [] rs2/\0<rs2.length/\rs2.length<=40/\(bX rs2).sum<=8/\k2<=k+2*room+2/\xs (aE fns (d+5)) (pR 2) (eS most m) (aM [qz,qz] 0 1 ns k1 x1 rs)=qq (.nx (eS most m),aM [qz,qz] 0 1 ns k2 x2 rs2):=by
  cases hE:rs.isEmpty with
  | false =>
    rw[hE] at er;refine⟨rs,k1,x1,ok,?_,by omega,by omega,by omega,?_⟩
    ·cases rs with
     | nil=>cases hE
     | cons _ _=>simp
    ·simp only[gS4,pR,cC,bF,iN,hrows,er]
  | true =>
    rw[hE] at er;have hn:rs=[]:=List.isEmpty_iff.mp hE;subst hn;obtain⟨q,x3,hq,e⟩:=gL (ns:=ns) (k:=k1) (x:=x1) (rs:=[]) A2.toAt0 (d+4) 64 (i:=64) rfl (by decide) (by decide) (by omega)
    have ap:dF (aM [qz,qz] 0 1 ns (k1+1) x3 []) (.loc 1) (.d (.tuple [.str "num",.int 6,.int q]))=qq (.d .none,aM [qz,qz] 0 1 ns (k1+1) x3 [⟨.num,6,[q]⟩]):=GP.app_row A2 (by simp) ⟨.num,6,[q]⟩
    have er0:aV .Eq (.list []) (.list [])=qq (.bool true):=aDp [];have hr0:(aM [qz,qz] 0 1 ns k1 x1 [])[1]? = qq (qq []):=rfl;refine⟨[(⟨.num,6,[q]⟩:Rw)],k1+1,x3,⟨⟨(by decide:1<=6),(by decide:6<=64),(show q<2^6 from hq)⟩,True.intro⟩,by simp,by simp,yEx _,by omega,?_⟩
    simp only[gS4,pR,cC,bF,iN,hr0,er0,e,fF,ap]
 obtain⟨aJ,aD,k',x',T,⟨t,rfl,mt⟩,h1,h2,h3,h4,h6,h7,h5⟩:=aUE A2 (ns:=ns) (k:=k2) (x:=x2) (rs:=rs2) d most m hm ok2 l2 ll2 (by omega)
 refine⟨rs2++t,aD,k',x',h1,h2,h3,h6,h7,by rw[aHy,aSD mt,yDd];exact w2,by omega,?_⟩
 have full:xs (aE fns (d+5)) iN [qq (.loc 0),qq (.d (.int most)),qq (.d (.int room)),qz,qz,qz,qz] [qq (bG ns k x)]=qq (.rt (.d (.tuple [.tuple ((rs2++t).map Rw.d),(aD*>nD)])),qq (bG ns k' x')::T):=by
  have p0:xs (aE fns (d+5)) (pR 0) [qq (.loc 0),qq (.d (.int most)),qq (.d (.int room)),qz,qz,qz,qz] [qq (bG ns k x)]=qq (.nx (eS most room),aM [qz,qz] 0 1 ns k x []):=rfl;have p1:xs (aE fns (d+5)) (pR 1) (eS most room) (aM [qz,qz] 0 1 ns k x [])=qq (.nx (eS most m),aM [qz,qz] 0 1 ns k1 x1 rs):=pw;rw[aPn,fM p0,fM p1,fM e2];exact h5
 rw[aY rfl (d+5) _ _ rfl];show((xs (aE fns (d+5)) iN [qq (.loc 0),qq (.d (.int most)),qq (.d (.int room)),qz,qz,qz,qz] [qq (bG ns k x)]).bind _)=_;rw[full];rfl
section
variable {rs : List Rw}{F : List Ft}{r : Rw}{a b : Nat}{aD : List Nat}
theorem aMp(d:Nat)(p:Prg rs)(hF:F.length=rs.length)(eF:∀ S,cl fns (d+10) 50 [.d (rs<*(aD*>nD))] S=qq (.d (F*>Ft.d),S))(hr:rs[a]? = qq r)(hb:b<r.w)(ho:∀ o∈aD,o<rs.length)(hol:aD.length<=8)(ts:List (List Nat))(hl:ts.length<=1000)(hi:∀ is∈ts,bT rs is)(S:aF):cl fns (d+12) 79 [.d (rs<*(aD*>nD)),.d (ts*>tN),.d (.list (ts.map (oN rs aD))),.d (.tuple ((bK rs F aD).map nD)),.d (.tuple [.int a,.int b])] S=qq (.d (.bool true),S):=by
 have ha:a<rs.length:=(gIm hr).1;obtain⟨few,hfew⟩:∃ few,few=ts.filter λ is=>!dX rs aD a b is:=⟨_,rfl⟩
 have fa:∀ is∈few,is∈ts/\dX rs aD a b is=false:=λ is h=>by
  rw[hfew] at h;obtain⟨h1,h2⟩:=List.mem_filter.mp h;exact⟨h1,by simpa using h2⟩
 obtain⟨y,hy,ey⟩:=aFY (F:=F) (a:=a) (b:=b) (aD:=aD) d p hF eF hr hb ho hol few (λ is h=>hi is (fa is h).1) S
 have lo:=λ is (h:is∈ts) S=>aGO (d+5) p ho hol (hi is h) hr hb S
 have bd:=uQ (F:=F) p ho;have em:=zT (M:=bK rs F aD) (i:=a) (by rw[bd.l];exact ha)
 have z:=sI ((bK rs F aD).getD a 0) b;have hz:=aDT tN (oN rs aD) ts;obtain⟨P,hP⟩:∃ P:D,P=(rs<*(aD*>nD)):=⟨_,rfl⟩;simp only[<- hP] at ey lo ⊢;obtain⟨Pl,hPl⟩:∃ Pl:D,Pl=.tuple [.int a,.int b]:=⟨_,rfl⟩;have q0:aH Pl (.int 0)=qq (.int a):=by rw[hPl];rfl
 have q1:aH Pl (.int 1)=qq (.int b):=by rw[hPl];rfl
 simp only[<- hPl] at lo ⊢;have hc:lv (aE fns (d+11)) aEo [qq (.d P),qq (.d (ts*>tN)),qq (.d (.list (ts.map (oN rs aD)))),qq (.d (.tuple ((bK rs F aD).map nD))),qq (.d Pl),qz,qz,qz,qz] S=qq (few.map tN,S):=by
  rw[hfew];refine zE (fi:=lv (aE fns (d+11)) (.zip (.var 1) (.var 2))) (fc:=tv (aE fns (d+11)) (.cmp .Eq (.call 77 (.cons (.var 0) (.cons (.var 7) (.cons (.var 4) .nil)))) (.var 8))) (fe:=ev (aE fns (d+11)) (.var 7)) (λ is=>yBm [tN is,oN rs aD is]) tN (λ is=>!dX rs aD a b is) ts ?_ (by rw[zx];omega) λ is hm=>?_
  ·simp only[gS0,hz]
  ·refine⟨[qq (.d P),qq (.d (ts*>tN)),qq (.d (.list (ts.map (oN rs aD)))),qq (.d (.tuple ((bK rs F aD).map nD))),qq (.d Pl),qz,qz,qq (.d (tN is)),qq (.d (oN rs aD is))],rfl,λ aC=>?_,λ _ aC=>rfl⟩
   have lo':=lo is hm (S++[qq aC]);have ee:aV .Eq (.list ((aD.map (g0 (bO rs (~~~rs) is (fG rs.length a b) []))).map nD)) (oN rs aD is)=qq (.bool (!dX rs aD a b is)):=by
    have:=aQN (aD.map (g0 (bO rs (~~~rs) is (fG rs.length a b) []))) (aD.map (g0 (cL rs (~~~rs) is [])));unfold dX;rw[Bool.not_not];exact this
   simp only[gS0,lo',ee]
 have nt:true ∉ few.map (dX rs aD a b):=λ h=>by
  obtain⟨is,h1,h2⟩:=List.mem_map.mp h;rw[(fa is h1).2] at h2;cases h2
 generalize (bK rs F aD).map nD=Mk at *;refine cG (env:=[qq (.d P),qq (.d (ts*>tN)),qq (.d (.list (ts.map (oN rs aD)))),qq (.d (.tuple Mk)),qq (.d Pl),qz,qz,qz,qz]) rfl (d+11) rfl rfl yAf ?_;refine gP (e1:=[qq (.d P),qq (.d (ts*>tN)),qq (.d (.list (ts.map (oN rs aD)))),qq (.d (.tuple Mk)),qq (.d Pl),qq (.d (.list (few.map tN))),qz,qz,qz]) (S1:=S) (by simp only[rJ,fR,hJ,hc,oB];rfl) ?_
 refine cF (w:=.d (.bool (((bK rs F aD).getD a 0).testBit b))) (S1:=S) ?_ rfl (bH ?_)
 ·simp only[gS0,q0,q1,em,fL,nM,bQ,z]
 generalize ts.map (oN rs aD)=o1 at *;generalize ts.map tN=o2 at *;generalize few.map tN=o3 at *;rcases hy with ⟨h1,_⟩ | ⟨_,h⟩
 ·exact absurd h1 nt
 rcases h with ⟨h2,rfl⟩ | ⟨h2,t,h3,h4,rfl⟩
 ·rw[h2];have j0:aH (.tuple [.str "unasked",.tuple []]) (.int 0)=qq (.str "unasked"):=rfl;have k0:aH (.list [.str "unasked",.str "way"]) (.int 0)=qq (.str "unasked"):=rfl;have eu:=aUn;simp only[gS0,q0,q1,gB,fZ,ey,j0,rR,rS,k0,eu]
 ·rw[h2];have j0:aH (.tuple [.str "way",.tuple (((a,b)::t).map pD)]) (.int 0)=qq (.str "way"):=rfl;have k0:aH (.list [.str "unasked",.str "way"]) (.int 1)=qq (.str "way"):=rfl;have eu:=aIO;generalize yBm [.str "way",.tuple (((a,b)::t).map pD)]=Q at *;simp only[gS0,q0,q1,gB,fZ,ey,j0,rR,rS,k0,eu]
end
noncomputable abbrev wR(sc:D)(many room most:Nat)(P T O M:D)(c9 c10 c11:Option W):aU:=[qq (.d sc),qq (.loc 0),qq (.d (.int many)),qq (.d (.int room)),qq (.d (.int most)),qq (.d P),qq (.d T),qq (.d O),qq (.d M),c9,c10,c11,qz]
noncomputable abbrev xF(sc:D)(a b c:Nat)(c5 c6 c7:Option W):aU:=[qq (.d sc),qq (.loc 0),qq (.d (.int a)),qq (.d (.int b)),qq (.d (.int c)),c5,c6,c7,qz,qz,qz,qz,qz]
theorem aRo(d:Nat)(ns:List Int)(h1:ns.length<=63):∃ S',cl fns (d+13) 80 [.d (.list (ns.map yAj))] []=qq (.d (.bool true),S'):=by
 obtain⟨t0,ht0,et⟩:∃ t:Nat,t<=30/\(1:Int)+(if (14:Int)<((ns.length:Nat):Int) then 14 else ((ns.length:Nat):Int))=((t:Nat):Int):=by
  refine⟨1+min ns.length 14,by omega,?_⟩
  split<;>omega
 have mn:pY [.int ((ns.length:Nat):Int),.int 14]=qq (.int (if (14:Int)<((ns.length:Nat):Int) then 14 else ((ns.length:Nat):Int))):=rfl
 have lN:iT [.list (ns.map yAj)]=qq (.int ns.length):=by
  show qq (yAj (((ns.map yAj).length:Nat):Int))=_;rw[yAd]
 have dq:∀ (k m:Nat) (x:Int),0<m->m<2^64->k<=90000->∃ (q:Nat) (x':Int),q<m/\cl fns (d+12) 65 [.loc 0,.d (.int m)] [qq (bG ns k x)]=qq (.d (.int q),[qq (bG ns (k+1) x')]):=λ k m x a b c=>aTh (ns:=ns) (k:=k) (x:=x) [] (by simp) (d+11) m a b (by omega)
 obtain⟨q0,x0,hq0,e0⟩:=dq 0 3 0 (by decide) (by decide) (by decide)
 have e0':cl fns (d+12) 65 [.loc 0,.d (.int 3)] [qq (bG ns 0 0)]=qq (.d (.int q0),[qq (bG ns 1 x0)]):=e0;have f0:(1:Int)+(q0:Int)=((1+q0:Nat):Int):=by omega
 obtain⟨q1,x1,hq1,e1⟩:=dq 1 5 x0 (by decide) (by decide) (by decide)
 have e1':cl fns (d+12) 65 [.loc 0,.d (.int 5)] [qq (bG ns 1 x0)]=qq (.d (.int q1),[qq (bG ns 2 x1)]):=e1;obtain⟨q2,x2,hq2,e2⟩:=dq 2 8 x1 (by decide) (by decide) (by decide)
 have e2':cl fns (d+12) 65 [.loc 0,.d (.int 8)] [qq (bG ns 2 x1)]=qq (.d (.int q2),[qq (bG ns 3 x2)]):=e2;obtain⟨q3,x3,hq3,e3⟩:=dq 3 3 x2 (by decide) (by decide) (by decide)
 have e3':cl fns (d+12) 65 [.loc 0,.d (.int 3)] [qq (bG ns 3 x2)]=qq (.d (.int q3),[qq (bG ns 4 x3)]):=e3;have f3:(1:Int)+(q3:Int)=((1+q3:Nat):Int):=by omega
 obtain⟨sc,hsc⟩:∃ sc:D,sc=.list (ns.map yAj):=⟨_,rfl⟩;have s0:xs (aE fns (d+12)) (cC jF) [qq (.d (.list (ns.map yAj))),qz,qz,qz,qz,qz,qz,qz,qz,qz,qz,qz,qz] []=qq (.nx [qq (.d (.list (ns.map yAj))),qq (.loc 0),qz,qz,qz,qz,qz,qz,qz,qz,qz,qz,qz],[qq (bG ns 0 0)]):=by
  simp only[gS2,cC,jF,fD]
 rw[<- hsc] at s0 lN ⊢;obtain⟨many,room,most,k4,x4,m1,m3,r8,t30,hk4,s4⟩:∃ (many room most k4:Nat) (x4:Int),1<=many/\many<=3/\room<=8/\most<=30/\k4<=4/\xs (aE fns (d+12)) (cC (bF (bF (bF (bF jF))))) (xF sc (1+q0) q1 t0 qz qz qz) [qq (bG ns 2 x1)]=qq (.nx (xF sc many room most qz qz qz),[qq (bG ns k4 x4)]):=by
  rcases yCr ((q2:Int)==1) with c | c
  ·refine⟨1,8,1+q3,4,x3,by decide,by decide,by decide,by omega,by decide,?_⟩
   simp only[gS3,cC,bF,jF,e2',bQ,c,e3',cW,f3]
  ·refine⟨1+q0,q1,t0,3,x2,by omega,by omega,by omega,ht0,by decide,?_⟩
   simp only[gS3,cC,bF,jF,e2',bQ,c]
 obtain⟨rs,aD,k5,x5,ok,l0,l1,ho,hol,h8,hk5,e5⟩:=aNu (d+6) most room ns k4 x4 t30 r8 (by omega)
 have p:=aSk ok (by omega)
 have lR:=aJW rs;have ta:=aMV (d+9) p (aD*>nD) h8 [qq (bG ns k5 x5)];obtain⟨ts,hts⟩:∃ ts,ts=(yAu (2^(bX rs).sum)).map λ c=>iI c (bX rs):=⟨_,rfl⟩
 have tl:ts.length<=1000:=by
  rw[hts,yAd,yFs];have:2^(bX rs).sum<=2^8:=yAl (by decide) h8
  omega
 have hi:∀ is∈ts,bT rs is:=λ is h=>by
  rw[hts] at h;obtain⟨c,_,rfl⟩:=List.mem_map.mp h;exact aCi rs c
 rw[<- hts] at ta;obtain⟨F,hF,sd,eF⟩:=aMn rs (aD*>nD) p;have eFd:∀ (m:Nat) S,cl fns (d+m+9) 50 [.d (rs<*(aD*>nD))] S=qq (.d (F*>Ft.d),S):=λ m S=>eF (d+m) S
 have eF3:=eFd 3 [qq (bG ns k5 x5)];obtain⟨bd,ak⟩:=aGI (d+5) p hF aD ho [qq (bG ns k5 x5)];have lno:=λ is (h:is∈ts) S=>aNg (d+6) p ho hol (hi is h) S
 have ri:=λ {a b:Nat}{r:Rw} (hr:rs[a]? = qq r) (hb:b<r.w) S=>aNb (F:=F) d p sd hF (eFd 1) hr hb ho hol ts tl hi S
 have be:=λ {a b:Nat}{r:Rw} (hr:rs[a]? = qq r) (hb:b<r.w) S=>aMp (F:=F) d p hF (eFd 1) hr hb ho hol ts tl hi S
 have i0:aH (rs<*(aD*>nD)) (.int 0)=qq (rs*>Rw.d):=rfl;obtain⟨P,hP⟩:∃ P:D,P=(rs<*(aD*>nD)):=⟨_,rfl⟩;simp only[<- hP] at e5 ta eF3 ak lno ri be i0;have hcO:lv (aE fns (d+12)) aCh (xF sc many room most (qq (.d P)) (qq (.d (ts*>tN))) qz) [qq (bG ns k5 x5)]=qq (ts.map (oN rs aD),[qq (bG ns k5 x5)]):=by
  refine nU (fi:=lv (aE fns (d+12)) (.it (.var 6))) (fe:=ev (aE fns (d+12)) (.call 77 (.cons (.var 5) (.cons (.var 12) (.cons (.tup (.cons (.un .USub (.int 1)) (.cons (.int 0) .nil))) .nil))))) tN (oN rs aD) ts ?_ (by rw[zx];omega) λ is h=>?_
  ·simp only[gS0,fV]
  ·refine⟨_,rfl,λ S'=>?_⟩
   have lo':=lno is h S';have un:nK .USub (.int 1)=qq (.int (-1)):=rfl;simp only[gS0,clr,yBl,yCh,un,lo']
 obtain⟨M,hM⟩:∃ M:D,M=.tuple ((bK rs F aD).map nD):=⟨_,rfl⟩;simp only[<- hM] at ak ri be;obtain⟨T,hT⟩:∃ T:D,T=(ts*>tN):=⟨_,rfl⟩;simp only[<- hT] at ta ri be hcO;obtain⟨O,hO⟩:∃ O:D,O=.list (ts.map (oN rs aD)):=⟨_,rfl⟩;simp only[<- hO] at ri be;obtain⟨aI,S2,e7,k7,x7,c9,c10,c11,hk7,hc11,rfl,rfl⟩:=mG (t:=.one 9) (fi:=lv (aE fns (d+12)) aCw) (fb:=xs (aE fns (d+12)) aCv) (env:=wR sc many room most P T O M qz qz qz) (S:=[qq (bG ns k5 x5)]) (S1:=[qq (bG ns k5 x5)]) (ds:=(yAu many).map λ k=>yAj ((k:Nat):Int))
  (λ j env S=>∃ (k':Nat) (x':Int) (c9 c10 c11:Option W),k'<=k5+2*j/\(j=0\/∃ (a b:Nat) (r:Rw),rs[a]? = qq r/\b<r.w/\c11=qq (.d (.tuple [.int a,.int b])))/\env=wR sc many room most P T O M c9 c10 c11/\S=[qq (bG ns k' x')])
  (by
    simp only[aCw,lH,kQ,kU,kS,lA,kZ];exact qU (by simp only[evs]) (by omega))
  ⟨k5,x5,qz,qz,qz,by omega,.inl rfl,rfl,rfl⟩ (by
   rintro j dd env S hd ⟨k',x',c9,c10,c11,hk',_,rfl,rfl⟩;obtain⟨hj,rfl⟩:=aB6 hd;obtain⟨a,x8,ha,e8⟩:=dq k' rs.length x' l0 (by omega) (by omega)
   have hr:rs[a]? = qq rs[a]:=yAa ha;generalize rs[a]=r at hr;obtain⟨w1,w2⟩:=p.ws a r hr;obtain⟨b,x9,hb,e9⟩:=dq (k'+1) r.w x8 w1 (by omega) (by omega)
   have ra:aH (rs*>Rw.d) (.int a)=qq r.d:=iZ (by rw[xAb,hr];rfl)
   have rw1:=gG r;have ri':=ri hr hb [qq (bG ns (k'+1+1) x9)];refine⟨wR sc many room most P T O M (qq (.d (.int j))) c10 c11,wR sc many room most P T O M (qq (.d (.int j))) (qq (.d (.int a))) (qq (.d (.tuple [.int a,.int b]))),[qq (bG ns (k'+1+1) x9)],rfl,?_,k'+1+1,x9,_,_,_,by omega,.inr ⟨a,b,r,hr,hb,rfl⟩,rfl,rfl⟩
   simp only[evs,aCv,i0,lR,e8,ra,rw1,e9,ri'])
 rw[yAd,yFs] at hc11;obtain⟨a,b,r,hr,hb,rfl⟩:∃ (a b:Nat) (r:Rw),rs[a]? = qq r/\b<r.w/\c11=qq (.d (.tuple [.int a,.int b])):=by
  rcases hc11 with h | h
  ·omega
  ·exact h
 have be':=be hr hb [qq (bG ns k7 x7)];have s6:xs (aE fns (d+12)) (.setC false 7 aCh) (xF sc many room most (qq (.d P)) (qq (.d T)) qz) [qq (bG ns k5 x5)]=qq (.nx (xF sc many room most (qq (.d P)) (qq (.d T)) (qq (.d O))),[qq (bG ns k5 x5)]):=by
  rw[hO];simp only[rJ,fR,hJ,hcO,oB];rfl
 have e:jF=.seq (cC jF) (bF jF):=rfl;have s1:xs (aE fns (d+12)) (bF jF) [qq (.d sc),qq (.loc 0),qz,qz,qz,qz,qz,qz,qz,qz,qz,qz,qz] [qq (bG ns 0 0)]=qq (.rt (.d (.bool true)),[qq (bG ns k7 x7)]):=by
  refine cF (w:=.d (.int ((1+q0:Nat):Int))) (S1:=[qq (bG ns 1 x0)]) ?_ rfl (cF (w:=.d (.int q1)) (S1:=[qq (bG ns 2 x1)]) ?_ rfl (cF (w:=.d (.int t0)) (S1:=[qq (bG ns 2 x1)]) ?_ rfl (gP s4 ?_)))
  ·simp only[gS0,e0',cW,f0]
  ·simp only[gS0,e1']
  ·simp only[gS0,lN,mn,cW,et]
  refine cF (w:=.d P) (S1:=[qq (bG ns k5 x5)]) ?_ rfl (cF (w:=.d T) (S1:=[qq (bG ns k5 x5)]) ?_ rfl (gP s6 (cF (w:=.d M) (S1:=[qq (bG ns k5 x5)]) ?_ rfl (gP (e1:=wR sc many room most P T O M c9 c10 (qq (.d (.tuple [.int a,.int b])))) (S1:=[qq (bG ns k7 x7)]) e7 (bH ?_)))))
  ·simp only[gS0,e5]
  ·simp only[gS0,ta]
  ·simp only[gS0,eF3,ak]
  ·simp only[gS0,be']
 refine⟨[],?_⟩;rw[aY rfl (d+12) _ [] rfl];have full:xs (aE fns (d+12)) jF [qq (.d sc),qz,qz,qz,qz,qz,qz,qz,qz,qz,qz,qz,qz] []=qq (.rt (.d (.bool true)),[qq (bG ns k7 x7)]):=by
  rw[e,fM s0,s1]
 show((xs (aE fns (d+12)) jF [qq (.d sc),qz,qz,qz,qz,qz,qz,qz,qz,qz,qz,qz,qz] []).bind _)=_;rw[full];rfl
theorem main(ns:List Int)(h1:ns.length<=63)(h2:∀ i∈ns,yAi i<=1048576):∃ call S',aE fns 14 80=qq (1,call)/\call [.d (.list (ns.map yAj))] []=qq (.d (.bool true),S'):=by
 obtain⟨S',e⟩:=aRo 1 ns h1;exact aO3 (d:=13) rfl rfl e
theorem oks:∀ F∈fns,aAO fns tbs F=true:=by decide +kernel
theorem bok:∀ F∈fns,aDi F=true:=by decide +kernel
theorem binds:∀ F∈fns,aCA F:=λ F hF=>aNv (bok F hF)
end K83
structure PySem.W.Fast:Prop where (tw3175131792908859072 tw4454697801681018362 tw4375896100122725548 tw12134536592704063284 tw103639682153534943 tw10638768000379477080 tw13603650154172733945 tw9193637962009271836 tw16606258997595385861 tw3122611768652566353 tw12675956756401110879 tw3991332967268159643 tw3327729464555750095 tw10325982203257886503 tw7491599697413245176 tw3994574104297964827 tw6475276466152825777 tw8882512108007300253 tw16368738945597031032 tw5277424144542109533 tw11061925529298990903 tw2833391644126930105 tw15459080540469418870 tw16097537122491347205 tw5416056879061742889 tw1915326164691386992 tw15926774237674800872 tw11638509265218925770 tw12909898646161702427 tw10652353461345874643 tw13724270262207696085 tw12469508646882164569 tw10828912092465613752 tw17393716160290280920 tw16152392315765653522 tw13679911960613066891 tw12530967516870165413 tw9120751411783909258 tw3626174709517704058 tw16866244958954439197 tw13212602140193056468 tw15753671914924323424 tw10839488491355411257 tw15525603039474243456 tw13782341340014445795 tw13208593082538464252 tw5389475757227424037 tw13656042972392947389 tw11716824571132027750 tw11943163936133293462 tw9042133357001509466 tw1340050370084084850 tw14200587959585869365 tw648343865043463867 tw9258728225940504962 tw5814880788776087696 tw14746259722976629175 tw9498623294259365502 tw1408706878204353956 tw8272251881891092129 tw11306270697296889643 tw16673677163019732036 tw986622082589738036 tw13290374506184492823 tw1425339617889133808 tw14872027637898452928 tw16220228335922290755 tw10121000748600431939 tw10063763008396712075 tw12305483370929891216 tw4253700679432756367 tw5507432408789660906 tw17471026405473122317 tw4276692629204733923 tw7951072217501907833 tw1138866169008901639 tw14020135105637985859 tw4072147080305669647 tw2102064135071100057 tw17199393285281021382 tw14185677138112161671 tw5507335358579066127 tw12803237967920821740 tw17727633645661108038 tw18172201029263047310 tw5932900589319067403 tw18081480870127546378 tw9674411879205920282 tw10511967406756715749 tw14322549995783630246 tw11751738532726601200 tw8052742407394746902 tw2869571746701211201 tw18280827172803272386 tw16878659971002247033 tw13598849479559572596 tw3408408916964456726 tw13208918384889048958 tw98371943616852726 tw14923888137457009970 tw6607664300125062027 tw17913996149521508674 tw58633435182636287 tw4044988173777953984 tw6186234777658253809 tw1251654566412074296 tw15699822701725735271 tw12507747202414257834 tw6242342715210714479 tw16135775525791696633 tw16926270146868435198 tw2813866902926293593 tw16559843267739142173 tw6977873516720570497 tw12160732049062578001 tw6802960762183393546 tw14054904554227850609 tw13510150811947891886 tw968403254531363281 tw1592163595313772805 tw17634582304852258085 tw5314924768308373954 tw14108674445513714613 tw17892752615212332637 tw7888595095692093747 tw16611518249479359025 tw3673656808015596738 tw6384174494734818072 tw14020220228347374976 tw3926941816612274058 tw4728571475750168083 tw2018067777327939040 tw3995038461906378716 tw7067721711356227072 tw16778213032874358284 tw3164128949855326023 tw747798762921533828 tw12597800746660053790 tw2545901783150115022 tw18143316374877835203 tw8837680834338152324 tw13970809762525160999 tw15061379065494816595 tw17849203263483542597 tw8005996253909688246 tw6585472502989081855 tw216630690089183310 tw3599926648158558059 tw17278134086534259150 tw18047690643069649569 tw7334671040693670006 tw7560550134466686938 tw18108657249298941111 tw15946923274748463117 tw3302012777521910727 tw12899098858648978120 tw11134863595768961444 tw6369669735783473355 tw9481649313293375123 tw13070306624972331179 tw12122803666479654717 tw984316058378231996 tw16797111222325035029 tw16962710251177930154 tw7691343784695370559 tw3787171031354399686 tw5620610406302643172 tw14668662439087107356 tw5846992616130659913 tw2100623048491166711 tw13921033461110847907 tw5100150589781997108 tw17907599482552206926 tw5839456497578543838 tw18009108237042058895 tw10841430238140444504 tw14998397671254429460 tw959219788127910740 tw8675406262053796218 tw3759095878592961892 tw1645500277708824218 tw15659603234915966010 tw7347154658052115873 tw14223253983187963616 tw5334749401267585143 tw14061321360298496815 tw15889648606556020464 tw9685901971486116153 tw4600421139535399285 tw7679817423803920169 tw17206544347428049568 tw15023361580400003032 tw10918259851752485366 tw16159017331832747844 tw13201395787777095868 tw9105680642425943439 tw14259896565466692187 tw15297489547468915387 tw301930449542221316 tw18114233640420884759 tw4908060678910689246 tw14967636808156469190 tw13713973675513665480 tw18373809804789684627 tw17336653269975994071 tw11506554359909760423 tw18227049580565764478 tw5532445874888615549 tw13015149377724063779 tw14144078154542965520 tw2688008459089608231 tw9184628774546363012 tw14306172900295321519 tw4939296378115037521 tw8653475968565147028 tw15462882064411786653 tw16508366512264784944 tw14443944023829966680 tw10990285963944307004 tw6760924951451908029 tw1422453908880902384 tw996423472371519849 tw7102153815789959806 tw1337723549572489451 tw15526496692278899916 tw9691076918464033869 tw17781951553794576534 tw13409992003477938171 tw15205079439320823931 tw353107900507663898 tw1323368954863784137 tw8102735888022683381 tw17683006481915414473 tw9490260139904962947 tw419685617146076222 tw8555018498377639974 tw4840785935968570665 tw13227944736594234842 tw16875149194950655513 tw1591683200495252132 tw1832622648452850358 tw11215092438127464495 tw12821377620010544441 tw11370251603189152565 tw15584434786451390766 tw1853028573148434008 tw15013356352769078992 tw1537643988917123873 tw9458537547017448483 tw5422920478975292865 tw4351489966727281979 tw1317197259605714018 tw15067655494688426853 tw16033323790142975942 tw2609333924578742167 tw1237254724883860276 tw1967355782756267306 tw2548430586203126476 tw651354941416041787 tw17459789370568513646 tw2123179599102068039 tw2774229370061406786 tw14857059131144543619 tw540522381078877502 tw9153256447387927159 tw4030358860240363730 tw15081571693777537624 tw1032935062435674652 tw7432262496073406277 tw11124147992720531416 tw13213871133949649263 tw10847981329530247606 tw406206756869898363 tw12043582117558236903 tw2819886479811203229 tw315787041486052306 tw10066378892294291100 tw221709348635436922 tw4459676043014645858 tw17098611523538533628 tw1646575277183623360 tw10956433820732161699 tw851390377030272169 tw14723367218526806119 tw10266970751894911081 tw4832120975213066278 tw4388381705992777320 tw10918739259667605914 tw11004491075977684414 tw7840496883492231725 tw4558490106643825080 tw6208406854547508771 tw11885836204315480105 tw16724864007356578641 tw5507912493299613554 tw17488654665069083976 tw15158790905303696960 tw8797640726893013180 tw14037509098888253069 tw13755141651113925308 tw17638158340757081448 tw667713546678009529 tw13563624808967906505 tw8308168302228639702 tw9515774206545067546 tw16479732590065497418 tw18133257134460614471 tw1914043573228944847 tw6663286219744391598 tw17467129876383147907 tw16208984386923418900 tw14969709495675407587 tw13504424346625076588 tw638637965898316666 tw8152541778678611510 tw16916516831987666909 tw1172063804542174479 tw1731570641015223010 tw10151138076964261032 tw1718341652401480343 tw9409910309476875229 tw8227509249891762967 tw13173432489781064795 tw2981832800528633428 tw4963376260755939856 tw16911078104287457330 tw9106904443016542193 tw13632813997173928602 tw4072136422327310607 tw201046531083860590 tw15867195564915864164 tw1972507434300141967 tw18386672762285393352 tw17520917150759281640 tw883677882097783214 tw4843880518001465642 tw1790997269664703602 tw3084411249911285991 tw3887129554860193598 tw5787869155223982406 tw10053043957511517161 tw11327104605557029010 tw1320155059540456465 tw15210347839072071420 tw2947154297761327402 tw1342973168163007482 tw18264681100936277101 tw4553601096077185588 tw6287882157951666043 tw17094684033915024928 tw5551285975178441608 tw7618939305253163487 tw2731378094268061718 tw13408954354752300911 tw12414561672976698240 tw1798196103694352085 tw17132590547013522964 tw11216317180165537786 tw10134670731219147824 tw749150552657954077 tw15426195236610474600 tw15606326136401646841 tw3413123876814400686 tw12680904491671434695 tw6423671121924232910 tw14412828640506723584 tw8854476272391791426 tw9358623566910119101 tw12018719701210710687 tw17163570962520083116 tw5214919133841101164 tw8138611500006493162 tw4919270950585181294 tw5172686830729656355 tw14584095844580730542 tw3765198649777062925 tw15301656032291636577 tw4891946458034625749 tw15430954314136681469 tw5130134876764750221 tw8200612205941510821 tw16423573049063983564 tw7037648419048169958 tw6182874894445349885 tw16148537006711158185 tw3928789053925827975 tw6964158721115770826 tw16981687838653846239 tw88575244328766708 tw4115788322888579067 tw6962256445713222548 tw17776579394921467662 tw15812212232094249656 tw16429602322161802724 tw7295071072212300459 tw6652315941760276461 tw11670068970358454801 tw14735423084066224495 tw12361618662672841216:True)
set_option maxRecDepth 100000 in
set_option maxHeartbeats 0 in
theorem PySem.Challenge.cw_fewbits_k83_whole_all_tries_told_holds : PySem.Challenge.rw_fewbits_k83_whole_all_tries_told.Holds := by
 w_on;o_law;k_head;(case hw=>w_witness2)
 k_fill
 refine EV.law_of (l:=PySem.Challenge.rw_fewbits_k83_whole_all_tries_told) K83.fns K83.tbs 80 14 _ "_law_script" rfl rfl ⟨rfl,by decide,by decide⟩ (λ w h Y=>PySem.W.kIn_of Y) K83.oks K83.binds rfl rfl rfl ?top ?tbl ?cnl ?tbn K83.main
 case top =>
  intro w h KX F hF;simp only[K83.fns,yCv,yCe,or_false] at hF;rcases hF with rfl | rfl | rfl | rfl | rfl | rfl | rfl | rfl | rfl | rfl | rfl | rfl | rfl | rfl | rfl | rfl | rfl | rfl | rfl | rfl | rfl | rfl | rfl | rfl | rfl | rfl | rfl | rfl | rfl | rfl | rfl | rfl | rfl | rfl | rfl | rfl | rfl | rfl | rfl | rfl | rfl | rfl | rfl | rfl | rfl | rfl | rfl | rfl | rfl | rfl | rfl | rfl | rfl | rfl | rfl | rfl | rfl | rfl | rfl | rfl | rfl | rfl | rfl | rfl | rfl | rfl | rfl | rfl | rfl | rfl | rfl | rfl | rfl | rfl | rfl | rfl | rfl | rfl | rfl | rfl | rfl
  all_goals
   refine' EV.top_mk ?a1 ?l1 ?c1 ?k1
   (case a1=>k_is)
   (case l1=>k_is)
   (case c1=>k_is)
   (case k1=>k_is)
 case tbl =>
  intro w h KX t ht;simp only[K83.tbs,yCv,yCe,or_false] at ht;rcases ht with rfl
  all_goals
   refine' EV.tab_mk ?a1 ?l1 ?c1
   (case a1=>k_is)
   (case l1=>k_is)
   (case c1=>(repeat' (first | exact True.intro | apply And.intro))<;>first | rfl | exact⟨_,rfl⟩)
 case cnl =>
  intro w h KX t ht;simp only[K83.tbs,yCv,yCe,or_false] at ht;rcases ht with rfl | rfl | rfl | rfl | rfl | rfl
  all_goals
   refine' EV.con_mk ?a1 ?l1 ?z1 ?c1
   (case a1=>k_is)
   (case l1=>k_is)
   (case z1=>decide)
   (case c1=>(repeat' (first | exact True.intro | apply And.intro))<;>first | rfl | exact⟨_,rfl⟩)
 case tbn =>
  intro w h KX x hx;simp only[EV.bltNames,yCv,yCe,or_false] at hx;rcases hx with rfl | rfl | rfl | rfl | rfl | rfl | rfl | rfl | rfl | rfl | rfl | rfl | rfl | rfl | rfl | rfl | rfl | rfl
  all_goals k_is
