import PyProof.Rows.All
import Wide.All
import OpenK.AllK
import Wide.FinOn
import Lean
import PyProof.EqAt
import PyProof.EqKinds
import PyProof.TupleCall
import PyProof.ListMulRoad
import PyProof.FactsAll.tuple
import PyProof.MaxThree
import PyProof.SeqI3
import PyProof.Draws
import PyProof.ZipIter
import PyProof.NeKinds
import PyProof.Rows.SortShell
import PyProof.ListRange
import PyProof.DictTable
import PyProof.Rows.Range3
import PyProof.FactsAll.range_2
import PyProof.Rows.SeqMore2
import PySem.Challenge.RW_fewbits_k81_a_bit_that_matters
set_option compiler.extract_closed false
set_option genInjectivity false
set_option genSizeOf false
open List renaming getElem?_eq_getElem->yAa,replicate->yAc,length_map->yAd,take_length->yAe,size_toArray->yAf,getElem?_append_right->yAg,map_cons->yAs,length_cons->yAw,range->yAx,replicate_succ->yAy,append_assoc->yAz,getD_cons_zero->yBa,length_replicate->yBb,getElem?_set_self->yBc,getD_cons_succ->yBe,getElem?_set_ne->yBg,length_set->yBh,foldl_cons->yBm,getElem?_cons_zero->yBo,getElem?_replicate->yBq,map_map->yBu,length_take->yBv,drop_eq_getElem_cons->yCa,map_append->yCb,lookup_cons->yCd,not_mem_nil->yCe,map_congr_left->yCf,foldl_nil->yCg,mem_singleton->yCh,getElem?_cons_succ->yCi,length_nil->yCo,mem_cons->yCu,flatten_cons->yCy,filterMap_cons->yDa,append_nil->yDb,take_of_length_le->yDe,take->yDj,getElem?_toArray->yDk,map_replicate->yDl,take_left->yDo,getElem?_take_of_lt->yDr,set_eq_of_length_le->yDs,map_nil->yDz,drop_zero->yEh,set_cons_zero->yEi,length_singleton->yEj,getElem?_eq_none->yEk,getElem?_of_mem->yEq,getElem?_zip_eq_some->yEt,getElem_map->yEv,forIn_cons->yFi,nil_append->yFk,set_cons_succ->yFl,take_succ_eq_append_getElem->yFn,reverse_cons->yFq,length_range->yFs,forIn_nil->yFv,length_filter_le->yFy,drop_length->yGb,filter_cons->yGc,of_mem_zip->yGe,replicate_zero->yGg,getElem?_range->yGi,any_eq_false->yGt,nodup_append->yGu,getD->yGv,getElem_inj->yGz,ext_getElem->yHb,zipIdx_cons->yHc,cons_append->yHf,set_set->yHn
open Nat renaming le_refl->yAb,testBit_and->yAh,testBit_xor->yAm,testBit_mod_two_pow->yAp,mod_two_eq_zero_or_one->yAq,pow_le_pow_right->yAr,zero_testBit->yBd,or_lt_two_pow->yBl,sub_self->yBn,pow_lt_pow_right->yBs,xor_lt_two_pow->yBw,lt_irrefl->yCc,lt_pow_two_of_testBit->yCn,and_le_left->yCp,testBit_succ->yCs,testBit_div_two_pow->yCv,testBit_two_pow->yDd,testBit_lt_two_pow->yDf,testBit_zero->yDg,testBit_eq_decide_div_mod_eq->yDp,not_lt_zero->yDt,toNat_testBit->yDv,ne_of_gt->yDy,add_comm->yEa,zero_add->yEb,and_two_pow_sub_one_eq_mod->yEc,div_lt_iff_lt_mul->yEo,div_add_mod->yEp,lt_succ_self->yEu,and_le_right->yEw,zero_le->yEy,pow_add->yEz,pow_succ->yFd,xor_zero->yFe,lt_succ_of_lt->yFr,le_of_lt->yFw,le_of_eq->yFx,le_of_not_lt->yGa,reduceAdd->yGd,min_eq_left->yGh,add_sub_cancel->yGn,sub_le->yGx,succ_ne_zero->yHd,lt_of_not_le->yHe,reduceLeDiff->yHg,min_eq_right->yHh,mul_comm->yHk,sub_zero->yHm
open Int renaming toNat_natCast->yAo,natCast_mul->yCj,natCast_emod->yEx,mul_le_mul_of_nonneg_right->yFz,natCast_nonneg->yGm,emod_lt_of_pos->yGo,le_trans->yHl
open Bool renaming and_eq_true->yAl,true_and->yAn,false_eq_true->yAt,false_and->yBi,false_ne_true->yBj,and_true->yBt,and_false->yCx,or_eq_true->yDu,eq_false_or_eq_true->yDw,eq_iff_iff->yEn,or_false->yFg,or_true->yHo
open Option renaming bind_some->yCk,bind->yCr,getD_none->yHa
open PySem.Builtin.Range renaming rangeSize->yEe,small->yHq
open PySem.Builtin.SmallTypes renaming nextOf->yAu,ownedTupleIsFree->yAv,ownedTupleHandOut->yEs
open PySem.Builtin.Int renaming intBits->yAi
open PyProof.Rows renaming callWith_type1->yBk,slot_tuple_getitem->yCm
open PySem.Heap renaming get?_update_other->yBx,size_push->yBz,get?_update_self->yDi,SameBut->yDx
open PySem.PyData renaming bool->yAj,int->yAk,tuple->yBf,depthAll->yBp,eqv->yBy,canLayAll0->yCz,list->yEf,eqvAll->yFm
open PySem.W renaming emptyDict->yCl,keepIn->yCw,fnOf->yDh,instObj->yDq,kia_one->yEm,nsIn->yFc,findIn->yFt,codeIn->yFu,methodObj->yGs,OpenLaw->yHj,lookIn->yHp
open PySem.F renaming plain_extend_loop->yDn,slot_int_rmul->yEl,args_tuple_add_2->yFa,args_tuple_mul_2->yFb,entry_tuple_add->yFf,entry_tuple_mul->yFh,slot_list_index->yFj,slot_tuple_add->yFo,slot_tuple_mul->yFp,slot_int_bit_length->yGf,entry_extend_loop->yGq,args_list_index_2->yGr
open PySem.Builtin renaming bitNot->yBr,divisionGoesByPylong->yCt,bitAnd->yEg,bitXor->yGp,bitOr->yGy
open PySem.Builtin.Slice renaming slicePlaces->yDm,sliceAdjust->yEr,sliceApplied->yGj
open PySem.Builtin.Tuple renaming tupleExact->yCq,tupleItemsOf->yGk,tupleTooMany->yGl
open PySem.Builtin.List renaming listExtendWith->yDc,listSameRef->yGw,listItems->yHi
open Array renaming length_toList->yEd
open PySem renaming Value->qx,Shared->qj,Addr->qv,Expr->qw,sizeLine->qy,wpAny->qk,Program->qu,starEach->qo,sizeLine_eq->zq,World->zx,wpAny_field->zj,Around->zv,Scope->zw,wpAny_holding->zy,IsPair->zk,binaryOp->zu,assignEach->zo,wpAny_truthy_bool->xq,wpAny_seqItems->xz,compareOp->xx,wpAny_call_entry->xj,wpAny_newObj_type->xw,mainGlobals->xy,Stmt->xk,wpAny_setField_rec->xu,CmpOp->jq,bootBuiltins->jz,wpAny_Call_Name_kw->jx,wpAny_passesOwn->jj,foldedSetIterable->jv,wpAny_pyIter_list->jw,wpAny_pyIter_tuple->jy,behindInMarks->jk,Operator->ju,FuncData->jo,NameKind->vq,call_meets->vz,pyNext->vx,codeAny->vj,sliceBounds->vv,IsZip->vw,wpAny_pyNext_list_item->vy,wpAny_pyIter_enum->vk,wpAny_pyNext_list_end->vo,wpAny_rule->wq,wpAny_attempt->wj,wpAny_updateSeq_pair->ww,letOwnedTupleGo->wu,shortFactorBits->yq,wpAny_updateSeq->yz,UnaryOp->yx,typeIs_int->yj,wpAny_letOwnedTupleGo_enum->yv,wpAny_binaryOp_repeat_ref->yw,swappedStores->yy,rawInt->yk,wpAny_standAt->yu,wpAny_onRaise->yo,wpAny_isInstance->kq,wpAny_pyIter_zip->kz,wpAny_pyIter_rangeiter->kx,wpAny_specialOf->kj,IsRangeIter->kv,isSubtype_stop->ky,wpAny_letGo->ku
open Option renaming some->qq,none->qz
abbrev wB:=@PySem.wpAny_bind
abbrev wP:=@PySem.wpAny_pure
abbrev hpS:=@PySem.Heap.get?_push_of_some
theorem gIm {α:Type _}{l:List α}{i:Nat}{a:α}:l[i]? = qq a->∃ h,l[i]=a:=List.getElem?_eq_some_iff.mp
abbrev dqF:=@decide_eq_false
abbrev dqT:=@decide_eq_true
abbrev oqT:=@of_decide_eq_true
abbrev FrG:=PySem.W.Frag
abbrev xAa:=@PySem.Heap.lt_size
abbrev xAb:=@List.getElem?_map
abbrev xAc:=@Nat.lt_of_lt_of_le
abbrev xAd:=@List.mem_cons_self
abbrev xAe:=@PySem.Heap.get?_push_size
abbrev xAf:=@Nat.two_pow_pos
abbrev xAg:=@List.mem_cons_of_mem
abbrev xAh:=@List.getD_eq_getElem?_getD
abbrev xAi:=@Nat.le_trans
abbrev xAj:=@Nat.lt_of_le_of_lt
abbrev xAk:=@Nat.ne_of_lt
abbrev xAl:=@List.mem_of_getElem?
abbrev xAm:=@Nat.eq_of_testBit_eq
abbrev xAn:=@List.getElem?_append_left
abbrev xAo:=@List.length_append
abbrev xAp:=@Nat.testBit_or
abbrev xAq:=@List.mem_append_right
set_option Elab.async false
set_option linter.all false
set_option maxRecDepth 100000
namespace L2
open PySem PySem.Spec PyProof.Rows
abbrev fD:=Sum Int Str
noncomputable def pT:fD->qx->Bool
 | .inl k,v=>Value.isInt k v
 | .inr x,v=>Value.isStrOf x v
noncomputable def aWy(w:zx):fD->Int
 | .inl k=>hashInt k
 | .inr x=>hashStr w x
theorem lQ:∀ {k:fD}{v:qx},pT k v=true->(∃ i t,k=Sum.inl i/\v=Value.int i t)\/(∃ x t,k=Sum.inr x/\v=Value.str x t)
 | .inl i,v,h=>by
   obtain⟨t,e⟩:=Value.isInt_shape (k:=i) (v:=v) h;exact .inl ⟨i,t,rfl,e⟩
 | .inr x,v,h=>by
   obtain⟨t,e⟩:=Value.isStrOf_shape (x:=x) (v:=v) h;exact .inr ⟨x,t,rfl,e⟩
theorem aFG(x:Str)(t:Tok):pT (.inr x) (.str x t)=true:=by simp[pT,Value.isStrOf]
theorem aSe(a b:Int):decide ((Sum.inl a:fD)=Sum.inl b)=(a==b):=by
 by_cases e:a=b
 ·subst e;simp
 ·have h:¬ (Sum.inl a:fD)=Sum.inl b:=λ q=>e (Sum.inl.inj q)
  rw[dqF h];exact(beq_eq_false_iff_ne.mpr e).symm
theorem aTl(a b:Str):decide ((Sum.inr a:fD)=Sum.inr b)=decide (a=b):=by
 by_cases e:a=b
 ·subst e;simp
 ·have h:¬ (Sum.inr a:fD)=Sum.inr b:=λ q=>e (Sum.inr.inj q)
  rw[dqF h,dqF e]
theorem aSX(a:Int)(b:Str):decide ((Sum.inl a:fD)=Sum.inr b)=false:=dqF (λ q=>nomatch q)
theorem aS7(a:Str)(b:Int):decide ((Sum.inr a:fD)=Sum.inl b)=false:=dqF (λ q=>nomatch q)
noncomputable def nP(prog:qu)(w:zx):PySem.KeyKind prog w fD where
 is:=pT
 hash:=aWy w
 inj:=λ v a b ha hb=>by
  rcases lQ ha with ⟨i,t,rfl,rfl⟩ | ⟨x,t,rfl,rfl⟩
  ·rcases lQ hb with ⟨j,u,rfl,e⟩ | ⟨y,u,rfl,e⟩
   ·injection e with e1 _;rw[e1]
   ·exact nomatch e
  ·rcases lQ hb with ⟨j,u,rfl,e⟩ | ⟨y,u,rfl,e⟩
   ·exact nomatch e
   ·injection e with e1 _;rw[e1]
 byValue:=λ k v h=>by
  rcases lQ h with ⟨i,t,rfl,rfl⟩ | ⟨x,t,rfl,rfl⟩<;>rfl
 pyHash:=λ hv h=>by
  rcases lQ hv with ⟨i,t,rfl,rfl⟩ | ⟨x,t,rfl,rfl⟩
  ·exact wpAny_pyHash_int h
  ·exact wpAny_pyHash_str h
 eqBool:=λ hu hv h=>by
  rcases lQ hu with ⟨i,t,rfl,rfl⟩ | ⟨x,t,rfl,rfl⟩
  ·rcases lQ hv with ⟨j,u,rfl,rfl⟩ | ⟨y,u,rfl,rfl⟩
   ·rw[aSe] at h;exact wpAny_eqBool_int h
   ·rw[aSX] at h;exact SeqAt.EqAt.int_str i t y u _ _ _ _ h
  ·rcases lQ hv with ⟨j,u,rfl,rfl⟩ | ⟨y,u,rfl,rfl⟩
   ·rw[aS7] at h;exact SeqAt.EqAt.str_int x t j u _ _ _ _ h
   ·rw[aTl] at h;exact wpAny_eqBool_str h
 «strs»:=λ k x t v h=>by
  rcases lQ h with ⟨i,u,rfl,e⟩ | ⟨y,u,rfl,e⟩
  ·exact nomatch e
  ·injection e with e1 _
   subst e1;cases v<;>rfl
end L2
namespace L2
open PySem PySem.Spec PyProof.Rows
inductive V where
 | non | bl (b:Bool) | int (i:Int) | str (x:Str) | byt (b:Array UInt8) | flt (b:UInt64) | ref (a:qv) | ty (n:String)
 deriving DecidableEq
noncomputable def bB:V->qx->Prop
 | .non,u=>u=Value.none
 | .bl b,u=>u=Value.bool b
 | .int i,u=>∃ t,u=Value.int i t
 | .str x,u=>∃ t,u=Value.str x t
 | .byt b,u=>∃ t,u=Value.bytes b t
 | .flt b,u=>∃ t,u=Value.float b t
 | .ref a,u=>u=Value.ref a
 | .ty n,u=>u=Value.type n
noncomputable abbrev aT:List V->List qx->Prop:=Paired bB
theorem aT.length{xs:List V}{us:List qx}(r:aT xs us):xs.length=us.length:=Paired.length r
theorem aT.get:∀ {xs:List V}{us:List qx}{i:Nat}{x:V},aT xs us->xs[i]? = qq x->∃ u,us[i]? = qq u/\bB x u
 | _,_,_,_,.nil,e=>by simp at e
 | _,_,0,_,.cons r _,e=>by simp at e;subst e;exact⟨_,rfl,r⟩
 | _,_,i+1,x,.cons _ t,e=>by
   obtain⟨u,h1,h2⟩:=aT.get (i:=i) (x:=x) t (by simpa using e)
   exact⟨u,by simpa using h1,h2⟩
theorem aT.set{x:V}{u:qx}(r:bB x u):∀ {xs:List V}{us:List qx} (i:Nat),aT xs us->aT (xs.set i x) (us.set i u)
 | _,_,_,.nil=>.nil
 | _,_,0,.cons _ t=>.cons r t
 | _,_,i+1,.cons q t=>.cons q (aT.set r i t)
theorem aT.append:∀ {xs ys:List V}{us ws:List qx},aT xs us->aT ys ws->aT (xs++ys) (us++ws)
 | _,_,_,_,.nil,s=>s
 | _,_,_,_,.cons r t,s=>.cons r (aT.append t s)
theorem aT.take:∀ {xs:List V}{us:List qx} (n:Nat),aT xs us->aT (xs.take n) (us.take n)
 | _,_,0,_=>.nil
 | _,_,_+1,.nil=>.nil
 | _,_,n+1,.cons r t=>.cons r (aT.take n t)
theorem aT.drop:∀ {xs:List V}{us:List qx} (n:Nat),aT xs us->aT (xs.drop n) (us.drop n)
 | _,_,0,r=>r
 | _,_,_+1,.nil=>.nil
 | _,_,n+1,.cons _ t=>aT.drop n t
noncomputable def aKA:Option V->Option qx->Prop
 | some v,qq u=>bB v u
 | none,qz=>True
 | _,_=>False
noncomputable def KV{κ:Type}:List (κ×V)->List (κ×qx)->Prop:=Paired λ(p:κ×V) (q:κ×qx)=>p.1=q.1/\bB p.2 q.2
noncomputable def kV:fD->V
 | .inl i=>.int i
 | .inr x=>.str x
inductive HO where
 | lst (xs:List V)
 | tup (xs:List V)
 | dK (bA:List (fD×V)) | dT (bA:List (List fD×V))
 | set (S:Int->Bool) (n:Nat)
 | ins (C dx:qv) (fs:List (Str×V))
 | own (x:qv)
 | xd (fs:List (Str×V))
 | met (f x:qv)
 | rng (lo hi:Int)
 | frz (o:Obj) (u:HO)
 | tbl (ps:Array qx)
 | ext (φ:Heap->Prop)
abbrev Hp:=qv->Option HO
noncomputable def bE(H:Hp)(a:qv)(o:HO):Hp:=λ b=>if b=a then qq o else H b
theorem cX{H:Hp}{a:qv}{o:HO}:bE H a o a=qq o:=by unfold bE;rw[if_pos rfl]
theorem bJ{H:Hp}{a b:qv}{o:HO}(h:b≠a):bE H a o b=H b:=by unfold bE;rw[if_neg h]
theorem dX{H:Hp}{a b:qv}{o:HO}(h:H a=qq o)(h':H b=qz):a≠b:=by
 intro e;subst e;rw[h] at h';cases h'
section
variable (P : qu)(w : zx)
noncomputable def gL(H:Hp)(h:Heap)(a:qv):HO->Prop
 | .lst xs=>xs.length<=qy/\∃ (aG:List qx) (n:Nat),aT xs aG/\h.get? a=qq {cls:=.type "list",data:=.seq aG.toArray n }
 | .tup xs=>xs.length<=qy/\∃ aG:List qx,aT xs aG/\IsTup h a aG.toArray
 | .dK bA=>bA.length<=qy/\(a==sysModules)=false/\∃ vs,KV bA vs/\h.DictOf (nP P w) a vs
 | .dT bA=>bA.length<=qy/\(a==sysModules)=false/\∃ xs:List (List fD×qv×qx),
    Paired (λ(p:List fD×V) (q:List fD×qv×qx)=>p.1=q.1/\H q.2.1=qq (.tup (p.1.map kV))/\bB p.2 q.2.2) bA xs /\
    ∃ o es ep,h.get? a=qq o/\o.ExactDict/\o.data=.dict es ep/\es.toList=xs.map (entryOfKey (tupleKind (nP P w)))/\(xs.map (·.1)).Nodup
 | .set S n=>h.SetOf (intKind P w) a S n
 | .ins C dx fs=>H dx=qq (.own a)/\fs.length<=1000/\dx≠a/\h.get? a=qq (yDq C dx) /\
    ∃ mA,h.Ns1 dx mA/\(∀ f,aKA (fs.lookup f) (mA f))/\PySem.Within mA (fs.map (·.1))
 | .own _=>∃ o,h.get? a=qq o
 | .xd fs=>∃ mA,h.Ns1 a mA/\∀ f,aKA (fs.lookup f) (mA f)
 | .rng lo hi=>∃ t u v,h.get? a=qq {cls:=.type "range",data:=.fields #[.int lo t,.int hi u,.int 1 v] }
 | .frz o u=>h.get? a=qq o/\gL H h a u
 | .tbl ps=>h.get? a=qq {cls:=.none,data:=.fields ps }
 | .met f x=>h.get? a=qq (yGs (.ref f) (.ref x))
 | .ext φ=>φ h/\(∃ o,h.get? a=qq o)/\∀ h1 h2:Heap,φ h1->(∀ o,h1.get? a=qq o->h2.get? a=qq o)->φ h2
def dN(H:Hp)(h:Heap):Prop:=∀ a o,H a=qq o->gL P w H h a o
end
section
variable {P : qu}{w : zx}{H H' : Hp}{h h' : Heap}{a : qv}{o : HO}
theorem gL.lt(x:gL P w H h a o):a<h.objs.size:=by
 cases o with
 | lst xs=>obtain⟨_,_,_,_,e⟩:=x;exact xAa e
 | tup xs=>obtain⟨_,_,_,p⟩:=x;exact p.lt
 | dK bA=>obtain⟨_,_,_,_,o,_,_,e,_⟩:=x;exact xAa e
 | dT bA=>obtain⟨_,_,_,_,o,_,_,e,_⟩:=x;exact xAa e
 | set S n=>obtain⟨o,_,_,_,e,_⟩:=x;exact xAa e
 | ins C dx fs=>obtain⟨_,_,_,e,_⟩:=x;exact xAa e
 | own y=>obtain⟨_,e⟩:=x;exact xAa e
 | xd fs=>obtain⟨_,⟨_,_,_,e,_⟩,_⟩:=x;exact xAa e
 | rng lo hi=>obtain⟨_,_,_,e⟩:=x;exact xAa e
 | frz ob u=>obtain⟨e,_⟩:=x;exact xAa e
 | tbl ps=>exact xAa (show h.get? a=qq _ from x)
 | met f y=>exact xAa (show h.get? a=qq _ from x)
 | ext φ=>obtain⟨_,⟨_,e⟩,_⟩:=x;exact xAa e
theorem Paired.mapP{α β:Type}{F G:α->β->Prop}:∀ {l₁:List α}{l₂:List β},Paired F l₁ l₂->(∀ a b,F a b->G a b)->Paired G l₁ l₂
 | _,_,.nil,_=>.nil
 | _,_,.cons r t,f=>.cons (f _ _ r) (Paired.mapP t f)
theorem gL.stay(x:gL P w H h a o)(k:∀ b u,(b=a\/H b=qq (.own a))->h.get? b=qq u->h'.get? b=qq u)
 (ho:∀ b,H b=qq (.own a)->H' b=qq (.own a)) (ht:∀ b xs,H b=qq (.tup xs)->H' b=qq (.tup xs)):gL P w H' h' a o:=by
 induction o with
 | lst xs=>obtain⟨z,aG,n,r,e⟩:=x;exact⟨z,aG,n,r,k _ _ (.inl rfl) e⟩
 | tup xs=>obtain⟨z,aG,r,ob,e,c⟩:=x;exact⟨z,aG,r,ob,k _ _ (.inl rfl) e,c⟩
 | dK bA=>obtain⟨z,y,vs,r,ob,es,ep,e,c⟩:=x;exact⟨z,y,vs,r,ob,es,ep,k _ _ (.inl rfl) e,c⟩
 | dT bA =>
   obtain⟨z,y,xs,r,ob,es,ep,e,c⟩:=x;exact⟨z,y,xs,Paired.mapP r λ p q z=>⟨z.1,ht _ _ z.2.1,z.2.2⟩,ob,es,ep,k _ _ (.inl rfl) e,c⟩
 | set S n=>obtain⟨ob,es,ep,t,e,c⟩:=x;exact⟨ob,es,ep,t,k _ _ (.inl rfl) e,c⟩
 | ins C dx fs =>
   obtain⟨d,z,ne,e,mA,⟨od,es,ep,e2,c⟩,r⟩:=x;exact⟨ho _ d,z,ne,k _ _ (.inl rfl) e,mA,⟨od,es,ep,k _ _ (.inr d) e2,c⟩,r⟩
 | own y=>obtain⟨ob,e⟩:=x;exact⟨ob,k _ _ (.inl rfl) e⟩
 | xd fs=>obtain⟨mA,⟨od,es,ep,e,c⟩,r⟩:=x;exact⟨mA,⟨od,es,ep,k _ _ (.inl rfl) e,c⟩,r⟩
 | rng lo hi=>obtain⟨t,u,v,e⟩:=x;exact⟨t,u,v,k _ _ (.inl rfl) e⟩
 | frz ob u ih=>obtain⟨e,q⟩:=x;exact⟨k _ _ (.inl rfl) e,ih q⟩
 | tbl ps =>
   have e:h.get? a=qq {cls:=.none,data:=.fields ps }:=x;show h'.get? a=qq {cls:=.none,data:=.fields ps };exact k a _ (.inl rfl) e
 | met f y =>
   have e:h.get? a=qq (yGs (.ref f) (.ref y)):=x;show h'.get? a=qq (yGs (.ref f) (.ref y));exact k a _ (.inl rfl) e
 | ext φ=>obtain⟨p,⟨o,e⟩,st⟩:=x;exact⟨st _ _ p λ o q=>k _ _ (.inl rfl) q,⟨o,k _ _ (.inl rfl) e⟩,st⟩
theorem dN.lt(x:dN P w H h)(e:H a=qq o):a<h.objs.size:=(x a o e).lt
theorem dN.fresh(x:dN P w H h)(e:h.objs.size<=a):H a=qz:=by
 cases q:H a with
 | none=>rfl
 | some u=>exact absurd (xAc (x.lt q) e) (yCc _)
theorem dN.kept(x:dN P w H h)(k:∀ b u,h.get? b=qq u->h'.get? b=qq u):dN P w H h':=λ a o e =>
 (x a o e).stay (λ b u _ q=>k b u q) (λ _ q=>q) λ _ _ q=>q
theorem dN.laid(x:dN P w H h)(k:∀ b u,h.get? b=qq u->h'.get? b=qq u)(hp:h.objs.size<=a)(new:gL P w (bE H a o) h' a o):dN P w (bE H a o) h':=λ b u e=>by
 have hn:=x.fresh hp
 by_cases hb:b=a
 ·subst hb;rw[cX] at e;cases e;exact new
 ·rw[bJ hb] at e;exact(x b u e).stay (λ c v _ q=>k c v q) (λ c q=>by rw[bJ (dX q hn)];exact q) λ c xs q=>by rw[bJ (dX q hn)];exact q
end
def Rd(H:Hp)(a:qv)(u:HO):Prop:=H a=qq u\/∃ o,H a=qq (.frz o u)
theorem Rd.of{H:Hp}{a:qv}{u:HO}(h:H a=qq u):Rd H a u:=.inl h
theorem Rd.ok{P:qu}{w:zx}{H:Hp}{h:Heap}{a:qv}{u:HO}(r:Rd H a u)(x:dN P w H h):gL P w H h a u:=by
 rcases r with r | ⟨o,r⟩
 ·exact x a u r
 ·obtain⟨_,q⟩:=x a _ r;exact q
noncomputable def Mut:Option HO->Prop
 | some (.lst _)=>True
 | some (.dK _)=>True
 | some (.dT _)=>True
 | some (.set _ _)=>True
 | some (.ins _ _ _)=>True
 | some (.ext _)=>True
 | _=>False
section
variable {P : qu}{w : zx}{H : Hp}{h h' : Heap}{x e : qv}{o' : HO}
theorem dN.write(ok:dN P w H h)(mu:Mut (H x))(he:e=x\/H e=qq (.own x))(k:∀ b u,b≠e->h.get? b=qq u->h'.get? b=qq u)(heo:∃ u,h'.get? e=qq u)
 (new:gL P w (bE H x o') h' x o'):dN P w (bE H x o') h':=λ b u q=>by
 have nown:∀ c y,H c=qq (.own y)->c≠x:=λ c y r z=>by subst z;rw[r] at mu;exact mu
 have ntup:∀ c xs,H c=qq (.tup xs)->c≠x:=λ c xs r z=>by subst z;rw[r] at mu;exact mu
 by_cases hb:b=x
 ·subst hb;rw[cX] at q;cases q;exact new
 ·rw[bJ hb] at q
  by_cases hbe:b=e
  ·have q':H b=qq (.own x):=by
    rcases he with z | z
    ·exact absurd (hbe.trans z) hb
    ·rw[hbe];exact z
   rw[q] at q';cases q';obtain⟨v,hv⟩:=heo;exact⟨v,by rw[hbe];exact hv⟩
  ·refine(ok b u q).stay (λ c v hc r=>k c v ?_ r) (λ c r=>by rw[bJ (nown c b r)];exact r) λ c xs r=>by rw[bJ (ntup c xs r)];exact r
   rcases hc with rfl | hc
   ·exact hbe
   ·rintro rfl;rcases he with z | z
    ·exact nown c b hc z
    ·rw[hc] at z;cases z;exact hb rfl
end
structure Un(fs ex:List qv)(H H':Hp)(h h':Heap):Prop where
 keep:∀ b o,h.get? b=qq o->H b=qz->b ∉ fs->b ∉ ex->h'.get? b=qq o
 slot:∀ b o,h.get? b=qq o->H b=qz->b∈fs->b ∉ ex->∃ sl,h'.get? b=qq {o with slots:=sl }
 free:∀ b o,h.get? b=qq o->H b=qz->b ∉ ex->H' b=qz
 there:∀ b o,h.get? b=qq o->b ∉ ex->∃ o',h'.get? b=qq o'
 tups:∀ b xs,H b=qq (.tup xs)->H' b=qq (.tup xs)
 frzs:∀ b o u,H b=qq (.frz o u)->H' b=qq (.frz o u)
 tbls:∀ b ps,H b=qq (.tbl ps)->∃ more,H' b=qq (.tbl (ps++more))
section
variable {fs fs' ex ex' : List qv}{H H1 H2 : Hp}{h h1 h2 h' : Heap}{a x e : qv}{o : HO}
theorem Un.any(u:Un fs ex H H1 h h1){b:qv}{ob:Obj}(q:h.get? b=qq ob)(n:H b=qz)(hx:b ∉ ex):∃ sl,h1.get? b=qq {ob with slots:=sl }:=by
 by_cases hb:b∈fs
 ·exact u.slot b ob q n hb hx
 ·exact⟨ob.slots,u.keep b ob q n hb hx⟩
theorem Un.trans(a:Un fs ex H H1 h h1)(b:Un fs ex H1 H2 h1 h2):Un fs ex H H2 h h2 where
 keep:=λ c ob q n hc hx=>b.keep c ob (a.keep c ob q n hc hx) (a.free c ob q n hx) hc hx
 slot:=λ c ob q n hc hx=>by
  obtain⟨sl,e1⟩:=a.slot c ob q n hc hx;obtain⟨sl',e2⟩:=b.slot c _ e1 (a.free c ob q n hx) hc hx;exact⟨sl',e2⟩
 free:=λ c ob q n hx=>by
  obtain⟨o',e1⟩:=a.there c ob q hx;exact b.free c o' e1 (a.free c ob q n hx) hx
 there:=λ c ob q hx=>by
  obtain⟨o',e1⟩:=a.there c ob q hx;exact b.there c o' e1 hx
 tups:=λ c xs q=>b.tups c xs (a.tups c xs q)
 frzs:=λ c ob xs q=>b.frzs c ob xs (a.frzs c ob xs q)
 tbls:=λ c ps q=>by
  obtain⟨m1,e1⟩:=a.tbls c ps q;obtain⟨m2,e2⟩:=b.tbls c _ e1;exact⟨m1++m2,by rw[e2,Array.append_assoc]⟩
theorem Un.kept(k:∀ b u,h.get? b=qq u->h'.get? b=qq u):Un fs ex H H h h':=
 ⟨λ b ob q _ _ _=>k b ob q,λ b ob q _ _ _=>⟨ob.slots,k b ob q⟩,λ _ _ _ n _=>n,λ b ob q _=>⟨ob,k b ob q⟩,λ _ _ q=>q,λ _ _ _ q=>q,λ _ ps q=>⟨#[],by rw[q];simp⟩⟩
theorem Un.refl:Un fs ex H H h h:=Un.kept λ _ _ q=>q
theorem Un.laid(k:∀ b u,h.get? b=qq u->h'.get? b=qq u)(hp:h.objs.size<=a)(hn:H a=qz):Un fs ex H (bE H a o) h h' where
 keep:=λ b u q _ _ _=>k b u q
 slot:=λ b u q _ _ _=>⟨u.slots,k b u q⟩
 free:=λ b u q n _=>by rw[bJ (xAk (xAc (xAa q) hp))];exact n
 there:=λ b u q _=>⟨u,k b u q⟩
 tups:=λ b xs q=>by rw[bJ (dX q hn)];exact q
 frzs:=λ b u xs q=>by rw[bJ (dX q hn)];exact q
 tbls:=λ b ps q=>⟨#[],by rw[bJ (dX q hn),q];simp⟩
theorem Un.write(mu:Mut (H x))(he:e=x\/H e=qq (.own x))(k:∀ b u,b≠e->h.get? b=qq u->h'.get? b=qq u)(heo:∃ u,h'.get? e=qq u):Un fs ex H (bE H x o) h h':=by
 have hx:∀ b,H b=qz->b≠x:=λ b n z=>by subst z;rw[n] at mu;exact mu
 have hb:∀ b,H b=qz->b≠e:=λ b n z=>by
  subst z;rcases he with r | r
  ·exact hx b n r
  ·rw[n] at r;cases r
 have hm:∀ b u,H b=qq u->¬ Mut (qq u)->b≠x:=λ b u q nm z=>by subst z;rw[q] at mu;exact nm mu
 refine⟨λ b u q n _ _=>k b u (hb b n) q,λ b u q n _ _=>⟨u.slots,k b u (hb b n) q⟩,λ b u q n _=>by rw[bJ (hx b n)];exact n,λ b u q _=>?_,
  λ b xs q=>by rw[bJ (hm b _ q λ z=>z)];exact q,λ b u xs q=>by rw[bJ (hm b _ q λ z=>z)];exact q,λ b ps q=>⟨#[],by rw[bJ (hm b _ q λ z=>z),q];simp⟩⟩
 by_cases hbe:b=e
 ·subst hbe;exact heo
 ·exact⟨u,k b u hbe q⟩
theorem Un.mono(u:Un fs ex H H1 h h1)(hs:∀ b∈fs,b∈fs')(hx:∀ b∈ex,b∈ex'):Un fs' ex' H H1 h h1:=
 ⟨λ b ob q n hb he=>u.keep b ob q n (λ z=>hb (hs b z)) λ z=>he (hx b z),λ _ _ q n _ he=>u.any q n λ z=>he (hx _ z),λ b ob q n he=>u.free b ob q n λ z=>he (hx b z),λ b ob q he=>u.there b ob q λ z=>he (hx b z),u.tups,u.frzs,u.tbls⟩
end
noncomputable def trk(h:Heap)(H:Hp):List qv:=(yAx h.objs.size).filter λ a=>(H a).isSome
noncomputable def mK(h:Heap)(H:Hp):Heap:=PySem.W.hideAll h (trk h H)
theorem aNa(h:Heap)(H:Hp):(mK h H).objs.size=h.objs.size:=PySem.W.hideAll_size _ _
theorem aN2{h:Heap}{H:Hp}{b:qv}{o:Obj}(e:h.get? b=qq o)(n:H b=qz):(mK h H).get? b=qq o:=
 PySem.W.hideAll_get _ e λ hm=>by
  have q:(H b).isSome=true:=(List.mem_filter.mp hm).2;rw[n] at q;simp at q
theorem aQh{h:Heap}{H:Hp}{b:qv}{o:Obj}(e:(mK h H).get? b=qq o):h.get? b=qq o/\H b=qz:=by
 have e':h.get? b=qq o:=PySem.W.of_hideAll (trk h H) e;refine⟨e',?_⟩;cases q:H b with
 | none=>rfl
 | some x =>
   have hm:b∈trk h H:=List.mem_filter.mpr ⟨List.mem_range.mpr (xAa e'),by simp[q]⟩
   have z:(mK h H).get? b=qz:=PySem.W.hideAll_none (trk h H) hm;rw[z] at e;cases e
noncomputable def aPy(g h:Heap)(L:qv):List (qv×Obj):=(yAx h.objs.size).filterMap λ a=>if a=L\/(g.get? a).isSome=true then qz else (h.get? a).map λ o=>(a,o)
noncomputable def cZ(g h:Heap)(L d:qv):List (qv×Obj):=(aPy g h L).filter λ p=>decide (p.1≠d)
end L2
namespace L2
open PySem PySem.Spec PyProof.Rows
structure Mod(K:FrG)(mg:Str->Option qx)(base:Heap):Prop where
 kin:K.In base
 glob:base.Ns xy mg
 blt:∃ mb,base.Ns builtinsNs mb/\∀ x:Str,x ≠ "__name__" -> mb x=jz x
 nolimit:base.NoLimit
structure Cx where
 prog:qu
 w:zx
 K:FrG
 mg:Str->Option qx
 base:Heap
 A:zv
 N:List Str
 s₀:qj
 H₀:Hp
 env:Env
 outer:List Env
 stack:List Env
 ex:List qv
 fn:Str->Bool
 calm:Bool
 pn:List (qv×Obj)
 xe:qx->qj->Prop
noncomputable def iE(l:List Env):List qv:=l.filterMap (·.frame)
noncomputable abbrev Cx.fs(X:Cx):List qv:=iE X.outer
def wU(sc:zw)(x:Str):Prop:=sc.names.lookup x=qq .local\/sc.names.lookup x=qq .cell\/sc.names.lookup x=qq .free
def Loc(sc:zw)(x:Str):Prop:=sc.names.lookup x=qq .local\/sc.names.lookup x=qq .cell
def aWM(env:Env)(h:Heap)(m:Str->Option qx)(x:Str)(u:qx):Prop:=
 (env.kindOf x=qq .local/\m x=qq u)\/((env.kindOf x=qq .cell\/env.kindOf x=qq .free)/\∃ c,env.cells.lookup x=qq c/\h.IsCell c (qq u))
structure Cx.Ok(X:Cx):Prop where
 mod:Mod X.K X.mg X.base
 kind:X.env.scope.kind=.function
 glob:X.env.globals=xy
 blt:X.env.builtins=builtinsNs
 above:X.s₀.heap.objs.size<=X.env.locals
 inj:∀ x y c,X.env.cells.lookup x=qq c->X.env.cells.lookup y=qq c->x=y
 has:∀ x,(X.env.kindOf x=qq .cell\/X.env.kindOf x=qq .free)->∃ c,X.env.cells.lookup x=qq c
 cab:∀ x c,X.fn x=true->X.env.cells.lookup x=qq c->X.s₀.heap.objs.size<=c
 hd:X.calm=true->X.A.handled=qz
 frames:X.A.frames=qq X.stack
 stk:X.stack=X.outer\/(X.stack=X.env::X.outer/\X.env.frame=qq X.env.locals)
 exf:∀ b∈X.ex,b≠X.env.locals/\∀ x c,X.env.cells.lookup x=qq c->c≠b
 bs:∀ b o,X.base.get? b=qq o->X.s₀.heap.get? b=qq o/\X.H₀ b=qz
 bsz:X.base.objs.size<=X.s₀.heap.objs.size
 noex:∀ b o,X.base.get? b=qq o->b ∉ X.ex
 exfs:∀ b∈X.ex,b ∉ X.fs
 funs:X.s₀.heap.FunFrames X.base X.outer
 frf:∀ b∈X.fs,X.H₀ b=qz
structure Inv(X:Cx)(aB:List (qv×Obj))(σ:List (Option V))(H:Hp)(s:qj):Prop where
 ok:X.Ok
 os:s.os=X.s₀.os
 bare:AllBare s.gens
 base:Un X.fs X.ex X.H₀ H X.s₀.heap s.heap
 loc:∃ m,s.heap.Ns X.env.locals m/\∀ (i:Nat) (x:Str) (v:V),X.N[i]? = qq x->σ[i]? = qq (qq v)->wU X.env.scope x->∃ u,bB v u/\aWM X.env s.heap m x u
 cell:∀ x c,X.env.cells.lookup x=qq c->∃ v,s.heap.IsCell c v
 free:H X.env.locals=qz
 freeC:∀ x c,X.env.cells.lookup x=qq c->H c=qz
 pin:∀ p∈X.pn++aB,s.heap.get? p.1=qq p.2/\H p.1=qz/\p.1≠X.env.locals/\p.1 ∉ X.fs/\∀ v,p.2.data≠.cell v
 hok:dN X.prog X.w H s.heap
 len:σ.length=X.N.length
section
variable {X : Cx}{aB : List (qv×Obj)}{σ : List (Option V)}{H H' : Hp}{s : qj}{h' : Heap}
theorem Cx.Ok.nofr(ok:X.Ok){b:qv}{o:Obj}(e:X.base.get? b=qq o):b ∉ X.fs:=λ hb=>by
 have:=(ok.funs.mem hb).1;rw[e] at this;cases this
theorem Inv.bs(I:Inv X aB σ H s):∀ b o,X.base.get? b=qq o->s.heap.get? b=qq o/\H b=qz:=λ b o e =>
 ⟨I.base.keep b o (I.ok.bs b o e).1 (I.ok.bs b o e).2 (I.ok.nofr e) (I.ok.noex b o e),I.base.free b o (I.ok.bs b o e).1 (I.ok.bs b o e).2 (I.ok.noex b o e)⟩
theorem Inv.bk(I:Inv X aB σ H s):∀ b o,X.base.get? b=qq o->s.heap.get? b=qq o:=λ b o e=>(I.bs b o e).1
theorem Inv.mod(I:Inv X aB σ H s):Mod X.K X.mg X.base:=I.ok.mod
theorem Inv.kIn(I:Inv X aB σ H s):X.K.In s.heap:=I.ok.mod.kin.keeps I.bk
theorem Inv.nolimit(I:Inv X aB σ H s):s.heap.NoLimit:=I.ok.mod.nolimit.keeps I.bk
theorem Inv.fr(I:Inv X aB σ H s):∃ m,Fr X.base X.env.locals s.heap m:=
 let ⟨m,hn,_⟩:=I.loc
 ⟨m,hn,I.bk,xAi I.ok.bsz I.ok.above⟩
theorem Inv.lt(I:Inv X aB σ H s):X.env.locals<s.heap.objs.size:=let ⟨_,hn,_⟩:=I.loc;hn.lt
theorem Inv.sz(I:Inv X aB σ H s):X.s₀.heap.objs.size<=s.heap.objs.size:=xAi I.ok.above (yFw I.lt)
theorem Inv.nofs(I:Inv X aB σ H s){a:qv}(h:s.heap.objs.size<=a):a ∉ X.fs:=λ hb=>by
 obtain⟨_,o,ho,_⟩:=I.ok.funs.mem hb;exact absurd (xAc (xAa ho) (xAi I.sz h)) (yCc _)
theorem Inv.cne(I:Inv X aB σ H s):∀ x c,X.env.cells.lookup x=qq c->c≠X.env.locals:=λ x c e z=>by
 obtain⟨v,o,ho,hd⟩:=I.cell x c e;obtain⟨m,⟨o',es,ep,ho',hd',_⟩,_⟩:=I.loc;rw[z,ho'] at ho;cases ho;rw[hd'] at hd;cases hd
theorem Inv.funs(I:Inv X aB σ H s):s.heap.FunFrames X.base X.outer:=by
 have all:∀ (l:List Env),(∀ b∈iE l,b∈X.fs)->X.s₀.heap.FunFrames X.base l->s.heap.FunFrames X.base l:=by
  intro l
  induction l with
  | nil=>intro _ _;trivial
  | cons env r ih =>
    intro hs hl;obtain⟨hk,⟨L,o,hf,hn,ho,hd⟩,hr⟩:=hl;have hL:L∈X.fs:=hs L (by unfold iE;rw[yDa,hf];exact xAd)
    obtain⟨sl,e⟩:=I.base.slot L o ho (I.ok.frf L hL) hL λ z=>I.ok.exfs L z hL
    exact⟨hk,⟨L,_,hf,hn,e,hd⟩,ih (λ b hb=>hs b (by unfold iE;rw[yDa,hf];exact xAg _ hb)) hr⟩
 exact all X.outer (λ _ hb=>hb) I.ok.funs
theorem Inv.stack(I:Inv X aB σ H s):s.heap.FunFrames X.base X.stack:=by
 rcases I.ok.stk with e | ⟨e,hf⟩
 ·rw[e];exact I.funs
 ·rw[e];obtain⟨m,hn,_⟩:=I.loc;refine .cons (by rw[I.ok.kind];decide) hf hn ?_ I.funs
  exact Heap.get?_none_of_le (xAi I.ok.bsz I.ok.above)
theorem Inv.stkSub(I:Inv X aB σ H s):∀ b∈iE X.stack,b∈X.env.locals::X.fs:=λ b hb=>by
 rcases I.ok.stk with e | ⟨e,hf⟩
 ·rw[e] at hb;exact xAg _ hb
 ·rw[e] at hb;unfold iE at hb;rw[yDa,hf] at hb;exact hb
theorem Inv.stkFree(I:Inv X aB σ H s):∀ b∈iE X.stack,H b=qz:=λ b hb=>by
 rcases List.mem_cons.mp (I.stkSub b hb) with e | hb
 ·rw[e];exact I.free
 ·obtain⟨_,o,ho,_⟩:=I.ok.funs.mem hb;exact I.base.free b o ho (I.ok.frf b hb) λ z=>I.ok.exfs b z hb
theorem Inv.step{g':Array GenState}{t':Nat}{d':Drawn}{ch:List qv}(I:Inv X aB σ H s)
 (hch:∀ b∈ch,(b∈X.ex\/X.s₀.heap.objs.size<=b)/\b≠X.env.locals/\(∀ x c,X.env.cells.lookup x=qq c->c≠b)/\∀ p∈X.pn++aB,p.1≠b)
 (keep:∀ b o,b≠X.env.locals->b ∉ X.fs->b ∉ ch->s.heap.get? b=qq o->H b=qz->h'.get? b=qq o)
 (slot:∀ b o,b≠X.env.locals->b∈X.fs->b ∉ ch->s.heap.get? b=qq o->H b=qz->∃ sl,h'.get? b=qq {o with slots:=sl }) (free:∀ b o,b ∉ ch->s.heap.get? b=qq o->H b=qz->H' b=qz)
 (there:∀ b o,b ∉ ch->s.heap.get? b=qq o->∃ o',h'.get? b=qq o')
 (tups:∀ b xs,H b=qq (.tup xs)->H' b=qq (.tup xs)) (frzs:∀ b o u,H b=qq (.frz o u)->H' b=qq (.frz o u)) (tbls:∀ b ps,H b=qq (.tbl ps)->∃ more,H' b=qq (.tbl (ps++more)))
 (ns:∀ m,s.heap.Ns X.env.locals m->h'.Ns X.env.locals m) (hok:dN X.prog X.w H' h') (hg:AllBare g') :
 Inv X aB σ H' {s with heap:=h',gens:=g',drawn:=d',toks:=t' }:=by
 have neL:∀ b o,X.s₀.heap.get? b=qq o->b≠X.env.locals:=λ b o e=>xAk (xAc (xAa e) I.ok.above)
 have neC:∀ b o,X.s₀.heap.get? b=qq o->b ∉ X.ex->b ∉ ch:=λ b o e hx hb=>by
  rcases (hch b hb).1 with z | z
  ·exact hx z
  ·exact absurd (xAc (xAa e) z) (yCc _)
 have cellK:∀ x c,X.env.cells.lookup x=qq c->∀ v,s.heap.IsCell c v->h'.IsCell c v:=λ x c e v aO=>by
  obtain⟨o,ho,hd⟩:=aO;have nch:c ∉ ch:=λ z=>(hch c z).2.2.1 x c e rfl
  by_cases hc:c∈X.fs
  ·obtain⟨sl,q⟩:=slot c o (I.cne x c e) hc nch ho (I.freeC x c e);exact⟨_,q,hd⟩
  ·exact⟨o,keep c o (I.cne x c e) hc nch ho (I.freeC x c e),hd⟩
 refine⟨I.ok,I.os,hg,⟨λ b o e n hb hx=>?_,λ b o e n hb hx=>?_,λ b o e n hx=>?_,λ b o e hx=>?_,λ b xs e=>tups b xs (I.base.tups b xs e),λ b o xs e=>frzs b o xs (I.base.frzs b o xs e),λ b ps e=>?_⟩,?_,λ x c e=>?_,?_,λ x c e=>?_,λ p hp=>?_,hok,I.len⟩
 ·exact keep b o (neL b o e) hb (neC b o e hx) (I.base.keep b o e n hb hx) (I.base.free b o e n hx)
 ·obtain⟨sl,e1⟩:=I.base.slot b o e n hb hx;obtain⟨sl',e2⟩:=slot b _ (neL b o e) hb (neC b o e hx) e1 (I.base.free b o e n hx);exact⟨sl',e2⟩
 ·obtain⟨o',e1⟩:=I.base.there b o e hx;exact free b o' (neC b o e hx) e1 (I.base.free b o e n hx)
 ·obtain⟨o',e1⟩:=I.base.there b o e hx;exact there b o' (neC b o e hx) e1
 ·obtain⟨m1,e1⟩:=I.base.tbls b ps e;obtain⟨m2,e2⟩:=tbls b _ e1;exact⟨m1++m2,by rw[e2,Array.append_assoc]⟩
 ·obtain⟨m,hn,hl⟩:=I.loc;refine⟨m,ns m hn,λ i x v e1 e2 e3=>?_⟩
  obtain⟨u,r,l⟩:=hl i x v e1 e2 e3;refine⟨u,r,?_⟩;rcases l with l | ⟨k,c,e,z⟩
  ·exact .inl l
  ·exact .inr ⟨k,c,e,cellK x c e _ z⟩
 ·obtain⟨v,z⟩:=I.cell x c e;exact⟨v,cellK x c e v z⟩
 ·obtain⟨m,⟨o,_,_,ho,_⟩,_⟩:=I.loc;exact free _ o (λ z=>(hch _ z).2.1 rfl) ho I.free
 ·obtain⟨v,o,ho,hd⟩:=I.cell x c e;exact free c o (λ z=>(hch c z).2.2.1 x c e rfl) ho (I.freeC x c e)
 ·obtain⟨e,n,ne,nf,d⟩:=I.pin p hp;have nch:p.1 ∉ ch:=λ z=>(hch p.1 z).2.2.2 p hp rfl
  exact⟨keep p.1 p.2 ne nf nch e n,free p.1 p.2 nch e n,ne,nf,d⟩
theorem Inv.un{t':Nat}(I:Inv X aB σ H s)(u:Un X.fs [] H H' s.heap h')(hok:dN X.prog X.w H' h'):Inv X aB σ H' {s with heap:=h',toks:=t' }:=by
 obtain⟨m,⟨o,es,ep,ho,r⟩,_⟩:=id I.loc;obtain⟨sl,hL⟩:=u.any ho I.free (by simp)
 exact I.step (g':=s.gens) (d':=s.drawn) (ch:=[]) (λ _ z=>nomatch z) (λ b o _ hb _ e n=>u.keep b o e n hb (by simp)) (λ b o _ hb _ e n=>u.slot b o e n hb (by simp)) (λ b o _ e n=>u.free b o e n (by simp)) (λ b o _ e=>u.there b o e (by simp)) u.tups u.frzs u.tbls (λ m' hm=>by
  obtain⟨o',es',ep',ho',r'⟩:=hm;rw[ho] at ho';cases ho';exact⟨_,es',ep',hL,r'⟩) hok I.bare
theorem Inv.call{g':Array GenState}{t':Nat}{d':Drawn}{ch:List qv}(I:Inv X aB σ H s)(u:Un (iE X.stack) ch H H' s.heap h')(hok:dN X.prog X.w H' h')(hg:AllBare g')
 (hch:∀ b∈ch,(b∈X.ex\/X.s₀.heap.objs.size<=b)/\b≠X.env.locals/\(∀ x c,X.env.cells.lookup x=qq c->c≠b)/\∀ p∈X.pn++aB,p.1≠b) :
 Inv X aB σ H' {s with heap:=h',gens:=g',drawn:=d',toks:=t' }:=by
 obtain⟨m,⟨o,es,ep,ho,r⟩,_⟩:=id I.loc;obtain⟨sl,hL⟩:=u.any ho I.free λ z=>(hch _ z).2.1 rfl
 exact I.step (ch:=ch) hch (λ b o hL hb hc e n=>u.keep b o e n (λ z=>(List.mem_cons.mp (I.stkSub b z)).elim hL hb) hc) (λ b o _ _ hc e n=>u.any e n hc) (λ b o hc e n=>u.free b o e n hc) (λ b o hc e=>u.there b o e hc) u.tups u.frzs u.tbls (λ m' hm=>by
  obtain⟨o',es',ep',ho',r'⟩:=hm;rw[ho] at ho';cases ho';exact⟨_,es',ep',hL,r'⟩) hok hg
theorem Inv.turned{t':Nat}{it:qv}(I:Inv X aB σ H s)(k:∀ b o,b≠it->s.heap.get? b=qq o->h'.get? b=qq o)(hn:H it=qz)(hL:it≠X.env.locals)
 (h1:it∈X.ex\/X.s₀.heap.objs.size<=it) (h2:∀ x c,X.env.cells.lookup x=qq c->c≠it) (h3:∀ p∈X.pn++aB,p.1≠it):Inv X aB σ H {s with heap:=h',toks:=t' }:=by
 have nit:∀ b u,H b=qq u->b≠it:=λ b u e z=>by rw[z,hn] at e;cases e
 refine I.step (g':=s.gens) (d':=s.drawn) (ch:=[it]) (λ b hb=>?_) (λ b o _ _ hc e _=>k b o (λ z=>hc (by simp[z])) e) (λ b o _ _ hc e _=>⟨o.slots,k b o (λ z=>hc (by simp[z])) e⟩) (λ _ _ _ _ n=>n)
  (λ b o hc e=>⟨o,k b o (λ z=>hc (by simp[z])) e⟩) (λ _ _ e=>e) (λ _ _ _ e=>e) (λ b ps e=>⟨#[],by rw[e];simp⟩) (λ m hm=>?_) (λ b u e=>?_) I.bare
 ·have e:b=it:=by simpa using hb
  subst e;exact⟨h1,hL,h2,h3⟩
 ·obtain⟨o,es,ep,ho,r⟩:=hm;exact⟨o,es,ep,k _ o (Ne.symm hL) ho,r⟩
 ·refine(I.hok b u e).stay (λ c v hc q=>k c v ?_ q) (λ _ q=>q) λ _ _ q=>q
  rcases hc with z | z
  ·rw[z];exact nit b u e
  ·exact nit c _ z
theorem Inv.tok(I:Inv X aB σ H s)(t:Nat):Inv X aB σ H {s with toks:=t }:=I.un (h':=s.heap) (t':=t) Un.refl I.hok
theorem Inv.kept{t':Nat}(I:Inv X aB σ H s)(k:∀ b u,s.heap.get? b=qq u->h'.get? b=qq u):Inv X aB σ H {s with heap:=h',toks:=t' }:=I.un (Un.kept k) (I.hok.kept k)
theorem Inv.laid{a:qv}{o:HO}{t':Nat}(I:Inv X aB σ H s)(k:∀ b u,s.heap.get? b=qq u->h'.get? b=qq u)(hp:s.heap.objs.size<=a)(new:gL X.prog X.w (bE H a o) h' a o) :
 Inv X aB σ (bE H a o) {s with heap:=h',toks:=t' }:=I.un (Un.laid k hp (I.hok.fresh hp)) (I.hok.laid k hp new)
theorem Inv.write{x e:qv}{o:HO}{t':Nat}(I:Inv X aB σ H s)(mu:Mut (H x))(he:e=x\/H e=qq (.own x))(k:∀ b u,b≠e->s.heap.get? b=qq u->h'.get? b=qq u)(heo:∃ u,h'.get? e=qq u)
 (new:gL X.prog X.w (bE H x o) h' x o):Inv X aB σ (bE H x o) {s with heap:=h',toks:=t' }:=I.un (Un.write mu he k heo) (I.hok.write mu he k heo new)
theorem Inv.weak{σ':List (Option V)}(I:Inv X aB σ H s)(hl:σ'.length=σ.length)(w:∀ (i:Nat) v,σ'[i]? = qq (qq v)->σ[i]? = qq (qq v)):Inv X aB σ' H s:=
 ⟨I.ok,I.os,I.bare,I.base,let ⟨m,hn,hl'⟩:=I.loc;⟨m,hn,λ i x v e1 e2 e3=>hl' i x v e1 (w i v e2) e3⟩,I.cell,I.free,I.freeC,I.pin,I.hok,hl.trans I.len⟩
theorem Inv.pins_of{pins':List (qv×Obj)}(I:Inv X aB σ H s)(h:∀ p∈pins',s.heap.get? p.1=qq p.2/\H p.1=qz/\p.1≠X.env.locals/\p.1 ∉ X.fs/\∀ v,p.2.data≠.cell v):Inv X pins' σ H s:=
 ⟨I.ok,I.os,I.bare,I.base,I.loc,I.cell,I.free,I.freeC,λ p hp=>(List.mem_append.mp hp).elim (λ z=>I.pin p (List.mem_append_left _ z)) (h p),I.hok,I.len⟩
theorem aGN{N:List Str}(hN:N.Nodup){i j:Nat}{x:Str}(a:N[i]? = qq x)(b:N[j]? = qq x):i=j:=by
 obtain⟨h1,e1⟩:=gIm a;obtain⟨h2,e2⟩:=gIm b;exact(yGz hN).mp (e1.trans e2.symm)
theorem aMU{M:Model}{A:zv}{E:qx->qj->Prop}{i:Nat}{x:Str}{v:V}{u:qx}{Q:Unit->qj->Prop}(I:Inv X aB σ H s)(hN:X.N.Nodup)(hi:X.N[i]? = qq x)(hx:Loc X.env.scope x)(r:bB v u)
 (h:∀ s',Inv X aB (σ.set i (qq v)) H s'->(∃ a,yDx a s.heap s'.heap/\(a=X.env.locals\/X.env.cells.lookup x=qq a))->Q () s') (hf:X.fn x=true\/X.env.scope.names.lookup x=qq .local:=by first | exact .inl rfl | exact .inr rfl | assumption):qk M A (storeName X.env x u) Q E s:=by
 obtain⟨m,hn,hl⟩:=id I.loc;have hcls:(X.env.scope.kind==.class||(X.env.scope.kind==.module&&X.env.locals != X.env.globals))=false:=by rw[I.ok.kind];rfl
 have hiσ:i<σ.length:=by rw[I.len];exact(gIm hi).1
 have cne:=I.cne;have tracked:∀ {a:qv}{h':Heap},(∃ o,s.heap.get? a=qq o/\H a=qz)->yDx a s.heap h'->dN X.prog X.w H h':=λ {a h'} ha hs b ob e=>by
  obtain⟨_,_,hfree⟩:=ha;refine(I.hok b ob e).stay (λ c w' hc q=>(hs.2 c ?_).trans q) (λ _ q=>q) λ _ _ q=>q
  rintro rfl;rcases hc with rfl | hc
  ·rw[hfree] at e;cases e
  ·rw[hfree] at hc;cases hc
 rcases hx with hk | hk
 ·refine wpAny_storeName_local hk hn (λ h' hn' hs=>?_) hcls
  obtain⟨oL,_,_,hoL,_⟩:=id hn;refine h _ ⟨I.ok,I.os,I.bare,⟨λ b o e n hb hx=>?_,λ b o e n hb hx=>?_,I.base.free,λ b o e hx=>?_,I.base.tups,I.base.frzs,I.base.tbls⟩,⟨_,hn',λ j y v' e1 e2 e3=>?_⟩,λ y c e=>?_,I.free,I.freeC,λ p hp=>?_,tracked ⟨oL,hoL,I.free⟩ hs,by simpa using I.len⟩ ⟨_,hs,.inl rfl⟩
  ·exact(hs.2 b (xAk (xAc (xAa e) I.ok.above))).trans (I.base.keep b o e n hb hx)
  ·obtain⟨sl,e1⟩:=I.base.slot b o e n hb hx;exact⟨sl,(hs.2 b (xAk (xAc (xAa e) I.ok.above))).trans e1⟩
  ·obtain⟨o',e1⟩:=I.base.there b o e hx;exact⟨o',(hs.2 b (xAk (xAc (xAa e) I.ok.above))).trans e1⟩
  ·by_cases hj:j=i
   ·subst hj;rw[hi] at e1;cases e1;rw[yBc hiσ] at e2;cases e2;exact⟨u,r,.inl ⟨hk,by simp⟩⟩
   ·rw[yBg (Ne.symm hj)] at e2;obtain⟨u',r',q⟩:=hl j y v' e1 e2 e3;refine⟨u',r',?_⟩;rcases q with ⟨k,e⟩ | ⟨k,c,e,z⟩
    ·refine .inl ⟨k,?_⟩;have:y≠x:=λ e=>hj (aGN hN e1 (e▸hi))
     simp[this,e]
    ·exact .inr ⟨k,c,e,z.sameBut hs (cne y c e)⟩
  ·obtain⟨w',z⟩:=I.cell y c e;exact⟨w',z.sameBut hs (cne y c e)⟩
  ·obtain⟨e,n,ne,nf,d⟩:=I.pin p hp;exact⟨(hs.2 p.1 ne).trans e,n,ne,nf,d⟩
 ·have hfn:X.fn x=true:=by
   rcases hf with z | z
   ·exact z
   ·rw[z] at hk;cases hk
  obtain⟨c,hc⟩:=I.ok.has x (.inl hk);obtain⟨w',z⟩:=I.cell x c hc;refine wpAny_storeName_cell I.ok.kind hk hc z (λ h' hc' hs=>?_)
  obtain⟨oc,hoc,hocd⟩:=id z;refine h {s with heap:=h' } ⟨I.ok,I.os,I.bare,⟨λ b o e n hb hx=>?_,λ b o e n hb hx=>?_,I.base.free,λ b o e hx=>?_,I.base.tups,I.base.frzs,I.base.tbls⟩,⟨m,hn.sameBut hs (Ne.symm (cne x c hc)),λ j y v' e1 e2 e3=>?_⟩,λ y c' e=>?_,I.free,I.freeC,λ p hp=>?_,tracked ⟨oc,hoc,I.freeC x c hc⟩ hs,by simpa using I.len⟩ ⟨c,hs,.inr hc⟩
  ·exact(hs.2 b (xAk (xAc (xAa e) (I.ok.cab x c hfn hc)))).trans (I.base.keep b o e n hb hx)
  ·obtain⟨sl,e1⟩:=I.base.slot b o e n hb hx;exact⟨sl,(hs.2 b (xAk (xAc (xAa e) (I.ok.cab x c hfn hc)))).trans e1⟩
  ·obtain⟨o',e1⟩:=I.base.there b o e hx;exact⟨o',(hs.2 b (xAk (xAc (xAa e) (I.ok.cab x c hfn hc)))).trans e1⟩
  ·by_cases hj:j=i
   ·subst hj;rw[hi] at e1;cases e1;rw[yBc hiσ] at e2;cases e2;exact⟨u,r,.inr ⟨.inl hk,c,hc,hc'⟩⟩
   ·rw[yBg (Ne.symm hj)] at e2;obtain⟨u',r',q⟩:=hl j y v' e1 e2 e3;refine⟨u',r',?_⟩;rcases q with q | ⟨k,c',e,z'⟩
    ·exact .inl q
    ·refine .inr ⟨k,c',e,z'.sameBut hs ?_⟩;rintro rfl;exact hj (aGN hN e1 (I.ok.inj _ _ _ e hc▸hi))
  ·by_cases hcc:c'=c
   ·subst hcc;exact⟨_,hc'⟩
   ·obtain⟨w2,z2⟩:=I.cell y c' e;exact⟨w2,z2.sameBut hs hcc⟩
  ·obtain⟨e,n,ne,nf,d⟩:=I.pin p hp;refine⟨(hs.2 p.1 ?_).trans e,n,ne,nf,d⟩;intro q;rw[q,hoc] at e;have q':oc=p.2:=Option.some.inj e;exact d w' (by rw[<- q'];exact hocd)
theorem aGH{M:Model}{A:zv}{E:qx->qj->Prop}{i:Nat}{x:Str}{v:V}{u:qx}{Q:Unit->qj->Prop}(I:Inv X aB σ H s)(hN:X.N.Nodup)(hi:X.N[i]? = qq x)(hx:Loc X.env.scope x)(r:bB v u)
 (h:∀ s',Inv X aB (σ.set i (qq v)) H s'->Q () s') (hf:X.fn x=true\/X.env.scope.names.lookup x=qq .local:=by first | exact .inl rfl | exact .inr rfl | assumption):qk M A (storeName X.env x u) Q E s:=
 aMU I hN hi hx r (λ s' I' _=>h s' I') hf
theorem Inv.call'{s':qj}{ch:List qv}(I:Inv X aB σ H s)(ho:s'.os=s.os)(u:Un (iE X.stack) ch H H' s.heap s'.heap)(hok:dN X.prog X.w H' s'.heap)(hg:AllBare s'.gens)
 (hch:∀ b∈ch,(b∈X.ex\/X.s₀.heap.objs.size<=b)/\b≠X.env.locals/\(∀ x c,X.env.cells.lookup x=qq c->c≠b)/\∀ p∈X.pn++aB,p.1≠b):Inv X aB σ H' s':=by
 obtain⟨h',g',d',t',o'⟩:=s';have e:o'=s.os:=ho;subst e;exact I.call (g':=g') (t':=t') (d':=d') u hok hg hch
end
abbrev XK:=qx->Option qv->Hp->Prop
abbrev St:=List (Option V)
abbrev VK:=V->Hp->Prop
abbrev TE:=St->Hp->VK->Prop
abbrev TT:=St->Hp->(Bool->Hp->Prop)->Prop
abbrev TA:=St->Hp->(List V->Hp->Prop)->Prop
structure Ends where
 nx:St->Hp->Prop
 rt:VK
 bk:St->Hp->Prop:=λ _ _=>False
 ct:St->Hp->Prop:=λ _ _=>False
abbrev TS:=Ends->St->Hp->Prop
def EP(X:Cx)(aB:List (qv×Obj))(σ:St)(Q:VK)(u:qx)(s':qj):Prop:=∃ v H',Inv X aB σ H' s'/\bB v u/\Q v H'
def TP(X:Cx)(aB:List (qv×Obj))(σ:St)(Q:Bool->Hp->Prop)(b:Bool)(s':qj):Prop:=∃ H',Inv X aB σ H' s'/\Q b H'
def AP(X:Cx)(aB:List (qv×Obj))(σ:St)(Q:List V->Hp->Prop)(us:List qx)(s':qj):Prop:=∃ vs H',Inv X aB σ H' s'/\aT vs us/\Q vs H'
def SP(X:Cx)(aB:List (qv×Obj))(D:Ends)(f:Flow)(s':qj):Prop:=
 match f with
 | .next=>∃ σ' H',Inv X aB σ' H' s'/\D.nx σ' H'
 | .brk=>∃ σ' H',Inv X aB σ' H' s'/\D.bk σ' H'
 | .cont=>∃ σ' H',Inv X aB σ' H' s'/\D.ct σ' H'
 | .ret u=>∃ v σ' H',Inv X aB σ' H' s'/\bB v u/\D.rt v H'
def PE(X:Cx)(e:qw)(t:TE):Prop:=
 ∀ (aB:List (qv×Obj)) (s:qj) (σ:St) (H:Hp) (Q:VK),Inv X aB σ H s->t σ H Q->qk (model X.prog X.w) X.A (eval e X.env) (EP X aB σ Q) X.xe s
def PT(X:Cx)(e:qw)(t:TT):Prop:=
 ∀ (aB:List (qv×Obj)) (s:qj) (σ:St) (H:Hp) (Q:Bool->Hp->Prop),Inv X aB σ H s->t σ H Q->qk (model X.prog X.w) X.A (isTrue e X.env (eval e X.env)) (TP X aB σ Q) X.xe s
def PW(X:Cx)(e:qw)(t:TT):Prop:=
 ∀ (eS:Sem qx) (aB:List (qv×Obj)) (s:qj) (σ:St) (H:Hp) (Q:Bool->Hp->Prop),Inv X aB σ H s->t σ H Q->qk (model X.prog X.w) X.A (isTrue e X.env eS) (TP X aB σ Q) X.xe s
theorem PW.pt{X:Cx}{e:qw}{t:TT}(h:PW X e t):PT X e t:=h _
def PA(X:Cx)(es:List qw)(t:TA):Prop:=
 ∀ (pos:Pos) (aB:List (qv×Obj)) (s:qj) (σ:St) (H:Hp) (Q:List V->Hp->Prop),Inv X aB σ H s->t σ H Q->qk (model X.prog X.w) X.A (spliced (backTo pos (qo es X.env))) (AP X aB σ Q) X.xe s
def PS(X:Cx)(st:xk)(t:TS):Prop:=
 ∀ (aB:List (qv×Obj)) (s:qj) (σ:St) (H:Hp) (D:Ends),Inv X aB σ H s->t D σ H->qk (model X.prog X.w) X.A (exec st X.env) (SP X aB D) X.xe s
def dM(X:Cx)(st:List xk)(t:TS):Prop:=
 ∀ (aB:List (qv×Obj)) (s:qj) (σ:St) (H:Hp) (D:Ends),Inv X aB σ H s->t D σ H->qk (model X.prog X.w) X.A (execs st X.env) (SP X aB D) X.xe s
theorem bC{α:Type}{t:Sem α}{Q Q':α->qj->Prop}{M:Model}{A:zv}{E:qx->qj->Prop}{s:qj}(h:qk M A t Q E s)(hQ:∀ a s,Q a s->Q' a s):qk M A t Q' E s:=wpAny_mono h hQ λ _ _ x=>x
end L2
namespace L2
open PySem PySem.Spec PyProof.Rows
section
variable {X : Cx}
theorem bin{a b:qw}{ta tb:TE}(ha:PE X a ta)(hb:PE X b tb){aB:List (qv×Obj)}{s:qj}{σ:St}{H:Hp}{R:V->V->Hp->Prop}(I:Inv X aB σ H s)(h:ta σ H λ x H1=>tb σ H1 λ y H2=>R x y H2)
 {α:Type}{Q:α->qj->Prop}{f:qx->qx->Sem α}
 (hf:∀ v u s2 x y H2,Inv X aB σ H2 s2->bB x v->bB y u->R x y H2->qk (model X.prog X.w) X.A (f v u) Q X.xe s2) :
 qk (model X.prog X.w) X.A (eval a X.env) (λ v s₁=>qk (model X.prog X.w) X.A (eval b X.env) (λ u s₂=>qk (model X.prog X.w) X.A (f v u) Q X.xe s₂) X.xe s₁) X.xe s:=by
 refine bC (ha aB s σ H _ I h) λ v s1 hPq0=>?_
 obtain⟨x,H1,I1,r1,q1⟩:=hPq0;refine bC (hb aB s1 σ H1 _ I1 q1) λ u s2 hPq1=>?_
 obtain⟨y,H2,I2,r2,q2⟩:=hPq1;exact hf v u s2 x y H2 I2 r1 r2 q2
def aV1(i:Nat):TE:=λ σ H Q=>∃ v,σ[i]? = qq (qq v)/\Q v H
def tC(v:V):TE:=λ _ H Q=>Q v H
theorem aRc{i:Nat}{x:Str}{pos:Pos}(hN:X.N[i]? = qq x)(hv:wU X.env.scope x)(hd:(x==("__debug__" : Str))=false:=by decide)(hcd:(x==("__classdict__" : Str))=false:=by decide):PE X (.Name x pos) (aV1 i):=by
 intro aB s σ H Q I h;obtain⟨v,e,h⟩:=h;obtain⟨m,hn,hl⟩:=I.loc;obtain⟨u,r,l⟩:=hl i x v hN e hv;have bI:EP X aB σ Q u s:=⟨v,H,I,r,h⟩;rcases l with ⟨hk,hm⟩ | ⟨hk,c,hc,hcell⟩
 ·exact wpAny_Name (wpAny_loadName_local I.ok.kind hk hn hm bI) hd
 ·rcases hk with hk | hk
  ·exact wpAny_Name (wpAny_loadName_cell I.ok.kind hk hc hcell bI) hd
  ·exact wpAny_Name (wpAny_loadName_free I.ok.kind hk hc hcell bI hcd) hd
theorem aTm{i j pos}:PE X (.Constant (.int i) j pos) (tC (.int i)):=λ _ _ _ H _ I h=>wpAny_Constant_int ⟨.int i,H,I.tok _,⟨_,rfl⟩,h⟩
theorem aUq{b j pos}:PE X (.Constant (.bool b) j pos) (tC (.bl b)):=λ _ _ _ H _ I h=>Constant_bool ⟨.bl b,H,I,rfl,h⟩
theorem aTp{j pos}:PE X (.Constant .none j pos) (tC .non):=λ _ _ _ H _ I h=>Constant_none ⟨.non,H,I,rfl,h⟩
theorem aRM{x j pos}:PE X (.Constant (.str x) j pos) (tC (.str x)):=λ _ _ _ H _ I h=>Calls.Constant_str ⟨.str x,H,I.tok _,⟨_,rfl⟩,h⟩
def Gl(X:Cx)(x:Str):Prop:=X.env.kindOf x=qq .globalImplicit
theorem aCN{E:qx->qj->Prop}{aB:List (qv×Obj)}{s:qj}{σ:St}{H:Hp}{x:Str}{u:qx}{pos:Pos}{Q:qx->qj->Prop}(I:Inv X aB σ H s)(hg:Gl X x)(hm:X.mg x=qq u)(h:Q u s)
 (hd:(x==("__debug__" : Str))=false:=by decide):qk (model X.prog X.w) X.A (eval (.Name x pos) X.env) Q E s:=
 Calls.Name_function_global I.ok.kind hg (Calls.loadGlobal_global (by rw[I.ok.glob];exact I.mod.glob.keeps I.bk) hm h) hd
theorem kX{E:qx->qj->Prop}{aB:List (qv×Obj)}{s:qj}{σ:St}{H:Hp}{x:Str}{u:qx}{pos:Pos}{Q:qx->qj->Prop}(I:Inv X aB σ H s)(hg:Gl X x)(hm:X.mg x=qz)(hv:jz x=qq u)(h:Q u s)
 (hn:x ≠ "__name__":=by decide) (hd:(x==("__debug__" : Str))=false:=by decide):qk (model X.prog X.w) X.A (eval (.Name x pos) X.env) Q E s:=by
 obtain⟨mb,h1,h2⟩:=I.mod.blt;exact Calls.Name_function_global I.ok.kind hg (Calls.loadGlobal_builtin (by rw[I.ok.glob];exact I.mod.glob.keeps I.bk) hm (by rw[I.ok.blt];exact h1.keeps I.bk) ((h2 x hn).trans hv) h) hd
theorem aHe{x:Str}{v:V}{u:qx}{pos:Pos}(hg:Gl X x)(hm:X.mg x=qq u)(r:bB v u)(hd:(x==("__debug__" : Str))=false:=by decide):PE X (.Name x pos) (tC v):=
 λ _ _ _ H _ I h=>aCN I hg hm ⟨v,H,I,r,h⟩ hd
theorem aOZ{x:Str}{v:V}{u:qx}{pos:Pos}(hg:Gl X x)(hm:X.mg x=qz)(hv:jz x=qq u)(r:bB v u)(hn:x ≠ "__name__":=by decide)(hd:(x==("__debug__" : Str))=false:=by decide):PE X (.Name x pos) (tC v):=
 λ _ _ _ H _ I h=>kX I hg hm hv ⟨v,H,I,r,h⟩ hn hd
variable {a b : qw}{ta tb : TE}{pos : Pos}
variable {tA tB' : TT}{cZ : List qw}
def aKJ(t u:TT):TT:=λ σ H Q=>t σ H λ c H1=>if c=true then u σ H1 Q else Q false H1
def tOr(t u:TT):TT:=λ σ H Q=>t σ H λ c H1=>if c=true then Q true H1 else u σ H1 Q
def aWt(t:TT):TT:=λ σ H Q=>t σ H λ c H1=>Q (!c) H1
theorem aOC(ha:PT X a tA):PW X (.BoolOp .And [a] pos) tA:=by
 intro wh aB s σ H Q I h;refine isTrue_and (bC (ha aB s σ H Q I h) λ c s1 e=>?_)
 cases c with
 | true=>exact isTrue_and_nil e
 | false=>exact e
theorem aS9(ha:PT X a tA):PW X (.BoolOp .Or [a] pos) tA:=by
 intro wh aB s σ H Q I h;refine isTrue_or (bC (ha aB s σ H Q I h) λ c s1 e=>?_)
 cases c with
 | false=>exact isTrue_or_nil e
 | true=>exact e
theorem aH6(ha:PT X a tA)(hb:PW X (.BoolOp .And (b::cZ) pos) tB'):PW X (.BoolOp .And (a::b::cZ) pos) (aKJ tA tB'):=by
 intro wh aB s σ H Q I h;refine isTrue_and (bC (ha aB s σ H _ I h) λ c s1 hPq2=>?_)
 obtain⟨H1,I1,q1⟩:=hPq2;cases c with
 | true=>exact hb wh aB s1 σ H1 Q I1 q1
 | false=>exact⟨H1,I1,q1⟩
theorem aJD(ha:PT X a tA)(hb:PW X (.BoolOp .Or (b::cZ) pos) tB'):PW X (.BoolOp .Or (a::b::cZ) pos) (tOr tA tB'):=by
 intro wh aB s σ H Q I h;refine isTrue_or (bC (ha aB s σ H _ I h) λ c s1 hPq3=>?_)
 obtain⟨H1,I1,q1⟩:=hPq3;cases c with
 | true=>exact⟨H1,I1,q1⟩
 | false=>exact hb wh aB s1 σ H1 Q I1 q1
theorem aR2(ha:PT X a tA):PT X (.UnaryOp .Not a pos) (aWt tA):=by
 intro aB s σ H Q I h;exact isTrue_not (ha aB s σ H (λ c H1=>Q (!c) H1) I h)
def aJ0(ta tb:TE):TE:=λ σ H Q=>ta σ H λ x H1=>∃ c,x=.bl c/\if c=true then tb σ H1 Q else Q (.bl false) H1
def aKh(ta tb:TE):TE:=λ σ H Q=>ta σ H λ x H1=>∃ c,x=.bl c/\if c=true then Q (.bl true) H1 else tb σ H1 Q
def aT8(ta:TE):TE:=λ σ H Q=>ta σ H λ x H1=>∃ c,x=.bl c/\Q (.bl (!c)) H1
theorem aIN{op}{t:TE}(h:PE X a t):PE X (.BoolOp op [a] pos) t:=λ aB s σ H Q I hw=>BoolOp_one (h aB s σ H Q I hw)
theorem aH4(ha:PE X a ta)(hb:PE X (.BoolOp .And (b::cZ) pos) tb):PE X (.BoolOp .And (a::b::cZ) pos) (aJ0 ta tb):=by
 intro aB s σ H Q I h;refine BoolOp_and (bC (ha aB s σ H _ I h) λ v s1 hPq4=>?_)
 obtain⟨x,H1,I1,r1,q1⟩:=hPq4;obtain⟨c,rfl,q1⟩:=q1;cases r1;refine xq ?_;cases c with
 | true=>exact hb aB s1 σ H1 Q I1 q1
 | false=>exact⟨.bl false,H1,I1,rfl,q1⟩
theorem aJG(ha:PE X a ta)(hb:PE X (.BoolOp .Or (b::cZ) pos) tb):PE X (.BoolOp .Or (a::b::cZ) pos) (aKh ta tb):=by
 intro aB s σ H Q I h;refine BoolOp_or (bC (ha aB s σ H _ I h) λ v s1 hPq5=>?_)
 obtain⟨x,H1,I1,r1,q1⟩:=hPq5;obtain⟨c,rfl,q1⟩:=q1;cases r1;refine xq ?_;cases c with
 | false=>exact hb aB s1 σ H1 Q I1 q1
 | true=>exact⟨.bl true,H1,I1,rfl,q1⟩
theorem aRI(ha:PE X a ta):PE X (.UnaryOp .Not a pos) (aT8 ta):=by
 intro aB s σ H Q I h;refine UnaryOp_ (bC (ha aB s σ H _ I h) λ v s1 hPq6=>?_)
 obtain⟨x,H1,I1,r1,q1⟩:=hPq6;obtain⟨c,rfl,q1⟩:=q1;cases r1;exact not_of (xq ⟨.bl (!c),H1,I1,rfl,q1⟩)
def tIf(t:TT)(ta tb:TE):TE:=λ σ H Q=>t σ H λ c H1=>if c=true then ta σ H1 Q else tb σ H1 Q
theorem aOn{c:qw}(hc:PT X c tA)(ha:PE X a ta)(hb:PE X b tb):PE X (.IfExp c a b pos) (tIf tA ta tb):=by
 intro aB s σ H Q I h;refine wpAny_IfExp (bC (hc aB s σ H _ I h) λ d s1 hPq7=>?_)
 obtain⟨H1,I1,q1⟩:=hPq7;cases d with
 | true=>exact ha aB s1 σ H1 Q I1 q1
 | false=>exact hb aB s1 σ H1 Q I1 q1
end
end L2
namespace L2
open PySem PySem.Spec PyProof.Rows
def bL(K:FrG)(H:Hp)(a:qv)(xs:List V):Prop:=
 Rd H a (.lst xs) \/
  ∃ (o:Obj) (aG:Array qx) (n:Nat),K.lookup a=qq o/\o.cls=.type "list" /\ o.dict=qz/\o.data=.seq aG n/\aG.size<=qy/\aT xs aG.toList
def bQ(K:FrG)(H:Hp)(a:qv)(xs:List V):Prop:=
 Rd H a (.tup xs) \/
  ∃ (o:Obj) (aG:Array qx) (n:Nat),K.lookup a=qq o/\o.cls=.type "tuple" /\ o.data=.seq aG n/\aG.size<=qy/\aT xs aG.toList
noncomputable def aWg:qx->Option V
 | .none=>qq .non
 | .bool b=>qq (.bl b)
 | .int i _=>qq (.int i)
 | .str x _=>qq (.str x)
 | .bytes b _=>qq (.byt b)
 | .float b _=>qq (.flt b)
 | .ref a=>qq (.ref a)
 | .type n=>qq (.ty n)
 | _=>qz
theorem bB.abs{x:V}{u:qx}(r:bB x u):aWg u=qq x:=by
 cases x with
 | non=>cases r;rfl
 | bl _=>cases r;rfl
 | int _=>obtain⟨t,rfl⟩:=r;rfl
 | str _=>obtain⟨t,rfl⟩:=r;rfl
 | byt _=>obtain⟨t,rfl⟩:=r;rfl
 | flt _=>obtain⟨t,rfl⟩:=r;rfl
 | ref _=>cases r;rfl
 | ty _=>cases r;rfl
theorem bB.inj{x y:V}{u:qx}(r:bB x u)(q:bB y u):x=y:=Option.some.inj (r.abs.symm.trans q.abs)
theorem aT.inj:∀ {xs ys:List V}{us:List qx},aT xs us->aT ys us->xs=ys
 | _,_,_,.nil,.nil=>rfl
 | _,_,_,.cons r t,.cons r' t'=>by rw[r.inj r',aT.inj t t']
section
variable {X : Cx}{aB : List (qv×Obj)}{σ : St}{H : Hp}{s : qj}{a : qv}{xs ys : List V}
theorem bL.of{K:FrG}(h:H a=qq (.lst xs)):bL K H a xs:=.inl (.inl h)
theorem bQ.of{K:FrG}(h:H a=qq (.tup xs)):bQ K H a xs:=.inl (.inl h)
theorem Inv.list(I:Inv X aB σ H s)(h:bL X.K H a xs):∃ aG:List qx,aT xs aG/\PlainL s.heap a aG.toArray/\xs.length<=qy:=by
 rcases h with h | ⟨o,aG,n,hk,hc,hd,hs,hz,r⟩
 ·obtain⟨z,aG,n,r,e⟩:=h.ok I.hok;exact⟨aG,r,⟨_,n,e,rfl,rfl,rfl⟩,z⟩
 ·refine⟨aG.toList,r,⟨o,n,I.kIn a o hk,hc,hd,by simpa using hs⟩,?_⟩
  have e:=r.length;simp only[yEd] at e;omega
theorem Inv.tuple(I:Inv X aB σ H s)(h:bQ X.K H a xs):∃ aG:List qx,aT xs aG/\IsTup s.heap a aG.toArray/\xs.length<=qy:=by
 rcases h with h | ⟨o,aG,n,hk,hc,hs,hz,r⟩
 ·obtain⟨z,aG,r,p⟩:=h.ok I.hok;exact⟨aG,r,p,z⟩
 ·refine⟨aG.toList,r,⟨o,I.kIn a o hk,hc,n,by simpa using hs⟩,?_⟩
  have e:=r.length;simp only[yEd] at e;omega
theorem Inv.list_inj(I:Inv X aB σ H s)(h:bL X.K H a xs)(h':bL X.K H a ys):xs=ys:=by
 obtain⟨aG,r,⟨o,n,e,_,_,d⟩,_⟩:=I.list h;obtain⟨its',r',⟨o',n',e',_,_,d'⟩,_⟩:=I.list h';rw[e] at e';cases e';rw[d] at d';injection d' with d1 _
 have:aG=its':=by simpa using congrArg Array.toList d1
 subst this;exact r.inj r'
theorem Inv.tuple_inj(I:Inv X aB σ H s)(h:bQ X.K H a xs)(h':bQ X.K H a ys):xs=ys:=by
 obtain⟨aG,r,⟨o,e,_,n,d⟩,_⟩:=I.tuple h;obtain⟨its',r',⟨o',e',_,n',d'⟩,_⟩:=I.tuple h';rw[e] at e';cases e';rw[d] at d';injection d' with d1 _
 have:aG=its':=by simpa using congrArg Array.toList d1
 subst this;exact r.inj r'
end
noncomputable abbrev Cx.wish(X:Cx)(E:qx->qj->Prop):Cx:={X with xe:=E }
noncomputable abbrev Cx.nox(X:Cx):Cx:=X.wish λ _ _=>False
theorem Cx.Ok.wish{X:Cx}(ok:X.Ok)(E:qx->qj->Prop):(X.wish E).Ok:=
 ⟨ok.mod,ok.kind,ok.glob,ok.blt,ok.above,ok.inj,ok.has,ok.cab,ok.hd,ok.frames,ok.stk,ok.exf,ok.bs,ok.bsz,ok.noex,ok.exfs,ok.funs,ok.frf⟩
theorem Cx.Ok.unwish{X:Cx}{E:qx->qj->Prop}(ok:(X.wish E).Ok):X.Ok:=
 ⟨ok.mod,ok.kind,ok.glob,ok.blt,ok.above,ok.inj,ok.has,ok.cab,ok.hd,ok.frames,ok.stk,ok.exf,ok.bs,ok.bsz,ok.noex,ok.exfs,ok.funs,ok.frf⟩
section
variable {X : Cx}{aB : List (qv×Obj)}{σ : St}{H : Hp}{s : qj}{E : qx -> qj -> Prop}
theorem Inv.wish(I:Inv X aB σ H s)(E:qx->qj->Prop):Inv (X.wish E) aB σ H s:=⟨I.ok.wish E,I.os,I.bare,I.base,I.loc,I.cell,I.free,I.freeC,I.pin,I.hok,I.len⟩
theorem Inv.unwish(I:Inv (X.wish E) aB σ H s):Inv X aB σ H s:=⟨I.ok.unwish,I.os,I.bare,I.base,I.loc,I.cell,I.free,I.freeC,I.pin,I.hok,I.len⟩
theorem SP.unwish{D:Ends}{f:Flow}{s':qj}(h:SP (X.wish E) aB D f s'):SP X aB D f s':=by
 cases f with
 | next=>obtain⟨σ',H',I,q⟩:=h;exact⟨σ',H',I.unwish,q⟩
 | brk=>obtain⟨σ',H',I,q⟩:=h;exact⟨σ',H',I.unwish,q⟩
 | cont=>obtain⟨σ',H',I,q⟩:=h;exact⟨σ',H',I.unwish,q⟩
 | ret u=>obtain⟨v,σ',H',I,r,q⟩:=h;exact⟨v,σ',H',I.unwish,r,q⟩
theorem PE.nox{e:qw}{t:TE}(h:PE X.nox e t):PE X e t:=λ aB s σ H Q I hw =>
 wpAny_mono (h aB s σ H Q (I.wish _) hw) (λ _ _ hPr0=>by obtain⟨v,H',I',r,q⟩:=hPr0;exact⟨v,H',I'.unwish,r,q⟩) λ _ _ z=>False.elim z
theorem PT.nox{e:qw}{t:TT}(h:PT X.nox e t):PT X e t:=λ aB s σ H Q I hw =>
 wpAny_mono (h aB s σ H Q (I.wish _) hw) (λ _ _ hPr1=>by obtain⟨H',I',q⟩:=hPr1;exact⟨H',I'.unwish,q⟩) λ _ _ z=>False.elim z
theorem dM.nox{st:List xk}{t:TS}(h:dM X.nox st t):dM X st t:=λ aB s σ H D I hw =>
 wpAny_mono (h aB s σ H D (I.wish _) hw) (λ _ _ q=>q.unwish) λ _ _ z=>False.elim z
end
section
variable {X : Cx}{st : xk}{cZ : List xk}{t u : TS}{e : qw}{te : TE}{pos : Pos}
def aUi:TS:=λ D σ H=>D.nx σ H
def aVW(t u:TS):TS:=λ D σ H=>t {D with nx:=u D } σ H
theorem aQc:dM X [] aUi:=λ _ _ σ H _ I h=>wpAny_execs_nil ⟨σ,H,I,h⟩
theorem aNF(h1:PS X st t)(h2:dM X cZ u):dM X (st::cZ) (aVW t u):=by
 intro aB s σ H D I h;refine wpAny_execs_cons (bC (h1 aB s σ H {D with nx:=u D } I h) λ f s1 q=>?_)
 cases f with
 | next =>
   obtain⟨σ',H',I',q⟩:=q;exact h2 aB s1 σ' H' D I' q
 | ret v=>exact q
 | brk=>exact q
 | cont=>exact q
theorem Inv.quiet{aB:List (qv×Obj)}{σ:St}{H:Hp}{s:qj}(I:Inv X aB σ H s):interactive X.env=false:=by simp[interactive,I.ok.kind]
def aVC(te:TE):TS:=λ D σ H=>te σ H λ _ H1=>D.nx σ H1
theorem aPH(he:PE X e te)(hs:swapsWith e qz pos.line X.env=pure false:=by rfl):PS X (.Expr e pos) (aVC te):=by
 intro aB s σ H D I h;exact wpAny_Expr_any (bC (he aB s σ H _ I h) λ v s1 ⟨x,H1,I1,r1,q1⟩=>⟨σ,H1,I1,q1⟩) I.quiet hs
def aW6(te:TE):TS:=λ D σ H=>te σ H D.rt
theorem aRP(he:PE X e te):PS X (.Return (qq e) pos) (aW6 te):=by
 intro aB s σ H D I h;exact wpAny_Return_some (bC (he aB s σ H _ I h) λ v s1 ⟨x,H1,I1,r1,q1⟩=>⟨x,σ,H1,I1,r1,q1⟩)
def aWh(c:TT)(t u:TS):TS:=λ D σ H=>c σ H λ b H1=>if b=true then t D σ H1 else u D σ H1
theorem aTt{c:qw}{a b:List xk}{tc:TT}(hc:PT X c tc)(ha:dM X a t)(hb:dM X b u):PS X (.If c a b pos) (aWh tc t u):=by
 intro aB s σ H D I h;refine wpAny_If (bC (hc aB s σ H _ I h) λ d s1 hPq8=>?_)
 obtain⟨H1,I1,q1⟩:=hPq8;cases d with
 | true=>exact ha aB s1 σ H1 D I1 q1
 | false=>exact hb aB s1 σ H1 D I1 q1
end
abbrev TG:=V->St->Hp->(St->Hp->Prop)->Prop
abbrev iT:=List V->St->Hp->(St->Hp->Prop)->Prop
def PG(X:Cx)(target:qw)(t:TG):Prop:=
 ∀ (aB:List (qv×Obj)) (s:qj) (σ:St) (H:Hp) (v:V) (u:qx) (Q:St->Hp->Prop),Inv X aB σ H s->bB v u->t v σ H Q ->
  qk (model X.prog X.w) X.A (assign target X.env u) (λ _ s'=>∃ σ' H',Inv X aB σ' H' s'/\Q σ' H') X.xe s
def qH(X:Cx)(ts:List qw)(t:iT):Prop:=
 ∀ (aB:List (qv×Obj)) (s:qj) (σ:St) (H:Hp) (vs:List V) (us:List qx) (Q:St->Hp->Prop),Inv X aB σ H s->aT vs us->t vs σ H Q ->
  qk (model X.prog X.w) X.A (assignInOrder ((zo ts X.env).map (·.2)) us) (λ _ s'=>∃ σ' H',Inv X aB σ' H' s'/\Q σ' H') X.xe s
abbrev aDI:=V->V->V->Hp->(Hp->Prop)->Prop
def aKw(X:Cx)(t:aDI):Prop:=
 ∀ (aB:List (qv×Obj)) (s:qj) (σ:St) (H:Hp) (o i v:V) (ov iv u:qx) (Q:Hp->Prop),Inv X aB σ H s->bB o ov->bB i iv->bB v u->t o i v H Q ->
  qk (model X.prog X.w) X.A (setItem ov iv u) (λ _ s'=>∃ H',Inv X aB σ H' s'/\Q H') X.xe s
section
variable {X : Cx}{pos : Pos}
def nY(i:Nat):TG:=λ v σ H Q=>Q (σ.set i (qq v)) H
theorem aCr{i:Nat}{x:Str}(hN:X.N.Nodup)(hi:X.N[i]? = qq x)(hx:Loc X.env.scope x)(hf:X.fn x=true\/X.env.scope.names.lookup x=qq .local:=by first | exact .inl rfl | exact .inr rfl | assumption):PG X (.Name x pos) (nY i):=by
 intro aB s σ H v u Q I r h;exact wpAny_assign_Name (aGH I hN hi hx r (λ s' I'=>⟨_,H,I',h⟩) hf)
noncomputable def aD0:iT:=λ vs σ H Q=>vs=[]/\Q σ H
noncomputable def aDp(t:TG)(u:iT):iT:=λ vs σ H Q=>∃ v r,vs=v::r/\t v σ H λ σ' H'=>u r σ' H' Q
theorem aPa:qH X [] aD0:=by
 intro aB s σ H vs us Q I r h;obtain⟨e,h⟩:=h;subst e;cases r;exact assignInOrder_nil ⟨σ,H,I,h⟩
theorem aNA{e:qw}{es:List qw}{t:TG}{u:iT}(h1:PG X e t)(h2:qH X es u)
 (hs:(zo (e::es) X.env).map (·.2)=assign e X.env::(zo es X.env).map (·.2):=by rfl):qH X (e::es) (aDp t u):=by
 intro aB s σ H vs us Q I r h;obtain⟨v,vr,e1,h⟩:=h;subst e1;cases r with
 | cons r rr =>
   rw[hs];refine assignInOrder_cons (bC (h1 aB s σ H _ _ _ I r h) λ _ s1 hPq9=>?_)
   obtain⟨σ1,H1,I1,q1⟩:=hPq9;exact h2 aB s1 σ1 H1 _ _ Q I1 rr q1
def aWP(K:FrG)(n:Nat)(t:iT):TG:=λ v σ H Q=>∃ a xs,v=.ref a/\bQ K H a xs/\xs.length=n/\t xs σ H Q
theorem aTf{es:List qw}{k:Nat}{t:iT}{n:Nat}(hc:X.calm=true)(h:qH X es t)
 (hn:(zo es X.env).length=n:=by rfl) (hst:(zo es X.env).findIdx? (·.1)=qz:=by rfl):PG X (.Tuple es k pos) (aWP X.K n t):=by
 intro aB s σ H v u Q I r hw;obtain⟨a,xs,e1,hq,hl,hw⟩:=hw;subst e1;cases r;obtain⟨aG,rv,ht,hz⟩:=I.tuple hq;refine assign_Tuple_tuple (I.ok.hd hc) ht (by simp[hn,<- hl,rv.length]) hst λ h' hx=>?_
 have I1:Inv X aB σ H {s with heap:=h' }:=I.kept (t':=s.toks) λ b o e=>hx b o (xAk (xAa e)) e
 exact h aB _ σ H xs _ Q I1 (by simpa using rv) hw
def aKs(to ti:TE)(t:aDI):TG:=λ v σ H Q=>to σ H λ o H1=>ti σ H1 λ i H2=>t o i v H2 λ H3=>Q σ H3
theorem aRo{o i:qw}{to ti:TE}{t:aDI}(ho:PE X o to)(hi:PE X i ti)(hs:aKw X t)
 (ha:∀ v,assign (.Subscript o i pos) X.env v=(do
   let ov <- holding [v] (eval o X.env)
   let iv <- holding [v,ov] (eval i X.env)
   standAt pos
   holding [v,ov,iv] (setItem ov iv v)
   release [v,ov,iv] []):=by intro _;rfl):PG X (.Subscript o i pos) (aKs to ti t):=by
 intro aB s σ H v u Q I r h;rw[ha];refine wB (zy (bC (ho aB s σ H _ I h) λ ov s1 hPq10=>?_))
 obtain⟨x,H1,I1,r1,q1⟩:=hPq10;refine wB (zy (bC (hi aB s1 σ H1 _ I1 q1) λ iv s2 hPq11=>?_))
 obtain⟨y,H2,I2,r2,q2⟩:=hPq11;refine wB (yu (wB (zy (bC (hs aB s2 σ H2 x y v ov iv u _ I2 r1 r2 r q2) λ _ s3 hPq12=>?_))))
 obtain⟨H3,I3,q3⟩:=hPq12;exact wpAny_release ⟨σ,H3,I3,q3⟩
def wK(te:TE)(g:TG):TS:=λ D σ H=>te σ H λ x H1=>g x σ H1 D.nx
theorem aI5{tg e:qw}{te:TE}{g:TG}(he:PE X e te)(hg:PG X tg g)(hs:swapsWithSole [tg] e pos.line X.env=pure false:=by rfl)(hw:yy [tg] e X.env=pure qz:=by rfl)
 (h1:(zo [tg] X.env).map (·.2)=[assign tg X.env]:=by rfl):PS X (.Assign [tg] e pos) (wK te g):=by
 intro aB s σ H D I h;refine wpAny_Assign_stores (bC (he aB s σ H _ I h) λ v s1 hPq13=>?_) hs hw
 obtain⟨x,H1,I1,r1,q1⟩:=hPq13;rw[h1];exact bC (hg aB s1 σ H1 x v _ I1 r1 q1) λ _ s2 q=>q
theorem aSh{i:Nat}{x:Str}{e:qw}{te:TE}{pos':Pos}(hN:X.N.Nodup)(hi:X.N[i]? = qq x)(hx:Loc X.env.scope x)(he:PE X e te)(hs:swapsWith e (qq (.Name x pos')) pos.line X.env=pure false:=by rfl)(hf:X.fn x=true\/X.env.scope.names.lookup x=qq .local:=by first | exact .inl rfl | exact .inr rfl | assumption) :
 PS X (.Assign [.Name x pos'] e pos) (wK te (nY i)):=by
 intro aB s σ H D I h;refine wpAny_Assign_Name (bC (he aB s σ H _ I h) λ v s1 hPq14=>?_) hs
 obtain⟨y,H1,I1,r1,q1⟩:=hPq14;exact aGH I1 hN hi hx r1 (λ s2 I2=>⟨_,H1,I2,q1⟩) hf
end
section
variable {X : Cx}{pos : Pos}
def aR1(c:TT)(tb:TS):TS:=λ D σ H=>∃ W:Nat->St->Hp->Prop,(∃ m,W m σ H)/\∀ m σ H,W m σ H ->
 c σ H λ b H1=>if b=true then ∃ N:St->Hp->Prop,(∀ σ' H',N σ' H'->∃ m',m'<m/\W m' σ' H')/\tb {D with nx:=N,ct:=N,bk:=D.nx } σ H1 else D.nx σ H1
theorem aOe{c:qw}{body:List xk}{tc:TT}{tb:TS}(hp:PassesOwn (model X.prog X.w) X.A X.env X.xe)(hc:PT X c tc)(hb:dM X body tb):PS X (.While c body [] pos) (aR1 tc tb):=by
 intro aB s σ H D I h;obtain⟨W,⟨m0,w0⟩,turn⟩:=h;refine wpAny_While (codeAny_whileLoop (λ n s'=>∃ σ' H',Inv X aB σ' H' s'/\W n σ' H') ?_ m0 ⟨σ,H,I,w0⟩)
 rintro n s1 ⟨σ1,H1,I1,w1⟩;refine jj hp (bC (hc aB s1 σ1 H1 _ I1 (turn n σ1 H1 w1)) λ b s2 hPq15=>?_)
 obtain⟨H2,I2,q2⟩:=hPq15;cases b with
 | true =>
   obtain⟨N,hN,q2⟩:=q2;rw[if_pos rfl];refine jj hp (bC (hb aB s2 σ1 H2 _ I2 q2) λ f s3 q3=>?_)
   cases f with
   | next =>
     obtain⟨σ3,H3,I3,n3⟩:=q3;obtain⟨m',hm,w3⟩:=hN σ3 H3 n3;exact⟨m',hm,σ3,H3,I3,w3⟩
   | cont =>
     obtain⟨σ3,H3,I3,n3⟩:=q3;obtain⟨m',hm,w3⟩:=hN σ3 H3 n3;exact⟨m',hm,σ3,H3,I3,w3⟩
   | brk=>exact q3
   | ret v=>exact q3
 | false =>
   rw[if_neg yBj];exact wpAny_execs_nil ⟨σ1,H2,I2,q2⟩
end
structure It where
 go:Nat->Hp->Prop
 yld:Nat->Hp->V->Hp->Prop
 stop:Nat->Hp->Prop
def gF(X:Cx)(aB:List (qv×Obj))(H:Hp)(b:qv):Prop:=
 H b=qz/\b≠X.env.locals/\b ∉ X.fs/\(b∈X.ex\/X.s₀.heap.objs.size<=b)/\(∀ x c,X.env.cells.lookup x=qq c->c≠b)/\∀ p∈X.pn++aB,p.1≠b
theorem Inv.fpOk{X:Cx}{aB:List (qv×Obj)}{σ:St}{H H':Hp}{s:qj}{b:qv}(I:Inv X aB σ H s)(hb:s.heap.objs.size<=b)(hn:H' b=qz):gF X aB H' b:=by
 refine⟨hn,yDy (xAc I.lt hb),I.nofs hb,.inr (xAi I.sz hb),λ x c e z=>?_,λ p hp z=>?_⟩
 ·obtain⟨v,q⟩:=I.cell x c e;exact absurd (xAc q.lt (by rw[z];exact hb)) (yCc _)
 ·exact absurd (xAc (xAa (I.pin p hp).1) (by rw[z];exact hb)) (yCc _)
structure Turn(P:qu)(w:zx)(K:FrG)(tg:qw)(J:It)(fp:List qv)(it:qv)(tn:Nat->Heap->Prop):Prop where
 mem:it∈fp
 obj:∀ i h,tn i h->∀ b∈fp,∃ o,h.get? b=qq o/\∀ v,o.data≠.cell v
 keep:∀ i h h',tn i h->(∀ b∈fp,∀ o,h.get? b=qq o->h'.get? b=qq o)->tn i h'
 item:∀ (X:Cx),X.prog=P->X.w=w->X.K=K->X.calm=true->∀ (i:Nat) (aB:List (qv×Obj)) (s:qj) (σ:St) (H:Hp) (E:qx->qj->Prop),Inv X aB σ H s->(∀ b∈fp,gF X aB H b)->tn i s.heap->J.go i H ->
  qk (model P w) X.A (vx (.ref it)) (λ r s1=>∃ u,r=qq u /\
   qk (model P w) X.A (wu tg (.ref it) u) (λ _ s2=>∃ x H',Inv X aB σ H' s2/\bB x u/\J.yld i H x H'/\tn (i+1) s2.heap/\∀ b∈fp,H' b=qz) E s1) E s
 done:∀ (X:Cx),X.prog=P->X.w=w->X.K=K->X.calm=true->∀ (i:Nat) (aB:List (qv×Obj)) (s:qj) (σ:St) (H:Hp) (E:qx->qj->Prop),Inv X aB σ H s->(∀ b∈fp,gF X aB H b)->tn i s.heap->J.stop i H ->
  qk (model P w) X.A (vx (.ref it)) (λ r s1=>r=qz/\Inv X aB σ H s1) E s
 self:∀ (A:zv) (i:Nat) (s:qj) (Q:qx->qj->Prop) (E:qx->qj->Prop),tn i s.heap->Q (.ref it) s->qk (model P w) A (pyIter (.ref it)) Q E s
abbrev TI:=St->Hp->(It->Hp->Prop)->Prop
def PIE(X:Cx)(aB:List (qv×Obj))(σ:St)(tg:qw)(R:It->Hp->Prop)(itv:qx)(s2:qj):Prop:=
 ∃ (it:qv) (fp:List qv) (tn:Nat->Heap->Prop) (J:It) (H':Hp),itv=.ref it/\Inv X aB σ H' s2/\Turn X.prog X.w X.K tg J fp it tn/\tn 0 s2.heap/\(∀ b∈fp,gF X aB H' b)/\R J H'
def PI(X:Cx)(tg iter:qw)(wi:TI):Prop:=
 ∀ (aB:List (qv×Obj)) (s:qj) (σ:St) (H:Hp) (R:It->Hp->Prop),Inv X aB σ H s->wi σ H R ->
  qk (model X.prog X.w) X.A (eval iter X.env) (λ v s1=>qk (model X.prog X.w) X.A (pyIter v) (PIE X aB σ tg R) X.xe s1) X.xe s
theorem aAI{M:Model}{A:zv}{E:qx->qj->Prop}{s:qj}{tg:qw}{it:qv}{u:qx}{o:Obj}{n:String}{vs:Array qx}{Q:Unit->qj->Prop}(ho:s.heap.get? it=qq o)(hc:o.cls=.type n)(hd:o.data=.fields vs)
 (hn:["enumerate", "zip", "dict_itemiterator", "dict_reverseitemiterator", "odict_iterator", "itertools.zip_longest", "itertools.pairwise"].contains n=false) (hQ:Q () s):qk M A (wu tg (.ref it) u) Q E s:=by
 unfold wu;cases tg<;>first
  | exact wP hQ
  | (cases u<;>first
      | exact wP hQ
      | (refine wB (wpAny_load ho ?_)
         rw[hc,hd];show qk M A (if (["enumerate", "zip", "dict_itemiterator", "dict_reverseitemiterator", "odict_iterator", "itertools.zip_longest", "itertools.pairwise"].contains n&&vs[0]?==qq (yk _))=true then _ else _) Q E s
         rw[if_neg (by intro h;rw[hn,yBi] at h;cases h)]
         exact wP hQ))
noncomputable def Itl(K:FrG)(a:qv):It:=
 ⟨λ i H=>∃ xs x,bL K H a xs/\xs[i]? = qq x,λ i H x H'=>H'=H/\∀ xs,bL K H a xs->xs[i]? = qq x,λ i H=>∃ xs,bL K H a xs/\xs.length<=i⟩
noncomputable def Itt(K:FrG)(a:qv):It:=
 ⟨λ i H=>∃ xs x,bQ K H a xs/\xs[i]? = qq x,λ i H x H'=>H'=H/\∀ xs,bQ K H a xs->xs[i]? = qq x,λ i H=>∃ xs,bQ K H a xs/\xs.length<=i⟩
noncomputable def xB(lo:Int)(n:Nat):It:=⟨λ i _=>i<n,λ i H x H'=>H'=H/\x=.int (lo+i),λ i _=>n<=i⟩
theorem aMW{P:qu}{w:zx}{K:FrG}{tg:qw}(a it:qv):Turn P w K tg (Itl K a) [it] it (λ i h=>h.IsListIter it a i) where
 mem:=by simp
 obj:=λ i h st b hb=>by
  have e:b=it:=by simpa using hb
  subst e;obtain⟨o,e,c,d⟩:=st;exact⟨o,e,λ v z=>by rw[d] at z;cases z⟩
 keep:=λ i h h' st k=>st.at λ o e=>k it (by simp) o e
 item:=by
  intro X hP hw hK hc i aB s σ H E I hf st hg;subst hP hw hK;obtain⟨xs,x,hq,hx⟩:=hg;obtain⟨aG,rv,p,hz⟩:=I.list hq;obtain⟨u,hu,ru⟩:=rv.get hx;obtain⟨f0,f1,f2,f3,f4,f5⟩:=hf it (by simp)
  refine vy st p.isList (x:=u) (by simpa using hu) λ h' st' sb=>?_
  have I1:Inv X aB σ H {s with heap:=h' }:=I.turned (t':=s.toks) (λ b o hb e=>(sb.2 b hb).trans e) f0 f1 f3 f4 f5
  obtain⟨o,e,c,d⟩:=id st';exact⟨u,rfl,aAI (s:={s with heap:=h' }) e c d (by decide) ⟨x,H,I1,ru,⟨rfl,λ ys hy=>by rw[I.list_inj hy hq];exact hx⟩,st',λ b hb=>(hf b hb).1⟩⟩
 done:=by
  intro X hP hw hK hc i aB s σ H E I hf st hg;subst hP hw hK;obtain⟨xs,hq,hx⟩:=hg;obtain⟨aG,rv,p,hz⟩:=I.list hq;obtain⟨f0,f1,f2,f3,f4,f5⟩:=hf it (by simp)
  have hl:=rv.length;exact vo (I.ok.hd hc) st p.isList (by simp;omega) λ h' eb=>⟨rfl,I.turned (t':=s.toks) (λ b o hb e=>eb b o hb e) f0 f1 f3 f4 f5⟩
 self:=λ _ _ _ _ _ st h=>wpAny_pyIter_listiter st h
theorem aMw{P:qu}{w:zx}{K:FrG}{tg:qw}(a it:qv):Turn P w K tg (Itt K a) [it] it (λ i h=>h.IsTupleIter it a i) where
 mem:=by simp
 obj:=λ i h st b hb=>by
  have e:b=it:=by simpa using hb
  subst e;obtain⟨o,e,c,d⟩:=st;exact⟨o,e,λ v z=>by rw[d] at z;cases z⟩
 keep:=λ i h h' st k=>st.at λ o e=>k it (by simp) o e
 item:=by
  intro X hP hw hK hc i aB s σ H E I hf st hg;subst hP hw hK;obtain⟨xs,x,hq,hx⟩:=hg;obtain⟨aG,rv,p,hz⟩:=I.tuple hq;obtain⟨u,hu,ru⟩:=rv.get hx;obtain⟨f0,f1,f2,f3,f4,f5⟩:=hf it (by simp)
  refine wpAny_pyNext_tuple_item st (show s.heap.IsTuple a aG.toArray from p) (x:=u) (by simpa using hu) λ h' st' sb=>?_
  have I1:Inv X aB σ H {s with heap:=h' }:=I.turned (t':=s.toks) (λ b o hb e=>(sb.2 b hb).trans e) f0 f1 f3 f4 f5
  obtain⟨o,e,c,d⟩:=id st';exact⟨u,rfl,aAI (s:={s with heap:=h' }) e c d (by decide) ⟨x,H,I1,ru,⟨rfl,λ ys hy=>by rw[I.tuple_inj hy hq];exact hx⟩,st',λ b hb=>(hf b hb).1⟩⟩
 done:=by
  intro X hP hw hK hc i aB s σ H E I hf st hg;subst hP hw hK;obtain⟨xs,hq,hx⟩:=hg;obtain⟨aG,rv,p,hz⟩:=I.tuple hq;obtain⟨f0,f1,f2,f3,f4,f5⟩:=hf it (by simp)
  have hl:=rv.length;exact wpAny_pyNext_tuple_end (I.ok.hd hc) st (show s.heap.IsTuple a aG.toArray from p) (by simp;omega) λ h' eb=>⟨rfl,I.turned (t':=s.toks) (λ b o hb e=>eb b o hb e) f0 f1 f3 f4 f5⟩
 self:=λ _ _ _ _ _ st h=>wpAny_pyIter_tupleiter st h
theorem aMn{P:qu}{w:zx}{K:FrG}{tg:qw}(it:qv)(lo:Int)(n:Nat):Turn P w K tg (xB lo n) [it] it (λ i h=>kv h it (lo+(i:Nat)*1) ((n:Int)-(i:Nat)) 1) where
 mem:=by simp
 obj:=λ i h st b hb=>by
  have e:b=it:=by simpa using hb
  subst e;exact⟨_,st,λ v z=>by
   have z':Data.fields _=Data.cell v:=z;cases z'⟩
 keep:=λ i h h' st k=>k it (by simp) _ st
 item:=by
  intro X hP hw hK hc i aB s σ H E I hf st hg;subst hP hw hK;obtain⟨f0,f1,f2,f3,f4,f5⟩:=hf it (by simp)
  have W:=Walks.range (prog:=X.prog) (w:=X.w) (I.ok.hd hc) it lo 1 n;refine W.item i s _ _ hg st λ v h' tk hv st' kk=>?_
  obtain⟨t,rfl⟩:=hv;have I1:Inv X aB σ H {s with heap:=h',toks:=tk }:=I.turned (λ b o hb e=>kk b o (by simpa using hb) e) f0 f1 f3 f4 f5
  refine⟨_,rfl,aAI (s:={s with heap:=h',toks:=tk }) (n:="range_iterator") st' rfl rfl (by decide) ⟨.int (lo+i),H,I1,⟨t,?_⟩,⟨rfl,rfl⟩,st',λ b hb=>(hf b hb).1⟩⟩
  rw[Int.mul_one]
 done:=by
  intro X hP hw hK hc i aB s σ H E I hf st hg;subst hP hw hK;obtain⟨f0,f1,f2,f3,f4,f5⟩:=hf it (by simp)
  exact wpAny_pyNext_range_end (I.ok.hd hc) st (by have:n<=i:=hg;omega) λ h' eb=>⟨rfl,I.turned (t':=s.toks) (λ b o hb e=>eb b o hb e) f0 f1 f3 f4 f5⟩
 self:=λ _ _ _ _ _ st h=>kx st h
end L2
namespace L2
open PySem PySem.Spec PyProof.Rows
section
variable {X : Cx}{tg : qw}
def aUA(K:FrG)(tl:TE):TI:=λ σ H R=>tl σ H λ x H1=>∃ a,x=.ref a/\(∃ xs,bL K H1 a xs)/\R (Itl K a) H1
def aWX(K:FrG)(tl:TE):TI:=λ σ H R=>tl σ H λ x H1=>∃ a,x=.ref a/\(∃ xs,bQ K H1 a xs)/\R (Itt K a) H1
theorem aOS{l:qw}{tl:TE}(hl:PE X l tl):PI X tg l (aUA X.K tl):=by
 intro aB s σ H R I h;refine bC (hl aB s σ H _ I h) λ v s1 hPq16=>?_
 obtain⟨x,H1,I1,r1,q1⟩:=hPq16;obtain⟨a,e,⟨xs,hq⟩,q⟩:=q1;subst e;cases r1;obtain⟨aG,rv,p,hz⟩:=I1.list hq;refine jw p.isList ?_;refine⟨s1.heap.objs.size,[s1.heap.objs.size],_,_,H1,rfl,I1.kept (t':=s1.toks) λ b o e=>hpS _ e,aMW a _,⟨_,xAe _ rfl,rfl,rfl⟩,λ b hb=>?_,q⟩
 have e:b=s1.heap.objs.size:=by simpa using hb
 subst e;exact I1.fpOk (yAb _) (I1.hok.fresh (yAb _))
theorem aRf{l:qw}{tl:TE}(hl:PE X l tl):PI X tg l (aWX X.K tl):=by
 intro aB s σ H R I h;refine bC (hl aB s σ H _ I h) λ v s1 hPq17=>?_
 obtain⟨x,H1,I1,r1,q1⟩:=hPq17;obtain⟨a,e,⟨xs,hq⟩,q⟩:=q1;subst e;cases r1;obtain⟨aG,rv,p,hz⟩:=I1.tuple hq;refine jy (show s1.heap.IsTuple a aG.toArray from p) ?_
 refine⟨s1.heap.objs.size,[s1.heap.objs.size],_,_,H1,rfl,I1.kept (t':=s1.toks) λ b o e=>hpS _ e,aMw a _,⟨_,xAe _ rfl,rfl,rfl⟩,λ b hb=>?_,q⟩
 have e:b=s1.heap.objs.size:=by simpa using hb
 subst e;exact I1.fpOk (yAb _) (I1.hok.fresh (yAb _))
theorem aGm{aB:List (qv×Obj)}{σ:St}{H:Hp}{s:qj}{R:It->Hp->Prop}{E:qx->qj->Prop}{lo hi:Int}{t u v:Tok}{tk:Nat}(I:Inv X aB σ H s)(h1 : -(2^62)<=lo)(h2:lo<2^62)(h3 : -(2^62)<=hi)(h4:hi<2^62)
 (q:R (xB lo (hi-lo).toNat) H):qk (model X.prog X.w) X.A (pyIter (.ref s.heap.objs.size)) (PIE X aB σ tg R) E {s with heap:=s.heap.push {cls:=.type "range",data:=.fields #[.int lo t,.int hi u,.int 1 v] },toks:=tk }:=by
 refine wpAny_pyIter_range (IsRange.new ..) (small_one h1 h2 h3 h4) ?_;have I1:Inv X aB σ H {s with heap:=s.heap.push {cls:=.type "range",data:=.fields #[.int lo t,.int hi u,.int 1 v] },toks:=tk }:=I.kept λ b o e=>hpS _ e
 refine⟨(s.heap.push {cls:=.type "range",data:=.fields #[.int lo t,.int hi u,.int 1 v] }).objs.size,[(s.heap.push {cls:=.type "range",data:=.fields #[.int lo t,.int hi u,.int 1 v] }).objs.size],_,_,H,rfl,
  I1.kept (t':=tk) λ b o e=>hpS _ e,aMn _ lo (hi-lo).toNat,?_,λ b hb=>?_,q⟩
 ·have e1:lo+((0:Nat):Int)*1=lo:=by simp
  have e2:(((hi-lo).toNat:Nat):Int)-((0:Nat):Int)=yEe lo hi 1:=by rw[rangeSize_one];split<;>omega
  show kv _ _ (lo+((0:Nat):Int)*1) ((((hi-lo).toNat:Nat):Int)-((0:Nat):Int)) 1;rw[e1,e2];exact xAe _ rfl
 ·have e:b=(s.heap.push {cls:=.type "range",data:=.fields #[.int lo t,.int hi u,.int 1 v] }).objs.size:=by simpa using hb
  subst e;exact I1.fpOk (yAb _) (I1.hok.fresh (yAb _))
def aJN(ta:TA):TI:=λ σ H R=>ta σ H λ vs H1=>∃ j:Int,vs=[.int j] /\ -(2^62)<=j/\j<2^62/\R (xB 0 j.toNat) H1
def aJk(ta:TA):TI:=λ σ H R=>ta σ H λ vs H1=>∃ i j:Int,vs=[.int i,.int j]/\(-(2^62)<=i/\i<2^62 /\ -(2^62)<=j/\j<2^62)/\R (xB i (j-i).toNat) H1
theorem aNg{a:qw}{ta:TA}{p pos:Pos}(hg:Gl X "range")(hm:X.mg "range" = qz)(ha:PA X [a] ta)(hs:qo [a] X.env=[(false,eval a X.env)]:=by rfl):PI X tg (.Call (.Name "range" p) [a] [] pos) (aJN ta):=by
 intro aB s σ H R I h;refine Call_ (kX I hg hm boot_range (yBk (bC (ha pos aB s σ H _ I h) λ us s1 hPq18=>?_) hs rfl))
 obtain⟨vs,H1,I1,r1,q1⟩:=hPq18;obtain⟨j,e,q1,q2,q⟩:=q1;subst e;cases r1 with
 | cons r rr =>
   cases rr;obtain⟨t,rfl⟩:=r;exact call_range_1 (aGm I1 (by omega) (by omega) q1 q2 (by simpa using q))
theorem aM5{a b:qw}{ta:TA}{p pos:Pos}(hg:Gl X "range")(hm:X.mg "range" = qz)(ha:PA X [a,b] ta)(hs:qo [a,b] X.env=[(false,eval a X.env),(false,eval b X.env)]:=by rfl)(hs2:qo [b] X.env=[(false,eval b X.env)]:=by rfl) :
 PI X tg (.Call (.Name "range" p) [a,b] [] pos) (aJk ta):=by
 intro aB s σ H R I h;refine Call_ (kX I hg hm boot_range (yBk (bC (ha pos aB s σ H _ I h) λ us s1 hPq19=>?_) (by rw[hs,hs2]) (by rw[hs2];rfl)))
 obtain⟨vs,H1,I1,r1,q1⟩:=hPq19;obtain⟨i,j,e,⟨q1,q2,q3,q4⟩,q⟩:=q1;subst e;cases r1 with
 | cons r rr =>
   cases rr with
   | cons r' rr =>
     cases rr;obtain⟨t,rfl⟩:=r;obtain⟨t',rfl⟩:=r';exact call_range_2 (aGm I1 q1 q2 q3 q4 q)
def aWV(wi:TI)(g:TG)(tb:TS):TS:=λ D σ H=>wi σ H λ J H1=>∃ W:Nat->Nat->St->Hp->Prop,(∃ m,W 0 m σ H1)/\∀ i m σ H,W i m σ H ->
 (J.stop i H/\D.nx σ H)\/(J.go i H/\∃ N:St->Hp->Prop,(∀ σ' H',N σ' H'->∃ m',m'<m/\W (i+1) m' σ' H')/\∀ x H',J.yld i H x H'->g x σ H' λ σ2 H2=>tb {D with nx:=N,ct:=N,bk:=D.nx } σ2 H2)
noncomputable def uO(fp:List qv)(h:Heap):List (qv×Obj):=fp.filterMap λ b=>(h.get? b).map λ o=>(b,o)
theorem tM{fp:List qv}{h:Heap}{b:qv}{o:Obj}(hb:b∈fp)(e:h.get? b=qq o):(b,o)∈uO fp h:=List.mem_filterMap.mpr ⟨b,hb,by rw[e];rfl⟩
theorem aMV{fp:List qv}{h:Heap}{p:qv×Obj}(hp:p∈uO fp h):p.1∈fp/\h.get? p.1=qq p.2:=by
 obtain⟨b,hb,e⟩:=List.mem_filterMap.mp hp;cases q:h.get? b with
 | none=>rw[q] at e;cases e
 | some o =>
   rw[q] at e;have e':(b,o)=p:=Option.some.inj e;subst e';exact⟨hb,q⟩
theorem Inv.pinned{aB:List (qv×Obj)}{σ:St}{H:Hp}{s:qj}{fp:List qv}(I:Inv X aB σ H s)(hf:∀ b∈fp,gF X aB H b)(ho:∀ b∈fp,∃ o,s.heap.get? b=qq o/\∀ v,o.data≠.cell v):Inv X (aB++uO fp s.heap) σ H s:=
 I.pins_of λ p hp=>(List.mem_append.mp hp).elim (λ z=>I.pin p (xAq _ z)) λ z=>by
  obtain⟨hb,e⟩:=aMV z;obtain⟨f0,f1,f2,_⟩:=hf p.1 hb;obtain⟨o,e',d⟩:=ho p.1 hb;rw[e] at e';cases e';exact⟨e,f0,f1,f2,d⟩
theorem Inv.unpinned{aB pl:List (qv×Obj)}{σ:St}{H:Hp}{s:qj}(I:Inv X (aB++pl) σ H s):Inv X aB σ H s:=I.pins_of λ p hp=>I.pin p (xAq _ (List.mem_append_left _ hp))
theorem aQM{iter:qw}{body:List xk}{wi:TI}{g:TG}{tb:TS}{pos:Pos}(hp:PassesOwn (model X.prog X.w) X.A X.env X.xe)(hc:X.calm=true)(hi:PI X tg iter wi)(hg:PG X tg g)(hb:dM X body tb)
 (hs:∀ x,jv iter X.env x=pure x:=by intro _;rfl):PS X (.For tg iter body [] pos) (aWV wi g tb):=by
 intro aB s σ H D I h;refine wpAny_For (bC (hi aB s σ H _ I h) λ v s1 h1=>bC h1 λ itv s2 h2=>?_) hs
 obtain⟨it,fp,tn,J,H2,e,I2,T,st2,f2,W,⟨m0,w0⟩,turn⟩:=h2;subst e;have stat:∀ {H':Hp},(∀ b∈fp,H' b=qz)->∀ b∈fp,gF X aB H' b:=λ hn b hb=>⟨hn b hb,(f2 b hb).2⟩
 refine codeAny_forLoop_any (λ n s'=>∃ i σ' H',Inv X aB σ' H' s'/\tn i s'.heap/\(∀ b∈fp,H' b=qz)/\W i n σ' H') ?_ m0 ⟨0,σ,H2,I2,st2,λ b hb=>(f2 b hb).1,w0⟩
 rintro n s3 ⟨i,σ3,H3,I3,st3,fr3,w3⟩;rcases turn i n σ3 H3 w3 with ⟨stop,qn⟩ | ⟨go,N,hN,step⟩
 ·refine jj hp (bC (T.done X rfl rfl rfl hc i aB s3 σ3 H3 X.xe I3 (stat fr3) st3 stop) λ r s4 hPq20=>?_)
  obtain⟨hr,I4⟩:=hPq20;subst hr;exact wpAny_execs_nil ⟨σ3,H3,I4,qn⟩
 ·refine jj hp (bC (T.item X rfl rfl rfl hc i aB s3 σ3 H3 X.xe I3 (stat fr3) st3 go) λ r s4 hPq21=>?_)
  obtain⟨u,hr,h4⟩:=hPq21;subst hr;refine jj hp (bC h4 λ _ s5 hPq22=>?_)
  obtain⟨x,H5,I5,r5,y5,st5,fr5⟩:=hPq22;have I5':=I5.pinned (stat fr5) (T.obj _ _ st5);refine jj hp (bC (hg _ s5 σ3 H5 x u _ I5' r5 (step x H5 y5)) λ _ s6 hPq23=>?_)
  obtain⟨σ6,H6,I6,q6⟩:=hPq23;refine jj hp (bC (hb _ s6 σ6 H6 _ I6 q6) λ f s7 q7=>?_)
  have again:∀ {σ7:St}{H7:Hp},Inv X (aB++uO fp s5.heap) σ7 H7 s7->N σ7 H7->∃ m,m<n/\∃ i σ' H',Inv X aB σ' H' s7/\tn i s7.heap/\(∀ b∈fp,H' b=qz)/\W i m σ' H':=λ {σ7 H7} I7 n7=>by
   obtain⟨m',hm,w7⟩:=hN σ7 H7 n7;refine⟨m',hm,i+1,σ7,H7,I7.unpinned,T.keep _ _ _ st5 λ b hb o e=>(I7.pin (b,o) (xAq _ (xAq _ (tM hb e)))).1,λ b hb=>?_,w7⟩
   obtain⟨o,e,d⟩:=T.obj _ _ st5 b hb;exact(I7.pin (b,o) (xAq _ (xAq _ (tM hb e)))).2.1
  cases f with
  | next=>obtain⟨σ7,H7,I7,n7⟩:=q7;exact again I7 n7
  | cont=>obtain⟨σ7,H7,I7,n7⟩:=q7;exact again I7 n7
  | brk=>obtain⟨σ7,H7,I7,q7⟩:=q7;exact⟨σ7,H7,I7.unpinned,q7⟩
  | ret v=>obtain⟨x7,σ7,H7,I7,r7,q7⟩:=q7;exact⟨x7,σ7,H7,I7.unpinned,r7,q7⟩
end
end L2
namespace L2
open PySem PySem.Spec PyProof.Rows
abbrev R2:=V->V->Hp->VK->Prop
def cD(X:Cx)(f:qx->qx->Sem qx)(r:R2):Prop:=
 ∀ (aB:List (qv×Obj)) (s:qj) (σ:St) (H:Hp) (x y:V) (v u:qx) (Q:VK),Inv X aB σ H s->bB x v->bB y u->r x y H Q ->
  qk (model X.prog X.w) X.A (f v u) (EP X aB σ Q) X.xe s
def UnR(X:Cx)(f:qx->Sem qx)(r:V->Hp->VK->Prop):Prop:=
 ∀ (aB:List (qv×Obj)) (s:qj) (σ:St) (H:Hp) (x:V) (v:qx) (Q:VK),Inv X aB σ H s->bB x v->r x H Q ->
  qk (model X.prog X.w) X.A (f v) (EP X aB σ Q) X.xe s
def dD(X:Cx)(f:qx)(r:List V->Hp->VK->Prop):Prop:=
 ∀ (aB:List (qv×Obj)) (s:qj) (σ:St) (H:Hp) (xs:List V) (us:List qx) (Q:VK),Inv X aB σ H s->aT xs us->r xs H Q ->
  qk (model X.prog X.w) X.A (call f us) (EP X aB σ Q) X.xe s
def aWA(X:Cx)(r:V->Hp->(Bool->Hp->Prop)->Prop):Prop:=
 ∀ (aB:List (qv×Obj)) (s:qj) (σ:St) (H:Hp) (x:V) (v:qx) (Q:Bool->Hp->Prop),Inv X aB σ H s->bB x v->r x H Q ->
  qk (model X.prog X.w) X.A (truthy v) (TP X aB σ Q) X.xe s
def xD(r:R2)(ta tb:TE):TE:=λ σ H Q=>ta σ H λ x H1=>tb σ H1 λ y H2=>r x y H2 Q
def tUn(r:V->Hp->VK->Prop)(ta:TE):TE:=λ σ H Q=>ta σ H λ x H1=>r x H1 Q
noncomputable def rI(C:Int->Int->Prop)(g:Int->Int->V):R2:=λ x y H Q=>∃ i j,x=.int i/\y=.int j/\C i j/\Q (g i j) H
noncomputable def jH(g:Int->Int->V):R2:=λ x y H Q=>∃ i j,x=.int i/\y=.int j/\Q (g i j) H
noncomputable def rU(g:Int->V):V->Hp->VK->Prop:=λ x H Q=>∃ i,x=.int i/\Q (g i) H
section
variable {X : Cx}{a b c : qw}{ta tb tc : TE}{pos : Pos}
theorem aD3(ha:PE X a ta)(hb:PE X b tb){aB:List (qv×Obj)}{s:qj}{σ:St}{H:Hp}{R:V->V->Hp->Prop}(I:Inv X aB σ H s)
 (h:ta σ H λ x H1=>tb σ H1 λ y H2=>R x y H2) {Q:qx->qj->Prop}{f:qx->qx->Sem qx}
 (hf:∀ v u s2 x y H2,Inv X aB σ H2 s2->bB x v->bB y u->R x y H2->qk (model X.prog X.w) X.A (f v u) Q X.xe s2) :
 qk (model X.prog X.w) X.A (eval a X.env) (λ v s₁=>qk (model X.prog X.w) X.A (eval b X.env) (λ u s₂=>qk (model X.prog X.w) X.A (f v u) Q X.xe s₂) X.xe s₁) X.xe s:=by
 refine bC (ha aB s σ H _ I h) λ v s1 hPq24=>?_
 obtain⟨x,H1,I1,r1,q1⟩:=hPq24;refine bC (hb aB s1 σ H1 _ I1 q1) λ u s2 hPq25=>?_
 obtain⟨y,H2,I2,r2,q2⟩:=hPq25;exact hf v u s2 x y H2 I2 r1 r2 q2
theorem aJw{op:ju}{r:R2}(ho:cD X (zu op) r)(ha:PE X a ta)(hb:PE X b tb):PE X (.BinOp a op b pos) (xD r ta tb):=by
 intro aB s σ H Q I h;exact wpAny_BinOp (aD3 ha hb I h λ v u s2 x y H2 I2 rx ry q=>ho aB s2 σ H2 x y v u Q I2 rx ry q)
theorem aTV{op:yx}{r:V->Hp->VK->Prop}(ho:UnR X (unaryOp op) r)(ha:PE X a ta):PE X (.UnaryOp op a pos) (tUn r ta):=by
 intro aB s σ H Q I h;exact UnaryOp_ (bC (ha aB s σ H _ I h) λ v s1 ⟨x,H1,I1,r1,q1⟩=>ho aB s1 σ H1 x v Q I1 r1 q1)
theorem xG{f:qx->qx->Sem qx}{C:Int->Int->Prop}{g:Int->Int->Int}
 (rule:∀ (i j:Int) (t u:Tok) (s:qj) (Q:qx->qj->Prop) (E:qx->qj->Prop),C i j->Q (.int (g i j) s.toks) {s with toks:=s.toks+1 }->qk (model X.prog X.w) X.A (f (.int i t) (.int j u)) Q E s) :
 cD X f (rI C λ i j=>.int (g i j)):=by
 intro aB s σ H x y v u Q I rx ry h;obtain⟨i,j,rfl,rfl,hc,q⟩:=h;obtain⟨t,rfl⟩:=rx;obtain⟨t',rfl⟩:=ry;exact rule i j t t' s _ _ hc ⟨.int (g i j),H,I.tok _,⟨_,rfl⟩,q⟩
theorem vT{f:qx->qx->Sem qx}{g:Int->Int->Int}
 (rule:∀ (i j:Int) (t u:Tok) (s:qj) (Q:qx->qj->Prop) (E:qx->qj->Prop),Q (.int (g i j) s.toks) {s with toks:=s.toks+1 }->qk (model X.prog X.w) X.A (f (.int i t) (.int j u)) Q E s) :
 cD X f (jH λ i j=>.int (g i j)):=by
 intro aB s σ H x y v u Q I rx ry h;obtain⟨i,j,rfl,rfl,q⟩:=h;obtain⟨t,rfl⟩:=rx;obtain⟨t',rfl⟩:=ry;exact rule i j t t' s _ _ ⟨.int (g i j),H,I.tok _,⟨_,rfl⟩,q⟩
theorem aAX{f:qx->qx->Sem qx}{g:Int->Int->Bool}
 (rule:∀ (i j:Int) (t u:Tok) (s:qj) (Q:qx->qj->Prop) (E:qx->qj->Prop),Q (.bool (g i j)) s->qk (model X.prog X.w) X.A (f (.int i t) (.int j u)) Q E s) :
 cD X f (jH λ i j=>.bl (g i j)):=by
 intro aB s σ H x y v u Q I rx ry h;obtain⟨i,j,rfl,rfl,q⟩:=h;obtain⟨t,rfl⟩:=rx;obtain⟨t',rfl⟩:=ry;exact rule i j t t' s _ _ ⟨.bl (g i j),H,I,rfl,q⟩
def aWE(i j:Int):Prop:=0<=j/\j<=1000000/\i.natAbs<2^64
def aKx(i j:Int):Prop:=(-(2^64)<i/\i<2^64)\/(-(2^64)<j/\j<2^64)
theorem aKx.ok{i j:Int}(h:aKx i j):IntMulOk i j:=by
 rcases h with ⟨h1,h2⟩ | ⟨h1,h2⟩
 ·exact .of_left (intBits_le_64 h1 h2)
 ·exact .of_right (intBits_le_64 h1 h2)
theorem aMi(k:Nat):(0:Int)<=2^k:=by
 rw[two_pow_cast];exact yGm _
theorem aRq:cD X (zu .Add) (jH λ i j=>.int (i+j)):=vT λ _ _ _ _ _ _ _ q=>add_int q
theorem aSH:cD X (zu .Sub) (jH λ i j=>.int (i-j)):=vT λ _ _ _ _ _ _ _ q=>sub_int q
theorem aP5:cD X (zu .Mod) (rI (λ _ j=>j≠0) λ i j=>.int (i.fmod j)):=xG λ _ _ _ _ _ _ _ hc q=>mod_int' hc q
theorem aSV:cD X (zu .Pow) (rI aWE λ i j=>.int (i^j.toNat)):=xG λ _ _ _ _ _ _ _ hc q=>pow_int_small hc.1 hc.2.1 hc.2.2 q
theorem aRQ:cD X (zu .RShift) (rI (λ _ j=>0<=j) λ i j=>.int (i/2^j.toNat)):=xG λ i j _ _ _ _ _ hc q =>
 rshift_int hc (by rw[Int.fdiv_eq_ediv_of_nonneg i (aMi _)];exact q)
theorem aRR:cD X (zu .BitAnd) (jH λ i j=>.int (yEg i j)):=vT λ _ _ _ _ _ _ _ q=>and_int q
theorem aTR:cD X (zu .BitOr) (jH λ i j=>.int (yGy i j)):=vT λ _ _ _ _ _ _ _ q=>or_int q
theorem aSl:cD X (zu .BitXor) (jH λ i j=>.int (yGp i j)):=vT λ _ _ _ _ _ _ _ q=>xor_int q
theorem unI{f:qx->Sem qx}{g:Int->Int}
 (rule:∀ (i:Int) (t:Tok) (s:qj) (Q:qx->qj->Prop) (E:qx->qj->Prop),Q (.int (g i) s.toks) {s with toks:=s.toks+1 }->qk (model X.prog X.w) X.A (f (.int i t)) Q E s) :
 UnR X f (rU λ i=>.int (g i)):=by
 intro aB s σ H x v Q I rx h;obtain⟨i,rfl,q⟩:=h;obtain⟨t,rfl⟩:=rx;exact rule i t s _ _ ⟨.int (g i),H,I.tok _,⟨_,rfl⟩,q⟩
theorem aRS:UnR X (unaryOp .USub) (rU λ i=>.int (-i)):=unI λ _ _ _ _ _ q=>neg_int q
theorem aRK:UnR X (unaryOp .Invert) (rU λ i=>.int (yBr i)):=unI λ _ _ _ _ _ q=>invert_int q
end
section
variable {X : Cx}{a b c : qw}{ta tb tc : TE}{pos : Pos}
theorem aI9{aB:List (qv×Obj)}{σ:St}{H:Hp}{s:qj}{Q:VK}{k k':Bool}(I:Inv X aB σ H s)(q:Q (.bl k) H)(e:k=k'):EP X aB σ Q (.bool k') s:=by
 subst e;exact⟨.bl k,H,I,rfl,q⟩
theorem aUZ:cD X (xx .Lt) (jH λ i j=>.bl (decide (i<j))):=aAX λ _ _ _ _ _ _ _ q=>lt_int q
theorem aVO:cD X (xx .LtE) (jH λ i j=>.bl (decide (i<=j))):=aAX λ _ _ _ _ _ _ _ q=>le_int q
theorem aT1:cD X (xx .Gt) (jH λ i j=>.bl (decide (j<i))):=aAX λ _ _ _ _ _ _ _ q=>gt_int q
theorem aVP:cD X (xx .GtE) (jH λ i j=>.bl (decide (j<=i))):=aAX λ _ _ _ _ _ _ _ q=>ge_int q
theorem aRd:cD X (xx .Is) (λ x y H Q=>y=.non/\Q (.bl (decide (x=.non))) H):=by
 intro aB s σ H x y v u Q I rx ry h;obtain⟨rfl,q⟩:=h;cases ry;refine is_none_gen (aI9 I q ?_);cases x<;>first
  | (cases rx;rfl)
  | (obtain⟨t,rfl⟩:=rx;rfl)
theorem aQw:cD X (xx .IsNot) (λ x y H Q=>y=.non/\Q (.bl (!decide (x=.non))) H):=by
 intro aB s σ H x y v u Q I rx ry h;obtain⟨rfl,q⟩:=h;cases ry;refine isnot_none_gen (aI9 I q ?_);cases x<;>first
  | (cases rx;rfl)
  | (obtain⟨t,rfl⟩:=rx;rfl)
theorem cD.or{f:qx->qx->Sem qx}{r r':R2}(h:cD X f r)(h':cD X f r'):cD X f (λ x y H Q=>r x y H Q\/r' x y H Q):=by
 intro aB s σ H x y v u Q I rx ry q;rcases q with q | q
 ·exact h aB s σ H x y v u Q I rx ry q
 ·exact h' aB s σ H x y v u Q I rx ry q
theorem aXe(b:qw){op:jq}(h:op≠.In:=by decide)(h2:op≠.NotIn:=by decide):jk op b=false:=by
 have e1:(op==CmpOp.In)=false:=by cases op<;>first | rfl | exact absurd rfl h
 have e2:(op==CmpOp.NotIn)=false:=by cases op<;>first | rfl | exact absurd rfl h2
 cases b<;>simp[jk,e1,e2]
theorem aOY{op:jq}{r:R2}(ho:cD X (xx op) r)(ha:PE X a ta)(hb:PE X b tb)(hm:jk op b=false):PE X (.Compare a [op] [b] pos) (xD r ta tb):=by
 intro aB s σ H Q I h;exact wpAny_Compare1 (aD3 ha hb I h λ v u s2 x y H2 I2 rx ry q=>ho aB s2 σ H2 x y v u Q I2 rx ry q) hm
def aJO(t:TE):TT:=λ σ H Q=>t σ H λ x H'=>∃ k,x=.bl k/\Q k H'
theorem aPY{op:jq}{r:R2}(ho:cD X (xx op) r)(ha:PE X a ta)(hb:PE X b tb)(hm:jk op b=false):PT X (.Compare a [op] [b] pos) (aJO (xD r ta tb)):=by
 intro aB s σ H Q I h;refine wpAny_isTrue_Compare1 (bC (ha aB s σ H _ I h) λ v s1 ⟨x,H1,I1,r1,q1⟩=>bC (hb aB s1 σ H1 _ I1 q1) λ u s2 ⟨y,H2,I2,r2,q2⟩ =>
  bC (ho aB s2 σ H2 x y v u _ I2 r1 r2 q2) λ c s3 ⟨z,H3,I3,r3,k,e,q3⟩=>?_) hm
 subst e;cases r3;exact xq ⟨H3,I3,q3⟩
def aDa(r r':R2)(ta tb tc:TE):TE:=λ σ H Q=>ta σ H λ x H1=>tb σ H1 λ y H2=>r x y H2 λ z H3=>∃ k,z=.bl k /\
 (if k=true then tc σ H3 λ w' H4=>r' y w' H4 Q else Q (.bl false) H3)
theorem aNB{op op':jq}{r r':R2}(ho:cD X (xx op) r)(ho':cD X (xx op') r')(ha:PE X a ta)(hb:PE X b tb)(hc:PE X c tc)
 (hm:lastMarks [op,op'] [b,c]=false:=by with_unfolding_all rfl):PE X (.Compare a [op,op'] [b,c] pos) (aDa r r' ta tb tc):=by
 intro aB s σ H Q I h;refine Compare_chain (bC (ha aB s σ H _ I h) λ v s1 ⟨x,H1,I1,r1,q1⟩=>chain_link (bC (hb aB s1 σ H1 _ I1 q1) λ u s2 ⟨y,H2,I2,r2,q2⟩ =>
  bC (ho aB s2 σ H2 x y v u _ I2 r1 r2 q2) λ d s3 ⟨z,H3,I3,r3,k,e,q3⟩=>?_)) hm
 subst e;cases r3;refine xq ?_;cases k with
 | false=>exact ite_ff ⟨.bl false,H3,I3,rfl,q3⟩
 | true=>exact ite_tt (chain_last (bC (hc aB s3 σ H3 _ I3 q3) λ w' s4 ⟨z',H4,I4,r4,q4⟩=>ho' aB s4 σ H4 y z' u w' Q I4 r2 r4 q4))
theorem aN9{op op':jq}{r r':R2}(ho:cD X (xx op) r)(ho':cD X (xx op') r')(ha:PE X a ta)(hb:PE X b tb)(hc:PE X c tc)
 (hm:lastMarks [op,op'] [b,c]=false:=by with_unfolding_all rfl):PT X (.Compare a [op,op'] [b,c] pos) (aJO (aDa r r' ta tb tc)):=by
 intro aB s σ H Q I h;refine isTrue_chain (bC (ha aB s σ H _ I h) λ v s1 ⟨x,H1,I1,r1,q1⟩=>test_link (bC (hb aB s1 σ H1 _ I1 q1) λ u s2 ⟨y,H2,I2,r2,q2⟩ =>
  bC (ho aB s2 σ H2 x y v u _ I2 r1 r2 q2) λ d s3 ⟨z,H3,I3,r3,k,e,q3⟩=>?_)) hm
 subst e;cases r3;refine xq ?_;cases k with
 | false =>
   obtain⟨k',e',q'⟩:=q3;cases e';exact ite_ff ⟨H3,I3,q'⟩
 | true =>
   refine ite_tt (test_last (bC (hc aB s3 σ H3 _ I3 q3) λ w' s4 ⟨z',H4,I4,r4,q4⟩=>bC (ho' aB s4 σ H4 y z' u w' _ I4 r2 r4 q4) λ d' s5 hPq26=>?_))
   obtain⟨z2,H5,I5,r5,k2,e2,q5⟩:=hPq26;subst e2;cases r5;exact xq ⟨H5,I5,q5⟩
def aDW(K:FrG)(x:V)(H:Hp)(k:Bool):Prop:=
 match x with
 | .non=>k=false
 | .bl b=>k=b
 | .int i=>k=(i != 0)
 | .str y=>y.length<=qy/\k=((y.length:Int) != 0)
 | .byt y=>y.size<=qy/\k=((y.size:Int) != 0)
 | .ref p=>(∃ xs,bL K H p xs/\k = !xs.isEmpty)\/(∃ xs,bQ K H p xs/\k = !xs.isEmpty)\/∃ bA,H p=qq (.dK bA)/\k = !bA.isEmpty
 | _=>False
theorem aMl{κ:Type}{bA:List (κ×V)}{vs:List (κ×qx)}(r:KV bA vs):(!vs.isEmpty) = !bA.isEmpty:=by
 cases r<;>rfl
theorem aFo{xs:List V}{aG:List qx}(r:aT xs aG):(!aG.toArray.isEmpty) = !xs.isEmpty:=by
 cases r<;>simp
theorem lX:(qy:Nat)<2^63:=by rw[zq];decide
theorem aSU:aWA X (λ x H Q=>∃ k,aDW X.K x H k/\Q k H):=by
 intro aB s σ H x v Q I rx h;obtain⟨k,e,q⟩:=h;have hl:=lX;have hs:qy=16777216:=zq;cases x with
 | non =>
   cases rx;have e':k=false:=e;subst e';exact truthy_none ⟨H,I,q⟩
 | bl b =>
   cases rx;have e':k=b:=e;subst e';exact xq ⟨H,I,q⟩
 | int i =>
   obtain⟨t,rfl⟩:=rx;have e':k=(i != 0):=e;subst e';exact PySem.P.truthy_int ⟨H,I,q⟩
 | str y =>
   obtain⟨t,rfl⟩:=rx;obtain⟨hy,e'⟩:y.length<=qy/\k=((y.length:Int) != 0):=e;subst e';exact PySem.P.truthy_str (by omega) ⟨H,I.tok _,q⟩
 | byt y =>
   obtain⟨t,rfl⟩:=rx;obtain⟨hy,e'⟩:y.size<=qy/\k=((y.size:Int) != 0):=e;subst e';exact PySem.W.truthy_bytes (by omega) ⟨H,I.tok _,q⟩
 | ref p =>
   cases rx;have e':(∃ xs,bL X.K H p xs/\k = !xs.isEmpty)\/(∃ xs,bQ X.K H p xs/\k = !xs.isEmpty)\/∃ bA,H p=qq (.dK bA)/\k = !bA.isEmpty:=e;rcases e' with ⟨xs,hx,e'⟩ | ⟨xs,hx,e'⟩ | ⟨bA,hx,e'⟩
   ·subst e';obtain⟨aG,r,pl,hz⟩:=I.list hx;have bX:=r.length;exact wpAny_truthy_list pl.isList (by simp only[yAf];omega) ⟨H,I.tok _,by rw[aFo r];exact q⟩
   ·subst e';obtain⟨aG,r,pl,hz⟩:=I.tuple hx;have bX:=r.length;exact truthy_tuple pl (by simp only[yAf];omega) ⟨H,I.tok _,by rw[aFo r];exact q⟩
   ·subst e';obtain⟨hz,hS,vs,r,m⟩:bA.length<=qy/\(p==sysModules)=false/\∃ vs,KV bA vs/\s.heap.DictOf (nP X.prog X.w) p vs:=I.hok p _ hx;have bX:bA.length=vs.length:=Paired.length r;exact wpAny_truthy_dict hS m (by omega) ⟨H,I.tok _,by rw[aMl r];exact q⟩
 | _=>exact(show False from e).elim
theorem aOc(ha:PE X a ta)(he:∀ eS,isTrue a X.env eS=(do let v <- eS;standAt a.pos;holding [v] (truthy v))) :
 PT X a (λ σ H Q=>ta σ H λ x H'=>∃ k,aDW X.K x H' k/\Q k H'):=by
 intro aB s σ H Q I h;exact isTrue_plain (bC (ha aB s σ H _ I h) λ v s1 ⟨x,H1,I1,r1,q1⟩=>aSU aB s1 σ H1 x v Q I1 r1 q1) (he _)
theorem aMp:cD X (zu .Add) (λ x y H Q=>∃ i j,x=.str i/\y=.str j/\i.length+j.length<=qy/\Q (.str (i++j)) H):=by
 intro aB s σ H x y v u Q I rx ry h;obtain⟨i,j,rfl,rfl,hz,q⟩:=h;obtain⟨t,rfl⟩:=rx;obtain⟨t',rfl⟩:=ry;exact add_str (λ t' tk=>⟨.str (i++j),H,I.tok _,⟨_,rfl⟩,q⟩) hz
theorem iL{x:V}{us:List qx}(r:aT [x] us):∃ u,us=[u]/\bB x u:=by
 cases r with
 | cons r1 r2=>cases r2;exact⟨_,rfl,r1⟩
theorem vD{x y:V}{us:List qx}(r:aT [x,y] us):∃ u w',us=[u,w']/\bB x u/\bB y w':=by
 cases r with
 | cons r1 r2 =>
   cases r2 with
   | cons r3 r4=>cases r4;exact⟨_,_,rfl,r1,r3⟩
theorem aOb:dD X (.builtin "abs") (λ xs H Q=>∃ i,xs=[.int i]/\Q (.int (if i<0 then -i else i)) H):=by
 intro aB s σ H xs us Q I r h;obtain⟨i,rfl,q⟩:=h;obtain⟨u,rfl,t,rfl⟩:=iL r;exact call_abs_int λ u tk=>⟨.int (if i<0 then -i else i),H,I.tok _,⟨_,rfl⟩,q⟩
theorem aMM(hc:X.calm=true):dD X (.builtin "max") (λ xs H Q=>∃ i j,xs=[.int i,.int j]/\Q (.int (if j>i then j else i)) H):=by
 intro aB s σ H xs us Q I r h;obtain⟨i,j,rfl,q⟩:=h;obtain⟨u,w',rfl,⟨t,rfl⟩,⟨t',rfl⟩⟩:=vD r;refine max_two_ints (I.ok.hd hc) λ h' tk k=>⟨_,H,I.kept k,?_,q⟩
 by_cases hj:j>i
 ·rw[if_pos hj,if_pos hj];exact⟨_,rfl⟩
 ·rw[if_neg hj,if_neg hj];exact⟨_,rfl⟩
theorem aNm(hc:X.calm=true):dD X (.builtin "min") (λ xs H Q=>∃ i j,xs=[.int i,.int j]/\Q (.int (if j<i then j else i)) H):=by
 intro aB s σ H xs us Q I r h;obtain⟨i,j,rfl,q⟩:=h;obtain⟨u,w',rfl,⟨t,rfl⟩,⟨t',rfl⟩⟩:=vD r;refine min_two_ints (I.ok.hd hc) λ h' tk k=>⟨_,H,I.kept k,?_,q⟩
 by_cases hj:j<i
 ·rw[if_pos hj,if_pos hj];exact⟨_,rfl⟩
 ·rw[if_neg hj,if_neg hj];exact⟨_,rfl⟩
theorem aFN:dD X (.type "int") (λ xs H Q=>(∃ i,xs=[.int i]/\Q (.int i) H)\/∃ k,xs=[.bl k]/\Q (.int (if k then 1 else 0)) H):=by
 intro aB s σ H xs us Q I r h;rcases h with ⟨i,rfl,q⟩ | ⟨k,rfl,q⟩
 ·obtain⟨u,rfl,t,rfl⟩:=iL r;exact call_int_int ⟨.int i,H,I,⟨_,rfl⟩,q⟩
 ·obtain⟨u,rfl,r1⟩:=iL r;cases r1;exact call_int_bool ⟨.int (if k then 1 else 0),H,I.tok _,⟨_,rfl⟩,q⟩
end
end L2
namespace L2
open PySem PySem.Spec PyProof.Rows
structure ObjM(h:Heap)(x dx C:qv)(mA:Str->Option qx):Prop where
 obj:h.get? x=qq (yDq C dx)
 ns:h.Ns1 dx mA
 ne:dx≠x
theorem aMT{h:Heap}{dx:qv}{mA:Str->Option qx}(n:h.Ns1 dx mA):∃ od,h.get? dx=qq od/\∀ name,yHp name od=qq (mA name):=by
 obtain⟨o,es,ep,ho,hd,hk,_,hm⟩:=n;refine⟨o,ho,λ name=>?_⟩
 have e:=hm name;unfold nsFind findBy at e;rw[<- Array.find?_toList] at e;unfold yHp;rw[hd];dsimp only
 split
 ·rename_i y q;rw[q] at e;exact congrArg qq e
 ·rename_i q;rw[q] at e;have a:es.toList.any (·.refKey)=false:=by
   rw[yGt];intro y hy;obtain⟨z,t,hkey⟩:=hk y (Array.mem_toList_iff.mp hy);simp[DictEntry.refKey,hkey]
  have a':¬ es.toList.any (·.refKey)=true:=by rw[a];exact yBj
  rw[if_neg a'];exact congrArg qq e
theorem ObjM.look{h:Heap}{x dx C:qv}{mA:Str->Option qx}(I:ObjM h x dx C mA):∃ od,PySem.W.InstAt h x (yDq C dx) C (qq od)/\∀ name,yHp name od=qq (mA name):=
 let ⟨od,ho,hl⟩:=aMT I.ns
 ⟨od,⟨I.obj,rfl,rfl,ho⟩,hl⟩
section
variable {prog : qu}{w : zx}{A : zv}{E : qx -> qj -> Prop}{s : qj}{K : FrG}{x dx C f : qv}{mA : Str -> Option qx}{name : Str}{v : qx}
end
section
variable {P : qu}{w : zx}{H H' : Hp}{h h' : Heap}{a C dx : qv}{fs fs' : List (Str×V)}
end
structure Cls(K:FrG)(C:qv):Prop where
 pg:PySem.W.plainGet K C Str.empty=true
 hd:PySem.W.hasDictIn K C=true
 po:PySem.W.plainOver K C=true
 sa:yFt K (.ref C) "__setattr__" = qq (qq (.builtin "object.__setattr__"))
theorem Cls.get{K:FrG}{C:qv}(c:Cls K C)(f:Str):PySem.W.plainGet K C f=true:=c.pg
structure Con(K:FrG)(C:qv)(f:Str)(v:V)(u:qx):Prop where
 at_:yFt K (.ref C) f=qq (qq u)
 rel:bB v u
 get:PySem.W.specialIn K u "__get__" = qq qz
 cp:PySem.W.copiedNames.contains f=false
structure Meth(K:FrG)(C:qv)(m:Str)(f:qv):Prop where
 at_:yFt K (.ref C) m=qq (qq (.ref f))
 fn:PySem.W.isFn K (.ref f)=true
 kp:yCw K (.ref f)=true
section
variable {X : Cx}{aB : List (qv×Obj)}{σ : St}{H : Hp}{s : qj}{a C dx : qv}{fs : List (Str×V)}{f : Str}{v : V}{A : zv}{E : qx -> qj -> Prop}
theorem Inv.made(I:Inv X aB σ H s):Inv X aB σ (bE (bE H s.heap.objs.size (.own (s.heap.objs.size+1))) (s.heap.objs.size+1) (.ins C s.heap.objs.size []))
 {s with heap:=(s.heap.push yCl).push (yDq C s.heap.objs.size) }:=by
 have e1:(s.heap.push yCl).get? s.heap.objs.size=qq yCl:=xAe s.heap rfl;have e2:((s.heap.push yCl).push (yDq C s.heap.objs.size)).get? (s.heap.objs.size+1)=qq (yDq C s.heap.objs.size):=by
  have:=xAe (s.heap.push yCl) (o:=yDq C s.heap.objs.size) rfl;rwa [yBz] at this
 have e3:(s.heap.push yCl).Ns s.heap.objs.size (λ _=>qz):=⟨yCl,#[],_,e1,rfl,(λ e he=>absurd he (by simp)),λ _=>rfl⟩
 have I1:=I.laid (a:=s.heap.objs.size) (o:=.own (s.heap.objs.size+1)) (h':=s.heap.push yCl) (t':=s.toks) (λ b u q=>hpS _ q) (yAb _) ⟨_,e1⟩
 refine I1.laid (a:=s.heap.objs.size+1) (o:=.ins C s.heap.objs.size []) (t':=s.toks) (λ b u q=>hpS _ q) (yFx (yBz _ _)) ?_
 have ne:s.heap.objs.size≠s.heap.objs.size+1:=xAk (yEu _);refine⟨by rw[bJ ne,cX],yEy _,ne,e2,λ _=>qz,(Heap.Ns1.of_empty e3).at λ o q=>hpS _ q,λ _=>True.intro,λ y hy=>absurd rfl hy⟩
end
section
variable {X : Cx}{o e value : qw}{f : Str}{pos pos' tpos : Pos}{ta tv : TE}
end
section
variable {X : Cx}{aB : List (qv×Obj)}{σ : St}{H : Hp}{s : qj}{A : zv}{E : qx -> qj -> Prop}{Q : qx -> qj -> Prop}{c : qx}{b : Bool}
inductive TyOf (K:FrG) (H:Hp):V->qx->Prop where
 | non:TyOf K H .non (.type "NoneType")
 | bl (x:Bool):TyOf K H (.bl x) (.type "bool")
 | int (i:Int):TyOf K H (.int i) (.type "int")
 | str (x:Str):TyOf K H (.str x) (.type "str")
 | flt (x:UInt64):TyOf K H (.flt x) (.type "float")
 | lst {a:qv}{xs:List V} (e:H a=qq (.lst xs)):TyOf K H (.ref a) (.type "list")
 | frz {a:qv}{o:Obj}{xs:List V} (e:H a=qq (.frz o (.lst xs))):TyOf K H (.ref a) (.type "list")
 | tup {a:qv}{xs:List V} (e:H a=qq (.tup xs)):TyOf K H (.ref a) (.type "tuple")
 | dK {a:qv}{bA:List (fD×V)} (e:H a=qq (.dK bA)):TyOf K H (.ref a) (.type "dict")
 | dT {a:qv}{bA:List (List fD×V)} (e:H a=qq (.dT bA)):TyOf K H (.ref a) (.type "dict")
 | ins {a C dx:qv}{fs:List (Str×V)} (e:H a=qq (.ins C dx fs)) (cl:Cls K C) (ha:yFt K (.ref C) "__class__" = qq (qq (.builtin "object.__class__")))
    (hn:PySem.W.specialIn K (.builtin "object.__class__") "__get__" = qq (qq (.builtin "getset_descriptor.__get__"))) (htk:PySem.W.takesIn K (.builtin "object.__class__")=qq true)
    (hm:PySem.W.mroIn K C (.type "object")=qq true):TyOf K H (.ref a) (.ref C)
end
end L2
namespace L2
open PySem PySem.Spec PyProof.Rows
structure Room(k:Nat)(A:zv):Prop where
 hd:A.handled=qz
 dp:A.depth+3*k+5<recursionLimit
 un:A.units+16*k+200<cLine
theorem Room.mono{j k:Nat}{A:zv}(r:Room k A)(h:j<=k):Room j A:=⟨r.hd,by have:=r.dp;omega,by have:=r.un;omega⟩
theorem Room.deeper{k:Nat}{A:zv}(r:Room (k+1) A)(env:Env):Room k (A.deeper env):=
 ⟨r.hd,by have:=r.dp;show A.depth+1+3*k+5<_;omega,by have:=r.un;show A.units+3+16*k+200<_;omega⟩
theorem Room.in1{k:Nat}{A:zv}(r:Room (k+1) A):Room k A.in1:=
 ⟨r.hd,by have:=r.dp;show A.depth+3*k+5<_;omega,by have:=r.un;show A.units+1+16*k+200<_;omega⟩
theorem aMc{A:zv}{C:qv}{us:List qx}{kw:List (Str×qx)}:(A.under (.builtin "type.__call__" ⟨.ref C::us,kw⟩)).depth=A.depth+1:=by
 first | rfl | simp[Around.under,Code.weight,Code.isCreation,Code.isGuard,Code.isCaller,Code.frames,Code.isFrame,guardIds]
theorem aMf{A:zv}{C:qv}{us:List qx}{kw:List (Str×qx)}:(A.under (.builtin "type.__call__" ⟨.ref C::us,kw⟩)).units=A.units+1:=by
 first | rfl | simp[Around.under,Code.cUnits,Code.frames,Code.isFrame]
theorem Room.make{k:Nat}{A:zv}(r:Room (k+1) A)(C:qv)(us:List qx)(kw:List (Str×qx)):Room k (A.under (.builtin "type.__call__" ⟨.ref C::us,kw⟩)):=
 ⟨r.hd,by have:=r.dp;rw[aMc];omega,by have:=r.un;rw[aMf];omega⟩
theorem Room.depth{k:Nat}{A:zv}(r:Room k A):A.depth<recursionLimit:=by have:=r.dp;omega
theorem Room.units{k:Nat}{A:zv}(r:Room k A):A.units+64<cLine:=by have:=r.un;omega
def aKP:TA:=λ _ H Q=>Q [] H
def aUG(ta:TE)(tr:TA):TA:=λ σ H Q=>ta σ H λ x H1=>tr σ H1 λ xs H2=>Q (x::xs) H2
section
variable {X : Cx}{e : qw}{es : List qw}{te : TE}{t : TA}{pos : Pos}
theorem aIU:PA X [] aKP:=λ _ _ _ _ H Q I h=>Calls.spliced_nil ⟨[],H,I,.nil,h⟩
theorem aCC(ha:PE X e te)(hr:PA X es t)(hs:qo (e::es) X.env=(false,eval e X.env)::qo es X.env:=by rfl):PA X (e::es) (aUG te t):=by
 intro pos aB s σ H Q I h;rw[hs];show qk _ _ (spliced ((false,eval e X.env)::backTo pos (qo es X.env))) _ _ s;refine Calls.spliced_cons (bC (ha aB s σ H _ I h) λ u s1 hPq27=>?_)
 obtain⟨x,H1,I1,r1,q1⟩:=hPq27;exact bC (hr pos aB s1 σ H1 _ I1 q1) λ us s2 ⟨xs,H2,I2,r2,q2⟩=>⟨x::xs,H2,I2,.cons r1 r2,q2⟩
def aW4(t:TA):TE:=λ σ H Q=>t σ H λ xs H1=>xs.length<=qy/\∀ p,H1 p=qz->Q (.ref p) (bE H1 p (.tup xs))
def aVY(t:TA):TE:=λ σ H Q=>t σ H λ xs H1=>xs.length<=qy/\∀ p,H1 p=qz->Q (.ref p) (bE H1 p (.lst xs))
theorem aSg{x1}(h:PA X es t):PE X (.Tuple es x1 pos) (aW4 t):=by
 intro aB s σ H Q I hq;refine wpAny_Tuple_spliced (bC (h pos aB s σ H _ I hq) λ us s1 ⟨xs,H1,I1,r,z,q⟩=>⟨by rw[<- r.length];exact z,?_⟩)
 have hf:H1 s1.heap.objs.size=qz:=I1.hok.fresh (yAb _);refine⟨.ref s1.heap.objs.size,bE H1 s1.heap.objs.size (.tup xs),I1.laid (t':=s1.toks) (λ b u e=>hpS _ e) (yAb _) ?_,rfl,q _ hf⟩
 exact⟨z,us,r,⟨_,xAe _ rfl,rfl,_,rfl⟩⟩
theorem aRH(h:PA X es t):PE X (.List es pos) (aVY t):=by
 intro aB s σ H Q I hq;refine wpAny_List_spliced (bC (h pos aB s σ H _ I hq) λ us s1 ⟨xs,H1,I1,r,z,q⟩=>⟨by rw[<- r.length];exact z,?_⟩)
 have hf:H1 s1.heap.objs.size=qz:=I1.hok.fresh (yAb _);refine⟨.ref s1.heap.objs.size,bE H1 s1.heap.objs.size (.lst xs),I1.laid (t':=s1.toks) (λ b u e=>hpS _ e) (yAb _) ?_,rfl,q _ hf⟩
 exact⟨z,us,0,r,xAe _ rfl⟩
end
abbrev Sp:=List V->Hp->VK->XK->Prop
abbrev jG:=List Env->Hp->qj->XK->qx->qj->Prop
structure Env0(P:qu)(w:zx)(K:FrG)(mg:Str->Option qx)(base:Heap)(A:zv)(outer:List Env)(s:qj)(H:Hp):Prop where
 frames:A.frames=qq outer
 mod:Mod K mg base
 bs:∀ b o,base.get? b=qq o->s.heap.get? b=qq o/\H b=qz
 bsz:base.objs.size<=s.heap.objs.size
 funs:s.heap.FunFrames base outer
 frf:∀ b∈iE outer,H b=qz
 hok:dN P w H s.heap
 bare:AllBare s.gens
def CE(outer:List Env)(P:qu)(w:zx)(H:Hp)(s:qj)(Q:VK)(u:qx)(s':qj):Prop:=
 ∃ v H',s'.os=s.os/\AllBare s'.gens/\Un (iE outer) [] H H' s.heap s'.heap/\dN P w H' s'.heap/\bB v u/\Q v H'
def CR(CX:jG)(outer:List Env)(P:qu)(w:zx)(H:Hp)(s:qj)(Q:VK)(E:XK)(r:Result)(s':qj):Prop:=
 match r with
 | .ok (.ret u)=>CE outer P w H s Q u s'
 | .ok _=>False
 | .error e=>CX outer H s E e s'
structure FnOk(P:qu)(w:zx)(K:FrG)(mg:Str->Option qx)(base:Heap)(CX:jG)(k:Nat)(f:qv)(fd:jo)(ps:List Str)(sp:Sp):Prop where
 len:∀ vs H Q E,sp vs H Q E->vs.length=ps.length
 run:∀ (A:zv) (outer:List Env) (s:qj) (H:Hp) (args:Args) (us:List qx) (vs:List V) (Q:VK) (E:XK),Room k A->Env0 P w K mg base A outer s H->BindsTo s fd args (ps.zip us)->aT vs us->sp vs H Q E ->
  vj (model P w) A (.call (.ref f) args) (CR CX outer P w H s Q E) s
theorem FnOk.mono{P:qu}{w:zx}{K:FrG}{mg:Str->Option qx}{base:Heap}{CX:jG}{j k:Nat}{f:qv}{fd:jo}{ps:List Str}{sp:Sp}(F:FnOk P w K mg base CX j f fd ps sp)(h:j<=k) :
 FnOk P w K mg base CX k f fd ps sp:=⟨F.len,λ A outer s H args us vs Q E hr=>F.run A outer s H args us vs Q E (hr.mono h)⟩
theorem Env0.make{P:qu}{w:zx}{K:FrG}{mg:Str->Option qx}{base:Heap}{A:zv}{outer:List Env}{s:qj}{H:Hp}(e:Env0 P w K mg base A outer s H)(C:qv)(us:List qx)(kw:List (Str×qx)) :
 Env0 P w K mg base (A.under (.builtin "type.__call__" ⟨.ref C::us,kw⟩)) outer s H:=⟨by first | exact e.frames | (simpa [Around.under,Code.envs,Code.isFrame,pushEnvs] using e.frames),e.mod,e.bs,e.bsz,e.funs,e.frf,e.hok,e.bare⟩
theorem Env0.in1{P:qu}{w:zx}{K:FrG}{mg:Str->Option qx}{base:Heap}{A:zv}{outer:List Env}{s:qj}{H:Hp}(e:Env0 P w K mg base A outer s H) :
 Env0 P w K mg base A.in1 outer s H:=⟨e.frames,e.mod,e.bs,e.bsz,e.funs,e.frf,e.hok,e.bare⟩
section
variable {X : Cx}{aB : List (qv×Obj)}{σ : St}{H : Hp}{s s' : qj}
theorem Inv.env0(I:Inv X aB σ H s):Env0 X.prog X.w X.K X.mg X.base X.A X.stack s H:=
 ⟨I.ok.frames,I.ok.mod,I.bs,xAi I.ok.bsz I.sz,I.stack,I.stkFree,I.hok,I.bare⟩
theorem Inv.after{Q:VK}{u:qx}(I:Inv X aB σ H s)(h:CE X.stack X.prog X.w H s Q u s'):EP X aB σ Q u s':=by
 obtain⟨v,H',os,bare,un,hok,r,q⟩:=h;obtain⟨hh,g,d,t,os'⟩:=s';obtain rfl:os'=s.os:=os;exact⟨v,H',I.call (h':=hh) (g':=g) (d':=d) (t':=t) (ch:=[]) un hok bare (λ b z=>absurd z (by simp)),r,q⟩
end
def aAK(sp:Sp)(dvs:List V)(E:XK)(t:TA):TE:=λ σ H Q=>t σ H λ vs H1=>sp (vs++dvs) H1 Q E
def mH(K:FrG)(fd:jo)(ps:List Str)(ds:List qx):Prop:=
 ∀ (s:qj) (us:List qx),K.In s.heap->(us++ds).length=ps.length->BindsTo s fd ⟨us,[]⟩ (ps.zip (us++ds))
theorem mH.all{K:FrG}{fd:jo}{ps:List Str}(h:∀ us:List qx,us.length=ps.length->bindArgs fd ⟨us,[]⟩=pure (ps.zip us)):mH K fd ps []:=λ s us _ hl=>by
 rw[yDb] at hl ⊢;exact .of_eq (h us hl)
def aAm(CX:jG)(X:Cx)(E:XK):Prop:=∀ (aB:List (qv×Obj)) (σ:St) (H:Hp) (s:qj) (e:qx) (s':qj),Inv X aB σ H s->CX X.stack H s E e s'->X.xe e s'
section
variable {X : Cx}{CX : jG}{k : Nat}{f C : qv}{fd : jo}{ps : List Str}{sp : Sp}{dvs : List V}{ds : List qx}{E : XK}{x m : Str}{p pos apos : Pos}{e o : qw}{es : List qw}{ta : TE}{t : TA}
theorem aIb{aB:List (qv×Obj)}{σ:St}{H:Hp}{s:qj}{Q:VK}{us:List qx}{vs:List V}(F:FnOk X.prog X.w X.K X.mg X.base CX k f fd ps sp)(hr:Room k X.A)(hb:mH X.K fd ps ds)(hd:aT dvs ds)(hx:aAm CX X E)
 (I:Inv X aB σ H s) (r:aT vs us) (h:sp (vs++dvs) H Q E):qk (model X.prog X.w) X.A (call (.ref f) us) (EP X aB σ Q) X.xe s:=by
 have r2:aT (vs++dvs) (us++ds):=r.append hd;have hl:(us++ds).length=ps.length:=by rw[<- r2.length];exact F.len _ _ _ _ h
 refine wpAny_call (codeAny_mono (F.run X.A X.stack s H ⟨us,[]⟩ (us++ds) (vs++dvs) Q E hr I.env0 (hb s us I.kIn hl) r2 h) λ r s' hq=>?_)
 cases r with
 | error e=>exact hx aB σ H s e s' I hq
 | ok fl =>
   cases fl with
   | ret u=>exact I.after hq
   | next=>exact False.elim hq
   | brk=>exact False.elim hq
   | cont=>exact False.elim hq
theorem aOR(F:FnOk X.prog X.w X.K X.mg X.base CX k f fd ps sp)(hr:Room k X.A)(hg:Gl X x)(hm:X.mg x=qq (.ref f))(hk:yCw X.K (.ref f)=true)(hb:mH X.K fd ps ds)(hd:aT dvs ds)(hx:aAm CX X E)
 (ha:PA X (e::es) t) (hdb:(x==("__debug__" : Str))=false:=by decide) (he:qo (e::es) X.env=(false,eval e X.env)::qo es X.env:=by rfl) (hpl:(backTo pos (qo es X.env)).any (·.1)=false:=by rfl) :
 PE X (.Call (.Name x p) (e::es) [] pos) (aAK sp dvs E t):=by
 intro aB s σ H Q I h;refine jx (aCN I hg hm ?_ hdb);refine PySem.W.callWith_K (h₀:=X.base) I.ok.mod.kin hk (bC (ha pos aB s σ H _ I h) λ us s1 ⟨vs,H1,I1,r,q⟩=>⟨I1.kIn,?_⟩) he hpl
 exact aIb F hr hb hd hx I1 r q
theorem aNT(F:FnOk X.prog X.w X.K X.mg X.base CX k f fd ps sp)(hr:Room k X.A)(hg:Gl X x)(hm:X.mg x=qq (.ref f))(hk:yCw X.K (.ref f)=true)(hb:mH X.K fd ps ds)(hd:aT dvs ds)(hx:aAm CX X E)
 (hdb:(x==("__debug__" : Str))=false:=by decide):PE X (.Call (.Name x p) [] [] pos) (aAK sp dvs E aKP):=by
 intro aB s σ H Q I h;refine jx (aCN I hg hm ?_ hdb);exact PySem.W.callWith_K0 I.kIn hk (aIb (us:=[]) F hr hb hd hx I .nil h)
structure Mk(K:FrG)(C f:qv):Prop where
 makes:PySem.W.makesIn K C=true
 init:yFt K (.ref C) "__init__" = qq (qq (.ref f))
 fn:PySem.W.isFn K (.ref f)=true
 kp:yCw K (.ref C)=true
end
section
variable {X : Cx}{CX : jG}{k : Nat}{f C : qv}{fd : jo}{ps ks : List Str}{sp : Sp}{E : XK}{x m : Str}{p pos apos kpos : Pos}{e o : qw}{es : List qw}{kws : List Keyword}{te ta : TE}{t tk : TA}{nm : Option Str}
structure KBinds(K:FrG)(fd:jo)(ps ks:List Str)(g:List qx->List qx->List qx)(gV:List V->List V->List V):Prop where
 to:∀ (s:qj) (us ws:List qx),K.In s.heap->(g us ws).length=ps.length->BindsTo s fd ⟨us,ks.zip ws⟩ (ps.zip (g us ws))
 rel:∀ {vs:List V}{us:List qx}{zs:List V}{ws:List qx},aT vs us->aT zs ws->aT (gV vs zs) (g us ws)
variable {g : List qx -> List qx -> List qx}{gV : List V -> List V -> List V}
end
structure FnScope(N P:List Str)(sc:zw):Prop where
 kind:sc.kind=.function
 co:sc.isCoroutine=false
 gen:sc.isGenerator=false
 nd:N.Nodup
 pre:N.take P.length=P
 par:∀ x∈P,sc.names.lookup x=qq .local\/sc.names.lookup x=qq .cell
 nofree:∀ y∈sc.names,y.2≠.free
theorem aFT{kindOf:Str->Option vq}{x:Str}:∀ {binds:List (Str×qx)}{m:Str->Option qx},(∀ v,(x,v) ∉ binds)->bindL kindOf binds m x=m x
 | [],_,_=>rfl
 | (n,v)::r,m,h=>by
   unfold bindL;rw[aFT λ w hw=>h w (xAg _ hw)]
   split
   ·have:x≠n:=by rintro rfl;exact h v xAd
    simp[this]
   ·rfl
theorem aF0{kindOf:Str->Option vq}{x:Str}:∀ {binds:List (Str×qx)}{m:Str->Option qx},(∀ v,(x,v) ∉ binds)->bindC kindOf binds m x=m x
 | [],_,_=>rfl
 | (n,v)::r,m,h=>by
   unfold bindC;rw[aF0 λ w hw=>h w (xAg _ hw)]
   split
   ·rfl
   ·have:x≠n:=by rintro rfl;exact h v xAd
    simp[this]
theorem aGd{kindOf:Str->Option vq}{x:Str}{v:qx}:∀ {P:List Str}{vs:List qx}{i:Nat}{m:Str->Option qx},P.Nodup->P[i]? = qq x->vs[i]? = qq v->kindOf x=qq .local ->
 bindL kindOf (P.zip vs) m x=qq v
 | [],_,_,_,_,h,_,_=>by simp at h
 | _::_,[],_,_,_,_,h,_=>by simp at h
 | p::P,w::vs,0,m,nd,h1,h2,hk=>by
   simp at h1 h2;subst h1;subst h2;show bindL kindOf ((p,w)::P.zip vs) m p=_;unfold bindL;rw[aFT λ v hv=>(List.nodup_cons.mp nd).1 (yGe hv).1,if_pos hk]
   simp
 | p::P,w::vs,i+1,m,nd,h1,h2,hk=>by
   show bindL kindOf ((p,w)::P.zip vs) m x=_;unfold bindL;exact aGd (i:=i) (List.nodup_cons.mp nd).2 (by simpa using h1) (by simpa using h2) hk
theorem aFZ{kindOf:Str->Option vq}{x:Str}{v:qx}:∀ {P:List Str}{vs:List qx}{i:Nat}{m:Str->Option qx},P.Nodup->P[i]? = qq x->vs[i]? = qq v->kindOf x≠qq .local ->
 bindC kindOf (P.zip vs) m x=qq v
 | [],_,_,_,_,h,_,_=>by simp at h
 | _::_,[],_,_,_,_,h,_=>by simp at h
 | p::P,w::vs,0,m,nd,h1,h2,hk=>by
   simp at h1 h2;subst h1;subst h2;show bindC kindOf ((p,w)::P.zip vs) m p=_;unfold bindC;rw[aF0 λ v hv=>(List.nodup_cons.mp nd).1 (yGe hv).1,if_neg hk]
   simp
 | p::P,w::vs,i+1,m,nd,h1,h2,hk=>by
   show bindC kindOf ((p,w)::P.zip vs) m x=_;unfold bindC;exact aFZ (i:=i) (List.nodup_cons.mp nd).2 (by simpa using h1) (by simpa using h2) hk
noncomputable def start(N:List Str)(vs:List V):St:=vs.map qq++yAc (N.length-vs.length) qz
noncomputable def sG(CX:jG)(P:qu)(w:zx)(K:FrG)(mg:Str->Option qx)(base:Heap)(N:List Str)(cN:Str)(scope:zw)(f:qv)(cd:qx)(A:zv)(outer:List Env)(s:qj)(H:Hp)(E:XK):Cx where
 prog:=P
 w:=w
 K:=K
 mg:=mg
 base:=base
 A:=A.deeper (envOfC cN scope s.heap.objs.size f cd)
 N:=N
 s₀:=s
 H₀:=H
 env:=envOfC cN scope s.heap.objs.size f cd
 outer:=outer
 stack:=envOfC cN scope s.heap.objs.size f cd::outer
 ex:=[]
 calm:=true
 fn:=λ _=>true
 pn:=[]
 xe:=λ e s'=>qk (model P w) (A.deeper (envOfC cN scope s.heap.objs.size f cd)) (leaving (envOfC cN scope s.heap.objs.size f cd) e) (λ _ s''=>CX outer H s E e s'') (λ e' s''=>CX outer H s E e' s'') s'
theorem aGL{sc:zw}{n:Nat}{x:Str}(h:sc.names.lookup x=qq .cell):∃ c,(cellsFrom n sc.names []).lookup x=qq c:=by
 have q:=PySem.W.cellsFrom_some sc.names n [] (.inl h);exact Option.isSome_iff_exists.mp q
theorem aMG{CX:jG}{P:qu}{w:zx}{K:FrG}{mg:Str->Option qx}{base:Heap}{N ps:List Str}{cN:Str}{scope:zw}{f:qv}{cd:qx}{A:zv}{outer:List Env}{s s1:qj}{H:Hp}{E:XK}{us:List qx}{vs:List V}
 (S:FnScope N ps scope) (hd:A.handled=qz) (e0:Env0 P w K mg base A outer s H) (hl:vs.length=ps.length) (r:aT vs us)
 (x:InCallC s s.heap.objs.size (bindL (envOfC cN scope s.heap.objs.size f cd).kindOf (ps.zip us) λ _=>qz) (cellsFrom (s.heap.objs.size+1) scope.names []) (bindC (envOfC cN scope s.heap.objs.size f cd).kindOf (ps.zip us) λ _=>qz) s1) :
 Inv (sG CX P w K mg base N cN scope f cd A outer s H E) [] (start N vs) H s1:=by
 have hpl:ps.length<=N.length:=by have:=congrArg List.length S.pre;rw[yBv] at this;omega
 obtain⟨h1,tk,rfl,hk⟩:=x.done;have noA:∀ b:qv,b ∉ (sG CX P w K mg base N cN scope f cd A outer s H E).ex:=λ b z=>absurd (show b∈([]:List qv) from z) (by simp)
 refine⟨⟨e0.mod,S.kind,rfl,rfl,yAb _,λ y z c h1 h2=>?_,λ y hy=>?_,λ y c _ h=>?_,λ _=>hd,Around.frames_deeper e0.frames,.inr ⟨rfl,rfl⟩,λ b z=>absurd z (noA b),e0.bs,e0.bsz,λ b _ _=>noA b,λ b z=>absurd z (noA b),e0.funs,e0.frf⟩,
  rfl,e0.bare,Un.kept hk,⟨_,x.toInCall.ns,λ i y v h1 h2 h3=>?_⟩,λ y c h=>⟨_,x.cell y c h⟩,e0.hok.fresh (yAb _),λ y c h=>?_,λ p hp=>absurd (show p∈([]:List (qv×Obj)) from hp) (by simp),e0.hok.kept hk,?_⟩
 ·exact name_of_addr x.apart (PySem.mem_of_lookup h1) (PySem.mem_of_lookup h2)
 ·have hy:scope.names.lookup y=qq .cell\/scope.names.lookup y=qq .free:=hy;rcases hy with hy | hy
  ·exact aGL hy
  ·exact absurd rfl (S.nofree _ (PySem.mem_of_lookup hy))
 ·exact yFw (x.above y c (PySem.mem_of_lookup h))
 ·have hi:i<vs.length:=by
   unfold start at h2
   by_cases hi:i<vs.length
   ·exact hi
   ·rw[yAg (by simpa using hi)] at h2
    rw[yBq] at h2
    split at h2<;>cases h2
  have ha:vs[i]? = qq v:=by
   unfold start at h2;rw[xAn (by simpa using hi),xAb] at h2
   cases e:vs[i]? with
   | none=>rw[e] at h2;cases h2
   | some a=>rw[e] at h2;cases h2;rfl
  obtain⟨u,hu,rv⟩:=r.get ha;have hp:ps[i]? = qq y:=by
   rw[<- S.pre,yDr (by omega)];exact h1
  have ndP:ps.Nodup:=by rw[<- S.pre];exact S.nd.sublist (List.take_sublist _ _)
  refine⟨u,rv,?_⟩;rcases S.par y (xAl hp) with k | k
  ·exact .inl ⟨k,aGd ndP hp hu k⟩
  ·obtain⟨c,e⟩:=aGL (n:=s.heap.objs.size+1) k;refine .inr ⟨.inl k,c,e,?_⟩;have q:=x.cell y c e;rw[aFZ ndP hp hu (by show scope.names.lookup y≠_;rw[k];decide)] at q
   exact q
 ·exact e0.hok.fresh (yFw (x.above y c (PySem.mem_of_lookup h)))
 ·unfold start;show _=N.length;rw[xAo,yAd,yBb];omega
theorem aT4{CX:jG}{P:qu}{w:zx}{K:FrG}{mg:Str->Option qx}{base:Heap}{k:Nat}{f:qv}{name cN:Str}{params:Arguments}{body:List xk}{scope:zw}{dV kV doc pm cdv ct oc:qx}{an od:Option qv}
 {osl:Array (Option qx)}{N ps:List Str}{sp:Sp} (lk:K.lookup f=qq ⟨oc,od,.func (yDh name cN params body scope dV kV doc pm an cdv ct),osl⟩) (hcd:yFu K cdv cN=true) (S:FnScope N ps scope)
 (len:∀ vs H Q E,sp vs H Q E->vs.length=ps.length)
 (hbody:∀ (A:zv) (outer:List Env) (s:qj) (H:Hp) (vs:List V) (Q:VK) (E:XK),Room k (A.deeper (envOfC cN scope s.heap.objs.size f cdv))->sp vs H Q E ->
   ∃ t,dM (sG CX P w K mg base N cN scope f cdv A outer s H E) body t/\t {nx:=λ _ H'=>Q .non H',rt:=Q } (start N vs) H) :
 FnOk P w K mg base CX (k+1) f (yDh name cN params body scope dV kV doc pm an cdv ct) ps sp:=by
 refine⟨len,λ A outer s H args us vs Q E hr e0 hb r hsp=>?_⟩
 have hl:=len _ _ _ _ hsp;have KX:K.In s.heap:=e0.mod.kin.keeps λ b o e=>(e0.bs b o e).1
 have lim:s.heap.NoLimit:=e0.mod.nolimit.keeps λ b o e=>(e0.bs b o e).1
 have hkind:∀ y∈ps.zip us,scope.names.lookup y.1=qq .local\/(scope.names.lookup y.1=qq .cell/\((cellsFrom (s.heap.objs.size+1) scope.names []).lookup y.1).isSome=true):=λ aO hy=>by
  obtain⟨n,v⟩:=aO;rcases S.par n (yGe hy).1 with q | q
  ·exact .inl q
  ·exact .inr ⟨q,PySem.W.cellsFrom_some _ _ _ (.inl q)⟩
 refine codeAny_call_function hr.depth (KX _ _ lk) rfl S.co S.gen rfl (PySem.W.codeRec_of KX hcd) (hb _ _ _ _ ?_);refine wpAny_newFunctionEnv_cells S.kind hkind λ env he s1 x=>?_
 subst he;refine⟨lim.keeps x.toInCall.keep,codeAny_func ?_⟩;obtain⟨t,ht,hq⟩:=hbody A outer s H vs Q E (hr.deeper _) hsp;have I:Inv (sG CX P w K mg base N cN scope f cdv A outer s H E) [] (start N vs) H s1:=aMG S hr.hd e0 hl r x;refine wpAny_mono (ht [] s1 (start N vs) H _ I hq) (λ fl s' hs=>?_) λ e s' hs=>hs
 have bI:∀ {σ':St}{H':Hp}{v:V}{u:qx},Inv (sG CX P w K mg base N cN scope f cdv A outer s H E) [] σ' H' s'->bB v u->Q v H'->CE outer P w H s Q u s':=
  λ {σ' H' v u} J rv q=>⟨v,H',J.os,J.bare,J.base,J.hok,rv,q⟩
 cases fl with
 | ret u =>
   obtain⟨v,σ',H',J,rv,q⟩:=hs;exact bI J rv q
 | next =>
   obtain⟨σ',H',J,q⟩:=hs;exact bI (v:=V.non) (u:=Value.none) J rfl q
 | brk =>
   obtain⟨_,_,_,q⟩:=hs;exact False.elim q
 | cont =>
   obtain⟨_,_,_,q⟩:=hs;exact False.elim q
end L2
namespace L2
open PySem PySem.Spec PyProof.Rows
section
variable {X : Cx}{x : Str}{p pos : Pos}{e : qw}{es : List qw}{t : TA}{id T : String}{r : List V -> Hp -> VK -> Prop}
def tCB(r:List V->Hp->VK->Prop)(t:TA):TE:=λ σ H Q=>t σ H λ vs H1=>r vs H1 Q
theorem nI(hc:dD X (.builtin id) r)(hg:Gl X x)(hm:X.mg x=qz)(hv:jz x=qq (.builtin id))(ha:PA X (e::es) t)(hn:x ≠ "__name__":=by decide)(hdb:(x==("__debug__" : Str))=false:=by decide)
 (he:qo (e::es) X.env=(false,eval e X.env)::qo es X.env:=by rfl) (hpl:(backTo pos (qo es X.env)).any (·.1)=false:=by rfl):PE X (.Call (.Name x p) (e::es) [] pos) (tCB r t):=by
 intro aB s σ H Q I h;refine jx (kX I hg hm hv ?_ hn hdb);exact PyProof.Rows.callWith_builtin1 (bC (ha pos aB s σ H _ I h) λ us s1 ⟨vs,H1,I1,r1,q1⟩=>hc aB s1 σ H1 vs us Q I1 r1 q1) he hpl
theorem aBJ(hc:dD X (.type T) r)(hg:Gl X x)(hm:X.mg x=qz)(hv:jz x=qq (.type T))(ha:PA X (e::es) t)(hn:x ≠ "__name__":=by decide)(hdb:(x==("__debug__" : Str))=false:=by decide)
 (he:qo (e::es) X.env=(false,eval e X.env)::qo es X.env:=by rfl) (hpl:(backTo pos (qo es X.env)).any (·.1)=false:=by rfl):PE X (.Call (.Name x p) (e::es) [] pos) (tCB r t):=by
 intro aB s σ H Q I h;refine jx (kX I hg hm hv ?_ hn hdb);exact yBk (bC (ha pos aB s σ H _ I h) λ us s1 ⟨vs,H1,I1,r1,q1⟩=>hc aB s1 σ H1 vs us Q I1 r1 q1) he hpl
end
end L2
namespace HT
open PySem PyProof.Rows
section
open PySem.SeqAt
open PySem.AutoSeq1 (wpAny_loadPart')
open PySem.MeetsSeq PySem.MeetsSeq2 PySem.MeetsSeq3
end
section
variable {prog : qu}{w : zx}{A : zv}{E : qx -> qj -> Prop}{s : qj}
theorem cat_tup{t b:qv}{vs ws:List qx}{Q:qx->qj->Prop}(ht:IsTup s.heap t vs.toArray)(hb:IsTup s.heap b ws.toArray)(hv:vs≠[])
 (h1:ws=[]->Q (.ref t) s) (h2:ws≠[]->Q (.ref s.heap.objs.size) {s with heap:=s.heap.push {cls:=.type "tuple",data:=.seq (vs++ws).toArray } })
 (hsz:vs.length+ws.length<=qy):qk (model prog w) A (zu .Add (.ref t) (.ref b)) Q E s:=by
 obtain⟨⟨cls,dd,data,sl⟩,ho,hc,n,hd⟩:=id ht;obtain⟨⟨cls2,dd2,data2,sl2⟩,ho2,hc2,n2,hd2⟩:=id hb;simp only at hc hd hc2 hd2;subst hc hd hc2 hd2;have e:vs.toArray++ws.toArray=(vs++ws).toArray:=by simp
 by_cases hw:ws=[]
 ·exact concat_meets ⟨_,ho,rfl⟩ ⟨_,ho2,rfl⟩ noFill_tuple_add seq_tuple_add yFo yFf (yFa _ _)
   (tuple_addW1 t b vs.toArray ws.toArray n n2 dd dd2 sl sl2 (by simpa using hv) (by simp[hw])) ⟨ho,ho2,h1 hw⟩
 ·refine concat_meets ⟨_,ho,rfl⟩ ⟨_,ho2,rfl⟩ noFill_tuple_add seq_tuple_add yFo yFf (yFa _ _)
   (tuple_addW2 t b vs.toArray ws.toArray n n2 dd dd2 sl sl2 (by simpa using hv) (by simpa using hw) (by rw[yAf,yAf];exact hsz)) ⟨ho,ho2,?_⟩
  rw[e];exact h2 hw
noncomputable def sIx(n d:Nat):Option Int->Nat
 | none=>d
 | some v=>if v<0 then (v+(n:Int)).toNat else min v.toNat n
theorem sIx_none(n d:Nat):sIx n d qz=d:=rfl
theorem sIx_nat(n d k:Nat):sIx n d (qq (k:Int))=min k n:=by
 show(if (k:Int)<0 then ((k:Int)+(n:Int)).toNat else min (k:Int).toNat n)=min k n
 rw[if_neg (by omega),yAo]
theorem aSP(n d:Nat)(hd:d<=n)(o:Option Int):sIx n d o<=n:=by
 cases o with
 | none=>exact hd
 | some v =>
   show(if v<0 then (v+(n:Int)).toNat else min v.toNat n)<=n
   by_cases hv:v<0
   ·rw[if_pos hv];omega
   ·rw[if_neg hv];exact Nat.min_le_right _ _
theorem aHk(v:Int)(n d:Nat):(if v<0 then max (v+(n:Int)) 0 else min v (n:Int))=((sIx n d (qq v):Nat):Int):=by
 show(if v<0 then max (v+(n:Int)) 0 else min v (n:Int))=(((if v<0 then (v+(n:Int)).toNat else min v.toNat n):Nat):Int)
 by_cases hv:v<0
 ·simp only[if_pos hv];omega
 ·simp only[if_neg hv];omega
theorem aL7(lo hi:Option Int)(n:Nat):yEr lo hi 1 (n:Int)=(((sIx n 0 lo:Nat):Int),((sIx n n hi:Nat):Int)):=by
 have h1:¬ ((1:Int)<0):=by omega
 unfold yEr;simp only[h1,if_false];refine Prod.ext ?_ ?_
 ·cases lo with
  | none=>rfl
  | some v=>exact aHk v n 0
 ·cases hi with
  | none=>rfl
  | some v=>exact aHk v n n
theorem aL8(i j:Nat):yDm (i:Int) (j:Int) 1=j-i:=by
 unfold yDm;have h1:(1:Int)>0:=by omega
 simp only[h1,if_true,Int.ediv_one]
 split<;>omega
theorem aFx{v:qx}{o:Option Int}{Q:Option Int->qj->Prop}(p:IsPart v o)(h:Q o s):qk (model prog w) A (Builtin.Slice.slicePartIndex v) Q E s:=by
 cases p with
 | none=>exact slicePart_none h
 | int i t=>exact slicePart_int h
theorem sliceApplied_gen{sl:qv}{vl vu:qx}{lo hi:Option Int}{n:Nat}{Q:Int×Int×Nat->qj->Prop}(hs:s.heap.IsSliceOf sl vl vu .none)(pl:IsPart vl lo)(pu:IsPart vu hi)
 (h:Q (((sIx n 0 lo:Nat):Int),1,sIx n n hi-sIx n 0 lo) s):qk (model prog w) A (yGj (.ref sl) (pure (n:Int))) Q E s:=by
 obtain⟨os,hos,hcs,hds⟩:=id hs;unfold yGj Builtin.Slice.sliceFields;refine wB (wB (zj hos hds (x:=vl) rfl (wB (zj hos hds (x:=vu) rfl (wB (zj hos hds (x:=.none) rfl (wP ?_)))))));refine wB (slicePart_none ?_);show qk _ _ (if ((1:Int)==0)=true then _ else _) _ _ s
 rw[if_neg (by decide)]
 refine wB (aFx pl (wB (aFx pu (wB (wP ?_)))));show qk _ _ (match yEr lo hi 1 (n:Int) with | (lo,hi)=>pure (lo,(1:Int),yDm lo hi 1)) _ _ s
 rw[aL7 lo hi n];show qk _ _ (pure (((sIx n 0 lo:Nat):Int),(1:Int),yDm ((sIx n 0 lo:Nat):Int) ((sIx n n hi:Nat):Int) 1)) _ _ s;rw[aL8];exact wP h
theorem aOk(xs:Array qx)(i k:Nat):((yAx k).filterMap λ(m:Nat)=>xs[((i:Int)+(m:Int)*1).toNat]?).toArray=((xs.toList.drop i).take k).toArray:=by
 have e:(λ(m:Nat)=>xs[((i:Int)+(m:Int)*1).toNat]?)=λ m=>xs[i+m]?:=by
  funext m
  have:((i:Int)+(m:Int)*1).toNat=i+m:=by omega
  rw[this]
 rw[e];have:=pick_run xs i k;rw[List.filterMap_map] at this;have e2:((λ x=>xs[x]?) ∘ λ x=>i+x)=λ m=>xs[i+m]?:=rfl
 rw[e2] at this;rw[this]
theorem getItem_tuple_cut{t sl:qv}{aM:Array qx}{vl vu:qx}{lo hi:Option Int}{Q:qx->qj->Prop}(ht:IsTup s.heap t aM)(hs:s.heap.IsSliceOf sl vl vu .none)(pl:IsPart vl lo)(pu:IsPart vu hi)
 (hw:¬ (sIx aM.size 0 lo=0/\sIx aM.size aM.size hi=aM.size))
 (h:Q (.ref s.heap.objs.size) {s with heap:=s.heap.push {cls:=.type "tuple",data:=.seq ((aM.toList.drop (sIx aM.size 0 lo)).take (sIx aM.size aM.size hi-sIx aM.size 0 lo)).toArray } })
 (hsz:aM.size<=qy):qk (model prog w) A (getItem (.ref t) (.ref sl)) Q E s:=by
 have htake:sizeOk (.seq ((aM.toList.drop (sIx aM.size 0 lo)).take (sIx aM.size aM.size hi-sIx aM.size 0 lo)).toArray):=by
  show((aM.toList.drop (sIx aM.size 0 lo)).take (sIx aM.size aM.size hi-sIx aM.size 0 lo)).toArray.size<=qy;rw[yAf,yBv,List.length_drop,yEd];omega
 have hj:sIx aM.size aM.size hi<=aM.size:=aSP _ _ (yAb _) hi;obtain⟨os,hos,hcs,hds⟩:=id hs;have hTs:s.TypeIs (.ref sl) "slice":=⟨os,hos,hcs⟩;unfold getItem
 try with_reducible refine zy ?_
 first | refine wB (wP ?_) | skip
 refine wB (wpAny_sequenceKey ht.typeIs (by decide) ?_)
 refine wB (wpAny_callSpecial?_slot (name:=Str.ofString "__getitem__") ht.typeIs yCm
  (xj yCm ht.typeIs entry_tuple_getitem ?_ (args_tuple_getitem _ _)))
 show qk _ _ (yGk (.ref t) >>= _) _ _ s;refine wB (tupleItemsOf_ ht ?_);refine wB (wpAny_typeOf hTs ?_);rw[if_pos (by decide)]
 refine wB (sliceApplied_gen hs pl pu ?_);have hno:¬ ((((sIx aM.size 0 lo:Nat):Int)==0&&(1:Int)==1&&(sIx aM.size aM.size hi-sIx aM.size 0 lo)==aM.size)=true):=by
  intro q;rw[yAl,yAl] at q;have q1:((sIx aM.size 0 lo:Nat):Int)=0:=eq_of_beq q.1.1;have q2:sIx aM.size aM.size hi-sIx aM.size 0 lo=aM.size:=eq_of_beq q.2;exact hw ⟨by omega,by omega⟩
 show qk _ _ (if (((sIx aM.size 0 lo:Nat):Int)==0&&(1:Int)==1&&(sIx aM.size aM.size hi-sIx aM.size 0 lo)==aM.size)=true then _ else _) _ _ s
 rw[if_neg hno,aOk]
 first
  | exact wB (m:=yCq _) (xw (wP ⟨_,rfl,wP h⟩) htake)
  | exact wB (m:=yCq _) (xw (wB (wP (wP ⟨_,rfl,wP h⟩))) htake)
  | exact wB (wB (m:=yCq _) (xw (wP (wP ⟨_,rfl,wP h⟩)) htake))
  | exact wB (wB (m:=yCq _) (xw (wP ⟨_,rfl,wP h⟩) htake))
end
end HT
namespace L2
open PySem PySem.Spec PyProof.Rows
abbrev TO:=St->Hp->(Option Int->Hp->Prop)->Prop
def PO(X:Cx)(e:Option qw)(t:TO):Prop:=
 ∀ (aB:List (qv×Obj)) (s:qj) (σ:St) (H:Hp) (Q:Option Int->Hp->Prop),Inv X aB σ H s->t σ H Q ->
  qk (model X.prog X.w) X.A (evalPart e X.env) (λ u s'=>∃ o H',Inv X aB σ H' s'/\IsPart u o/\Q o H') X.xe s
def aO0:TO:=λ _ H Q=>Q qz H
def aTP(t:TE):TO:=λ σ H Q=>t σ H λ x H1=>∃ i,x=.int i/\Q (qq i) H1
theorem aMt{ns:List Int}:∀ {us:List qx},aT (ns.map V.int) us->IntsAre us ns:=by
 induction ns with
 | nil=>intro us r;rw[yDz] at r;cases r;exact .nil
 | cons n ns ih =>
   intro us r;rw[yAs] at r;cases r with
   | cons r1 r2 =>
     obtain⟨t,e⟩:=r1;subst e;exact .cons n t (ih r2)
section
variable {X : Cx}{e : qw}{te : TE}{lo hi : Option qw}{tl th : TO}{pos p2 : Pos}
theorem aOJ:PO X qz aO0:=by
 intro aB s σ H Q I h;rw[evalPart_none];exact wP ⟨qz,H,I,.none,h⟩
theorem aPE(h:PE X e te):PO X (qq e) (aTP te):=by
 intro aB s σ H Q I hw;rw[evalPart_some];refine bC (h aB s σ H _ I hw) λ u s1 hPq28=>?_
 obtain⟨x,H1,I1,r1,q1⟩:=hPq28;obtain⟨i,rfl,q⟩:=q1;obtain⟨t,rfl⟩:=r1;exact⟨qq i,H1,I1,.int i t,q⟩
def oU(X:Cx)(r:V->Option Int->Option Int->Hp->VK->Prop):Prop:=
 ∀ (aB:List (qv×Obj)) (s:qj) (σ:St) (H:Hp) (x:V) (v vl vu:qx) (lo hi:Option Int) (sl:qv) (Q:VK),Inv X aB σ H s->bB x v->s.heap.IsSliceOf sl vl vu .none->IsPart vl lo->IsPart vu hi->r x lo hi H Q ->
  ∃ T id,typeLookup (.type T) "__getitem__" = pure (qq (.builtin id))/\s.TypeIs v T/\qk (model X.prog X.w) X.A (getItem v (.ref sl)) (EP X aB σ Q) X.xe s
theorem oU.or{r r':V->Option Int->Option Int->Hp->VK->Prop}(h:oU X r)(h':oU X r'):oU X (λ x lo hi H Q=>r x lo hi H Q\/r' x lo hi H Q):=by
 intro aB s σ H x v vl vu lo hi sl Q I rx hs pl pu q;rcases q with q | q
 ·exact h aB s σ H x v vl vu lo hi sl Q I rx hs pl pu q
 ·exact h' aB s σ H x v vl vu lo hi sl Q I rx hs pl pu q
def tSl(r:V->Option Int->Option Int->Hp->VK->Prop)(te:TE)(tl th:TO):TE:=λ σ H Q=>te σ H λ x H1=>tl σ H1 λ l H2=>th σ H2 λ u H3=>r x l u H3 Q
theorem aGj{r:V->Option Int->Option Int->Hp->VK->Prop}(hr:oU X r)(he:PE X e te)(hl:PO X lo tl)(hu:PO X hi th):PE X (.Subscript e (.Slice lo hi qz p2) pos) (tSl r te tl th):=by
 intro aB s σ H Q I h;refine Subscript_ (bC (he aB s σ H _ I h) λ v s1 hPq29=>?_)
 obtain⟨x,H1,I1,r1,q1⟩:=hPq29;refine wpAny_Slice (bC (hl aB s1 σ H1 _ I1 q1) λ vl s2 ⟨l,H2,I2,pl,q2⟩=>bC (hu aB s2 σ H2 _ I2 q2) λ vu s3 hPq30=>?_)
 obtain⟨u,H3,I3,pu,q3⟩:=hPq30;rw[evalPart_none];refine wP ?_;have I4:Inv X aB σ H3 {s3 with heap:=s3.heap.push {cls:=.type "slice",data:=.fields #[vl,vu,.none] } }:=I3.kept (t':=s3.toks) λ b ob q=>hpS _ q
 obtain⟨T,id,hT,ht,hg⟩:=hr aB {s3 with heap:=s3.heap.push {cls:=.type "slice",data:=.fields #[vl,vu,.none] } } σ H3 x v vl vu l u s3.heap.objs.size Q I4 r1 (Heap.IsSliceOf.new ..) pl pu q3
 show qk (model X.prog X.w) X.A (subscriptTail e (.Slice lo hi qz p2) v (.ref s3.heap.objs.size)) (EP X aB σ Q) X.xe {s3 with heap:=s3.heap.push {cls:=.type "slice",data:=.fields #[vl,vu,.none] } }
 exact tail_any (ops:=[.ref s3.heap.objs.size,v]) ht hT hg (by with_unfolding_all rfl)
noncomputable def mN(xs:List V)(lo hi:Option Int):List V:=(xs.drop (HT.sIx xs.length 0 lo)).take (HT.sIx xs.length xs.length hi-HT.sIx xs.length 0 lo)
theorem aFb(xs:List V)(lo hi:Option Int):(mN xs lo hi).length<=xs.length:=by
 unfold mN;rw[yBv,List.length_drop];omega
noncomputable def aWc(K:FrG):V->Option Int->Option Int->Hp->VK->Prop:=λ x lo hi H Q=>∃ a xs,x=.ref a/\bQ K H a xs /\
 ¬ (HT.sIx xs.length 0 lo=0/\HT.sIx xs.length xs.length hi=xs.length)/\∀ p,H p=qz->Q (.ref p) (bE H p (.tup (mN xs lo hi)))
theorem aSO:oU X (aWc X.K):=by
 intro aB s σ H x v vl vu lo hi sl Q I rx hs pl pu h;obtain⟨a,xs,rfl,hx,hw,q⟩:=h;cases rx;obtain⟨aG,r,ht,hz⟩:=I.tuple hx;have bX:aG.toArray.size=xs.length:=by rw[yAf];exact r.length.symm
 refine⟨"tuple",_,PyProof.Rows.slot_tuple_getitem.lookup,ht.typeIs,?_⟩;refine HT.getItem_tuple_cut ht hs pl pu (by rw[bX];exact hw) ?_ (by rw[bX];exact hz)
 rw[bX];refine⟨.ref s.heap.objs.size,_,I.laid (t':=s.toks) (o:=.tup (mN xs lo hi)) (λ b ob q=>hpS _ q) (yAb _) ?_,rfl,q _ (I.hok.fresh (yAb _))⟩
 exact⟨xAi (aFb xs lo hi) hz,_,(r.drop (HT.sIx xs.length 0 lo)).take (HT.sIx xs.length xs.length hi-HT.sIx xs.length 0 lo),IsTup.new _ _⟩
noncomputable def aVE(K:FrG):R2:=λ x y H Q=>∃ a b xs ys,x=.ref a/\y=.ref b/\bQ K H a xs/\bQ K H b ys/\xs≠[]/\xs.length+ys.length<=qy /\
 (ys=[]->Q (.ref a) H)/\(ys≠[]->∀ p,H p=qz->Q (.ref p) (bE H p (.tup (xs++ys))))
theorem aT.nil_iff{xs:List V}{us:List qx}(r:aT xs us):us=[] ↔ xs=[]:=by
 cases r with
 | nil=>simp
 | cons _ _=>simp
theorem aO4:cD X (zu .Add) (aVE X.K):=by
 intro aB s σ H x y v u Q I rx ry h;obtain⟨a,b,xs,ys,rfl,rfl,ha,hb,hx,hz,q1,q2⟩:=h;cases rx;cases ry;obtain⟨aG,r1,p1,_⟩:=I.tuple ha;obtain⟨eH,r2,p2,_⟩:=I.tuple hb;refine HT.cat_tup p1 p2 (λ z=>hx (r1.nil_iff.mp z)) (λ z=>⟨.ref a,H,I,rfl,q1 (r2.nil_iff.mp z)⟩) (λ z=>?_) (by rw[<- r1.length,<- r2.length];exact hz)
 refine⟨.ref s.heap.objs.size,_,I.laid (t':=s.toks) (o:=.tup (xs++ys)) (λ b ob q=>hpS _ q) (yAb _) ?_,rfl,q2 (λ w=>z (r2.nil_iff.mpr w)) _ (I.hok.fresh (yAb _))⟩
 exact⟨by rw[xAo];exact hz,_,r1.append r2,IsTup.new _ _⟩
end
end L2
namespace L2
open PySem PySem.Spec PyProof.Rows
noncomputable def iF(n:Nat)(i:Int):Option Nat:=if 0<=i then (if i<n then qq i.toNat else qz) else if -(n:Int)<=i then qq (i+n).toNat else qz
noncomputable def kI{α:Type}(xs:List α)(i:Int):Option α:=(iF xs.length i).bind λ j=>xs[j]?
theorem aG7{n:Nat}{i:Int}{j:Nat}(h:iF n i=qq j):seqIndex? i n=qq j/\j<n /\ -(n:Int)<=i/\i<n:=by
 unfold iF at h
 by_cases h0:0<=i
 ·rw[if_pos h0] at h
  by_cases h1:i<n
  ·rw[if_pos h1] at h;have e:i.toNat=j:=Option.some.inj h;exact⟨by rw[seqIndex_of h0 h1,e],by omega,by omega,h1⟩
  ·rw[if_neg h1] at h;cases h
 ·rw[if_neg h0] at h
  by_cases h1 : -(n:Int)<=i
  ·rw[if_pos h1] at h;have e:(i+n).toNat=j:=Option.some.inj h;exact⟨by rw[seqIndex_neg (by omega) h1,e],by omega,h1,by omega⟩
  ·rw[if_neg h1] at h;cases h
theorem aCM{α:Type}{xs:List α}{i:Int}{v:α}(h:kI xs i=qq v):∃ j,seqIndex? i xs.length=qq j/\xs[j]? = qq v/\j<xs.length /\ -(xs.length:Int)<=i/\i<xs.length:=by
 unfold kI at h;cases e:iF xs.length i with
 | none=>rw[e] at h;cases h
 | some j =>
   rw[e] at h;obtain⟨h1,h2,h3,h4⟩:=aG7 e;exact⟨j,h1,h,h2,h3,h4⟩
def zX(b:qw):Prop:=∀ o i,subscripted b false o i=operate [o,i] (getItem o i)
def lI(X:Cx)(r:R2):Prop:=
 ∀ (value iX:qw) (aB:List (qv×Obj)) (s:qj) (σ:St) (H:Hp) (x y:V) (v u:qx) (Q:VK),Inv X aB σ H s->bB x v->bB y u->r x y H Q ->
  subscripted iX false v u=operate [v,u] (getItem v u)->qk (model X.prog X.w) X.A (subscriptTail value iX v u) (EP X aB σ Q) X.xe s
def kH(X:Cx)(id:String)(r:V->List V->Hp->VK->Prop):Prop:=
 ∀ (aB:List (qv×Obj)) (s:qj) (σ:St) (H:Hp) (x:V) (xs:List V) (v:qx) (us:List qx) (Q:VK),Inv X aB σ H s->bB x v->aT xs us->r x xs H Q ->
  qk (model X.prog X.w) X.A (call (.builtin id) (v::us)) (EP X aB σ Q) X.xe s
section
variable {X : Cx}{a b : qw}{ta tb : TE}{pos : Pos}
theorem lI.or{r r':R2}(h:lI X r)(h':lI X r'):lI X (λ x y H Q=>r x y H Q\/r' x y H Q):=by
 intro value iX aB s σ H x y v u Q I rx ry q hs;rcases q with q | q
 ·exact h value iX aB s σ H x y v u Q I rx ry q hs
 ·exact h' value iX aB s σ H x y v u Q I rx ry q hs
theorem kH.or{id:String}{r r':V->List V->Hp->VK->Prop}(h:kH X id r)(h':kH X id r'):kH X id (λ x xs H Q=>r x xs H Q\/r' x xs H Q):=by
 intro aB s σ H x xs v us Q I rx rs q;rcases q with q | q
 ·exact h aB s σ H x xs v us Q I rx rs q
 ·exact h' aB s σ H x xs v us Q I rx rs q
theorem aJX{r:R2}(hr:lI X r)(ha:PE X a ta)(hb:PE X b tb)(hs:zX b):PE X (.Subscript a b pos) (xD r ta tb):=by
 intro aB s σ H Q I h;exact Subscript_ (aD3 ha hb I h λ v u s2 x y H2 I2 rx ry q=>hr a b aB s2 σ H2 x y v u Q I2 rx ry q (hs _ _))
noncomputable def aWQ(K:FrG):R2:=λ x y H Q=>∃ p xs i v,x=.ref p/\y=.int i/\bL K H p xs/\kI xs i=qq v/\Q v H
noncomputable def aWv(K:FrG):R2:=λ x y H Q=>∃ p xs i v,x=.ref p/\y=.int i/\bQ K H p xs/\kI xs i=qq v/\Q v H
noncomputable def aWR:R2:=λ x y H Q=>∃ z i c,x=.str z/\y=.int i/\z.length<=qy/\kI z.cps.toList i=qq c/\Q (.str ⟨#[c]⟩) H
theorem aO9:lI X (aWQ X.K):=by
 intro value iX aB s σ H x y v u Q I rx ry h hs;obtain⟨p,xs,i,z,rfl,rfl,hq,he,q⟩:=h;cases rx;obtain⟨t,rfl⟩:=ry;obtain⟨aG,r,pl,hz⟩:=I.list hq;obtain⟨j,h1,h2,h3,h4,h5⟩:=aCM he;obtain⟨w,ew,rw'⟩:=r.get h2;have hl:=r.length;have hn:=lX;have bI:EP X aB σ Q w s:=⟨z,H,I,rw',q⟩
 by_cases h0:0<=i
 ·have hj:i.toNat=j:=by
   rw[seqIndex_of h0 h5] at h1;exact Option.some.inj h1
  exact item_listR pl.isList h0 (by omega) (by rw[hj];simpa using ew) bI hs
 ·have hj:(i+(aG.toArray.size:Int)).toNat=j:=by
   rw[seqIndex_neg (by omega) h4] at h1
   rw[yAf,<- hl];exact Option.some.inj h1
  exact subscriptTail_builtinR (x:=w) pl.isList.typeIs slot_list_getitem.lookup
   (wpAny_getItem_list_neg (Q:=λ r s'=>r=w/\EP X aB σ Q r s') pl.isList (by omega) (by rw[yAf]<;>omega) (by omega) (by rw[hj];simpa using ew) ⟨rfl,bI⟩) hs
theorem aRm:lI X (aWv X.K):=by
 intro value iX aB s σ H x y v u Q I rx ry h hs;obtain⟨p,xs,i,z,rfl,rfl,hq,he,q⟩:=h;cases rx;obtain⟨t,rfl⟩:=ry;obtain⟨aG,r,pl,hz⟩:=I.tuple hq;obtain⟨j,h1,h2,h3,h4,h5⟩:=aCM he;obtain⟨w,ew,rw'⟩:=r.get h2;have hl:=r.length;have hn:=lX;have bI:EP X aB σ Q w s:=⟨z,H,I,rw',q⟩;exact subscriptTail_builtinR (x:=w) pl.typeIs slot_tuple_getitem.lookup
  (getItem_tuple (j:=j) (Q:=λ r s'=>r=w/\EP X aB σ Q r s') pl (by omega) (by omega) (by rw[yAf,<- hl];exact h1) (by simpa using ew) ⟨rfl,bI⟩) hs
theorem aSA:lI X aWR:=by
 intro value iX aB s σ H x y v u Q I rx ry h hs;obtain⟨z,i,c,rfl,rfl,hz,he,q⟩:=h;obtain⟨t,rfl⟩:=rx;obtain⟨t',rfl⟩:=ry;obtain⟨j,h1,h2,h3,h4,h5⟩:=aCM he;have hl:z.cps.toList.length=z.length:=by simp[Str.length]
 rw[hl] at h1 h4 h5;have hn:=lX;exact tail_any (typeIs_str s z t) slot_str_getitem.lookup (getItem_str (c:=c) (by
  have e1:decide (i < -(2^63:Int))=false:=dqF (by omega)
  have e2:decide (i ≥ 2^63)=false:=dqF (by omega)
  rw[e1,e2,yFg]) (by rw[h1];simpa using h2) ⟨.str ⟨#[c]⟩,H,I.tok _,⟨_,rfl⟩,q⟩) hs
theorem aMo(aG:List qx)(n j:Nat)(u:qx):Obj.mapSeq (·.setIfInBounds j u) {cls:=.type "list",data:=.seq aG.toArray n }={cls:=.type "list",data:=.seq (aG.set j u).toArray n }:=by
 simp[Obj.mapSeq]
theorem Inv.lst{aB:List (qv×Obj)}{σ:St}{H:Hp}{s:qj}{p:qv}{xs:List V}(I:Inv X aB σ H s)(h:H p=qq (.lst xs)) :
 ∃ (aG:List qx) (n:Nat),aT xs aG/\s.heap.get? p=qq {cls:=.type "list",data:=.seq aG.toArray n }/\xs.length<=qy:=by
 obtain⟨z,aG,n,r,e⟩:=I.hok p _ h;exact⟨aG,n,r,e,z⟩
theorem Inv.lstUpd{aB:List (qv×Obj)}{σ:St}{H:Hp}{s:qj}{p:qv}{xs ys:List V}{aG its':List qx}{n n':Nat}{f:Obj->Obj}(I:Inv X aB σ H s)(h:H p=qq (.lst xs))
 (ho:s.heap.get? p=qq {cls:=.type "list",data:=.seq aG.toArray n }) (hf:f {cls:=.type "list",data:=.seq aG.toArray n }={cls:=.type "list",data:=.seq its'.toArray n' }) (r:aT ys its') (hz:ys.length<=qy) (t:Nat) :
 Inv X aB σ (bE H p (.lst ys)) {s with heap:=s.heap.update p f,toks:=t }:=by
 have e:(s.heap.update p f).get? p=qq {cls:=.type "list",data:=.seq its'.toArray n' }:=by
  rw[yDi f ho (by rw[hf]<;>rfl),hf]
 refine I.write (x:=p) (e:=p) (by rw[h];trivial) (.inl rfl) (λ b u hb q=>(yBx _ _ (Ne.symm hb)).trans q) ⟨_,e⟩ ?_
 exact⟨hz,its',n',r,e⟩
noncomputable def aJj:V->V->V->Hp->(Hp->Prop)->Prop:=λ o i v H Q=>∃ p xs k j,o=.ref p/\i=.int k/\H p=qq (.lst xs)/\iF xs.length k=qq j/\Q (bE H p (.lst (xs.set j v)))
theorem aOl:aKw X aJj:=by
 intro aB s σ H o i v ov iv u Q I ro ri rv h;obtain⟨p,xs,k,j,rfl,rfl,hp,hj,q⟩:=h;cases ro;obtain⟨t,rfl⟩:=ri;obtain⟨aG,n,r,ho,hz⟩:=I.lst hp;obtain⟨h1,h2,h3,h4⟩:=aG7 hj;have hl:=r.length;have hn:=lX;have I':Inv X aB σ (bE H p (.lst (xs.set j v))) {s with heap:=s.heap.update p (Obj.mapSeq (·.setIfInBounds j u)) }:=
  I.lstUpd hp ho (aMo aG n j u) (r.set rv j) (by rw[yBh];exact hz) s.toks
 by_cases h0:0<=k
 ·have hk:k.toNat=j:=by
   rw[seqIndex_of h0 h4] at h1;exact Option.some.inj h1
  exact PySem.W.ki_setAt ho h0 (by omega) (by rw[yAf,<- hl];exact h4) (by rw[hk];exact⟨_,I',q⟩)
 ·have hk:(k+(aG.toArray.size:Int)).toNat=j:=by
   rw[seqIndex_neg (by omega) h3] at h1
   rw[yAf,<- hl];exact Option.some.inj h1
  exact PySem.W.ki_setBack ho (by omega) (by rw[yAf,<- hl];exact h3) (by omega) (by rw[hk];exact⟨_,I',q⟩)
theorem aLD(lo hi:Option Int)(n:Nat):(vv lo hi qz n).1=((HT.sIx n 0 lo:Nat):Int)/\(vv lo hi qz n).2.1=((HT.sIx n n hi:Nat):Int)/\(vv lo hi qz n).2.2=1:=by
 refine⟨?_,?_,rfl⟩
 ·cases lo with
  | none=>simp[vv,HT.sIx]
  | some i =>
    simp only[vv,HT.sIx,yHa,show(1:Int)>0 by decide,if_true]
    by_cases h:i<0
    ·simp only[h,if_true]<;>omega
    ·simp only[h,if_false]<;>omega
 ·cases hi with
  | none=>simp[vv,HT.sIx]
  | some i =>
    simp only[vv,HT.sIx,yHa,show(1:Int)>0 by decide,if_true]
    by_cases h:i<0
    ·simp only[h,if_true]<;>omega
    ·simp only[h,if_false]<;>omega
theorem aLp(aG:List qx)(lo hi:Option Int):slicePick aG.toArray lo hi qz=((aG.drop (HT.sIx aG.length 0 lo)).take (HT.sIx aG.length aG.length hi-HT.sIx aG.length 0 lo)).toArray:=by
 obtain⟨h1,h2,h3⟩:=aLD lo hi aG.toArray.size;unfold slicePick;rw[h1,h2,h3];simp only[sliceRange_one,pick_run,yAf]<;>rfl
noncomputable def aV7(K:FrG):V->Option Int->Option Int->Hp->VK->Prop:=λ x lo hi H Q=>∃ a xs,x=.ref a/\bL K H a xs/\∀ p,H p=qz->Q (.ref p) (bE H p (.lst (mN xs lo hi)))
theorem aP9:oU X (aV7 X.K):=by
 intro aB s σ H x v vl vu lo hi sl Q I rx hs pl pu h;obtain⟨a,xs,rfl,hx,q⟩:=h;cases rx;obtain⟨aG,r,ht,hz⟩:=I.list hx;have bX:=r.length;refine⟨"list",_,slot_list_getitem.lookup,ht.isList.typeIs,?_⟩;refine wpAny_getItem_list_slice ht.isList hs pl pu .none (by simp) ?_ (by rw[yAf]<;>omega)
 rw[aLp,<- bX];refine⟨.ref s.heap.objs.size,_,I.laid (t':=s.toks) (o:=.lst (mN xs lo hi)) (λ b ob q=>hpS _ q) (yAb _) ?_,rfl,q _ (I.hok.fresh (yAb _))⟩
 exact⟨xAi (aFb xs lo hi) hz,_,0,(r.drop (HT.sIx xs.length 0 lo)).take (HT.sIx xs.length xs.length hi-HT.sIx xs.length 0 lo),xAe _ rfl⟩
noncomputable def lB:V->Bool
 | .non=>true
 | .bl _=>true
 | .int _=>true
 | .str _=>true
 | _=>false
noncomputable def mZ:V->V->Bool
 | .non,.non=>true
 | .bl a,.bl b=>a==b
 | .bl a,.int b=>(if a then 1 else 0)==b
 | .int a,.bl b=>a==(if b then 1 else 0)
 | .int a,.int b=>a==b
 | .str a,.str b=>a==b
 | _,_=>false
theorem aSE{A:zv}{s:qj}{y x:V}{u v:qx}(ry:bB y u)(rx:bB x v)(fy:lB y=true)(fx:lB x=true):SeqAt.EqAt A s u v (mZ y x):=by
 cases y with
 | non =>
   cases ry;cases x with
   | non=>cases rx;exact SeqAt.EqAt.same _
   | bl b=>cases rx;exact SeqAt.EqAt.none_bool b
   | int b=>obtain⟨t,rfl⟩:=rx;exact SeqAt.EqAt.none_int b t
   | str b=>obtain⟨t,rfl⟩:=rx;exact SeqAt.EqAt.none_str b t
   | _=>exact absurd (show false=true from fx) yBj
 | bl a =>
   cases ry;cases x with
   | non=>cases rx;exact SeqAt.EqAt.bool_none a
   | bl b=>cases rx;exact SeqAt.EqAt.bool_bool a b
   | int b=>obtain⟨t,rfl⟩:=rx;exact SeqAt.EqAt.bool_int a b t
   | str b=>obtain⟨t,rfl⟩:=rx;exact SeqAt.EqAt.bool_str a b t
   | _=>exact absurd (show false=true from fx) yBj
 | int a =>
   obtain⟨t',rfl⟩:=ry;cases x with
   | non=>cases rx;exact SeqAt.EqAt.int_none a t'
   | bl b=>cases rx;exact SeqAt.EqAt.int_bool a t' b
   | int b=>obtain⟨t,rfl⟩:=rx;exact SeqAt.EqAt.int_int a t' b t
   | str b=>obtain⟨t,rfl⟩:=rx;exact SeqAt.EqAt.int_str a t' b t
   | _=>exact absurd (show false=true from fx) yBj
 | str a =>
   obtain⟨t',rfl⟩:=ry;cases x with
   | non=>cases rx;exact SeqAt.EqAt.str_none a t'
   | bl b=>cases rx;exact SeqAt.EqAt.str_bool a t' b
   | int b=>obtain⟨t,rfl⟩:=rx;exact SeqAt.EqAt.str_int a t' b t
   | str b=>obtain⟨t,rfl⟩:=rx;exact SeqAt.EqAt.str_str a t' b t
   | _=>exact absurd (show false=true from fx) yBj
 | _=>exact absurd (show false=true from fy) yBj
noncomputable def gT(x:V)(u:qx):Bool:=match u with
 | .none=>mZ .non x
 | .bool b=>mZ (.bl b) x
 | .int i _=>mZ (.int i) x
 | .str z _=>mZ (.str z) x
 | _=>false
theorem aIM{x y:V}{u:qx}(r:bB y u)(f:lB y=true):gT x u=mZ y x:=by
 cases y with
 | non=>cases r;rfl
 | bl b=>cases r;rfl
 | int i=>obtain⟨t,rfl⟩:=r;rfl
 | str z=>obtain⟨t,rfl⟩:=r;rfl
 | _=>exact absurd (show false=true from f) yBj
theorem uA{x:V}:∀ {xs:List V}{us:List qx},aT xs us->xs.all lB=true->us.any (gT x)=xs.any λ y=>mZ y x
 | _,_,.nil,_=>rfl
 | y::xs,u::us,.cons r t,f=>by
   rw[List.all_cons,yAl] at f;rw[List.any_cons,List.any_cons,aIM r f.1,uA t f.2]
theorem tV{A:zv}{s:qj}{x:V}{v:qx}(rx:bB x v)(fx:lB x=true):∀ {xs:List V}{us:List qx},aT xs us->xs.all lB=true->∀ u∈us,SeqAt.EqAt A s u v (gT x u)
 | _,_,.nil,_=>λ u hu=>by cases hu
 | y::xs,u::us,.cons r t,f=>λ u' hu=>by
   rw[List.all_cons,yAl] at f;rcases List.mem_cons.mp hu with rfl | hu
   ·rw[aIM r f.1];exact aSE r rx f.1 fx
   ·exact tV rx fx t f.2 u' hu
noncomputable def tB(x:V)(xs:List V):Bool:=xs.any λ y=>mZ y x
noncomputable def rIn(K:FrG)(neg:Bool):R2:=λ x y H Q=>∃ p xs,y=.ref p/\(bL K H p xs\/bQ K H p xs)/\lB x=true/\xs.all lB=true/\Q (.bl (if neg then !tB x xs else tB x xs)) H
theorem aNr:cD X (xx .In) (rIn X.K false):=by
 intro aB s σ H x y v u Q I rx ry h;obtain⟨p,xs,rfl,hq,fx,fs,q⟩:=h;cases ry;rcases hq with hq | hq
 ·obtain⟨aG,r,pl,hz⟩:=I.list hq;refine SeqAt.in_listAt (gT x) pl.isList (λ w hw=>tV rx fx r fs w (by simpa using hw)) ⟨.bl _,H,I,rfl,?_⟩
  rw[show aG.toArray.any (gT x)=aG.any (gT x) by simp,uA r fs]
  exact q
 ·obtain⟨aG,r,pl,hz⟩:=I.tuple hq;refine SeqAt.in_tupleAt (gT x) pl (λ w hw=>tV rx fx r fs w (by simpa using hw)) ⟨.bl _,H,I,rfl,?_⟩
  rw[show aG.toArray.any (gT x)=aG.any (gT x) by simp,uA r fs]
  exact q
theorem aLx:cD X (xx .NotIn) (rIn X.K true):=by
 intro aB s σ H x y v u Q I rx ry h;obtain⟨p,xs,rfl,hq,fx,fs,q⟩:=h;cases ry;rcases hq with hq | hq
 ·obtain⟨aG,r,pl,hz⟩:=I.list hq;refine SeqAt.notIn_listAt (gT x) pl.isList (λ w hw=>tV rx fx r fs w (by simpa using hw)) ⟨.bl _,H,I,rfl,?_⟩
  rw[show aG.toArray.any (gT x)=aG.any (gT x) by simp,uA r fs]
  exact q
 ·obtain⟨aG,r,pl,hz⟩:=I.tuple hq;refine SeqAt.notIn_tupleAt (gT x) pl (λ w hw=>tV rx fx r fs w (by simpa using hw)) ⟨.bl _,H,I,rfl,?_⟩
  rw[show aG.toArray.any (gT x)=aG.any (gT x) by simp,uA r fs]
  exact q
theorem aES:dD X (.builtin "len") (λ xs H Q=>∃ p ys,xs=[.ref p]/\(bL X.K H p ys\/bQ X.K H p ys)/\Q (.int ys.length) H):=by
 intro aB s σ H xs us Q I r h;obtain⟨p,ys,rfl,hq,q⟩:=h;obtain⟨u,rfl,rx⟩:=iL r;cases rx;have hn:=lX;rcases hq with hq | hq
 ·obtain⟨aG,r',pl,hz⟩:=I.list hq;have bX:=r'.length;exact Calls.call_len_list pl.isList (by simp only[yAf]<;>omega) ⟨.int ys.length,H,I.tok _,⟨s.toks+1,by rw[yAf,bX]⟩,q⟩
 ·obtain⟨aG,r',pl,hz⟩:=I.tuple hq;have bX:=r'.length;exact len_tuple pl (by simp only[yAf]<;>omega) ⟨.int ys.length,H,I.tok _,⟨s.toks+1,by rw[yAf,bX]⟩,q⟩
theorem aLG:dD X (.builtin "len") (λ xs H Q=>∃ z,xs=[.str z]/\z.length<=qy/\Q (.int z.length) H):=by
 intro aB s σ H xs us Q I r h;obtain⟨z,rfl,hz,q⟩:=h;obtain⟨u,rfl,t,rfl⟩:=iL r;have hn:=lX;exact len_str (by omega) ⟨.int z.length,H,I.tok _,⟨_,rfl⟩,q⟩
theorem dD.or{f:qx}{r r':List V->Hp->VK->Prop}(h:dD X f r)(h':dD X f r'):dD X f (λ xs H Q=>r xs H Q\/r' xs H Q):=by
 intro aB s σ H xs us Q I rs q;rcases q with q | q
 ·exact h aB s σ H xs us Q I rs q
 ·exact h' aB s σ H xs us Q I rs q
theorem aLz:dD X (.type "list") (λ xs H Q=>∃ p ys,xs=[.ref p]/\(bL X.K H p ys\/bQ X.K H p ys)/\∀ l,H l=qz->Q (.ref l) (bE H l (.lst ys))):=by
 intro aB s σ H xs us Q I r h;obtain⟨p,ys,rfl,hq,q⟩:=h;obtain⟨u,rfl,rx⟩:=iL r;cases rx;have bI:∀ (aG:List qx),aT ys aG->ys.length<=qy->∀ (h':Heap) (c':Nat),(∀ b o',s.heap.get? b=qq o'->h'.get? b=qq o') ->
  h'.get? s.heap.objs.size=qq {cls:=.type "list",dict:=qz,data:=.seq aG.toArray c',slots:=#[] }->EP X aB σ Q (.ref s.heap.objs.size) {s with heap:=h' }:=λ aG r' hz h' c' kp e =>
  ⟨.ref s.heap.objs.size,_,I.laid (t':=s.toks) kp (yAb _) (show gL X.prog X.w _ h' _ (.lst ys) from ⟨hz,aG,c',r',e⟩),rfl,q _ (I.hok.fresh (yAb _))⟩
 rcases hq with hq | hq
 ·obtain⟨aG,r',pl,hz⟩:=I.list hq;have bX:=r'.length;obtain⟨o,ho,hc,n,hd⟩:=pl.isList;exact call_list_seq p (.inl rfl) ho hc hd (λ h' c' kp e=>bI aG r' hz h' c' kp e) (by simp only[yAf]<;>omega)
 ·obtain⟨aG,r',pl,hz⟩:=I.tuple hq;have bX:=r'.length;obtain⟨o,ho,hc,n,hd⟩:=pl;exact call_list_seq p (.inr rfl) ho hc hd (λ h' c' kp e=>bI aG r' hz h' c' kp e) (by simp only[yAf]<;>omega)
theorem aEJ:dD X (.type "tuple") (λ xs H Q=>∃ p ys,xs=[.ref p]/\((bL X.K H p ys/\∀ l,H l=qz->Q (.ref l) (bE H l (.tup ys)))\/(bQ X.K H p ys/\Q (.ref p) H))):=by
 intro aB s σ H xs us Q I r h;obtain⟨p,ys,rfl,h⟩:=h;obtain⟨u,rfl,rx⟩:=iL r;cases rx;rcases h with ⟨hq,q⟩ | ⟨hq,q⟩
 ·obtain⟨aG,r',pl,hz⟩:=I.list hq;have bX:=r'.length;refine call_tuple_list pl.isList (λ h' kp=>?_) (by simp only[yAf]<;>omega)
  have I1:Inv X aB σ H {s with heap:=h' }:=I.kept (t':=s.toks) kp
  have I2:Inv X aB σ (bE H h'.objs.size (.tup ys)) {s with heap:=h'.push {cls:=.type "tuple",data:=.seq aG.toArray } }:=
   I1.laid (t':=s.toks) (λ b o e=>hpS _ e) (yAb _) (show gL X.prog X.w _ _ _ (.tup ys) from ⟨hz,aG,r',IsTup.new _ _⟩)
  exact⟨.ref h'.objs.size,_,I2,rfl,q _ (I1.hok.fresh (yAb _))⟩
 ·obtain⟨aG,r',pl,hz⟩:=I.tuple hq;exact call_tuple_same pl ⟨.ref p,H,I,rfl,q⟩
def tyV(K:FrG)(T:String)(x:V)(H:Hp):Prop:=match x with
 | .str _=>T = "str"
 | .int _=>T = "int"
 | .ref p=>(T = "list" /\ ∃ xs,bL K H p xs)\/(T = "tuple" /\ ∃ o,K.lookup p=qq o/\o.cls=.type "tuple" /\ o.dict=qz) \/
    (T = "dict" /\ ((∃ bA,H p=qq (.dK bA))\/∃ bA,H p=qq (.dT bA)))\/(T = "set" /\ ∃ S n,H p=qq (.set S n))
 | _=>False
theorem aIE{aB:List (qv×Obj)}{σ:St}{H:Hp}{s:qj}{T:String}{x:V}{v:qx}(I:Inv X aB σ H s)(r:bB x v)(ty:tyV X.K T x H) :
 s.TypeIs v T/\∀ a,v=.ref a->∃ ob,s.heap.get? a=qq ob/\ob.dict=qz:=by
 cases x with
 | str z =>
   obtain⟨t,rfl⟩:=r;cases (show T = "str" from ty)
   exact⟨typeIs_str s z t,λ _ e=>nomatch e⟩
 | int i =>
   obtain⟨t,rfl⟩:=r;cases (show T = "int" from ty)
   exact⟨yj s i t,λ _ e=>nomatch e⟩
 | ref p =>
   cases r;rcases ty with ⟨rfl,xs,hq⟩ | ⟨rfl,o,hk,hc,hd⟩ | ⟨rfl,hk⟩ | ⟨rfl,S,n,hk⟩
   ·obtain⟨aG,_,pl,_⟩:=I.list hq;refine⟨pl.isList.typeIs,λ a e=>?_⟩
    cases e;obtain⟨o,n,e,c,hd,_⟩:=pl;exact⟨o,e,hd⟩
   ·refine⟨⟨o,I.kIn p o hk,hc⟩,λ a e=>?_⟩
    cases e;exact⟨o,I.kIn _ o hk,hd⟩
   ·have z:∃ o,s.heap.get? p=qq o/\o.ExactDict:=by
     rcases hk with ⟨bA,hk⟩ | ⟨bA,hk⟩
     ·obtain⟨_,_,_,_,o,_,_,e,ex,_⟩:=I.hok p _ hk;exact⟨o,e,ex⟩
     ·obtain⟨_,_,_,_,o,_,_,e,ex,_⟩:=I.hok p _ hk;exact⟨o,e,ex⟩
    obtain⟨o,e,ex⟩:=z;refine⟨⟨o,e,ex.1⟩,λ a e2=>?_⟩
    cases e2;exact⟨o,e,ex.2.1⟩
   ·obtain⟨o,_,_,_,e,ex,_⟩:=I.hok p _ hk;refine⟨⟨o,e,ex.1⟩,λ a e2=>?_⟩
    cases e2;exact⟨o,e,ex.2.1⟩
 | _=>exact False.elim ty
def aW0(K:FrG)(T:String)(r:V->List V->Hp->VK->Prop)(to:TE):TE:=λ σ H Q=>to σ H λ x H1=>tyV K T x H1/\r x [] H1 Q
def tBM(K:FrG)(T:String)(r:V->List V->Hp->VK->Prop)(to:TE)(t:TA):TE:=λ σ H Q=>to σ H λ x H1=>tyV K T x H1/\t σ H1 λ xs H2=>r x xs H2 Q
variable {o e : qw}{es : List qw}{to : TE}{t : TA}{name : Str}{apos cpos : Pos}{T id : String}{r : V -> List V -> Hp -> VK -> Prop}
theorem aSp(pa:PlainAttrs T)(slot:Slot T name id)(hty:typeOf (.builtin id)=pure (.type "method_descriptor"))(hm:kH X id r)(ho:PE X o to)
 (hbase:attributeBase o name X.env (eval o X.env)=eval o X.env:=by rfl) (hline:(apos.endLine==cpos.line)=true:=by rfl):PE X (.Call (.Attribute o name apos) [] [] cpos) (aW0 X.K T r to):=by
 intro aB s σ H Q I h;refine wpAny_Call_method0_late hbase hline (bC (ho aB s σ H _ I h) λ v s1 hPq31=>?_)
 obtain⟨x,H1,I1,r1,ty,q1⟩:=hPq31;obtain⟨h1,h2⟩:=aIE I1 r1 ty;exact⟨T,id,pa,slot,hty,h1,h2,Calls.callWith_builtin rfl (PySem.evalArgs_none (hm aB s1 σ H1 x [] v [] Q I1 r1 .nil q1))⟩
theorem aJ1(pa:PlainAttrs T)(slot:Slot T name id)(hty:typeOf (.builtin id)=pure (.type "method_descriptor"))(hm:kH X id r)(ho:PE X o to)(ha:PA X (e::es) t)
 (hbase:attributeBase o name X.env (eval o X.env)=eval o X.env:=by rfl)
 (hfew:((backTo cpos (qo (e::es) X.env)).all (λ x=>!x.1)&&(backToKw cpos (keywordEach [] X.env)).all (λ x=>x.1.isSome)
   && decide ((e::es).length+([]:List Keyword).length+(if ([]:List Keyword).isEmpty then 0 else 1)<30))=true:=by rfl)
 (hline:(apos.endLine==cpos.line)=true:=by rfl) (hs:qo (e::es) X.env=(false,eval e X.env)::qo es X.env:=by rfl) (hplain:(backTo cpos (qo es X.env)).any (·.1)=false:=by rfl) :
 PE X (.Call (.Attribute o name apos) (e::es) [] cpos) (tBM X.K T r to t):=by
 intro aB s σ H Q I h;refine wpAny_Call_method_late hbase hfew hline rfl (bC (ho aB s σ H _ I h) λ v s1 hPq32=>?_)
 obtain⟨x,H1,I1,r1,ty,q1⟩:=hPq32;obtain⟨h1,h2⟩:=aIE I1 r1 ty;refine⟨T,id,pa,slot,hty,h1,h2,?_⟩;have hA:=ha cpos aB s1 σ H1 _ I1 q1;rw[hs] at hA ⊢;refine Calls.callWith_builtin (by show(false||(backTo cpos (qo es X.env)).any (·.1))=false;rw[hplain]<;>rfl) (Calls.evalArgs_plain ?_)
 exact bC hA λ us s2 ⟨vs,H2,I2,r2,q2⟩=>hm aB s2 σ H2 x vs v us Q I2 r1 r2 q2
end
end L2
namespace L2
open PySem PySem.Spec PyProof.Rows
def MtM(X:Cx)(id:String)(r:V->List V->Hp->VK->Prop):Prop:=
 ∀ (aB:List (qv×Obj)) (s:qj) (σ:St) (H:Hp) (x:V) (xs:List V) (v:qx) (us:List qx) (Q:VK),Inv X aB σ H s->bB x v->aT xs us->r x xs H Q ->
  qk (model X.prog X.w) X.A (call (.builtin id) (v::us)) (EP X aB σ Q) X.xe s
theorem aT.one:∀ {x:V}{us:List qx},aT [x] us->∃ u,us=[u]/\bB x u
 | _,_,.cons r .nil=>⟨_,rfl,r⟩
theorem aT.two:∀ {x y:V}{us:List qx},aT [x,y] us->∃ u v,us=[u,v]/\bB x u/\bB y v
 | _,_,_,.cons r (.cons q .nil)=>⟨_,_,rfl,r,q⟩
theorem aT.zero:∀ {us:List qx},aT [] us->us=[]
 | _,.nil=>rfl
theorem aT.reverse{xs:List V}{us:List qx}(h:aT xs us):aT xs.reverse us.reverse:=by
 induction h with
 | nil=>exact .nil
 | cons r t ih=>rw[yFq,yFq];exact aT.append ih (.cons r .nil)
theorem aT.rep{xs:List V}{us:List qx}(h:aT xs us):∀ k:Nat,aT (yAc k xs).flatten (yAc k us).flatten
 | 0=>.nil
 | k+1=>by
   rw[yAy,yAy,yCy,yCy];exact aT.append h (aT.rep h k)
theorem yZ(aG:List qx):∀ (k:Nat) (aF:List qx),
 List.foldl (λ x1 x2=>x1++x2) aF.toArray (yAc k aG.toArray)=(aF++(yAc k aG).flatten).toArray
 | 0,aF=>by simp
 | k+1,aF=>by
   have e:aF.toArray++aG.toArray=(aF++aG).toArray:=by simp
   have e2:(aF++aG)++(yAc k aG).flatten=aF++(yAc (k+1) aG).flatten:=by
    rw[yAy,yCy,yAz]
   rw[<- e2,<- yZ aG k (aF++aG),<- e,yAy,yBm]
section
variable {X : Cx}{aB : List (qv×Obj)}{σ : St}{H : Hp}{s : qj}{l b : qv}{xs ys zs : List V}
theorem Inv.lset{aG its':List qx}{n:Nat}{f:Array qx->Array qx}{t':Nat}(I:Inv X aB σ H s)(hH:H l=qq (.lst xs))
 (e:s.heap.get? l=qq {cls:=.type "list",data:=.seq aG.toArray n }) (hf:f aG.toArray=its'.toArray) (hv:aT ys its') (hz:ys.length<=qy) :
 Inv X aB σ (bE H l (.lst ys)) {s with heap:=s.heap.update l (Obj.mapSeq f),toks:=t' }:=by
 have q:=PySem.IsL.update e f;rw[hf] at q;refine I.write (x:=l) (e:=l) (by rw[hH];exact trivial) (.inl rfl) (λ b' u hb hu=>(yBx s.heap (Obj.mapSeq f) (Ne.symm hb)).trans hu) ⟨_,q⟩ ?_
 exact⟨hz,its',_,hv,q⟩
theorem Inv.lnew{aG:List qx}{t':Nat}(I:Inv X aB σ H s)(hv:aT ys aG)(hz:ys.length<=qy) :
 Inv X aB σ (bE H s.heap.objs.size (.lst ys)) {s with heap:=s.heap.push {cls:=.type "list",data:=.seq aG.toArray },toks:=t' }:=
 I.laid (λ _ _ q=>hpS _ q) (yAb _) ⟨hz,aG,0,hv,xAe _ rfl⟩
theorem Inv.fresh(I:Inv X aB σ H s):H s.heap.objs.size=qz:=I.hok.fresh (yAb _)
theorem Inv.lstM(I:Inv X aB σ H s)(hH:H l=qq (.lst xs)):xs.length<=qy/\∃ (aG:List qx) (n:Nat),aT xs aG/\xs.length=aG.length/\s.heap.get? l=qq {cls:=.type "list",data:=.seq aG.toArray n }:=by
 obtain⟨z,aG,n,r,e⟩:=I.hok l _ hH;exact⟨z,aG,n,r,r.length,e⟩
end
section
variable {X : Cx}
noncomputable def aHh:V->List V->Hp->VK->Prop:=λ x vs H Q=>∃ l xs y,x=.ref l/\vs=[y]/\H l=qq (.lst xs)/\xs.length<qy/\Q .non (bE H l (.lst (xs++[y])))
theorem aFE:MtM X "list.append" aHh:=by
 intro aB s σ H x vs v us Q I rx rv h;obtain⟨l,xs,y,rfl,rfl,hH,hz,q⟩:=h;cases rx;obtain⟨u,rfl,ru⟩:=rv.one;obtain⟨z,aG,n,r,hl,e⟩:=I.lstM hH;refine vz F.slot_list_append ⟨_,e,rfl⟩ F.entry_list_append (F.args_list_append_2 _ _) (PySem.list_append l aG.toArray n u (by rw[yAf];omega)) ⟨e,?_⟩
 refine⟨.non,_,I.lset (its':=aG++[u]) hH e (by simp) (r.append (.cons ru .nil)) ?_,rfl,q⟩
 rw[xAo,yEj];omega
theorem aOE{α:Type}(xs:List α)(k:Nat):(yAc k xs).flatten.length=k*xs.length:=by
 induction k with
 | zero=>simp
 | succ k ih=>rw[yAy,yCy,xAo,ih,Nat.succ_mul,yEa]
end
section
variable {prog : qu}{w : zx}{A : zv}{E : qx -> qj -> Prop}{s : qj}
end
section
variable {X : Cx}
end
end L2
namespace Att
open PySem PySem.W PySem.Calls PyProof.Rows
theorem aLg{P:Params}{h:Heap}:∀ (ns:List Int) (vs:List qx),WellAll P h vs (ns.map WData.int)->IntsAre vs ns:=by
 intro ns
 induction ns with
 | nil =>
   intro vs w;rw[yDz] at w;cases w;exact .nil
 | cons n ns ih =>
   intro vs w;rw[yAs] at w;cases w with
   | cons a b =>
     cases a;exact .cons _ _ (ih _ b)
theorem script_of{l:OpenLaw}{n:Nat}(hn:l.most=qq n){P:Params}{h:Heap}{args:List WData}{vals:List qx}
 (hpre:l.row.toRowW.claim.pre args=true) (hwl:WellAll P h vals args) :
 ∃ a vs ns,vals=[Value.ref a]/\args=[WData.list (ns.map WData.int)]/\h.get? a=qq {cls:=.type "list",data:=.seq vs.toArray }/\IntsAre vs ns/\ns.length<=n:=by
 have hsh:WShape.hasAll [] args [.list .int]=true:=(pre_splitW hpre).1;have hc:l.pre.holds [] {args:=args }=true:=(pre_splitW hpre).2;obtain⟨d,r,rfl,h1,h2⟩:=hasAllW_cons hsh;obtain rfl:=hasAllW_nil h2;obtain⟨xs,rfl,h3⟩:=hasW_list h1;obtain⟨ns,rfl⟩:=items_int h3;have bX:ns.length<=n:=by
  unfold OpenLaw.pre at hc;have h4:(WTm.not (.lt (.lit (.int (n:Int))) (.len (.arg 0)))).holds [] {args:=[.list (ns.map .int)] }=true:=by
   have h4:=(holds_andW hc).1;rw[hn] at h4;exact h4
  have h5:=condW_of h4 (w_not (w_lt w_lit (w_len_list (w_arg rfl))));rw[yAd] at h5;refine yGa λ q=>?_
  have q':(n:Int)<((ns.length:Nat):Int):=by omega
  first
   | (rw[dqT q'] at h5;exact absurd h5 (by decide))
   | (simp at h5;omega)
 cases hwl with
 | cons w1 w2 =>
   cases w2;cases w1 with
   | list ho hall=>exact⟨_,_,ns,rfl,rfl,ho,aLg ns _ hall,bX⟩
theorem post_true(l:OpenLaw)(args:List WData):l.row.toRowW.claim.post args (.bool true) args=true:=
 postW_of (r:=l.row.toRowW) (X:=(true==true))
  (show WShape.has [] (.bool true) .bool=true by first | rfl | decide | simp[WShape.has,WShape.arms,WShape.armsAll])
  (show(WTm.eq .res (.lit (.bool true))).value [] {args:=args,res:=qq (.bool true),after:=args }=qq (.bool (true==true)) from w_eq_bool (w_res rfl) w_lit) rfl
theorem attach_call{l:OpenLaw}{n:Nat}{q:qu}{loose:List Str}{XP:(Str->Option qx)->Heap->Prop}{YP:zx->Heap->Prop}{d:DefRec}
 (hn:l.most=qq n) (hdf:d.params.defaults=[])
 (call:∀ (w:zx) (s₀ s₁:qj) (mg mb:Str->Option qx) (fa:qv) (o:Obj) (pm cd doc:qx) (a:qv) (vs:List qx) (ns:List Int),
   Ground q loose [] XP w s₀ mg mb s₁.heap->YP w s₁.heap ->
   s₁.heap.get? fa=qq o->o.data=.func (docDef d.name d.params d.body d.scope pm cd doc)->s₁.heap.CodeRec cd d.name->mg d.name=qq (.ref fa) ->
   s₁.heap.get? a=qq {cls:=.type "list",data:=.seq vs.toArray }->IntsAre vs ns->ns.length<=n->s₁.gens = #[] ->
   vj (model l.prog w) callerA (.call (.ref fa) ⟨[.ref a],[]⟩) (λ r s'=>r=.ok (.ret (.bool true))/\OldK s₁.heap s'.heap/\s'.os=s₁.os/\AllBare s'.gens) s₁) :
 WalkO q loose XP YP l.row.toRowW d [] (λ f vs=>PySem.call f vs):=by
 intro w s₀ s₁ mg mb G Y fa o pm cd doc dV kV ho hd hcd hD hmg hg args vals as hpre hlay hrd hwl hlo;obtain rfl:dV=.none:=Dflts.none hD hdf;obtain rfl:kV=.none:=Dflts.noKw hD;obtain⟨a,vs,ns,rfl,rfl,hobj,hints,bX⟩:=script_of hn hpre hwl;refine enter_call (codeAny_mono (call w s₀ s₁ mg mb fa o pm cd doc a vs ns G Y ho (fd_plain hd) hcd hmg hobj hints bX hg) λ r s' hq=>?_)
 obtain⟨rfl,h2,h3,h4⟩:=hq;exact⟨.inl ⟨.bool true,.bool true,[],rfl,λ _=>rfl,.bool true,post_true l _,λ _=>⟨List.Pairwise.nil,λ _ hm=>(nomatch hm)⟩⟩,h2,h3,h4⟩
section
variable {prog : qu}{w : zx}{A : zv}{E : qx -> qj -> Prop}{s : qj}{K : Frag}
noncomputable def aXf(h:Heap)(L d:qv):List (qv×Obj):=(yAx h.objs.size).filterMap λ a=>if a=L\/a=d then qz else (h.get? a).map λ o=>(a,o)
end
end Att
namespace L2
open PySem PySem.Spec PyProof.Rows
theorem aF5:∀ {vs:List qx}{ns:List Int},IntsAre vs ns->aT (ns.map V.int) vs
 | _,_,.nil=>.nil
 | _,_,.cons n t h=>.cons ⟨t,rfl⟩ (aF5 h)
def aDO(H:Hp):Prop:=∀ b,H b=qz\/∃ o xs,H b=qq (.frz o (.lst xs))
theorem law_call{P:qu}{w:zx}{K:FrG}{mg mb:Str->Option qx}{CX:jG}{k:Nat}{fa a:qv}{fd:jo}{x:Str}{sp:Sp}{s₁:qj}{vs:List qx}{ns:List Int}
 (KX:K.In s₁.heap) (hns:s₁.heap.Ns xy mg) (hb:s₁.heap.Ns builtinsNs mb) (hbb:∀ x:Str,x ≠ "__name__" -> mb x=jz x) (hlim:s₁.heap.NoLimit) (hg:s₁.gens = #[])
 (ha:s₁.heap.get? a=qq {cls:=.type "list",data:=.seq vs.toArray }) (hi:IntsAre vs ns) (hl:ns.length<=qy) (hr:Room k callerA)
 (F:∀ base:Heap,K.In base->base.Ns xy mg->FnOk P w K mg base CX k fa fd [x] sp) (hbind:∀ (s:qj) (u:qx),BindsTo s fd ⟨[u],[]⟩ [(x,u)])
 (hsp:∀ H:Hp,aDO H->bL K H a (ns.map V.int)->sp [.ref a] H (λ v _=>v=.bl true) λ _ _ _=>False)
 (hCX:∀ H e s',CX [] H s₁ (λ _ _ _=>False) e s'->False) :
 vj (model P w) callerA (.call (.ref fa) ⟨[.ref a],[]⟩) (λ r s'=>r=.ok (.ret (.bool true))/\OldK s₁.heap s'.heap/\s'.os=s₁.os/\AllBare s'.gens) s₁:=by
 have rv:=aF5 hi;have lenV:=hi.length;have core:∀ H:Hp,aDO H->bL K H a (ns.map V.int)->dN P w H s₁.heap->(∀ b,H b≠qz->b=a)->(H a≠qz->K.lookup a=qz) ->
  vj (model P w) callerA (.call (.ref fa) ⟨[.ref a],[]⟩) (λ r s'=>r=.ok (.ret (.bool true))/\OldK s₁.heap s'.heap/\s'.os=s₁.os/\AllBare s'.gens) s₁:=by
  intro H hO hS hok hA hK;have rB:∀ {b:qv}{o:Obj},s₁.heap.get? b=qq o->H b=qz->(mK s₁.heap H).get? b=qq o:=λ e n=>aN2 e n
  have noA:∀ {b:qv}{o:Obj}{es:Array DictEntry}{ep:Nat},s₁.heap.get? b=qq o->o.data=.dict es ep->H b=qz:=λ {b o es ep} e d=>by
   cases q:H b with
   | none=>rfl
   | some u =>
     have e':b=a:=hA b (by rw[q];simp)
     subst e';rw[ha] at e;cases e;have d':Data.seq vs.toArray _=Data.dict es ep:=d;cases d'
  have nsK:∀ {b:qv}{m:Str->Option qx},s₁.heap.Ns b m->(mK s₁.heap H).Ns b m:=λ {b m} ⟨o,es,ep,e,d,r⟩=>⟨o,es,ep,rB e (noA e d),d,r⟩
  have hKb:K.In (mK s₁.heap H):=λ b o e=>rB (KX b o e) (by
   cases q:H b with
   | none=>rfl
   | some u =>
     have e':b=a:=hA b (by rw[q];simp)
     subst e';rw[hK (by rw[q];simp)] at e;cases e)
  have hM:Mod K mg (mK s₁.heap H):=⟨hKb,nsK hns,⟨mb,nsK hb,hbb⟩,let ⟨mc,h1,h2⟩:=hlim;⟨mc,nsK h1,h2⟩⟩;have e0:Env0 P w K mg (mK s₁.heap H) callerA [] s₁ H:=⟨rfl,hM,λ b o e=>aQh e,yFx (aNa _ _),trivial,λ b hb=>absurd (show b∈([]:List qv) from hb) (by simp),hok,.of_eq hg⟩
  refine codeAny_mono ((F _ hKb (nsK hns)).run callerA [] s₁ H ⟨[.ref a],[]⟩ [.ref a] [.ref a] _ _ hr e0 (hbind s₁ (.ref a)) (.cons rfl .nil) (hsp H hO hS)) λ r s' h=>?_
  cases r with
  | error e=>exact(hCX H e s' h).elim
  | ok fl =>
    cases fl with
    | next=>exact False.elim h
    | brk=>exact False.elim h
    | cont=>exact False.elim h
    | ret u =>
      obtain⟨v,H',os,bare,un,hok',r',q⟩:=h;have q':v=.bl true:=q;subst q';obtain rfl:u=Value.bool true:=r';refine⟨rfl,OldK.of_keep λ b o e=>?_,os,bare⟩
      cases q:H b with
      | none=>exact un.keep b o e q (by intro z;exact absurd (show b∈([]:List qv) from z) (by simp)) (by simp)
      | some u =>
        rcases hO b with z | ⟨ob,xs,z⟩
        ·rw[q] at z;cases z
        ·have z2:=un.frzs b ob _ z;obtain⟨e1,_⟩:=hok b _ z;obtain⟨e2,_⟩:=hok' b _ z2;rw[e] at e1;cases e1;exact e2
 cases hk:K.lookup a with
 | some o =>
   have e:=KX a o hk;rw[ha] at e;cases e;refine core (λ _=>qz) (λ _=>.inl rfl) (.inr ⟨_,vs.toArray,_,hk,rfl,rfl,rfl,by rw[yAf,lenV];exact hl,by simpa using rv⟩) (λ b u z=>by have z':(qz:Option HO)=qq u:=z;cases z') (λ b z=>absurd rfl z) λ z=>absurd rfl z
 | none =>
   refine core (λ b=>if b=a then qq (.frz {cls:=.type "list",data:=.seq vs.toArray } (.lst (ns.map V.int))) else qz) (λ b=>?_) (.inl (.inr ⟨{cls:=.type "list",data:=.seq vs.toArray },if_pos rfl⟩)) (λ b u z=>?_) (λ b z=>?_) λ _=>hk
   ·by_cases hb:b=a
    ·exact .inr ⟨_,_,if_pos hb⟩
    ·exact .inl (if_neg hb)
   ·by_cases hb:b=a
    ·have z':=(if_pos hb).symm.trans z;cases z';subst hb;exact⟨ha,by rw[yAd];exact hl,vs,_,rv,ha⟩
    ·have z':=(if_neg hb).symm.trans z;cases z'
   ·by_cases hb:b=a
    ·exact hb
    ·exact absurd (if_neg hb) z
end L2
namespace L2
open PySem PySem.Spec PyProof.Rows
noncomputable abbrev KOf{K:FrG}{h:Heap}(_:K.In h):FrG:=K
theorem aXd{l:yHj}{n k:Nat}{q:qu}{loose:List Str}{XP:(Str->Option qx)->Heap->Prop}{YP:zx->Heap->Prop}{d:DefRec}{K:Params->FrG}{CX:zx->jG}{sp:zx->Sp}{x:Str}
 (hn:l.most=qq n) (hn2:n<=qy) (hdf:d.params.defaults=[]) (hr:Room k callerA)
 (hY:∀ (w:zx) (h:Heap),YP w h->(K w.params).In h)
 (F:∀ (w:zx) (mg:Str->Option qx) (fa:qv) (h:Heap),(K w.params).In h->h.Ns xy mg->mg d.name=qq (.ref fa) ->
   ∃ fd:jo,(∀ (s:qj) (u:qx),BindsTo s fd ⟨[u],[]⟩ [(x,u)]) /\
    ∀ base:Heap,(K w.params).In base->base.Ns xy mg->FnOk l.prog w (K w.params) mg base (CX w) k fa fd [x] (sp w))
 (hsp:∀ (w:zx) (H:Hp) (a:qv) (ns:List Int),ns.length<=n->aDO H->bL (K w.params) H a (ns.map V.int)->sp w [.ref a] H (λ v _=>v=.bl true) λ _ _ _=>False)
 (hCX:∀ (w:zx) (H:Hp) (s:qj) (e:qx) (s':qj),CX w [] H s (λ _ _ _=>False) e s'->False) :
 PySem.W.WalkO q loose XP YP l.row.toRowW d [] (λ f vs=>PySem.call f vs):=by
 refine Att.attach_call hn hdf λ w s₀ s₁ mg mb fa o pm cd doc a vs ns G Y ho hd hcd hmg hobj hints bX hg=>?_
 have KX:=hY w _ Y;obtain⟨fd,hb,hF⟩:=F w mg fa _ KX G.T.g hmg;exact law_call KX G.T.g G.T.b G.T.builtins G.T.nolimit hg hobj hints (xAi bX hn2) hr hF hb (λ H hO hS=>hsp w H a ns bX hO hS) λ H e s'=>hCX w H s₁ e s'
end L2
namespace L2
open PySem PySem.Spec PyProof.Rows
noncomputable def nN(s:xk):Arguments:=match s with
 | .FunctionDef _ a _ _ _ _ _ _ _ _=>a
 | _=>{posonlyargs:=[],args:=[],vararg:=qz,kwonlyargs:=[],kw_defaults:=[],kwarg:=qz,defaults:=[] }
noncomputable def kR(s:xk):List xk:=match s with
 | .FunctionDef _ _ b _ _ _ _ _ _ _=>b
 | _=>[]
noncomputable def eI(s:xk):zw:=match s with
 | .FunctionDef _ _ _ _ _ _ sc _ _ _=>sc
 | _=>{kind:=.function,names:=[],isGenerator:=false,isCoroutine:=false }
noncomputable abbrev sW:jG:=λ _ _ _ _ _ _=>False
noncomputable abbrev E0:XK:=λ _ _ _=>False
theorem aJf{X:Cx}:aAm sW X E0:=λ _ _ _ _ _ _ _ h=>h.elim
structure Fun(K:FrG)(x cN:Str)(st:xk)(f:qv)(fd:jo):Prop where
 ex:∃ (oc:qx) (od:Option qv) (kV doc pm:qx) (an:Option qv) (cdv ct:qx) (osl:Array (Option qx)),
  fd=yDh x cN (nN st) (kR st) (eI st) .none kV doc pm an cdv ct/\K.lookup f=qq ⟨oc,od,.func fd,osl⟩/\yFu K cdv cN=true
 kp:yCw K (.ref f)=true
section
variable {P : qu}{w : zx}{K : FrG}{mg : Str -> Option qx}{base : Heap}
theorem Fun.ok{x cN:Str}{st:xk}{f:qv}{fd:jo}{N ps:List Str}{k:Nat}{sp:Sp}(F:Fun K x cN st f fd)(S:FnScope N ps (eI st))(len:∀ vs H Q E,sp vs H Q E->vs.length=ps.length)
 (hbody:∀ (cdv:qx) (A:zv) (outer:List Env) (s:qj) (H:Hp) (vs:List V) (Q:VK) (E:XK),Room k (A.deeper (envOfC cN (eI st) s.heap.objs.size f cdv))->sp vs H Q E ->
   ∃ t,dM (sG sW P w K mg base N cN (eI st) f cdv A outer s H E).nox (kR st) t/\t {nx:=λ _ H'=>Q .non H',rt:=Q } (start N vs) H):FnOk P w K mg base sW (k+1) f fd ps sp:=by
 obtain⟨oc,od,kV,doc,pm,an,cdv,ct,osl,rfl,lk,hcd⟩:=F.ex;refine aT4 lk hcd S len λ A outer s H vs Q E hr hsp=>?_
 obtain⟨t,h,q⟩:=hbody cdv A outer s H vs Q E hr hsp;exact⟨t,h.nox,q⟩
theorem Fun.binds{x cN:Str}{st:xk}{f:qv}{fd:jo}{ps:List Str}(F:Fun K x cN st f fd)
 (h:∀ (kV doc pm:qx) (an:Option qv) (cdv ct:qx) (us:List qx),us.length=ps.length->bindArgs (yDh x cN (nN st) (kR st) (eI st) .none kV doc pm an cdv ct) ⟨us,[]⟩=pure (ps.zip us)):mH K fd ps []:=by
 obtain⟨oc,od,kV,doc,pm,an,cdv,ct,osl,rfl,lk,hcd⟩:=F.ex;exact .all (h kV doc pm an cdv ct)
theorem aRB{x cN:Str}{st:xk}{f:qv}{oc:qx}{od an:Option qv}{osl:Array (Option qx)}{kV doc pm cdv ct:qx}(l:K.lookup f=qq ⟨oc,od,.func (yDh x cN (nN st) (kR st) (eI st) .none kV doc pm an cdv ct),osl⟩)
 (c:yFu K cdv cN=true) (k:yCw K (.ref f)=true):Fun K x cN st f (yDh x cN (nN st) (kR st) (eI st) .none kV doc pm an cdv ct):=⟨⟨oc,od,kV,doc,pm,an,cdv,ct,osl,rfl,l,c⟩,k⟩
end
section
variable {X : Cx}
end
theorem pY{A B:Prop}(h:B):if false=true then A else B:=by
 rw[if_neg yBj];exact h
theorem qE{A B:Prop}(h:A):if true=true then A else B:=by
 rw[if_pos rfl];exact h
def bZ(H H':Hp):Prop:=∀ b o,H b=qq o->H' b=qq o
theorem bZ.refl(H:Hp):bZ H H:=λ _ _ h=>h
theorem bZ.trans{H H1 H2:Hp}(a:bZ H H1)(b:bZ H1 H2):bZ H H2:=λ c o h=>b c o (a c o h)
theorem bZ.free{H H':Hp}(e:bZ H H'){l:qv}(h:H' l=Option.none):H l=Option.none:=by
 cases q:H l with
 | none=>rfl
 | some o =>
   rw[e l o q] at h;cases h
theorem bZ.seq{K:FrG}{H H':Hp}{a:qv}{xs:List V}(e:bZ H H')(h:bL K H a xs):bL K H' a xs:=by
 rcases h with (h | ⟨o,h⟩) | h
 ·exact .inl (.inl (e _ _ h))
 ·exact .inl (.inr ⟨o,e _ _ h⟩)
 ·exact .inr h
end L2
set_option maxHeartbeats 4000000
namespace EV
open PySem L2 PySem.Spec PyProof.Rows
abbrev D:=PyData
inductive W where
 | d (x:D) | loc (n:Nat)
abbrev aE:=List (Option (List D))
abbrev aZ:=List (Option W)
abbrev St:=L2.St
section
variable (K : FrG)(F : Hp)
mutual
inductive Den:D->V->Prop
 | non:Den .none .non
 | bl (b:Bool):Den (.bool b) (.bl b)
 | int (i:Int):Den (.int i) (.int i)
 | str (x:Str):Den (.str x) (.str x)
 | lst {a:qv}{xs:List V}{ds:List D}:bL K F a xs->DenL ds xs->Den (.list ds) (.ref a)
 | tup {a:qv}{xs:List V}{ds:List D}:bQ K F a xs->DenL ds xs->Den (.tuple ds) (.ref a)
inductive DenL:List D->List V->Prop
 | nil:DenL [] []
 | cons {d:D}{ds:List D}{x:V}{xs:List V}:Den d x->DenL ds xs->DenL (d::ds) (x::xs)
end
end
theorem iM{K:FrG}{H H':Hp}{a:qv}{xs:List V}(e:bZ H H')(h:bQ K H a xs):bQ K H' a xs:=by
 rcases h with (h | ⟨o,h⟩) | h
 ·exact .inl (.inl (e _ _ h))
 ·exact .inl (.inr ⟨o,e _ _ h⟩)
 ·exact .inr h
section
variable {K : FrG}{F F' : Hp}
mutual
theorem Den.mono(e:bZ F F'):∀ {d:D}{v:V},Den K F d v->Den K F' d v
 | _,_,.non=>.non
 | _,_,.bl b=>.bl b
 | _,_,.int i=>.int i
 | _,_,.str x=>.str x
 | _,_,.lst h r=>.lst (e.seq h) (DenL.mono e r)
 | _,_,.tup h r=>.tup (iM e h) (DenL.mono e r)
theorem DenL.mono(e:bZ F F'):∀ {ds:List D}{xs:List V},DenL K F ds xs->DenL K F' ds xs
 | _,_,.nil=>.nil
 | _,_,.cons h r=>.cons (Den.mono e h) (DenL.mono e r)
end
theorem DenL.length:∀ {ds:List D}{xs:List V},DenL K F ds xs->ds.length=xs.length
 | _,_,.nil=>rfl
 | _,_,.cons _ r=>congrArg (· + 1) (DenL.length r)
theorem DenL.get:∀ {ds:List D}{xs:List V}{i:Nat}{d:D},DenL K F ds xs->ds[i]? = qq d->∃ x,xs[i]? = qq x/\Den K F d x
 | _,_,_,_,.nil,e=>by simp at e
 | _,_,0,_,.cons h _,e=>by simp at e;subst e;exact⟨_,rfl,h⟩
 | _,_,i+1,d,.cons _ r,e=>by
   obtain⟨x,h1,h2⟩:=DenL.get (i:=i) (d:=d) r (by simpa using e)
   exact⟨x,by simpa using h1,h2⟩
theorem DenL.append:∀ {ds es:List D}{xs ys:List V},DenL K F ds xs->DenL K F es ys->DenL K F (ds++es) (xs++ys)
 | _,_,_,_,.nil,s=>s
 | _,_,_,_,.cons h r,s=>.cons h (DenL.append r s)
theorem DenL.take:∀ {ds:List D}{xs:List V} (n:Nat),DenL K F ds xs->DenL K F (ds.take n) (xs.take n)
 | _,_,0,_=>.nil
 | _,_,_+1,.nil=>.nil
 | _,_,n+1,.cons h r=>.cons h (DenL.take n r)
theorem DenL.drop:∀ {ds:List D}{xs:List V} (n:Nat),DenL K F ds xs->DenL K F (ds.drop n) (xs.drop n)
 | _,_,0,r=>r
 | _,_,_+1,.nil=>.nil
 | _,_,n+1,.cons _ r=>DenL.drop n r
theorem DenL.set:∀ {ds:List D}{xs:List V} (i:Nat) {d:D}{x:V},DenL K F ds xs->Den K F d x->DenL K F (ds.set i d) (xs.set i x)
 | _,_,_,_,_,.nil,_=>.nil
 | _,_,0,_,_,.cons _ r,h=>.cons h r
 | _,_,i+1,_,_,.cons q r,h=>.cons q (DenL.set i r h)
theorem DenL.reverse:∀ {ds:List D}{xs:List V},DenL K F ds xs->DenL K F ds.reverse xs.reverse
 | _,_,.nil=>.nil
 | _,_,.cons h r=>by
   rw[yFq,yFq];exact DenL.append (DenL.reverse r) (.cons h .nil)
theorem DenL.rep{ds:List D}{xs:List V}(h:DenL K F ds xs):∀ n:Nat,DenL K F (yAc n ds).flatten (yAc n xs).flatten
 | 0=>.nil
 | n+1=>by
   rw[yAy,yAy,yCy,yCy];exact h.append (DenL.rep h n)
theorem DenL.of_ints:∀ (ns:List Int),DenL K F (ns.map yAk) (ns.map V.int)
 | []=>.nil
 | n::r=>.cons (.int n) (DenL.of_ints r)
end
structure Rel(K:FrG)(F:Hp)(L:List qv)(S:aE)(H:Hp):Prop where
 sub:bZ F H
 nd:L.Nodup
 len:L.length=S.length
 loc:∀ (n:Nat) (a:qv) (ds:List D),L[n]? = qq a->S[n]? = qq (qq ds)->F a=qz/\∃ xs,H a=qq (.lst xs)/\DenL K F ds xs
 tr:∀ (n:Nat) (a:qv),L[n]? = qq a->∃ xs,H a=qq (.lst xs)
noncomputable def eD(K:FrG)(F:Hp)(L:List qv):W->V->Prop
 | .d x,v=>Den K F x v
 | .loc n,v=>∃ a,L[n]? = qq a/\v=.ref a
structure EnvR(K:FrG)(F:Hp)(L:List qv)(env:aZ)(σ:St):Prop where
 len:env.length=σ.length
 get:∀ (i:Nat) (w:W),env[i]? = qq (qq w)->∃ v,σ[i]? = qq (qq v)/\eD K F L w v
structure Gr(F:Hp)(L:List qv)(F':Hp)(L':List qv):Prop where
 f:bZ F F'
 l:∃ M,L'=L++M
section
variable {K : FrG}{F F' F'' H H' : Hp}{L L' L'' : List qv}{S S' : aE}
theorem Gr.refl:Gr F L F L:=⟨bZ.refl _,[],by simp⟩
theorem Gr.trans(a:Gr F L F' L')(b:Gr F' L' F'' L''):Gr F L F'' L'':=by
 obtain⟨f1,M,rfl⟩:=a;obtain⟨f2,N,rfl⟩:=b;exact⟨f1.trans f2,M++N,by rw[yAz]⟩
theorem Gr.get(g:Gr F L F' L'){n:Nat}{a:qv}(h:L[n]? = qq a):L'[n]? = qq a:=by
 obtain⟨_,M,rfl⟩:=g;rw[xAn (gIm h).1];exact h
theorem eD.mono(g:Gr F L F' L'){w:W}{v:V}(h:eD K F L w v):eD K F' L' w v:=by
 cases w with
 | d x=>exact Den.mono g.f h
 | loc n=>obtain⟨a,e,r⟩:=h;exact⟨a,g.get e,r⟩
theorem EnvR.mono(g:Gr F L F' L'){env:aZ}{σ:St}(h:EnvR K F L env σ):EnvR K F' L' env σ:=
 ⟨h.len,λ i w e=>let ⟨v,e1,r⟩:=h.get i w e;⟨v,e1,r.mono g⟩⟩
theorem EnvR.set{env:aZ}{σ:St}(h:EnvR K F L env σ)(i:Nat){w:W}{v:V}(r:eD K F L w v):EnvR K F L (env.set i (qq w)) (σ.set i (qq v)):=by
 refine⟨by rw[yBh,yBh];exact h.len,λ j u e=>?_⟩
 by_cases hj:i=j
 ·subst hj;have hl:i<env.length:=by
   rcases Nat.lt_or_ge i env.length with q | q
   ·exact q
   ·rw[yEk (by rw[yBh];exact q)] at e;cases e
  rw[yBc hl] at e;cases e;exact⟨v,yBc (by rw[<- h.len];exact hl),r⟩
 ·rw[yBg hj] at e;obtain⟨x,e1,r1⟩:=h.get j u e;exact⟨x,by rw[yBg hj];exact e1,r1⟩
theorem dP{p:qv}{o:HO}(h:H p=qz):bZ H (bE H p o):=λ b u q=>by rw[bJ (dX q h)];exact q
theorem Rel.new(r:Rel K F L S H){p:qv}{o:HO}(h:H p=qz):Rel K (bE F p o) L S (bE H p o):=by
 have hF:F p=qz:=r.sub.free h;refine⟨λ b u q=>?_,r.nd,r.len,λ n a ds e1 e2=>?_,λ n a e=>?_⟩
 ·by_cases hb:b=p
  ·subst hb;rw[cX] at q ⊢;exact q
  ·rw[bJ hb] at q ⊢;exact r.sub _ _ q
 ·obtain⟨f,xs,e3,dl⟩:=r.loc n a ds e1 e2;have ne:a≠p:=dX e3 h;exact⟨by rw[bJ ne];exact f,xs,by rw[bJ ne];exact e3,DenL.mono (dP hF) dl⟩
 ·obtain⟨xs,hx⟩:=r.tr n a e;exact⟨xs,by rw[bJ (dX hx h)];exact hx⟩
theorem Gr.new{p:qv}{o:HO}(h:F p=qz):Gr F L (bE F p o) L:=⟨dP h,[],by simp⟩
theorem Rel.newLoc(r:Rel K F L S H){p:qv}{xs:List V}{ds:List D}(h:H p=qz)(dl:DenL K F ds xs):Rel K F (L++[p]) (S++[qq ds]) (bE H p (.lst xs)):=by
 have hF:F p=qz:=r.sub.free h;refine⟨λ b u q=>?_,?_,by rw[xAo,xAo,r.len]<;>rfl,λ n a es e1 e2=>?_,λ n a e=>?_⟩
 ·rw[bJ (dX q hF)];exact r.sub _ _ q
 ·rw[yGu];refine⟨r.nd,by simp,λ a ha b hb=>?_⟩
  rw[yCh] at hb;subst hb;obtain⟨n,hn⟩:=yEq ha;obtain⟨xs,hx⟩:=r.tr n a hn;exact dX hx h
 ·by_cases hn:n<L.length
  ·rw[xAn hn] at e1;rw[xAn (by rw[<- r.len];exact hn)] at e2
   obtain⟨f,ys,e3,dl'⟩:=r.loc n a es e1 e2;exact⟨f,ys,by rw[bJ (dX e3 h)];exact e3,dl'⟩
  ·rw[yAg (by omega)] at e1
   rw[yAg (by rw[<- r.len];omega)] at e2
   have z:n-L.length=0:=by
    have:=(gIm e1).1;simp at this;omega
   rw[<- r.len] at e2;rw[z] at e1 e2;simp at e1 e2;subst e1 e2;exact⟨hF,xs,cX,dl⟩
 ·by_cases hn:n<L.length
  ·rw[xAn hn] at e;obtain⟨ys,hy⟩:=r.tr n a e;exact⟨ys,by rw[bJ (dX hy h)];exact hy⟩
  ·rw[yAg (by omega)] at e
   have z:a=p:=by
    have h1:=xAl e;simpa using h1
   exact⟨xs,by rw[z];exact cX⟩
theorem Rel.lay(r:Rel K F L S H){p:qv}{o:HO}(h:H p=qz):Rel K F L S (bE H p o):=by
 refine⟨λ b u q=>by rw[bJ (dX q (r.sub.free h))];exact r.sub _ _ q,r.nd,r.len,λ n a ds e1 e2=>?_,λ n a e=>?_⟩
 ·obtain⟨f,xs,e3,dl⟩:=r.loc n a ds e1 e2;exact⟨f,xs,by rw[bJ (dX e3 h)];exact e3,dl⟩
 ·obtain⟨xs,hx⟩:=r.tr n a e;exact⟨xs,by rw[bJ (dX hx h)];exact hx⟩
theorem Rel.notin(r:Rel K F L S H){p:qv}(h:H p=qz):p ∉ L:=λ hp=>by
 obtain⟨n,hn⟩:=yEq hp;obtain⟨xs,hx⟩:=r.tr n p hn;rw[h] at hx;cases hx
theorem Rel.adopt(r:Rel K F L S H){p:qv}{xs:List V}(hF:F p=qz)(hL:p ∉ L)(hH:H p=qq (.lst xs)):Rel K (bE F p (.lst xs)) L S H:=by
 refine⟨λ b u q=>?_,r.nd,r.len,λ n a ds e1 e2=>?_,r.tr⟩
 ·by_cases hb:b=p
  ·subst hb;rw[cX] at q;rw[hH];exact q
  ·rw[bJ hb] at q;exact r.sub _ _ q
 ·obtain⟨f,ys,e3,dl⟩:=r.loc n a ds e1 e2;have ne:a≠p:=λ z=>hL (by rw[<- z];exact xAl e1)
  exact⟨by rw[bJ ne];exact f,ys,e3,dl.mono (dP hF)⟩
theorem Rel.adoptLoc(r:Rel K F L S H){p:qv}{xs:List V}{ds:List D}(hF:F p=qz)(hL:p ∉ L)(hH:H p=qq (.lst xs))(dl:DenL K F ds xs):Rel K F (L++[p]) (S++[qq ds]) H:=by
 refine⟨r.sub,?_,by rw[xAo,xAo,r.len]<;>rfl,λ n a es e1 e2=>?_,λ n a e=>?_⟩
 ·rw[yGu];refine⟨r.nd,by simp,λ a ha b hb=>?_⟩
  rw[yCh] at hb;subst hb;exact λ z=>hL (z▸ha)
 ·by_cases hn:n<L.length
  ·rw[xAn hn] at e1;rw[xAn (by rw[<- r.len];exact hn)] at e2
   exact r.loc n a es e1 e2
  ·rw[yAg (by omega)] at e1
   rw[yAg (by rw[<- r.len];omega)] at e2
   have z:n-L.length=0:=by
    have:=(gIm e1).1;simp at this;omega
   rw[<- r.len] at e2;rw[z] at e1 e2;simp at e1 e2;subst e1 e2;exact⟨hF,xs,hH,dl⟩
 ·by_cases hn:n<L.length
  ·rw[xAn hn] at e;exact r.tr n a e
  ·rw[yAg (by omega)] at e
   have z:a=p:=by
    have h1:=xAl e;simpa using h1
   exact⟨xs,by rw[z];exact hH⟩
theorem Gr.newLoc{p:qv}:Gr F L F (L++[p]):=⟨bZ.refl _,[p],rfl⟩
theorem Rel.put(r:Rel K F L S H){n:Nat}{a:qv}{ys:List V}{es:List D}(e:L[n]? = qq a)(hF:F a=qz)(dl:DenL K F es ys):Rel K F L (S.set n (qq es)) (bE H a (.lst ys)):=by
 refine⟨λ b u q=>by rw[bJ (dX q hF)];exact r.sub _ _ q,r.nd,by rw[yBh];exact r.len,λ m b fs e1 e2=>?_,λ m b e1=>?_⟩
 ·by_cases hm:n=m
  ·subst hm;rw[e] at e1;cases e1;have hl:n<S.length:=by rw[<- r.len];exact(gIm e).1
   rw[yBc hl] at e2;cases e2;exact⟨hF,ys,cX,dl⟩
  ·rw[yBg hm] at e2;have ne:b≠a:=λ z=>by
    subst z;have h1:=(gIm e);have h2:=(gIm e1);obtain⟨l1,g1⟩:=h1;obtain⟨l2,g2⟩:=h2;exact hm ((yGz r.nd).mp (g1.trans g2.symm))
   obtain⟨f,xs,e3,d3⟩:=r.loc m b fs e1 e2;exact⟨f,xs,by rw[bJ ne];exact e3,d3⟩
 ·by_cases hb:b=a
  ·exact⟨ys,by rw[hb];exact cX⟩
  ·obtain⟨zs,hz⟩:=r.tr m b e1;exact⟨zs,by rw[bJ hb];exact hz⟩
theorem Rel.freeze(r:Rel K F L S H){n:Nat}{a:qv}{ds:List D}(e:L[n]? = qq a)(es:S[n]? = qq (qq ds)) :
 ∃ F',Gr F L F' L/\Rel K F' L (S.set n qz) H/\Den K F' (.list ds) (.ref a):=by
 obtain⟨hF,xs,e3,dl⟩:=r.loc n a ds e es;refine⟨bE F a (.lst xs),Gr.new hF,⟨λ b u q=>?_,r.nd,by rw[yBh];exact r.len,λ m b fs e1 e2=>?_,r.tr⟩,.lst (bL.of cX) (dl.mono (dP hF))⟩
 ·by_cases hb:b=a
  ·subst hb;rw[cX] at q;rw[e3];exact q
  ·rw[bJ hb] at q;exact r.sub _ _ q
 ·by_cases hm:n=m
  ·subst hm;have hl:n<S.length:=(gIm es).1;rw[yBc hl] at e2;cases e2
  ·rw[yBg hm] at e2;have ne:b≠a:=λ z=>by
    subst z;obtain⟨l1,g1⟩:=gIm e;obtain⟨l2,g2⟩:=gIm e1;exact hm ((yGz r.nd).mp (g1.trans g2.symm))
   obtain⟨f,ys,e4,d4⟩:=r.loc m b fs e1 e2;exact⟨by rw[bJ ne];exact f,ys,e4,d4.mono (dP hF)⟩
theorem Rel.cut{M:List qv}(r:Rel K F (L++M) S H):Rel K F L (S.take L.length) H:=by
 have hl:L.length<=S.length:=by have:=r.len;rw[xAo] at this;omega
 refine⟨r.sub,(List.nodup_append.mp r.nd).1,by rw[yBv];omega,λ n a ds e1 e2=>?_,λ n a e1=>?_⟩
 ·have hn:n<L.length:=(gIm e1).1;rw[yDr hn] at e2;exact r.loc n a ds (by rw[xAn hn];exact e1) e2
 ·have hn:n<L.length:=(gIm e1).1;exact r.tr n a (by rw[xAn hn];exact e1)
end
def bM(K:FrG)(F H:Hp)(x:D)(v:V):Prop:=Den K F x v\/∃ ds a xs,x=.list ds/\v=.ref a/\H a=qq (.lst xs)/\DenL K F ds xs
noncomputable def dr(S:aE):W->Option D
 | .d x=>qq x
 | .loc n=>match S[n]? with
   | some (qq ds)=>qq (.list ds)
   | _=>qz
theorem jA{K:FrG}{F H:Hp}{L:List qv}{S:aE}{w:W}{x:D}{v:V}(r:Rel K F L S H)(h:eD K F L w v)(e:dr S w=qq x):bM K F H x v:=by
 cases w with
 | d y=>cases e;exact .inl h
 | loc n =>
   obtain⟨a,e1,rfl⟩:=h;cases e2:S[n]? with
   | none=>simp[dr,e2] at e
   | some o =>
     cases o with
     | none=>simp[dr,e2] at e
     | some ds =>
       simp[dr,e2] at e;subst e;obtain⟨f,xs,e3,dl⟩:=r.loc n a ds e1 e2;exact .inr ⟨ds,a,xs,rfl,rfl,e3,dl⟩
section
variable {K : FrG}{F H : Hp}{v : V}
theorem bM.non(h:bM K F H .none v):v=.non:=by
 rcases h with h | ⟨_,_,_,e,_⟩
 ·cases h;rfl
 ·cases e
theorem bM.bl{b:Bool}(h:bM K F H (.bool b) v):v=.bl b:=by
 rcases h with h | ⟨_,_,_,e,_⟩
 ·cases h;rfl
 ·cases e
theorem bM.int{i:Int}(h:bM K F H (.int i) v):v=.int i:=by
 rcases h with h | ⟨_,_,_,e,_⟩
 ·cases h;rfl
 ·cases e
theorem bM.str{x:Str}(h:bM K F H (.str x) v):v=.str x:=by
 rcases h with h | ⟨_,_,_,e,_⟩
 ·cases h;rfl
 ·cases e
theorem bM.lst{ds:List D}(s:bZ F H)(h:bM K F H (.list ds) v):∃ a xs,v=.ref a/\bL K H a xs/\DenL K F ds xs:=by
 rcases h with h | ⟨_,a,xs,e,e2,e3,dl⟩
 ·cases h with
  | lst q r=>exact⟨_,_,rfl,s.seq q,r⟩
 ·cases e;exact⟨a,xs,e2,bL.of e3,dl⟩
theorem bM.tup{ds:List D}(s:bZ F H)(h:bM K F H (.tuple ds) v):∃ a xs,v=.ref a/\bQ K H a xs/\DenL K F ds xs:=by
 rcases h with h | ⟨_,_,_,e,_⟩
 ·cases h with
  | tup q r=>exact⟨_,_,rfl,iM s q,r⟩
 ·cases e
theorem bM.dict{bA:List (D×D)}(h:bM K F H (.dict bA) v):False:=by
 rcases h with h | ⟨_,_,_,e,_⟩
 ·cases h
 ·cases e
end
theorem aLb:fillsNumberSlot (.type "tuple") "mul" = pure false:=
 PySem.fillsNumberSlot_seq (id:="tuple.__mul__") (r:=qq (.builtin "tuple.__rmul__")) PySem.F.slot_tuple_mul.lookup (by decide +kernel) PySem.F.slot_tuple_rmul.lookup (by decide +kernel)
theorem aLw:seqRepeat? (.type "tuple")=pure (qq (.builtin "tuple.__mul__")):=by
 unfold seqRepeat?;rw[PySem.seqSlot_of (T:="tuple") (name:="__mul__") (id:="tuple.__mul__") PySem.F.slot_tuple_mul.lookup (by decide +kernel),PySem.seqSlot_of (T:="tuple") (name:="__rmul__") (id:="tuple.__rmul__") PySem.F.slot_tuple_rmul.lookup (by decide +kernel)]
 rfl
theorem aLn(a:Int)(t:Tok)(l:qv)(aM:Array qx)(n:Nat)(d:Option qv)(sl:Array (Option qx)) :
 Meets (Builtin.«int.__rmul__» ⟨[.int a t,.ref l],[]⟩) (λ _ R s=>s.heap.get? l=qq {cls:=.type "tuple",dict:=d,data:=.seq aM n,slots:=sl }/\R (.ok (.ret Value.notImplemented)) s):=
 .of_wp λ prog w A R s h=>by obtain⟨hp,g,d,tk,os⟩:=s;obtain⟨hl,h⟩:=h;wp_walk;exact⟨_,rfl,h⟩
theorem aLq(l:qv)(aM:Array qx)(n:Nat)(d:Option qv)(sl:Array (Option qx))(t:Tok) :
 Meets (Builtin.«tuple.__mul__» ⟨[.ref l,.int 1 t],[]⟩) (λ _ R s=>s.heap.get? l=qq {cls:=.type "tuple",dict:=d,data:=.seq aM n,slots:=sl }/\R (.ok (.ret (.ref l))) s):=
 .of_wp λ prog w A R s h=>by
  obtain⟨hp,g,d,tk,os⟩:=s;obtain⟨hl,h⟩:=h
  wp_walk
  exact⟨_,rfl,h⟩
theorem aLm(l:qv)(x:qx)(n:Nat)(d:Option qv)(sl:Array (Option qx))(t:Tok) :
 Meets (Builtin.«tuple.__mul__» ⟨[.ref l,.int 0 t],[]⟩) (λ _ R s=>s.heap.get? l=qq {cls:=.type "tuple",dict:=d,data:=.seq #[x] n,slots:=sl }/\R (.ok (.ret (.ref s.heap.objs.size))) {s with heap:=s.heap.push {cls:=.type "tuple",data:=.seq #[] } }):=
 .of_wp λ prog w A R s h=>by
  obtain⟨hp,g,d,tk,os⟩:=s;obtain⟨hl,h⟩:=h
  wp_walk
  exact⟨_,rfl,h⟩
theorem yZ(x:qx):∀ (k:Nat) (aF:Array qx),(yAc k #[x]).foldl (· ++ ·) aF=aF++(yAc k x).toArray
 | 0,aF=>by simp
 | k+1,aF=>by
   rw[yAy,yBm,yZ x k];apply Array.ext';simp[yAy]
theorem aLo(l:qv)(x:qx)(n:Nat)(d:Option qv)(sl:Array (Option qx))(k:Nat)(hk:2<=k)(hk2:k<=1000)(t:Tok) :
 Meets (Builtin.«tuple.__mul__» ⟨[.ref l,.int k t],[]⟩) (λ _ R s=>s.heap.get? l=qq {cls:=.type "tuple",dict:=d,data:=.seq #[x] n,slots:=sl }/\R (.ok (.ret (.ref s.heap.objs.size))) {s with heap:=s.heap.push {cls:=.type "tuple",data:=.seq (yAc k x).toArray } }):=
 .of_wp λ prog w A R s h=>by
  obtain⟨hp,g,d,tk,os⟩:=s;obtain⟨hl,h⟩:=h;have c1:(decide (((k:Nat):Int) < -(2^63))||decide (((k:Nat):Int) ≥ 2^63))=false:=by simp;omega
  have c2:(((k:Nat):Int)==1)=false:=by rw[beq_eq_false_iff_ne];omega
  have c3:decide (((k:Nat):Int)<=0)=false:=dqF (by omega)
  have c4:((#[x]:Array qx).isEmpty||(((k:Nat):Int)==1))=false:=by rw[c2];rfl
  have c5:(decide (((k:Nat):Int)<=0)||(#[x]:Array qx).isEmpty)=false:=by rw[c3];rfl
  have c6:¬ (((#[x]:Array qx).size:Int)*((k:Nat):Int)>(2^63-1)/8):=by
   show ¬ (((1:Nat):Int)*((k:Nat):Int)>(2^63-1)/8);omega
  have hsz:qy=16777216:=by decide
  have c7:yGl (((#[x]:Array qx).size:Int)*((k:Nat):Int))=false:=by
   unfold yGl;refine dqF ?_;show ¬ (((1:Nat):Int)*((k:Nat):Int)>((qy:Nat):Int));omega
  wp_walk
  rw[if_neg (by rw[c1];exact yBj)]
  refine wB (wpAny_tupleItemsOf hl rfl ?_);simp only[c4,c5,c6,c7,yAt,if_false];rw[yAo,yZ,show(#[]:Array qx)++(yAc k x).toArray=(yAc k x).toArray by simp]
  refine wB (m:=yCq _) (xw (wP ⟨_,rfl,h⟩) ?_);show(yAc k x).toArray.size<=qy;rw[yAf,yBb,hsz];omega
section
variable {X : Cx}{aB : List (qv×Obj)}{σ : L2.St}{H : Hp}{s : qj}{Q : VK}
theorem aGz{x:V}{u:qx}(r:bB x u):∀ k:Nat,aT (yAc k x) (yAc k u)
 | 0=>.nil
 | k+1=>.cons r (aGz r k)
theorem aWk{a:qv}{x:V}{k:Nat}{t:Tok}(I:Inv X aB σ H s)(ha:bQ X.K H a [x])(hk:k<=1000)
 (q1:k=1->Q (.ref a) H) (q:∀ p,H p=qz->Q (.ref p) (bE H p (.tup (yAc k x)))):qk (model X.prog X.w) X.A (zu .Mult (.ref a) (.int k t)) (EP X aB σ Q) X.xe s:=by
 obtain⟨aG,r1,p1,_⟩:=I.tuple ha;obtain⟨u,rfl,ru⟩:∃ u,aG=[u]/\bB x u:=by
  cases r1 with
  | cons r r'=>cases r';exact⟨_,rfl,r⟩
 obtain⟨⟨cls,d,data,sl⟩,ho,hcl,n,hd⟩:=p1;simp only at hcl hd;subst hcl hd;have hsz:qy=16777216:=by decide
 have bI:∀ (aG:List qx),aG=yAc k u->EP X aB σ Q (.ref s.heap.objs.size) {s with heap:=s.heap.push {cls:=.type "tuple",data:=.seq aG.toArray } }:=λ aG e=>by
  subst e;exact⟨.ref _,_,I.laid (t':=s.toks) (o:=.tup (yAc k x)) (λ b ob q=>hpS _ q) (yAb _) ⟨by rw[yBb,hsz];omega,_,aGz ru k,⟨_,xAe _ rfl,rfl,0,rfl⟩⟩,rfl,q _ (I.hok.fresh (yAb _))⟩
 refine yw (T:="tuple") (U:="int") (by decide) ⟨_,ho,rfl⟩ (λ s'=>yj s' k t) aLb PySem.F.fills_int_mul yEl aLw PySem.F.slot_int_index.lookup
  (vz yEl (yj s k t) PySem.F.entry_int_rmul (PySem.F.args_int_rmul_2 _ _) (aLn k t a _ n d sl)
    ⟨ho,rfl,⟨_,ho,rfl⟩,?_⟩)
 by_cases h1:k=1
 ·subst h1;exact vz yFp ⟨_,ho,rfl⟩ yFh (yFb _ _) (aLq a _ n d sl t) ⟨ho,.ref a,H,I,rfl,q1 rfl⟩
 ·by_cases h0:k=0
  ·subst h0;exact vz yFp ⟨_,ho,rfl⟩ yFh (yFb _ _) (aLm a u n d sl t) ⟨ho,bI [] rfl⟩
  ·exact vz yFp ⟨_,ho,rfl⟩ yFh (yFb _ _) (aLo a u n d sl k (by omega) hk t) ⟨ho,bI _ rfl⟩
end
noncomputable def oD(i j:Int):Bool:=!(decide (yAi i>yq)&&decide (yAi j>yq)&&Builtin.Int.intTooBig (yAi i+yAi j))
noncomputable def eE{α:Type}(n:Nat)(xs:List α):List α:=(yAc n xs).flatten
noncomputable def aDz:D->D->Option D
 | .int i,.int j=>qq (.int (i+j))
 | .str x,.str y=>if x.length+y.length<=qy then qq (.str (x++y)) else qz
 | .tuple [],.tuple ys=>qq (.tuple ys)
 | .tuple xs,.tuple ys=>if xs.isEmpty=false/\xs.length+ys.length<=qy then qq (.tuple (xs++ys)) else qz
 | .list xs,.list ys=>if xs.length+ys.length<=qy then qq (.list (xs++ys)) else qz
 | _,_=>qz
noncomputable def vX:D->D->Option D
 | .int i,.int j=>if oD i j=true then qq (.int (i*j)) else qz
 | .list xs,.int k=>if k<2^63 /\ -(2^63)<=k/\xs.length*k.toNat<=qy then qq (.list (eE k.toNat xs)) else qz
 | .tuple [x],.int k=>if 0<=k/\k<=1000 then qq (.tuple (yAc k.toNat x)) else qz
 | _,_=>qz
noncomputable def i2{α:Type}(f:Int->Int->Option α):D->D->Option α
 | .int i,.int j=>f i j
 | _,_=>qz
theorem kU{α:Type}{f:Int->Int->Option α}{i j:Int}:i2 f (.int i) (.int j)=f i j:=rfl
theorem iK{α:Type}{f:Int->Int->Option α}{x y:D}{z:α}(h:i2 f x y=qq z):∃ i j,x=.int i/\y=.int j/\f i j=qq z:=by
 cases x<;>first | (cases h;done) | skip
 cases y<;>first | (cases h;done) | exact⟨_,_,rfl,rfl,h⟩
noncomputable def rR:D->Bool
 | .none=>true
 | _=>false
theorem aGn{x:D}(h:rR x=true):x=.none:=by cases x<;>first | rfl | cases h
noncomputable def bP(op:ju)(x y:D):Option D:=match op with
 | .Add=>aDz x y
 | .Sub=>i2 (λ i j=>qq (.int (i-j))) x y
 | .Mult=>vX x y
 | .MatMult=>qz
 | .Div=>qz
 | .Mod=>i2 (λ i j=>if j≠0 then qq (.int (i.fmod j)) else qz) x y
 | .Pow=>i2 (λ i j=>if 0<=j/\j<=1000000/\i.natAbs<2^64 then qq (.int (i^j.toNat)) else qz) x y
 | .LShift=>i2 (λ i j=>if 0<=j/\(yAi i:Int)+j<=2^27 then qq (.int (i*2^j.toNat)) else qz) x y
 | .RShift=>i2 (λ i j=>if 0<=j then qq (.int (i/2^j.toNat)) else qz) x y
 | .BitOr=>i2 (λ i j=>qq (.int (yGy i j))) x y
 | .BitXor=>i2 (λ i j=>qq (.int (yGp i j))) x y
 | .BitAnd=>i2 (λ i j=>qq (.int (yEg i j))) x y
 | .FloorDiv=>i2 (λ i j=>if j≠0/\yCt i j=false then qq (.int (i.fdiv j)) else qz) x y
noncomputable def oR:yx->D->Option D
 | .USub,.int i=>qq (.int (-i))
 | .Invert,.int i=>qq (.int (yBr i))
 | _,_=>qz
noncomputable def fK:D->Bool
 | .none | .bool _ | .int _ | .str _=>true
 | _=>false
noncomputable def gY:List D->Bool
 | []=>true
 | d::r=>fK d&&gY r
noncomputable def kD(x:D):List D->Bool
 | []=>false
 | y::r=>yBy y x||kD x r
noncomputable def vN:D->Option (List D)
 | .list xs=>qq xs
 | .tuple xs=>qq xs
 | _=>qz
noncomputable def jW(op:jq)(x y:D):Option Bool:=match op with
 | .Eq=>if x.canLay0=true/\y.canLay0=true/\x.depth<=60 then qq (yBy x y) else qz
 | .NotEq=>if x.canLay0=true/\y.canLay0=true/\x.depth<=60 then qq (!yBy x y) else qz
 | .Lt=>i2 (λ i j=>qq (decide (i<j))) x y
 | .LtE=>i2 (λ i j=>qq (decide (i<=j))) x y
 | .Gt=>i2 (λ i j=>qq (decide (j<i))) x y
 | .GtE=>i2 (λ i j=>qq (decide (j<=i))) x y
 | .Is=>if rR y=true then qq (rR x) else qz
 | .IsNot=>if rR y=true then qq (!rR x) else qz
 | .In=>(vN y).bind λ ys=>if fK x=true/\gY ys=true then qq (kD x ys) else qz
 | .NotIn=>(vN y).bind λ ys=>if fK x=true/\gY ys=true then qq (!kD x ys) else qz
noncomputable def pV:D->Option Bool
 | .none=>qq false
 | .bool b=>qq b
 | .int i=>qq (i != 0)
 | .str x=>if x.length<=qy then qq ((x.length:Int) != 0) else qz
 | .list xs=>qq (!xs.isEmpty)
 | .tuple xs=>qq (!xs.isEmpty)
 | .dict _=>qz
section
variable {X : Cx}{aB : List (qv×Obj)}{s : qj}{σ : L2.St}{H : Hp}{x y : V}{v u : qx}{Q : VK}{F : Hp}{L : List qv}{S : aE}{dx dy z : D}
abbrev fB(X:Cx)(F:Hp)(L:List qv)(S:aE)(z:D)(Q:VK):Prop:=∀ F' H' r,bZ F F'->Rel X.K F' L S H'->Den X.K F' z r->Q r H'
abbrev aAW(X:Cx)(F:Hp)(H:Hp)(zs:List D)(Q:VK):Prop:=∀ p xs,H p=qz->DenL X.K F zs xs->Q (.ref p) (bE H p (.lst xs))
theorem fB.here(R:Rel X.K F L S H)(q:fB X F L S z Q){r:V}(h:Den X.K F z r):Q r H:=q F H r (bZ.refl _) R h
theorem aAW.out{zs:List D}(R:Rel X.K F L S H)(q:fB X F L S (.list zs) Q):aAW X F H zs Q:=λ p xs hp dl =>
 q _ _ _ (dP (R.sub.free hp)) (R.new hp) (.lst (bL.of cX) (dl.mono (dP (R.sub.free hp))))
theorem fB.tup{zs:List D}(R:Rel X.K F L S H)(q:fB X F L S (.tuple zs) Q){p:qv}{xs:List V}(hp:H p=qz)(dl:DenL X.K F zs xs):Q (.ref p) (bE H p (.tup xs)):=
 q _ _ _ (dP (R.sub.free hp)) (R.new hp) (.tup (bQ.of cX) (dl.mono (dP (R.sub.free hp))))
theorem aV0{a b:qv}{xs ys:List V}(I:Inv X aB σ H s)(ha:bL X.K H a xs)(hb:bL X.K H b ys)(hz:xs.length+ys.length<=qy)
 (q:∀ p,H p=qz->Q (.ref p) (bE H p (.lst (xs++ys)))):qk (model X.prog X.w) X.A (zu .Add (.ref a) (.ref b)) (EP X aB σ Q) X.xe s:=by
 obtain⟨aG,r1,p1,_⟩:=I.list ha;obtain⟨eH,r2,p2,_⟩:=I.list hb;obtain⟨⟨cls,dd,data,sl⟩,ho,hc,n,hd⟩:=p1.isList;obtain⟨⟨cls2,dd2,data2,sl2⟩,ho2,hc2,n2,hd2⟩:=p2.isList;simp only at hc hd hc2 hd2;subst hc hd hc2 hd2;have e:aG.toArray++eH.toArray=(aG++eH).toArray:=by simp
 refine concat_meets ⟨_,ho,rfl⟩ ⟨_,ho2,rfl⟩ noFill_list_add seq_list_add PySem.F.slot_list_add PySem.F.entry_list_add (PySem.F.args_list_add_2 _ _) (list_addW a b aG.toArray eH.toArray n n2 dd dd2 sl sl2 (by rw[yAf,yAf,<- r1.length,<- r2.length];exact hz)) ⟨ho,ho2,?_⟩
 rw[e];exact⟨.ref _,_,I.lnew (t':=s.toks) (r1.append r2) (by rw[xAo];omega),rfl,q _ I.fresh⟩
theorem aKB{a:qv}{xs:List V}{k:Int}{t:Tok}(I:Inv X aB σ H s)(ha:bL X.K H a xs)(h1 : -(2^63)<=k)(h2:k<2^63)(hz:xs.length*k.toNat<=qy)
 (q:∀ p,H p=qz->Q (.ref p) (bE H p (.lst (yAc k.toNat xs).flatten))):qk (model X.prog X.w) X.A (zu .Mult (.ref a) (.int k t)) (EP X aB σ Q) X.xe s:=by
 obtain⟨aG,r1,p1,_⟩:=I.list ha;obtain⟨⟨cls,d,data,sl⟩,ho,hcl,n,hd⟩:=p1.isList;simp only at hcl hd;subst hcl hd;have hsz:aG.toArray.size*k.toNat<=2^24:=by
  rw[yAf,<- r1.length];have:qy=2^24:=rfl;rw[<- this];exact hz
 refine yw (T:="list") (U:="int") (by decide) ⟨_,ho,rfl⟩ (λ s'=>yj s' k t) noFill_list_mul PySem.F.fills_int_mul yEl repeat_list PySem.F.slot_int_index.lookup
  (vz yEl (yj s k t) PySem.F.entry_int_rmul (PySem.F.args_int_rmul_2 _ _) (lm_int_rmul_list_any k t a aG.toArray n d sl)
    ⟨ho,rfl,⟨_,ho,rfl⟩,vz PySem.F.slot_list_mul ⟨_,ho,rfl⟩ PySem.F.entry_list_mul (PySem.F.args_list_mul_2 _ _)
     (lm_list_mul_any a aG.toArray n d sl k t (by simp[Builtin.List.listFitsIndex];omega) (by omega) (by simp[Builtin.List.listTooLong,qy];simpa using hsz))
     ⟨ho,?_⟩⟩)
 rw[listMul_foldl_if];exact⟨.ref _,_,I.lnew (t':=s.toks) (r1.rep k.toNat) (by rw[aOE,yHk];exact hz),rfl,q _ I.fresh⟩
theorem aTW{a b:qv}{ys:List V}(I:Inv X aB σ H s)(ha:bQ X.K H a [])(hb:bQ X.K H b ys)(q:Q (.ref b) H):qk (model X.prog X.w) X.A (zu .Add (.ref a) (.ref b)) (EP X aB σ Q) X.xe s:=by
 obtain⟨aG,r1,p1,_⟩:=I.tuple ha;obtain⟨eH,r2,p2,_⟩:=I.tuple hb;cases r1;obtain⟨⟨cls,dd,data,sl⟩,ho,hc,n,hd⟩:=p1;obtain⟨⟨cls2,dd2,data2,sl2⟩,ho2,hc2,n2,hd2⟩:=p2;simp only at hc hd hc2 hd2;subst hc hd hc2 hd2;exact concat_meets ⟨_,ho,rfl⟩ ⟨_,ho2,rfl⟩ noFill_tuple_add seq_tuple_add yFo yFf (yFa _ _) (tuple_addW0 a b _ eH.toArray n n2 dd dd2 sl sl2 rfl) ⟨ho,ho2,⟨.ref b,H,I,rfl,q⟩⟩
theorem aSJ(I:Inv X aB σ H s)(rx:bB x v)(ry:bB y u)(R:Rel X.K F L S H)(nx:bM X.K F H dx x)(ny:bM X.K F H dy y)(e:aDz dx dy=qq z)(q:fB X F L S z Q) :
 qk (model X.prog X.w) X.A (zu .Add v u) (EP X aB σ Q) X.xe s:=by
 unfold aDz at e
 split at e
 ·rename_i i j;cases e;exact aRq aB s σ H x y v u Q I rx ry ⟨i,j,nx.int,ny.int,q.here R (.int _)⟩
 ·rename_i a b
  split at e
  ·rename_i c;cases e;exact aMp aB s σ H x y v u Q I rx ry ⟨a,b,nx.str,ny.str,c,q.here R (.str _)⟩
  ·cases e
 ·rename_i ys;cases e;obtain⟨a,vs,rfl,h1,d1⟩:=nx.tup R.sub;obtain⟨b,ws,rfl,h2,d2⟩:=ny.tup R.sub;cases d1;cases rx;cases ry;refine aTW I h1 h2 (q F H _ (bZ.refl _) R ?_);rcases ny with ny | ⟨_,_,_,e,_⟩
  ·exact ny
  ·cases e
 ·rename_i xs ys _
  split at e
  ·rename_i c;cases e;obtain⟨a,vs,rfl,h1,d1⟩:=nx.tup R.sub;obtain⟨b,ws,rfl,h2,d2⟩:=ny.tup R.sub;have hne:vs≠[]:=λ z=>by
    have:=d1.length;rw[z] at this;cases xs with
    | nil=>simp at c
    | cons _ _=>simp at this
   refine aO4 aB s σ H _ _ v u Q I rx ry ⟨a,b,vs,ws,rfl,rfl,h1,h2,hne,by rw[<- d1.length,<- d2.length];exact c.2,λ z=>?_,λ z p hp=>?_⟩
   ·have:ys=[]:=by
     have h:=d2.length;rw[z] at h;exact List.eq_nil_of_length_eq_zero h
    subst this;refine q F H _ (bZ.refl _) R ?_;rw[yDb];rcases nx with nx | ⟨_,_,_,e,_⟩
    ·exact nx
    ·cases e
   ·exact q.tup R hp (d1.append d2)
  ·cases e
 ·rename_i xs ys
  split at e
  ·rename_i c;cases e;obtain⟨a,vs,rfl,h1,d1⟩:=nx.lst R.sub;obtain⟨b,ws,rfl,h2,d2⟩:=ny.lst R.sub;cases rx;cases ry;exact aV0 I h1 h2 (by rw[<- d1.length,<- d2.length];exact c) λ p hp=>aAW.out R q p _ hp (d1.append d2)
  ·cases e
 ·cases e
theorem aHL{K:FrG}{F:Hp}{x:D}{v:V}(h:Den K F x v):∀ k:Nat,DenL K F (yAc k x) (yAc k v)
 | 0=>.nil
 | k+1=>.cons h (aHL h k)
theorem aTa(I:Inv X aB σ H s)(rx:bB x v)(ry:bB y u)(R:Rel X.K F L S H)(nx:bM X.K F H dx x)(ny:bM X.K F H dy y)(e:vX dx dy=qq z)(q:fB X F L S z Q) :
 qk (model X.prog X.w) X.A (zu .Mult v u) (EP X aB σ Q) X.xe s:=by
 unfold vX at e
 split at e
 ·rename_i i j
  split at e
  ·rename_i c;cases e;obtain rfl:=nx.int;obtain rfl:=ny.int;obtain⟨t,rfl⟩:=rx;obtain⟨t',rfl⟩:=ry;refine PyProof.Rows.mul_int ⟨.int (i*j),H,I.tok _,⟨_,rfl⟩,q.here R (.int _)⟩ ?_;unfold IntMulOk;unfold oD at c;intro z;rw[z] at c;cases c
  ·cases e
 ·rename_i xs k
  split at e
  ·rename_i c;cases e;obtain⟨a,vs,rfl,h1,d1⟩:=nx.lst R.sub;obtain rfl:=ny.int;cases rx;obtain⟨t',rfl⟩:=ry;exact aKB I h1 c.2.1 c.1 (by rw[<- d1.length];exact c.2.2) λ p hp=>aAW.out R q p _ hp (d1.rep _)
  ·cases e
 ·rename_i xd k
  split at e
  ·rename_i c;cases e;obtain⟨a,vs,rfl,h1,d1⟩:=nx.tup R.sub;obtain rfl:=ny.int;cases rx;obtain⟨t',rfl⟩:=ry;obtain⟨kk,rfl⟩:∃ kk:Nat,k=(kk:Nat):=⟨k.toNat,by omega⟩
   rw[yAo] at q;cases d1 with
   | cons dx dn =>
     cases dn;refine aWk I h1 (by omega) (λ hk=>?_) λ p hp=>fB.tup R q hp (aHL dx kk)
     subst hk;refine q F H _ (bZ.refl _) R ?_;rcases nx with nx | ⟨_,_,_,z,_⟩
     ·exact nx
     ·cases z
  ·cases e
 ·cases e
theorem uT{op:ju}{C:Int->Int->Prop}{g:Int->Int->Int}(rule:cD X (zu op) (rI C λ i j=>.int (g i j))){i j:Int}(c:C i j)(I:Inv X aB σ H s)(rx:bB x v)(ry:bB y u)(R:Rel X.K F L S H)
 (nx:bM X.K F H (.int i) x) (ny:bM X.K F H (.int j) y) (q:fB X F L S (.int (g i j)) Q) :
 qk (model X.prog X.w) X.A (zu op v u) (EP X aB σ Q) X.xe s:=
 rule aB s σ H x y v u Q I rx ry ⟨i,j,nx.int,ny.int,c,q.here R (.int _)⟩
theorem zR{op:ju}{g:Int->Int->Int}(rule:cD X (zu op) (jH λ i j=>.int (g i j))){i j:Int}(I:Inv X aB σ H s)(rx:bB x v)(ry:bB y u)(R:Rel X.K F L S H)
 (nx:bM X.K F H (.int i) x) (ny:bM X.K F H (.int j) y) (q:fB X F L S (.int (g i j)) Q) :
 qk (model X.prog X.w) X.A (zu op v u) (EP X aB σ Q) X.xe s:=
 rule aB s σ H x y v u Q I rx ry ⟨i,j,nx.int,ny.int,q.here R (.int _)⟩
theorem aOV:cD X (zu .FloorDiv) (rI (λ i j=>j≠0/\yCt i j=false) λ i j=>.int (i.fdiv j)):=xG λ _ _ _ _ _ _ _ hc q=>floordiv_int hc.1 q (.inl hc.2)
theorem aUO:cD X (zu .LShift) (rI (λ i j=>0<=j/\(yAi i:Int)+j<=2^27) λ i j=>.int (i*2^j.toNat)):=xG λ _ _ _ _ _ _ _ hc q=>lshift_int hc.1 hc.2 q
theorem bind_some{α β:Type}{o:Option α}{f:α->Option β}{b:β}(h:o.bind f=qq b):∃ a,o=qq a/\f a=qq b:=by
 cases o with
 | none=>cases h
 | some a=>exact⟨a,rfl,h⟩
theorem jT{α:Type}{p:Prop} [Decidable p]{a z:α}(h:(if p then qq a else qz)=qq z):p/\a=z:=by
 split at h
 ·rename_i c;cases h;exact⟨c,rfl⟩
 ·cases h
theorem aSW{op:ju}(I:Inv X aB σ H s)(rx:bB x v)(ry:bB y u)(R:Rel X.K F L S H)(nx:bM X.K F H dx x)(ny:bM X.K F H dy y)(e:bP op dx dy=qq z)(q:fB X F L S z Q) :
 qk (model X.prog X.w) X.A (zu op v u) (EP X aB σ Q) X.xe s:=by
 cases op with
 | Add=>exact aSJ I rx ry R nx ny e q
 | Mult=>exact aTa I rx ry R nx ny e q
 | MatMult=>cases e
 | Div=>cases e
 | Sub=>obtain⟨i,j,rfl,rfl,e⟩:=iK e;cases e;exact zR aSH I rx ry R nx ny q
 | BitAnd=>obtain⟨i,j,rfl,rfl,e⟩:=iK e;cases e;exact zR aRR I rx ry R nx ny q
 | BitOr=>obtain⟨i,j,rfl,rfl,e⟩:=iK e;cases e;exact zR aTR I rx ry R nx ny q
 | BitXor=>obtain⟨i,j,rfl,rfl,e⟩:=iK e;cases e;exact zR aSl I rx ry R nx ny q
 | FloorDiv=>obtain⟨i,j,rfl,rfl,e⟩:=iK e;obtain⟨c,rfl⟩:=jT e;exact uT aOV c I rx ry R nx ny q
 | Mod=>obtain⟨i,j,rfl,rfl,e⟩:=iK e;obtain⟨c,rfl⟩:=jT e;exact uT aP5 c I rx ry R nx ny q
 | Pow=>obtain⟨i,j,rfl,rfl,e⟩:=iK e;obtain⟨c,rfl⟩:=jT e;exact uT aSV c I rx ry R nx ny q
 | LShift=>obtain⟨i,j,rfl,rfl,e⟩:=iK e;obtain⟨c,rfl⟩:=jT e;exact uT aUO c I rx ry R nx ny q
 | RShift=>obtain⟨i,j,rfl,rfl,e⟩:=iK e;obtain⟨c,rfl⟩:=jT e;exact uT aRQ c I rx ry R nx ny q
theorem aUy{op:yx}(I:Inv X aB σ H s)(rx:bB x v)(R:Rel X.K F L S H)(nx:bM X.K F H dx x)(e:oR op dx=qq z)(q:fB X F L S z Q) :
 qk (model X.prog X.w) X.A (unaryOp op v) (EP X aB σ Q) X.xe s:=by
 unfold oR at e
 split at e
 ·cases e;exact aRS aB s σ H x v Q I rx ⟨_,nx.int,q.here R (.int _)⟩
 ·cases e;exact aRK aB s σ H x v Q I rx ⟨_,nx.int,q.here R (.int _)⟩
 ·cases e
mutual
theorem aFY(I:Inv X aB σ H s)(sb:bZ F H):∀ {d:D}{x:V}{v:qx},Den X.K F d x->bB x v->∃ as,Reads s.heap v d as
 | _,_,v,.non,r=>by cases (show v=Value.none from r);exact⟨_,.none⟩
 | _,_,v,.bl b,r=>by cases (show v=Value.bool b from r);exact⟨_,.bool b⟩
 | _,_,v,.int i,r=>by obtain⟨t,rfl⟩:=(show ∃ t,v=Value.int i t from r);exact⟨_,.int i t⟩
 | _,_,v,.str y,r=>by obtain⟨t,rfl⟩:=(show ∃ t,v=Value.str y t from r);exact⟨_,.str y t⟩
 | _,_,v,.lst (a:=a) h dl,r=>by
   cases (show v=Value.ref a from r)
   obtain⟨aG,rv,p1,_⟩:=I.list (sb.seq h);obtain⟨o,ho,hc,n,hd⟩:=p1.isList;obtain⟨as,ra⟩:=yF I sb dl rv;exact⟨_,.list ho hc hd (by simpa using ra)⟩
 | _,_,v,.tup (a:=a) h dl,r=>by
   cases (show v=Value.ref a from r)
   obtain⟨aG,rv,p1,_⟩:=I.tuple (iM sb h);obtain⟨o,ho,hc,n,hd⟩:=p1;obtain⟨as,ra⟩:=yF I sb dl rv;exact⟨_,.tuple ho hc hd (by simpa using ra)⟩
theorem yF(I:Inv X aB σ H s)(sb:bZ F H):∀ {ds:List D}{xs:List V}{us:List qx},DenL X.K F ds xs->aT xs us->∃ as,ReadsAll s.heap us ds as
 | _,_,_,.nil,r=>by cases r;exact⟨_,.nil⟩
 | _,_,_,.cons h dl,.cons r rs=>by
   obtain⟨as,ra⟩:=aFY I sb h r;obtain⟨bs,rb⟩:=yF I sb dl rs;exact⟨_,.cons ra rb⟩
end
theorem zD(I:Inv X aB σ H s)(R:Rel X.K F L S H)(rx:bB x v)(nx:bM X.K F H dx x):∃ as,Reads s.heap v dx as:=by
 rcases nx with nx | ⟨ds,a,xs,rfl,rfl,e,dl⟩
 ·exact aFY I R.sub nx rx
 ·cases rx;obtain⟨aG,rv,p1,_⟩:=I.list (bL.of e);obtain⟨o,ho,hc,n,hd⟩:=p1.isList;obtain⟨as,ra⟩:=yF I R.sub dl rv;exact⟨_,.list ho hc hd (by simpa using ra)⟩
theorem aUW(hu:X.A.units+64<cLine)(I:Inv X aB σ H s)(rx:bB x v)(ry:bB y u)(R:Rel X.K F L S H)(nx:bM X.K F H dx x)(ny:bM X.K F H dy y)
 (c1:dx.canLay0=true) (c2:dy.canLay0=true) (c3:dx.depth<=60) (q:Q (.bl (yBy dx dy)) H):qk (model X.prog X.w) X.A (xx .Eq v u) (EP X aB σ Q) X.xe s:=by
 obtain⟨as,ra⟩:=zD I R rx nx;obtain⟨bs,rb⟩:=zD I R ry ny;refine SeqAt.compareEq_reads ra rb c1 c2 ?_ ⟨.bl _,H,I,rfl,q⟩;have:min dx.depth dy.depth<=dx.depth:=Nat.min_le_left _ _;omega
theorem aU7(hu:X.A.units+64<cLine)(I:Inv X aB σ H s)(rx:bB x v)(ry:bB y u)(R:Rel X.K F L S H)(nx:bM X.K F H dx x)(ny:bM X.K F H dy y)
 (c1:dx.canLay0=true) (c2:dy.canLay0=true) (c3:dx.depth<=60) (q:Q (.bl (!yBy dx dy)) H):qk (model X.prog X.w) X.A (xx .NotEq v u) (EP X aB σ Q) X.xe s:=by
 obtain⟨as,ra⟩:=zD I R rx nx;obtain⟨bs,rb⟩:=zD I R ry ny;refine SeqAt.compareNe_reads ra rb c1 c2 ?_ ⟨.bl _,H,I,rfl,q⟩;have:min dx.depth dy.depth<=dx.depth:=Nat.min_le_left _ _;omega
end
theorem aN0{K:FrG}{F:Hp}{d e:D}{x y:V}(h1:Den K F d x)(h2:Den K F e y)(f1:fK d=true)(f2:fK e=true):mZ x y=yBy d e:=by
 cases h1<;>first | (simp[fK] at f1;done) | skip
 all_goals cases h2<;>first | (simp[fK] at f2;done) | rfl | skip
theorem aCf{K:FrG}{F:Hp}{d:D}{x:V}(h1:Den K F d x)(f1:fK d=true):lB x=true:=by
 cases h1<;>first | rfl | (simp[fK] at f1;done)
theorem aB8{K:FrG}{F:Hp}:∀ {ds:List D}{xs:List V},DenL K F ds xs->gY ds=true->xs.all lB=true
 | _,_,.nil,_=>rfl
 | _,_,.cons h r,f=>by
   simp only[gY,yAl] at f;rw[List.all_cons,aCf h f.1,aB8 r f.2];rfl
theorem aCF{K:FrG}{F:Hp}{e:D}{y:V}(h2:Den K F e y)(f2:fK e=true):∀ {ds:List D}{xs:List V},DenL K F ds xs->gY ds=true->tB y xs=kD e ds
 | _,_,.nil,_=>rfl
 | _,_,.cons h r,f=>by
   simp only[gY,yAl] at f;have ih:=aCF h2 f2 r f.2;unfold tB at ih ⊢;rw[List.any_cons,ih,aN0 h h2 f.1 f2];rfl
section
variable {X : Cx}{aB : List (qv×Obj)}{s : qj}{σ : L2.St}{H : Hp}{x y : V}{v u : qx}{Q : VK}{F : Hp}{L : List qv}{S : aE}{dx dy : D}{b : Bool}
theorem bM.flat{d:D}{z:V}(h:bM X.K F H d z)(f:fK d=true):Den X.K F d z:=by
 rcases h with h | ⟨ds,_,_,rfl,_⟩
 ·exact h
 ·simp[fK] at f
theorem aCy{d:D}{ys:List D}{z:V}(sb:bZ F H)(h:bM X.K F H d z)(e:vN d=qq ys):∃ p xs,z=.ref p/\(bL X.K H p xs\/bQ X.K H p xs)/\DenL X.K F ys xs:=by
 cases d with
 | list l=>cases e;obtain⟨a,xs,e1,q,dl⟩:=h.lst sb;exact⟨a,xs,e1,.inl q,dl⟩
 | tuple l=>cases e;obtain⟨a,xs,e1,q,dl⟩:=h.tup sb;exact⟨a,xs,e1,.inr q,dl⟩
 | _=>cases e
theorem aG2(R:Rel X.K F L S H)(nx:bM X.K F H dx x):decide (x=.non)=rR dx:=by
 cases dx with
 | none=>rw[nx.non];rfl
 | bool c=>rw[nx.bl];rfl
 | int c=>rw[nx.int];rfl
 | str c=>rw[nx.str];rfl
 | list c=>obtain⟨a,xs,rfl,_⟩:=nx.lst R.sub;rfl
 | tuple c=>obtain⟨a,xs,rfl,_⟩:=nx.tup R.sub;rfl
 | dict c=>exact nx.dict.elim
theorem aS5{op:jq}(hu:X.A.units+64<cLine)(I:Inv X aB σ H s)(rx:bB x v)(ry:bB y u)(R:Rel X.K F L S H)(nx:bM X.K F H dx x)(ny:bM X.K F H dy y)(e:jW op dx dy=qq b)(q:Q (.bl b) H) :
 qk (model X.prog X.w) X.A (xx op v u) (EP X aB σ Q) X.xe s:=by
 cases op with
 | Lt=>obtain⟨i,j,rfl,rfl,e⟩:=iK e;cases e;exact aUZ aB s σ H x y v u Q I rx ry ⟨_,_,nx.int,ny.int,q⟩
 | LtE=>obtain⟨i,j,rfl,rfl,e⟩:=iK e;cases e;exact aVO aB s σ H x y v u Q I rx ry ⟨_,_,nx.int,ny.int,q⟩
 | Gt=>obtain⟨i,j,rfl,rfl,e⟩:=iK e;cases e;exact aT1 aB s σ H x y v u Q I rx ry ⟨_,_,nx.int,ny.int,q⟩
 | GtE=>obtain⟨i,j,rfl,rfl,e⟩:=iK e;cases e;exact aVP aB s σ H x y v u Q I rx ry ⟨_,_,nx.int,ny.int,q⟩
 | Eq=>obtain⟨c,rfl⟩:=jT e;exact aUW hu I rx ry R nx ny c.1 c.2.1 c.2.2 q
 | NotEq=>obtain⟨c,rfl⟩:=jT e;exact aU7 hu I rx ry R nx ny c.1 c.2.1 c.2.2 q
 | Is =>
   obtain⟨c,rfl⟩:=jT e;cases aGn c;exact aRd aB s σ H x y v u Q I rx ry ⟨ny.non,by rw[aG2 R nx];exact q⟩
 | IsNot =>
   obtain⟨c,rfl⟩:=jT e;cases aGn c;exact aQw aB s σ H x y v u Q I rx ry ⟨ny.non,by rw[aG2 R nx];exact q⟩
 | In =>
   obtain⟨ys,hs,e⟩:=bind_some e;obtain⟨c,rfl⟩:=jT e;obtain⟨p,xs,e1,sq,dl⟩:=aCy R.sub ny hs;refine aNr aB s σ H x y v u Q I rx ry ⟨p,xs,e1,sq,aCf (nx.flat c.1) c.1,aB8 dl c.2,?_⟩;show Q (.bl (tB x xs)) H;rw[aCF (nx.flat c.1) c.1 dl c.2];exact q
 | NotIn =>
   obtain⟨ys,hs,e⟩:=bind_some e;obtain⟨c,rfl⟩:=jT e;obtain⟨p,xs,e1,sq,dl⟩:=aCy R.sub ny hs;refine aLx aB s σ H x y v u Q I rx ry ⟨p,xs,e1,sq,aCf (nx.flat c.1) c.1,aB8 dl c.2,?_⟩;show Q (.bl (!tB x xs)) H;rw[aCF (nx.flat c.1) c.1 dl c.2];exact q
theorem aE9{K:FrG}{ds:List D}{xs:List V}(h:DenL K F ds xs):xs.isEmpty=ds.isEmpty:=by cases h<;>rfl
theorem aPf{b:Bool}(R:Rel X.K F L S H)(nx:bM X.K F H dx x)(e:pV dx=qq b):aDW X.K x H b:=by
 cases dx with
 | none=>cases e;rw[nx.non];exact rfl
 | bool c=>cases e;rw[nx.bl];exact rfl
 | int c=>cases e;rw[nx.int];exact rfl
 | str c =>
   rw[nx.str];have e':(if c.length<=qy then qq ((c.length:Int) != 0) else qz)=qq b:=e
   split at e'
   ·rename_i h;cases e';exact⟨h,rfl⟩
   ·cases e'
 | list c=>cases e;obtain⟨a,xs,rfl,sq,dl⟩:=nx.lst R.sub;exact .inl ⟨xs,sq,by rw[aE9 dl]⟩
 | tuple c=>cases e;obtain⟨a,xs,rfl,sq,dl⟩:=nx.tup R.sub;exact .inr (.inl ⟨xs,sq,by rw[aE9 dl]⟩)
 | dict c=>cases e
end
abbrev FE:=aZ->aE->Option (W×aE)
abbrev FT:=aZ->aE->Option (Bool×aE)
abbrev FA:=aZ->aE->Option (List W×aE)
abbrev FL:=aZ->aE->Option (List D×aE)
inductive Fl where
 | nx (env:aZ) | rt (w:W) | bk (env:aZ) | ct (env:aZ)
abbrev FS:=aZ->aE->Option (Fl×aE)
inductive WDenL (K:FrG) (F:Hp) (L:List qv):List W->List V->Prop
 | nil:WDenL K F L [] []
 | cons {w:W}{ws:List W}{x:V}{xs:List V}:eD K F L w x->WDenL K F L ws xs->WDenL K F L (w::ws) (x::xs)
theorem WDenL.mono{K:FrG}{F F':Hp}{L L':List qv}(g:Gr F L F' L'):∀ {ws:List W}{xs:List V},WDenL K F L ws xs->WDenL K F' L' ws xs
 | _,_,.nil=>.nil
 | _,_,.cons h r=>.cons (h.mono g) (r.mono g)
theorem WDenL.length{K:FrG}{F:Hp}{L:List qv}:∀ {ws:List W}{xs:List V},WDenL K F L ws xs->ws.length=xs.length
 | _,_,.nil=>rfl
 | _,_,.cons _ r=>congrArg (· + 1) r.length
section
variable (K : FrG)
def aP(f:FE):TE:=λ σ H Q=>∃ F L S env w S',Rel K F L S H/\EnvR K F L env σ/\f env S=qq (w,S')/\∀ F' L' H' v,Gr F L F' L'->Rel K F' L' S' H'->eD K F' L' w v->Q v H'
def eK(f:FT):TT:=λ σ H Q=>∃ F L S env b S',Rel K F L S H/\EnvR K F L env σ/\f env S=qq (b,S')/\∀ F' L' H',Gr F L F' L'->Rel K F' L' S' H'->Q b H'
def fF(f:FA):TA:=λ σ H Q=>∃ F L S env ws S',Rel K F L S H/\EnvR K F L env σ/\f env S=qq (ws,S')/\∀ F' L' H' vs,Gr F L F' L'->Rel K F' L' S' H'->WDenL K F' L' ws vs->Q vs H'
def iG(f:FL):TE:=λ σ H Q=>∃ F L S env ds S',Rel K F L S H/\EnvR K F L env σ/\f env S=qq (ds,S')/\∀ F' L' H' p xs,Gr F L F' L'->Rel K F' L' S' H'->F' p=qz->p ∉ L'->H' p=qq (.lst xs)->DenL K F' ds xs->Q (.ref p) H'
def dG(f:FS):TS:=λ D σ H=>∃ F L S env fl S',Rel K F L S H/\EnvR K F L env σ/\f env S=qq (fl,S')/\∀ F' L' H',Gr F L F' L'->Rel K F' L' S' H'->match fl with
 | .nx aI=>∀ σ',EnvR K F' L' aI σ'->D.nx σ' H'
 | .rt w=>∀ v,eD K F' L' w v->D.rt v H'
 | .bk aI=>∀ σ',EnvR K F' L' aI σ'->D.bk σ' H'
 | .ct aI=>∀ σ',EnvR K F' L' aI σ'->D.ct σ' H'
end
section
variable {X : Cx}
theorem PE.weak{e:qw}{t t':TE}(h:PE X e t)(w:∀ σ H Q,t' σ H Q->t σ H Q):PE X e t':=λ aB s σ H Q I q=>h aB s σ H Q I (w σ H Q q)
theorem PT.weak{e:qw}{t t':TT}(h:PT X e t)(w:∀ σ H Q,t' σ H Q->t σ H Q):PT X e t':=λ aB s σ H Q I q=>h aB s σ H Q I (w σ H Q q)
theorem PW.weak{e:qw}{t t':TT}(h:PW X e t)(w:∀ σ H Q,t' σ H Q->t σ H Q):PW X e t':=λ wh aB s σ H Q I q=>h wh aB s σ H Q I (w σ H Q q)
theorem PA.weak{e:List qw}{t t':TA}(h:PA X e t)(w:∀ σ H Q,t' σ H Q->t σ H Q):PA X e t':=λ pos aB s σ H Q I q=>h pos aB s σ H Q I (w σ H Q q)
theorem PS.weak{e:xk}{t t':TS}(h:PS X e t)(w:∀ D σ H,t' D σ H->t D σ H):PS X e t':=λ aB s σ H D I q=>h aB s σ H D I (w D σ H q)
theorem dM.weak{e:List xk}{t t':TS}(h:dM X e t)(w:∀ D σ H,t' D σ H->t D σ H):dM X e t':=λ aB s σ H D I q=>h aB s σ H D I (w D σ H q)
abbrev sH(K:FrG)(F:Hp)(L:List qv)(S':aE)(w:W)(Q:VK):Prop:=∀ F' L' H' v,Gr F L F' L'->Rel K F' L' S' H'->eD K F' L' w v->Q v H'
noncomputable def f2(fa fb:FE)(g:aE->W->W->Option (W×aE)):FE:=λ env S=>(fa env S).bind λ p=>(fb env p.2).bind λ q=>g q.2 p.1 q.1
noncomputable def f1(fa:FE)(g:aE->W->Option (W×aE)):FE:=λ env S=>(fa env S).bind λ p=>g p.2 p.1
theorem aAY{K:FrG}{fa fb:FE}{g:aE->W->W->Option (W×aE)}{r:R2}
 (hr:∀ F L S H x y wx wy w S' Q,Rel K F L S H->eD K F L wx x->eD K F L wy y->g S wx wy=qq (w,S')->sH K F L S' w Q->r x y H Q)
 (σ:St) (H:Hp) (Q:VK) (h:aP K (f2 fa fb g) σ H Q):xD r (aP K fa) (aP K fb) σ H Q:=by
 obtain⟨F,L,S,env,w,S',R,E,e,q⟩:=h;unfold f2 at e;cases ea:fa env S with
 | none=>rw[ea] at e;cases e
 | some p =>
   obtain⟨wx,S1⟩:=p;rw[ea] at e;dsimp only[yCr] at e;cases eb:fb env S1 with
   | none=>rw[eb] at e;cases e
   | some p2 =>
     obtain⟨wy,S2⟩:=p2;rw[eb] at e;dsimp only at e;refine⟨F,L,S,env,wx,S1,R,E,ea,λ F1 L1 H1 x g1 R1 d1=>⟨F1,L1,S1,env,wy,S2,R1,E.mono g1,eb,λ F2 L2 H2 y g2 R2 d2=>?_⟩⟩
     exact hr F2 L2 S2 H2 x y wx wy w S' Q R2 (d1.mono g2) d2 e λ F3 L3 H3 v g3 R3 d3=>q F3 L3 H3 v ((g1.trans g2).trans g3) R3 d3
theorem aWw{K:FrG}{fa:FE}{g:aE->W->Option (W×aE)}{r:V->Hp->VK->Prop}
 (hr:∀ F L S H x wx w S' Q,Rel K F L S H->eD K F L wx x->g S wx=qq (w,S')->sH K F L S' w Q->r x H Q)
 (σ:St) (H:Hp) (Q:VK) (h:aP K (f1 fa g) σ H Q):tUn r (aP K fa) σ H Q:=by
 obtain⟨F,L,S,env,w,S',R,E,e,q⟩:=h;unfold f1 at e;cases ea:fa env S with
 | none=>rw[ea] at e;cases e
 | some p =>
   obtain⟨wx,S1⟩:=p;rw[ea] at e;dsimp only[yCr] at e;refine⟨F,L,S,env,wx,S1,R,E,ea,λ F1 L1 H1 x g1 R1 d1=>?_⟩
   exact hr F1 L1 S1 H1 x wx w S' Q R1 d1 e λ F3 L3 H3 v g3 R3 d3=>q F3 L3 H3 v (g1.trans g3) R3 d3
noncomputable def iS(i:Nat):FE:=λ env S=>match env[i]? with
 | some (qq w)=>qq (w,S)
 | _=>qz
theorem aNf{i:Nat}{env:aZ}{S S':aE}{w:W}(h:iS i env S=qq (w,S')):env[i]? = qq (qq w)/\S'=S:=by
 unfold iS at h
 split at h
 ·rename_i w' e;cases h;exact⟨e,rfl⟩
 ·cases h
theorem aUw{i:Nat}{x:Str}{pos:Pos}(hN:X.N[i]? = qq x)(hv:wU X.env.scope x)(hd:(x==("__debug__" : Str))=false)(hcd:(x==("__classdict__" : Str))=false):PE X (.Name x pos) (aP X.K (iS i)):=
 PE.weak (aRc hN hv hd hcd) λ σ H Q aO=>by
  obtain⟨F,L,S,env,w,S',R,E,e,q⟩:=aO;obtain⟨e1,rfl⟩:=aNf e;obtain⟨v,e2,d⟩:=E.get i w e1;exact⟨v,e2,q F L H v Gr.refl R d⟩
noncomputable def fC(d:D):FE:=λ _ S=>qq (.d d,S)
theorem aU0{i j pos}:PE X (.Constant (.int i) j pos) (aP X.K (fC (.int i))):=
 PE.weak aTm λ σ H Q aO=>by obtain⟨F,L,S,env,w,S',R,E,e,q⟩:=aO;cases e;exact q F L H _ Gr.refl R (.int i)
theorem aWL{b j pos}:PE X (.Constant (.bool b) j pos) (aP X.K (fC (.bool b))):=
 PE.weak aUq λ σ H Q aO=>by obtain⟨F,L,S,env,w,S',R,E,e,q⟩:=aO;cases e;exact q F L H _ Gr.refl R (.bl b)
theorem aUC{j pos}:PE X (.Constant .none j pos) (aP X.K (fC .none)):=
 PE.weak aTp λ σ H Q aO=>by obtain⟨F,L,S,env,w,S',R,E,e,q⟩:=aO;cases e;exact q F L H _ Gr.refl R .non
theorem aVx{x j pos}:PE X (.Constant (.str x) j pos) (aP X.K (fC (.str x))):=
 PE.weak aRM λ σ H Q aO=>by obtain⟨F,L,S,env,w,S',R,E,e,q⟩:=aO;cases e;exact q F L H _ Gr.refl R (.str x)
noncomputable def gU(g:D->D->Option D)(S:aE)(x y:W):Option (W×aE):=(dr S x).bind λ a=>(dr S y).bind λ b=>(g a b).bind λ z=>qq (.d z,S)
noncomputable def fU(g:D->Option D)(S:aE)(x:W):Option (W×aE):=(dr S x).bind λ a=>(g a).bind λ z=>qq (.d z,S)
theorem zI{g:D->D->Option D}{S S':aE}{x y w:W}(h:gU g S x y=qq (w,S')):∃ a b z,dr S x=qq a/\dr S y=qq b/\g a b=qq z/\w=.d z/\S'=S:=by
 unfold gU at h;cases e1:dr S x with
 | none=>rw[e1] at h;cases h
 | some a =>
   cases e2:dr S y with
   | none=>rw[e1,e2] at h;cases h
   | some b =>
     rw[e1,e2] at h;dsimp only[yCr] at h;cases e3:g a b with
     | none=>rw[e3] at h;cases h
     | some z=>rw[e3] at h;cases h;exact⟨a,b,z,rfl,rfl,e3,rfl,rfl⟩
theorem tW{g:D->Option D}{S S':aE}{x w:W}(h:fU g S x=qq (w,S')):∃ a z,dr S x=qq a/\g a=qq z/\w=.d z/\S'=S:=by
 unfold fU at h;cases e1:dr S x with
 | none=>rw[e1] at h;cases h
 | some a =>
   rw[e1] at h;dsimp only[yCr] at h;cases e3:g a with
   | none=>rw[e3] at h;cases h
   | some z=>rw[e3] at h;cases h;exact⟨a,z,rfl,e3,rfl,rfl⟩
theorem aAd{K:FrG}{F:Hp}{L:List qv}{S:aE}{z:D}{Q:VK}(X:Cx)(hK:X.K=K)(q:sH K F L S (.d z) Q):fB X F L S z Q:=λ F' H' r sf R d=>by
 subst hK;exact q F' L H' r ⟨sf,[],by simp⟩ R d
noncomputable def sR(X:Cx)(g:D->D->Option D):R2:=λ x y H Q=>∃ F L S dx dy z,Rel X.K F L S H/\bM X.K F H dx x/\bM X.K F H dy y/\g dx dy=qq z/\fB X F L S z Q
theorem rM{g:D->D->Option D}(F:Hp)(L:List qv)(S:aE)(H:Hp)(x y:V)(wx wy w:W)(S':aE)(Q:VK)(R:Rel X.K F L S H)(h1:eD X.K F L wx x)(h2:eD X.K F L wy y)(e:gU g S wx wy=qq (w,S'))(q:sH X.K F L S' w Q):sR X g x y H Q:=by
 obtain⟨a,b,z,e1,e2,e3,rfl,rfl⟩:=zI e;exact⟨F,L,S',a,b,z,R,jA R h1 e1,jA R h2 e2,e3,aAd X rfl q⟩
noncomputable def qA(op:ju)(fa fb:FE):FE:=f2 fa fb (gU (bP op))
theorem aUR{a b:qw}{op:ju}{pos:Pos}{fa fb:FE}(ha:PE X a (aP X.K fa))(hb:PE X b (aP X.K fb)):PE X (.BinOp a op b pos) (aP X.K (qA op fa fb)):=
 PE.weak (aJw (r:=sR X (bP op)) (λ aB s σ H x y v u Q I rx ry hPr2=>by obtain⟨F,L,S,dx,dy,z,R,nx,ny,e,q⟩:=hPr2;exact aSW I rx ry R nx ny e q) ha hb) (aAY rM)
noncomputable def wX(op:yx)(fa:FE):FE:=f1 fa (fU (oR op))
theorem aWb{a:qw}{op:yx}{pos:Pos}{fa:FE}(ha:PE X a (aP X.K fa)):PE X (.UnaryOp op a pos) (aP X.K (wX op fa)):=
 PE.weak (aTV (r:=λ x H Q=>∃ F L S dx z,Rel X.K F L S H/\bM X.K F H dx x/\oR op dx=qq z/\fB X F L S z Q) (λ aB s σ H x v Q I rx hPr3=>by obtain⟨F,L,S,dx,z,R,nx,e,q⟩:=hPr3;exact aUy I rx R nx e q) ha)
  (aWw λ F L S H x wx w S' Q R d e q=>by
    obtain⟨a,z,e1,e3,rfl,rfl⟩:=tW e;exact⟨F,L,S',a,z,R,jA R d e1,e3,aAd X rfl q⟩)
noncomputable def aV(op:jq)(x y:D):Option D:=(jW op x y).map yAj
theorem qX{op:jq}(hu:X.A.units+64<cLine):cD X (xx op) (sR X (aV op)):=λ aB s σ H x y v u Q I rx ry aO=>by
 obtain⟨F,L,S,dx,dy,z,R,nx,ny,e,q⟩:=aO;unfold aV at e;cases ec:jW op dx dy with
 | none=>rw[ec] at e;cases e
 | some b=>rw[ec] at e;cases e;exact aS5 hu I rx ry R nx ny ec (q.here R (.bl b))
noncomputable def mQ(op:jq)(fa fb:FE):FE:=f2 fa fb (gU (aV op))
theorem aVM{a b:qw}{op:jq}{pos:Pos}{fa fb:FE}(hu:X.A.units+64<cLine)(ha:PE X a (aP X.K fa))(hb:PE X b (aP X.K fb))(hm:jk op b=false):PE X (.Compare a [op] [b] pos) (aP X.K (mQ op fa fb)):=
 PE.weak (aOY (qX hu) ha hb hm) (aAY rM)
noncomputable def cT(fa:FE):FT:=λ env S=>(fa env S).bind λ p=>(dr p.2 p.1).bind λ d=>(pV d).bind λ b=>qq (b,p.2)
theorem aBI{fa:FE}{env:aZ}{S S':aE}{b:Bool}(h:cT fa env S=qq (b,S')):∃ w d,fa env S=qq (w,S')/\dr S' w=qq d/\pV d=qq b:=by
 unfold cT at h;cases ea:fa env S with
 | none=>rw[ea] at h;cases h
 | some p =>
   obtain⟨w,S1⟩:=p;rw[ea] at h;dsimp only[yCr] at h;cases e1:dr S1 w with
   | none=>rw[e1] at h;cases h
   | some d =>
     rw[e1] at h;dsimp only at h;cases e2:pV d with
     | none=>rw[e2] at h;cases h
     | some c=>rw[e2] at h;cases h;exact⟨w,d,rfl,e1,e2⟩
theorem aVe{a:qw}{fa:FE}(ha:PE X a (aP X.K fa))(he:∀ eS,isTrue a X.env eS=(do let v <- eS;standAt a.pos;holding [v] (truthy v))):PT X a (eK X.K (cT fa)):=
 PT.weak (aOc ha he) λ σ H Q aO=>by
  obtain⟨F,L,S,env,b,S',R,E,e,q⟩:=aO;obtain⟨w,d,e1,e2,e3⟩:=aBI e;exact⟨F,L,S,env,w,S',R,E,e1,λ F1 L1 H1 v g1 R1 d1=>⟨b,aPf R1 (jA R1 d1 e2) e3,q F1 L1 H1 g1 R1⟩⟩
theorem aRZ{a b:qw}{op:jq}{pos:Pos}{fa fb:FE}(hu:X.A.units+64<cLine)(ha:PE X a (aP X.K fa))(hb:PE X b (aP X.K fb))(hm:jk op b=false):PT X (.Compare a [op] [b] pos) (eK X.K (cT (mQ op fa fb))):=
 PT.weak (aPY (qX hu) ha hb hm) λ σ H Q aO=>by
  obtain⟨F,L,S,env,b,S',R,E,e,q⟩:=aO;obtain⟨w,d,e1,e2,e3⟩:=aBI e;refine aAY (fa:=fa) (fb:=fb) (g:=gU (aV op)) rM σ H _ ⟨F,L,S,env,w,S',R,E,e1,λ F1 L1 H1 v g1 R1 d1=>?_⟩
  have hc:∃ c,w=.d (.bool c):=by
   unfold mQ f2 at e1;cases ea:fa env S with
   | none=>rw[ea] at e1;cases e1
   | some p =>
     rw[ea] at e1;dsimp only[yCr] at e1;cases eb:fb env p.2 with
     | none=>rw[eb] at e1;cases e1
     | some p2 =>
       rw[eb] at e1;dsimp only at e1;obtain⟨_,_,z,_,_,e6,rfl,_⟩:=zI e1;unfold aV at e6;cases e7:jW op _ _ with
       | none=>rw[e7] at e6;cases e6
       | some c=>rw[e7] at e6;cases e6;exact⟨c,rfl⟩
  obtain⟨c,rfl⟩:=hc;cases e2;cases e3;have hv:v=.bl b:=by cases (show Den X.K F1 (.bool b) v from d1);rfl
  exact⟨b,hv,q F1 L1 H1 g1 R1⟩
end
section
variable {X : Cx}{pos : Pos}
noncomputable def vR(fa fb:FT):FT:=λ env S=>(fa env S).bind λ p=>if p.1=true then fb env p.2 else qq (false,p.2)
noncomputable def xF(fa fb:FT):FT:=λ env S=>(fa env S).bind λ p=>if p.1=true then qq (true,p.2) else fb env p.2
noncomputable def wH(fa:FT):FT:=λ env S=>(fa env S).bind λ p=>qq (!p.1,p.2)
theorem aJo{K:FrG}{fa fb:FT}(σ:St)(H:Hp)(Q:Bool->Hp->Prop)(h:eK K (vR fa fb) σ H Q):aKJ (eK K fa) (eK K fb) σ H Q:=by
 obtain⟨F,L,S,env,b,S',R,E,e,q⟩:=h;obtain⟨⟨c,S1⟩,e1,e2⟩:=bind_some e;refine⟨F,L,S,env,c,S1,R,E,e1,λ F1 L1 H1 g1 R1=>?_⟩
 dsimp only at e2;cases c with
 | true=>exact qE ⟨F1,L1,S1,env,b,S',R1,E.mono g1,by simpa using e2,λ F2 L2 H2 g2 R2=>q F2 L2 H2 (g1.trans g2) R2⟩
 | false =>
   have e3:qq (false,S1)=qq (b,S'):=by simpa using e2
   cases e3;exact pY (q F1 L1 H1 g1 R1)
theorem aKm{K:FrG}{fa fb:FT}(σ:St)(H:Hp)(Q:Bool->Hp->Prop)(h:eK K (xF fa fb) σ H Q):tOr (eK K fa) (eK K fb) σ H Q:=by
 obtain⟨F,L,S,env,b,S',R,E,e,q⟩:=h;obtain⟨⟨c,S1⟩,e1,e2⟩:=bind_some e;refine⟨F,L,S,env,c,S1,R,E,e1,λ F1 L1 H1 g1 R1=>?_⟩
 dsimp only at e2;cases c with
 | false=>exact pY ⟨F1,L1,S1,env,b,S',R1,E.mono g1,by simpa using e2,λ F2 L2 H2 g2 R2=>q F2 L2 H2 (g1.trans g2) R2⟩
 | true =>
   have e3:qq (true,S1)=qq (b,S'):=by simpa using e2
   cases e3;exact qE (q F1 L1 H1 g1 R1)
theorem aU4{a:qw}{fa:FT}(ha:PT X a (eK X.K fa)):PT X (.UnaryOp .Not a pos) (eK X.K (wH fa)):=
 PT.weak (aR2 ha) λ σ H Q aO=>by
  obtain⟨F,L,S,env,b,S',R,E,e,q⟩:=aO;obtain⟨⟨c,S1⟩,e1,e2⟩:=bind_some e;cases e2;exact⟨F,L,S,env,c,S1,R,E,e1,q⟩
noncomputable def vI(fa fb:FE):FE:=λ env S=>(fa env S).bind λ p=>match p.1 with
 | .d (.bool true)=>fb env p.2
 | .d (.bool false)=>qq (.d (.bool false),p.2)
 | _=>qz
noncomputable def wG(fa fb:FE):FE:=λ env S=>(fa env S).bind λ p=>match p.1 with
 | .d (.bool false)=>fb env p.2
 | .d (.bool true)=>qq (.d (.bool true),p.2)
 | _=>qz
noncomputable def uW(fa:FE):FE:=λ env S=>(fa env S).bind λ p=>match p.1 with
 | .d (.bool b)=>qq (.d (.bool (!b)),p.2)
 | _=>qz
theorem vK{K:FrG}{F:Hp}{L:List qv}{b:Bool}{v:V}(h:eD K F L (.d (.bool b)) v):v=.bl b:=by cases (show Den K F (.bool b) v from h);rfl
theorem aIf{K:FrG}{fa fb:FE}(σ:St)(H:Hp)(Q:VK)(h:aP K (vI fa fb) σ H Q):aJ0 (aP K fa) (aP K fb) σ H Q:=by
 obtain⟨F,L,S,env,w,S',R,E,e,q⟩:=h;obtain⟨⟨c,S1⟩,e1,e2⟩:=bind_some e;dsimp only at e2
 split at e2
 ·exact⟨F,L,S,env,_,S1,R,E,e1,λ F1 L1 H1 v g1 R1 d1=>⟨true,vK d1,qE ⟨F1,L1,S1,env,w,S',R1,E.mono g1,e2,λ F2 L2 H2 v2 g2 R2 d2=>q F2 L2 H2 v2 (g1.trans g2) R2 d2⟩⟩⟩
 ·cases e2;exact⟨F,L,S,env,_,_,R,E,e1,λ F1 L1 H1 v g1 R1 d1=>⟨false,vK d1,pY (q F1 L1 H1 _ g1 R1 (Den.bl false))⟩⟩
 ·cases e2
theorem aJP{K:FrG}{fa fb:FE}(σ:St)(H:Hp)(Q:VK)(h:aP K (wG fa fb) σ H Q):aKh (aP K fa) (aP K fb) σ H Q:=by
 obtain⟨F,L,S,env,w,S',R,E,e,q⟩:=h;obtain⟨⟨c,S1⟩,e1,e2⟩:=bind_some e;dsimp only at e2
 split at e2
 ·exact⟨F,L,S,env,_,S1,R,E,e1,λ F1 L1 H1 v g1 R1 d1=>⟨false,vK d1,pY ⟨F1,L1,S1,env,w,S',R1,E.mono g1,e2,λ F2 L2 H2 v2 g2 R2 d2=>q F2 L2 H2 v2 (g1.trans g2) R2 d2⟩⟩⟩
 ·cases e2;exact⟨F,L,S,env,_,_,R,E,e1,λ F1 L1 H1 v g1 R1 d1=>⟨true,vK d1,qE (q F1 L1 H1 _ g1 R1 (Den.bl true))⟩⟩
 ·cases e2
theorem aSb{a:qw}{fa:FE}(ha:PE X a (aP X.K fa)):PE X (.UnaryOp .Not a pos) (aP X.K (uW fa)):=
 PE.weak (aRI ha) λ σ H Q aO=>by
  obtain⟨F,L,S,env,w,S',R,E,e,q⟩:=aO;obtain⟨⟨c,S1⟩,e1,e2⟩:=bind_some e;dsimp only at e2
  split at e2
  ·cases e2;exact⟨F,L,S,env,_,_,R,E,e1,λ F1 L1 H1 v g1 R1 d1=>⟨_,vK d1,q F1 L1 H1 _ g1 R1 (Den.bl _)⟩⟩
  ·cases e2
noncomputable def vQ(fc:FT)(fa fb:FE):FE:=λ env S=>(fc env S).bind λ p=>if p.1=true then fa env p.2 else fb env p.2
theorem aVw{c a b:qw}{fc:FT}{fa fb:FE}(hc:PT X c (eK X.K fc))(ha:PE X a (aP X.K fa))(hb:PE X b (aP X.K fb)):PE X (.IfExp c a b pos) (aP X.K (vQ fc fa fb)):=
 PE.weak (aOn hc ha hb) λ σ H Q aO=>by
  obtain⟨F,L,S,env,w,S',R,E,e,q⟩:=aO;obtain⟨⟨c,S1⟩,e1,e2⟩:=bind_some e;refine⟨F,L,S,env,c,S1,R,E,e1,λ F1 L1 H1 g1 R1=>?_⟩
  dsimp only at e2;cases c with
  | true=>exact qE ⟨F1,L1,S1,env,w,S',R1,E.mono g1,by simpa using e2,λ F2 L2 H2 v g2 R2 d2=>q F2 L2 H2 v (g1.trans g2) R2 d2⟩
  | false=>exact pY ⟨F1,L1,S1,env,w,S',R1,E.mono g1,by simpa using e2,λ F2 L2 H2 v g2 R2 d2=>q F2 L2 H2 v (g1.trans g2) R2 d2⟩
noncomputable def gQ:FA:=λ _ S=>qq ([],S)
noncomputable def cS(fa:FE)(fr:FA):FA:=λ env S=>(fa env S).bind λ p=>(fr env p.2).bind λ q=>qq (p.1::q.1,q.2)
theorem aDw:PA X [] (fF X.K gQ):=PA.weak aIU λ σ H Q aO=>by obtain⟨F,L,S,env,ws,S',R,E,e,q⟩:=aO;cases e;exact q F L H [] Gr.refl R .nil
theorem nX{e:qw}{es:List qw}{fa:FE}{fr:FA}(ha:PE X e (aP X.K fa))(hr:PA X es (fF X.K fr))(hs:qo (e::es) X.env=(false,eval e X.env)::qo es X.env):PA X (e::es) (fF X.K (cS fa fr)):=
 PA.weak (aCC ha hr hs) λ σ H Q aO=>by
  obtain⟨F,L,S,env,ws,S',R,E,e,q⟩:=aO;obtain⟨⟨w,S1⟩,e1,e2⟩:=bind_some e;obtain⟨⟨wr,S2⟩,e3,e4⟩:=bind_some e2;cases e4;exact⟨F,L,S,env,w,S1,R,E,e1,λ F1 L1 H1 v g1 R1 d1=>⟨F1,L1,S1,env,wr,S2,R1,E.mono g1,e3,λ F2 L2 H2 vs g2 R2 d2=>q F2 L2 H2 _ (g1.trans g2) R2 (.cons (d1.mono g2) d2)⟩⟩
noncomputable def qD:List W->Option (List D)
 | []=>qq []
 | .d x::r=>(qD r).bind λ l=>qq (x::l)
 | .loc _::_=>qz
theorem aB4{K:FrG}{F:Hp}{L:List qv}:∀ {ws:List W}{xs:List V}{ds:List D},WDenL K F L ws xs->qD ws=qq ds->DenL K F ds xs
 | _,_,_,.nil,e=>by cases e;exact .nil
 | .d x::r,_,_,.cons h t,e=>by
   obtain⟨l,e1,e2⟩:=bind_some e;cases e2;exact .cons h (aB4 t e1)
 | .loc _::_,_,_,.cons _ _,e=>by cases e
noncomputable def vS(fs:FA):FE:=λ env S=>(fs env S).bind λ p=>(qD p.1).bind λ ds=>if ds.length<=qy then qq (.d (.tuple ds),p.2) else qz
theorem aUs{es:List qw}{k:Nat}{fs:FA}(h:PA X es (fF X.K fs)):PE X (.Tuple es k pos) (aP X.K (vS fs)):=
 PE.weak (aSg h) λ σ H Q aO=>by
  obtain⟨F,L,S,env,w,S',R,E,e,q⟩:=aO;obtain⟨⟨ws,S1⟩,e1,e2⟩:=bind_some e;obtain⟨ds,e3,e4⟩:=bind_some e2
  split at e4
  ·rename_i hz;cases e4;refine⟨F,L,S,env,ws,_,R,E,e1,λ F1 L1 H1 vs g1 R1 d1=>?_⟩
   have dl:=aB4 d1 e3;refine⟨by rw[<- dl.length];exact hz,λ p hp=>?_⟩
   exact q _ L1 _ _ (g1.trans (Gr.new (R1.sub.free hp))) (R1.new hp) (Den.tup (bQ.of cX) (dl.mono (dP (R1.sub.free hp))))
  ·cases e4
noncomputable def wC(fs:FA):FL:=λ env S=>(fs env S).bind λ p=>(qD p.1).bind λ ds=>if ds.length<=qy then qq (ds,p.2) else qz
theorem aTZ{es:List qw}{fs:FA}(h:PA X es (fF X.K fs)):PE X (.List es pos) (iG X.K (wC fs)):=
 PE.weak (aRH h) λ σ H Q aO=>by
  obtain⟨F,L,S,env,ds,S',R,E,e,q⟩:=aO;obtain⟨⟨ws,S1⟩,e1,e2⟩:=bind_some e;obtain⟨ds',e3,e4⟩:=bind_some e2
  split at e4
  ·rename_i hz;cases e4;refine⟨F,L,S,env,ws,_,R,E,e1,λ F1 L1 H1 vs g1 R1 d1=>?_⟩
   have dl:=aB4 d1 e3;exact⟨by rw[<- dl.length];exact hz,λ p hp=>q F1 L1 _ p vs g1 (R1.lay hp) (R1.sub.free hp) (R1.notin hp) cX dl⟩
  ·cases e4
noncomputable def iD(f:FL):FE:=λ env S=>(f env S).bind λ p=>qq (.d (.list p.1),p.2)
theorem aKk{e:qw}{f:FL}(h:PE X e (iG X.K f)):PE X e (aP X.K (iD f)):=
 PE.weak h λ σ H Q aO=>by
  obtain⟨F,L,S,env,w,S',R,E,e,q⟩:=aO;obtain⟨⟨ds,S1⟩,e1,e2⟩:=bind_some e;cases e2;exact⟨F,L,S,env,ds,_,R,E,e1,λ F1 L1 H1 p xs g1 R1 hF hL hH dl=>q _ L1 _ _ (g1.trans (Gr.new hF)) (R1.adopt hF hL hH) (Den.lst (bL.of cX) (dl.mono (dP hF)))⟩
noncomputable def eY(f:FL):FE:=λ env S=>(f env S).bind λ p=>qq (.loc p.2.length,p.2++[qq p.1])
theorem aUv{e:qw}{f:FL}(h:PE X e (iG X.K f)):PE X e (aP X.K (eY f)):=
 PE.weak h λ σ H Q aO=>by
  obtain⟨F,L,S,env,w,S',R,E,e,q⟩:=aO;obtain⟨⟨ds,S1⟩,e1,e2⟩:=bind_some e;cases e2;refine⟨F,L,S,env,ds,_,R,E,e1,λ F1 L1 H1 p xs g1 R1 hF hL hH dl=>q _ _ _ _ (g1.trans Gr.newLoc) (R1.adoptLoc hF hL hH dl) ⟨p,?_,rfl⟩⟩
  dsimp only;rw[<- R1.len,yAg (yAb _)];simp
noncomputable def aH:D->D->Option D
 | .list xs,.int i=>kI xs i
 | .tuple xs,.int i=>kI xs i
 | .str z,.int i=>if z.length<=qy then (kI z.cps.toList i).bind λ c=>qq (.str ⟨#[c]⟩) else qz
 | _,_=>qz
theorem aHt{K:FrG}{F:Hp}{ds:List D}{xs:List V}{i:Int}{d:D}(h:DenL K F ds xs)(e:kI ds i=qq d):∃ x,kI xs i=qq x/\Den K F d x:=by
 unfold kI at e ⊢;rw[<- h.length];obtain⟨j,e1,e2⟩:=bind_some e;obtain⟨x,e3,dx⟩:=h.get e2;exact⟨x,by rw[e1];exact e3,dx⟩
theorem aO8:lI X (sR X aH):=λ value iX aB s σ H x y v u Q I rx ry aO hs=>by
 obtain⟨F,L,S,dx,dy,z,R,nx,ny,e,q⟩:=aO;unfold aH at e
 split at e
 ·obtain⟨a,xs,rfl,sq,dl⟩:=nx.lst R.sub;obtain⟨r,e1,d1⟩:=aHt dl e;exact aO9 value iX aB s σ H _ y v u Q I rx ry ⟨a,xs,_,r,rfl,ny.int,sq,e1,q.here R d1⟩ hs
 ·obtain⟨a,xs,rfl,sq,dl⟩:=nx.tup R.sub;obtain⟨r,e1,d1⟩:=aHt dl e;exact aRm value iX aB s σ H _ y v u Q I rx ry ⟨a,xs,_,r,rfl,ny.int,sq,e1,q.here R d1⟩ hs
 ·split at e
  ·rename_i hz;obtain⟨c,e1,e2⟩:=bind_some e;cases e2;exact aSA value iX aB s σ H x y v u Q I rx ry ⟨_,_,c,nx.str,ny.int,hz,e1,q.here R (.str _)⟩ hs
  ·cases e
 ·cases e
noncomputable def oP(fa fb:FE):FE:=f2 fa fb (gU aH)
theorem aWp{a b:qw}{fa fb:FE}(ha:PE X a (aP X.K fa))(hb:PE X b (aP X.K fb))(hs:zX b):PE X (.Subscript a b pos) (aP X.K (oP fa fb)):=
 PE.weak (aJX aO8 ha hb hs) (aAY rM)
abbrev FO:=aZ->aE->Option (Option Int×aE)
noncomputable def qG:FO:=λ _ S=>qq (qz,S)
noncomputable def lC(fa:FE):FO:=λ env S=>(fa env S).bind λ p=>match p.1 with
 | .d (.int i)=>qq (qq i,p.2)
 | _=>qz
def lE(K:FrG)(f:FO):TO:=λ σ H Q=>∃ F L S env o S',Rel K F L S H/\EnvR K F L env σ/\f env S=qq (o,S')/\∀ F' L' H',Gr F L F' L'->Rel K F' L' S' H'->Q o H'
theorem aWu:PO X qz (lE X.K qG):=λ aB s σ H Q I aO=>by
 obtain⟨F,L,S,env,o,S',R,E,e,q⟩:=aO;cases e;exact aOJ aB s σ H Q I (q F L H Gr.refl R)
theorem aRC{a:qw}{fa:FE}(ha:PE X a (aP X.K fa)):PO X (qq a) (lE X.K (lC fa)):=λ aB s σ H Q I aO=>by
 obtain⟨F,L,S,env,o,S',R,E,e,q⟩:=aO;obtain⟨⟨w,S1⟩,e1,e2⟩:=bind_some e;dsimp only at e2
 split at e2
 ·cases e2;refine aPE ha aB s σ H Q I ⟨F,L,S,env,_,_,R,E,e1,λ F1 L1 H1 v g1 R1 d1=>?_⟩
  cases (show Den X.K F1 (.int _) v from d1)
  exact⟨_,rfl,q F1 L1 H1 g1 R1⟩
 ·cases e2
noncomputable def eC(xs:List D)(lo hi:Option Int):List D:=(xs.drop (HT.sIx xs.length 0 lo)).take (HT.sIx xs.length xs.length hi-HT.sIx xs.length 0 lo)
theorem aHa{K:FrG}{F:Hp}{ds:List D}{xs:List V}(h:DenL K F ds xs)(lo hi:Option Int):DenL K F (eC ds lo hi) (mN xs lo hi):=by
 unfold eC mN;rw[h.length];exact(h.drop _).take _
noncomputable def slL:D->Option Int->Option Int->Option (List D)
 | .list xs,lo,hi=>qq (eC xs lo hi)
 | _,_,_=>qz
noncomputable def aKn(fa:FE)(fl fh:FO):FL:=λ env S=>(fa env S).bind λ p=>(fl env p.2).bind λ q=>(fh env q.2).bind λ r=>(dr r.2 p.1).bind λ d=>(slL d q.1 r.1).bind λ z=>qq (z,r.2)
theorem aUr{a:qw}{lo hi:Option qw}{p2:Pos}{fa:FE}{fl fh:FO}(ha:PE X a (aP X.K fa))(hl:PO X lo (lE X.K fl))(hh:PO X hi (lE X.K fh)):PE X (.Subscript a (.Slice lo hi qz p2) pos) (iG X.K (aKn fa fl fh)):=
 PE.weak (aGj aP9 ha hl hh) λ σ H Q aO=>by
  obtain⟨F,L,S,env,ds,S',R,E,e,q⟩:=aO;obtain⟨⟨w,S1⟩,e1,e⟩:=bind_some e;obtain⟨⟨l,S2⟩,e2,e⟩:=bind_some e;obtain⟨⟨h,S3⟩,e3,e⟩:=bind_some e;obtain⟨d,e4,e⟩:=bind_some e;obtain⟨z,e5,e⟩:=bind_some e;cases e;refine⟨F,L,S,env,w,S1,R,E,e1,λ F1 L1 H1 v g1 R1 d1=>⟨F1,L1,S1,env,l,S2,R1,E.mono g1,e2,λ F2 L2 H2 g2 R2=>⟨F2,L2,S2,env,h,S3,R2,E.mono (g1.trans g2),e3,λ F3 L3 H3 g3 R3=>?_⟩⟩⟩
  have n:=jA R3 (d1.mono (g2.trans g3)) e4;cases d with
  | list xs =>
    cases e5;obtain⟨a,vs,rfl,sq,dl⟩:=n.lst R3.sub;exact⟨a,vs,rfl,sq,λ p hp=>q F3 L3 _ p _ ((g1.trans g2).trans g3) (R3.lay hp) (R3.sub.free hp) (R3.notin hp) cX (aHa dl l h)⟩
  | _=>cases e5
noncomputable def sY(K:FrG)(np:Nat)(call:List W->aE->Option (W×aE)):Sp:=λ vs H Q _=>∃ F L S ws w S',ws.length=np/\Rel K F L S H/\WDenL K F L ws vs/\call ws S=qq (w,S')/\sH K F L S' w Q
noncomputable def aAC(fs:FA)(np:Nat)(call:List W->aE->Option (W×aE)):FE:=λ env S=>(fs env S).bind λ p=>if p.1.length=np then call p.1 p.2 else qz
theorem aQ3{K:FrG}{fs:FA}{np:Nat}{call:List W->aE->Option (W×aE)}(σ:St)(H:Hp)(Q:VK)(h:aP K (aAC fs np call) σ H Q):aAK (sY K np call) [] E0 (fF K fs) σ H Q:=by
 obtain⟨F,L,S,env,w,S',R,E,e,q⟩:=h;obtain⟨⟨ws,S1⟩,e1,e⟩:=bind_some e
 split at e
 ·rename_i hn;refine⟨F,L,S,env,ws,S1,R,E,e1,λ F1 L1 H1 vs g1 R1 d1=>⟨F1,L1,S1,ws,w,S',hn,R1,by rw[yDb];exact d1,e,λ F2 L2 H2 v g2 R2 d2=>q F2 L2 H2 v (g1.trans g2) R2 d2⟩⟩
 ·cases e
inductive NowL (K:FrG) (F H:Hp):List D->List V->Prop
 | nil:NowL K F H [] []
 | cons {d:D}{ds:List D}{x:V}{xs:List V}:bM K F H d x->NowL K F H ds xs->NowL K F H (d::ds) (x::xs)
noncomputable def nA(S:aE):List W->Option (List D)
 | []=>qq []
 | w::r=>(dr S w).bind λ d=>(nA S r).bind λ l=>qq (d::l)
theorem aHf{K:FrG}{F H:Hp}{L:List qv}{S:aE}(R:Rel K F L S H):∀ {ws:List W}{xs:List V}{ds:List D},WDenL K F L ws xs->nA S ws=qq ds->NowL K F H ds xs
 | _,_,_,.nil,e=>by cases e;exact .nil
 | _,_,_,.cons h t,e=>by
   obtain⟨d,e1,e⟩:=bind_some e;obtain⟨l,e2,e⟩:=bind_some e;cases e;exact .cons (jA R h e1) (aHf R t e2)
noncomputable def lK(X:Cx)(g:List D->Option D):List V->Hp->VK->Prop:=λ xs H Q=>∃ F L S ds z,Rel X.K F L S H/\NowL X.K F H ds xs/\g ds=qq z/\fB X F L S z Q
noncomputable def pW(fs:FA)(g:List D->Option D):FE:=λ env S=>(fs env S).bind λ p=>(nA p.2 p.1).bind λ ds=>(g ds).bind λ z=>qq (.d z,p.2)
theorem mF{fs:FA}{g:List D->Option D}(σ:St)(H:Hp)(Q:VK)(h:aP X.K (pW fs g) σ H Q):tCB (lK X g) (fF X.K fs) σ H Q:=by
 obtain⟨F,L,S,env,w,S',R,E,e,q⟩:=h;obtain⟨⟨ws,S1⟩,e1,e⟩:=bind_some e;obtain⟨ds,e2,e⟩:=bind_some e;obtain⟨z,e3,e⟩:=bind_some e;cases e;refine⟨F,L,S,env,ws,_,R,E,e1,λ F1 L1 H1 vs g1 R1 d1=>⟨F1,L1,S1,ds,z,R1,aHf R1 d1 e2,e3,aAd X rfl λ F2 L2 H2 v g2 R2 d2=>q F2 L2 H2 v (g1.trans g2) R2 d2⟩⟩
end
section
variable {prog : qu}{w : zx}{A : zv}{E : qx -> qj -> Prop}{s : qj}
theorem aGc{it t:qv}{aM:Array qx}(hne:t≠it):∀ (n i:Nat) (s:qj) (Q:List qx->qj->Prop),s.heap.IsListIter it t i->s.heap.IsList t aM->i+n<=aM.size ->
 (∀ h',h'.IsListIter it t (i+n)->yDx it s.heap h'->Q ((aM.toList.drop i).take n) {s with heap:=h' })->qk (model prog w) A (draw (.ref it) n) Q E s
 | 0,i,s,Q,bH,_,_,hQ=>wP (by simpa using hQ s.heap bH (Heap.SameBut.refl _ _))
 | n+1,i,s,Q,bH,hl,hle,hQ=>by
   have hlt:i<aM.size:=by omega
   show qk _ _ (vx (.ref it) >>= _) Q E s;refine wB (vy bH hl (x:=aM[i]) (by simp[hlt]) λ h1 hit1 hs1=>?_)
   refine wB (zy (aGc hne n (i+1) _ _ hit1 (hl.extBut hs1.extBut hne) (by omega) λ h2 hit2 hs2=>wP ?_))
   have q:=hQ h2 (by rw[show i+(n+1)=i+1+n by omega];exact hit2) (hs1.trans hs2)
   rw[yCa (by simpa using hlt),List.take_succ_cons] at q
   exact q
theorem aLR{env:Env}{elts:List qw}{x1}{pos:Pos}{t:qv}{aM:Array qx}{Q:Unit->qj->Prop}(hh:A.handled=qz)(hl:s.heap.IsList t aM)
 (hn:(zo elts env).length=aM.size) (hstar:(zo elts env).findIdx? (·.1)=qz)
 (h:∀ h',Heap.ExtBut s.heap.objs.size s.heap h'->qk (model prog w) A (assignInOrder ((zo elts env).map (·.2)) aM.toList) Q E {s with heap:=h' }) :
 qk (model prog w) A (assign (.Tuple elts x1 pos) env (.ref t)) Q E s:=by
 have hlt:t≠s.heap.objs.size:=by obtain⟨o,ho,_⟩:=hl;exact xAk (xAa ho)
 have hl1:∀ o,(s.heap.push o).IsList t aM:=λ o=>let ⟨u,hu,r⟩:=hl;⟨u,hpS _ hu,r⟩
 rw[arm_assign_Tuple];refine wB (yu ?_);unfold unpack;rw[hn,hstar];refine wB (zy ?_);unfold unpackItems;refine wB ?_;unfold notIterableAtAll;refine wB (kj hl.typeIs slot_list_iter.lookup (wP ?_));simp only[yAt,if_false];refine wB (zy (jw hl ?_));refine wB (zy (aGc hlt aM.size 0 _ _ ⟨_,xAe _ rfl,rfl,rfl⟩ (hl1 _) (by omega) λ h1 hit1 hs1=>?_))
 rw[show yDj aM.size (List.drop 0 aM.toList)=aM.toList by rw[yEh];exact yDe (by simp)]
 rw[if_neg (by simp)]
 have hl2:h1.IsList t aM:=(hl1 _).extBut hs1.extBut hlt;refine wB (zy (vo hh hit1 hl2 (by simp) λ h2 he2=>?_))
 simp only[Option.isSome_none,yAt,if_false];exact wP (h h2 λ b o hb e=>he2 b o hb (hs1.extBut b o hb (hpS _ e)))
end
section
variable {X : Cx}
def aDE(K:FrG)(n:Nat)(t:iT):TG:=λ v σ H Q=>∃ a xs,v=.ref a/\(bQ K H a xs\/bL K H a xs)/\xs.length=n/\t xs σ H Q
theorem aSM{es:List qw}{k:Nat}{t:iT}{n:Nat}{pos:Pos}(hc:X.calm=true)(h:qH X es t)(hn:(zo es X.env).length=n)(hst:(zo es X.env).findIdx? (·.1)=qz):PG X (.Tuple es k pos) (aDE X.K n t):=by
 intro aB s σ H v u Q I r hw;obtain⟨a,xs,e1,hq,hl,hw⟩:=hw;rcases hq with hq | hq
 ·exact aTf hc h hn hst aB s σ H v u Q I r ⟨a,xs,e1,hq,hl,hw⟩
 ·subst e1;cases r;obtain⟨aG,rv,pl,hz⟩:=I.list hq;refine aLR (I.ok.hd hc) pl.isList (by simp[hn,<- hl,rv.length]) hst λ h' hx=>?_
  have I1:Inv X aB σ H {s with heap:=h' }:=I.kept (t':=s.toks) λ b o e=>hx b o (xAk (xAa e)) e
  exact h aB _ σ H xs _ Q I1 (by simpa using rv) hw
end
section
variable {X : Cx}{pos : Pos}
noncomputable def aKS(K:FrG)(D:Ends)(F':Hp)(L':List qv)(H':Hp):Fl->Prop
 | .nx aI=>∀ σ',EnvR K F' L' aI σ'->D.nx σ' H'
 | .rt w=>∀ v,eD K F' L' w v->D.rt v H'
 | .bk aI=>∀ σ',EnvR K F' L' aI σ'->D.bk σ' H'
 | .ct aI=>∀ σ',EnvR K F' L' aI σ'->D.ct σ' H'
theorem kW{K:FrG}{f:FS}{D:Ends}{σ:St}{H F:Hp}{L:List qv}{S:aE}{env:aZ}{fl:Fl}{S':aE}(R:Rel K F L S H)(E:EnvR K F L env σ)(e:f env S=qq (fl,S'))
 (q:∀ F' L' H',Gr F L F' L'->Rel K F' L' S' H'->aKS K D F' L' H' fl):dG K f D σ H:=⟨F,L,S,env,fl,S',R,E,e,λ F' L' H' g R'=>by
 have:=q F' L' H' g R';cases fl<;>exact this⟩
theorem kQ{K:FrG}{f:FS}{D:Ends}{σ:St}{H:Hp}(h:dG K f D σ H):∃ F L S env fl S',Rel K F L S H/\EnvR K F L env σ/\f env S=qq (fl,S')/\∀ F' L' H',Gr F L F' L'->Rel K F' L' S' H'->aKS K D F' L' H' fl:=by
 obtain⟨F,L,S,env,fl,S',R,E,e,q⟩:=h;exact⟨F,L,S,env,fl,S',R,E,e,λ F' L' H' g R'=>by
  have:=q F' L' H' g R';cases fl<;>exact this⟩
noncomputable def sA:FS:=λ env S=>qq (.nx env,S)
theorem aRe:dM X [] (dG X.K sA):=dM.weak aQc λ D σ H h=>by
 obtain⟨F,L,S,env,fl,S',R,E,e,q⟩:=kQ h;cases e;exact q F L H Gr.refl R σ E
noncomputable def dL(fa fb:FS):FS:=λ env S=>(fa env S).bind λ p=>match p.1 with
 | .nx e=>fb e p.2
 | fl=>qq (fl,p.2)
theorem aVc{a:xk}{b:List xk}{fa fb:FS}(ha:PS X a (dG X.K fa))(hb:dM X b (dG X.K fb)):dM X (a::b) (dG X.K (dL fa fb)):=dM.weak (aNF ha hb) λ D σ H h=>by
 obtain⟨F,L,S,env,fl,S',R,E,e,q⟩:=kQ h;obtain⟨⟨f1,S1⟩,e1,e2⟩:=bind_some e;cases f1 with
 | nx e'=>exact kW R E e1 λ F1 L1 H1 g1 R1 σ1 E1=>kW R1 E1 e2 λ F2 L2 H2 g2 R2=>q F2 L2 H2 (g1.trans g2) R2
 | rt w=>cases e2;exact kW R E e1 λ F1 L1 H1 g1 R1=>q F1 L1 H1 g1 R1
 | bk e'=>cases e2;exact kW R E e1 λ F1 L1 H1 g1 R1=>q F1 L1 H1 g1 R1
 | ct e'=>cases e2;exact kW R E e1 λ F1 L1 H1 g1 R1=>q F1 L1 H1 g1 R1
noncomputable def vG(fa:FE):FS:=λ env S=>(fa env S).bind λ p=>qq (.nx env,p.2)
theorem aQY{e:qw}{fa:FE}(h:PE X e (aP X.K fa))(hs:swapsWith e qz pos.line X.env=pure false):PS X (.Expr e pos) (dG X.K (vG fa)):=PS.weak (aPH h hs) λ D σ H h=>by
 obtain⟨F,L,S,env,fl,S',R,E,e,q⟩:=kQ h;obtain⟨⟨w,S1⟩,e1,e2⟩:=bind_some e;cases e2;exact⟨F,L,S,env,w,_,R,E,e1,λ F1 L1 H1 v g1 R1 d1=>q F1 L1 H1 g1 R1 σ (E.mono g1)⟩
noncomputable def oJ(fa:FE):FS:=λ env S=>(fa env S).bind λ p=>qq (.rt p.1,p.2)
theorem aUT{e:qw}{fa:FE}(h:PE X e (aP X.K fa)):PS X (.Return (qq e) pos) (dG X.K (oJ fa)):=PS.weak (aRP h) λ D σ H h=>by
 obtain⟨F,L,S,env,fl,S',R,E,e,q⟩:=kQ h;obtain⟨⟨w,S1⟩,e1,e2⟩:=bind_some e;cases e2;exact⟨F,L,S,env,w,_,R,E,e1,λ F1 L1 H1 v g1 R1 d1=>q F1 L1 H1 g1 R1 v d1⟩
noncomputable def aVf:FS:=λ env S=>qq (.rt (.d .none),S)
noncomputable def mX(fc:FT)(fa fb:FS):FS:=λ env S=>(fc env S).bind λ p=>if p.1=true then fa env p.2 else fb env p.2
theorem aWj{c:qw}{a b:List xk}{fc:FT}{fa fb:FS}(hc:PT X c (eK X.K fc))(ha:dM X a (dG X.K fa))(hb:dM X b (dG X.K fb)):PS X (.If c a b pos) (dG X.K (mX fc fa fb)):=PS.weak (aTt hc ha hb) λ D σ H h=>by
 obtain⟨F,L,S,env,fl,S',R,E,e,q⟩:=kQ h;obtain⟨⟨c,S1⟩,e1,e2⟩:=bind_some e;refine⟨F,L,S,env,c,S1,R,E,e1,λ F1 L1 H1 g1 R1=>?_⟩
 cases c with
 | true=>exact qE (kW R1 (E.mono g1) (by simpa using e2) λ F2 L2 H2 g2 R2=>q F2 L2 H2 (g1.trans g2) R2)
 | false=>exact pY (kW R1 (E.mono g1) (by simpa using e2) λ F2 L2 H2 g2 R2=>q F2 L2 H2 (g1.trans g2) R2)
noncomputable def fM(i:Nat)(fa:FE):FS:=λ env S=>(fa env S).bind λ p=>qq (.nx (env.set i (qq p.1)),p.2)
theorem aJI{K:FrG}{i:Nat}{fa:FE}(D:Ends)(σ:St)(H:Hp)(h:dG K (fM i fa) D σ H):wK (aP K fa) (nY i) D σ H:=by
 obtain⟨F,L,S,env,fl,S',R,E,e,q⟩:=kQ h;obtain⟨⟨w,S1⟩,e1,e2⟩:=bind_some e;cases e2;exact⟨F,L,S,env,w,_,R,E,e1,λ F1 L1 H1 v g1 R1 d1=>q F1 L1 H1 g1 R1 _ ((E.mono g1).set i d1)⟩
theorem aJU{i:Nat}{x:Str}{e:qw}{fa:FE}{pos':Pos}(hN:X.N.Nodup)(hi:X.N[i]? = qq x)(hx:Loc X.env.scope x)(he:PE X e (aP X.K fa))(hs:swapsWith e (qq (.Name x pos')) pos.line X.env=pure false)(hf:X.fn x=true\/X.env.scope.names.lookup x=qq .local) :
 PS X (.Assign [.Name x pos'] e pos) (dG X.K (fM i fa)):=PS.weak (aSh hN hi hx he hs hf) aJI
noncomputable def nW:List Nat->List D->aZ->Option aZ
 | [],[],env=>qq env
 | i::is,d::ds,env=>nW is ds (env.set i (qq (.d d)))
 | _,_,_=>qz
inductive Tg where
 | one (i:Nat) | many (is:List Nat)
noncomputable def Tg.put:Tg->D->aZ->Option aZ
 | .one i,d,env=>qq (env.set i (qq (.d d)))
 | .many is,.tuple ds,env=>nW is ds env
 | .many is,.list ds,env=>nW is ds env
 | .many _,_,_=>qz
def GA(K:FrG)(t:Tg)(g:TG):Prop:=∀ (d:D) (x:V) (σ:St) (H F:Hp) (L:List qv) (S:aE) (env aI:aZ) (Q:St->Hp->Prop),
 Rel K F L S H->EnvR K F L env σ->Den K F d x->t.put d env=qq aI->(∀ σ',EnvR K F L aI σ'->Q σ' H)->g x σ H Q
theorem aRT{K:FrG}(i:Nat):GA K (.one i) (nY i):=λ d x σ H F L S env aI Q R E dn e q=>by
 cases e;exact q _ (E.set i (w:=.d d) dn)
def xI(K:FrG)(is:List Nat)(g:iT):Prop:=∀ (ds:List D) (xs:List V) (σ:St) (H F:Hp) (L:List qv) (S:aE) (env aI:aZ) (Q:St->Hp->Prop),
 Rel K F L S H->EnvR K F L env σ->DenL K F ds xs->nW is ds env=qq aI->(∀ σ',EnvR K F L aI σ'->Q σ' H)->g xs σ H Q
theorem aQe{K:FrG}:xI K [] aD0:=λ ds xs σ H F L S env aI Q R E dn e q=>by
 cases dn with
 | nil=>cases e;exact⟨rfl,q σ E⟩
 | cons _ _=>cases e
theorem aNU{K:FrG}{i:Nat}{is:List Nat}{g:iT}(h:xI K is g):xI K (i::is) (aDp (nY i) g):=λ ds xs σ H F L S env aI Q R E dn e q=>by
 cases dn with
 | nil=>cases e
 | cons d1 dr=>exact⟨_,_,rfl,h _ _ _ H F L S _ aI Q R (E.set i (w:=.d _) d1) dr e q⟩
theorem aBx:∀ {is:List Nat}{ds:List D}{env aI:aZ},nW is ds env=qq aI->is.length=ds.length
 | [],[],_,_,_=>rfl
 | _::is,_::ds,_,_,e=>congrArg (· + 1) (aBx (is:=is) (ds:=ds) e)
 | [],_::_,_,_,e=>by cases e
 | _::_,[],_,_,e=>by cases e
theorem aPw{K:FrG}{is:List Nat}{g:iT}(h:xI K is g):GA K (.many is) (aDE K is.length g):=λ d x σ H F L S env aI Q R E dn e q=>by
 cases d with
 | tuple ds =>
   cases dn with
   | tup sq dl=>exact⟨_,_,rfl,.inl (iM R.sub sq),by rw[<- dl.length];exact(aBx e).symm,h _ _ σ H F L S env aI Q R E dl e q⟩
 | list ds =>
   cases dn with
   | lst sq dl=>exact⟨_,_,rfl,.inr (R.sub.seq sq),by rw[<- dl.length];exact(aBx e).symm,h _ _ σ H F L S env aI Q R E dl e q⟩
 | _=>cases e
noncomputable def aAH(t:Tg)(fa:FE):FS:=λ env S=>(fa env S).bind λ p=>match p.1 with
 | .d d=>(t.put d env).bind λ e=>qq (.nx e,p.2)
 | _=>qz
theorem aRy{K:FrG}{t:Tg}{g:TG}{fa:FE}(hg:GA K t g)(D:Ends)(σ:St)(H:Hp)(h:dG K (aAH t fa) D σ H):wK (aP K fa) g D σ H:=by
 obtain⟨F,L,S,env,fl,S',R,E,e,q⟩:=kQ h;obtain⟨⟨w,S1⟩,e1,e2⟩:=bind_some e;dsimp only at e2
 split at e2
 ·obtain⟨e',e3,e4⟩:=bind_some e2;cases e4;exact⟨F,L,S,env,_,_,R,E,e1,λ F1 L1 H1 v g1 R1 d1=>hg _ v σ H1 F1 L1 _ env e' _ R1 (E.mono g1) d1 e3 λ σ' E'=>q F1 L1 H1 g1 R1 σ' E'⟩
 ·cases e2
noncomputable def iP(S:aE):W->W->W->Option aE
 | .loc n,.d (.int k),.d x=>match S[n]? with
   | some (qq ds)=>(iF ds.length k).bind λ j=>qq (S.set n (qq (ds.set j x)))
   | _=>qz
 | _,_,_=>qz
noncomputable def jE(fo fi fe:FE):FS:=λ env S=>(fe env S).bind λ p=>(fo env p.2).bind λ q=>(fi env q.2).bind λ r=>(iP r.2 q.1 r.1 p.1).bind λ S'=>qq (.nx env,S')
theorem aMb{S S':aE}{o i x:W}(h:iP S o i x=qq S'):∃ n k d ds j,o=.loc n/\i=.d (.int k)/\x=.d d/\S[n]? = qq (qq ds)/\iF ds.length k=qq j/\S'=S.set n (qq (ds.set j d)):=by
 unfold iP at h
 split at h
 ·split at h
  ·rename_i ds e;obtain⟨j,e1,e2⟩:=bind_some h;cases e2;exact⟨_,_,_,ds,j,rfl,rfl,rfl,e,e1,rfl⟩
  ·cases h
 ·cases h
theorem aU5{K:FrG}{fo fi fe:FE}(D:Ends)(σ:St)(H:Hp)(h:dG K (jE fo fi fe) D σ H):wK (aP K fe) (aKs (aP K fo) (aP K fi) aJj) D σ H:=by
 obtain⟨F,L,S,env,fl,S',R,E,e,q⟩:=kQ h;obtain⟨⟨we,S1⟩,e1,e⟩:=bind_some e;obtain⟨⟨wo,S2⟩,e2,e⟩:=bind_some e;obtain⟨⟨wi,S3⟩,e3,e⟩:=bind_some e;obtain⟨S4,e4,e⟩:=bind_some e;cases e;obtain⟨n,k,d,ds,j,rfl,rfl,rfl,e5,e6,rfl⟩:=aMb e4;refine⟨F,L,S,env,_,S1,R,E,e1,λ F1 L1 H1 v g1 R1 d1=>⟨F1,L1,S1,env,_,S2,R1,E.mono g1,e2,λ F2 L2 H2 o g2 R2 d2=>⟨F2,L2,S2,env,_,S3,R2,E.mono (g1.trans g2),e3,λ F3 L3 H3 i g3 R3 d3=>?_⟩⟩⟩
 obtain⟨a,ea,rfl⟩:=d2.mono g3;obtain⟨fa,xs,ha,dl⟩:=R3.loc n a ds ea e5;have hi:i=.int k:=by cases (show Den K F3 (.int k) i from d3);rfl
 refine⟨a,xs,k,j,rfl,hi,ha,by rw[<- dl.length];exact e6,?_⟩
 exact q F3 L3 _ ((g1.trans g2).trans g3) (R3.put ea fa (dl.set j (show Den K F3 d v from d1.mono (g2.trans g3)))) σ (E.mono ((g1.trans g2).trans g3))
theorem aUk{o i e:qw}{fo fi fe:FE}{pos':Pos}(ho:PE X o (aP X.K fo))(hi:PE X i (aP X.K fi))(he:PE X e (aP X.K fe))(ha:∀ v,assign (.Subscript o i pos') X.env v=(do
 let ov <- holding [v] (eval o X.env)
 let iv <- holding [v,ov] (eval i X.env)
 standAt pos'
 holding [v,ov,iv] (setItem ov iv v)
 release [v,ov,iv] [])) (hs:swapsWithSole [.Subscript o i pos'] e pos.line X.env=pure false) (hw:yy [.Subscript o i pos'] e X.env=pure qz):PS X (.Assign [.Subscript o i pos'] e pos) (dG X.K (jE fo fi fe)):=
 PS.weak (aI5 he (aRo ho hi aOl ha) hs hw) aU5
noncomputable def dZ(S:aE):W->W->Option (W×aE)
 | .loc n,.d x=>match S[n]? with
   | some (qq ds)=>if ds.length<qy then qq (.d .none,S.set n (qq (ds++[x]))) else qz
   | _=>qz
 | _,_=>qz
theorem aGb{S S':aE}{o x w:W}(h:dZ S o x=qq (w,S')):∃ n d ds,o=.loc n/\x=.d d/\S[n]? = qq (qq ds)/\ds.length<qy/\w=.d .none/\S'=S.set n (qq (ds++[d])):=by
 unfold dZ at h
 split at h
 ·split at h
  ·rename_i ds e
   split at h
   ·rename_i hz;cases h;exact⟨_,_,ds,rfl,rfl,e,hz,rfl,rfl⟩
   ·cases h
  ·cases h
 ·cases h
noncomputable def iA(fo fe:FE):FE:=f2 fo fe dZ
theorem aTN{K:FrG}{fo fe:FE}(σ:St)(H:Hp)(Q:VK)(h:aP K (iA fo fe) σ H Q):tBM K "list" aHh (aP K fo) (fF K (cS fe gQ)) σ H Q:=by
 obtain⟨F,L,S,env,w,S',R,E,e,q⟩:=h;obtain⟨⟨wo,S1⟩,e1,e⟩:=bind_some e;obtain⟨⟨we,S2⟩,e2,e⟩:=bind_some e;obtain⟨n,d,ds,rfl,rfl,e5,hz,rfl,rfl⟩:=aGb e;refine⟨F,L,S,env,_,S1,R,E,e1,λ F1 L1 H1 o g1 R1 d1=>?_⟩
 obtain⟨a,ea,rfl⟩:=d1;refine⟨.inl ⟨rfl,?_⟩,F1,L1,S1,env,[.d d],S2,R1,E.mono g1,?_,λ F2 L2 H2 vs g2 R2 d2=>?_⟩
 ·obtain⟨xs,hx⟩:=R1.tr n a ea;exact⟨xs,bL.of hx⟩
 ·unfold cS;rw[e2];rfl
 ·cases d2 with
  | cons dd dr =>
    cases dr;have ea2:=g2.get ea;obtain⟨fa,xs,ha,dl⟩:=R2.loc n a ds ea2 e5;exact⟨a,xs,_,rfl,rfl,ha,by rw[<- dl.length];exact hz,q F2 L2 _ _ (g1.trans g2) (R2.put ea2 fa (dl.append (.cons dd .nil))) Den.non⟩
end
section
variable {X : Cx}{pos : Pos}
noncomputable def jI(fc:FT)(fb:FS):Nat->FS
 | 0=>λ _ _=>qz
 | n+1=>λ env S=>(fc env S).bind λ p=>if p.1=true then (fb env p.2).bind λ q=>(match q.1 with
    | .nx e=>jI fc fb n e q.2
    | .ct e=>jI fc fb n e q.2
    | .bk e=>qq (.nx e,q.2)
    | .rt w=>qq (.rt w,q.2)) else qq (.nx env,p.2)
theorem aWU{c:qw}{b:List xk}{fc:FT}{fb:FS}(n:Nat)(hp:PassesOwn (model X.prog X.w) X.A X.env X.xe)(hc:PT X c (eK X.K fc))(hb:dM X b (dG X.K fb)):PS X (.While c b [] pos) (dG X.K (jI fc fb n)):=
 PS.weak (aOe hp hc hb) λ D σ H h=>by
 obtain⟨F,L,S,env,fl,S',R,E,e,q⟩:=kQ h;refine⟨λ m σ1 H1=>∃ F1 L1 S1 env1,Gr F L F1 L1/\Rel X.K F1 L1 S1 H1/\EnvR X.K F1 L1 env1 σ1/\jI fc fb m env1 S1=qq (fl,S'),⟨n,F,L,S,env,Gr.refl,R,E,e⟩,?_⟩
 rintro m σ1 H1 ⟨F1,L1,S1,env1,g1,R1,E1,e1⟩;cases m with
 | zero=>cases e1
 | succ m =>
   obtain⟨⟨c,S2⟩,e2,e3⟩:=bind_some e1;refine⟨F1,L1,S1,env1,c,S2,R1,E1,e2,λ F2 L2 H2 g2 R2=>?_⟩
   dsimp only at e3;cases c with
   | false =>
     have e4:qq (Fl.nx env1,S2)=qq (fl,S'):=by simpa using e3
     cases e4;exact pY (q F2 L2 H2 (g1.trans g2) R2 σ1 (E1.mono g2))
   | true =>
     refine qE ⟨λ σ3 H3=>∃ F3 L3 S3 env3,Gr F L F3 L3/\Rel X.K F3 L3 S3 H3/\EnvR X.K F3 L3 env3 σ3/\jI fc fb m env3 S3=qq (fl,S'),λ σ3 H3 h3=>⟨m,yEu m,h3⟩,?_⟩
     rw[if_pos rfl] at e3;obtain⟨⟨f5,S5⟩,e5,e6⟩:=bind_some e3;refine kW R2 (E1.mono g2) e5 λ F3 L3 H3 g3 R3=>?_
     cases f5 with
     | nx e'=>exact λ σ3 E3=>⟨F3,L3,S5,e',(g1.trans g2).trans g3,R3,E3,e6⟩
     | ct e'=>exact λ σ3 E3=>⟨F3,L3,S5,e',(g1.trans g2).trans g3,R3,E3,e6⟩
     | bk e'=>cases e6;exact λ σ3 E3=>q F3 L3 H3 ((g1.trans g2).trans g3) R3 σ3 E3
     | rt w=>cases e6;exact λ v d=>q F3 L3 H3 ((g1.trans g2).trans g3) R3 v d
structure Wk(K:FrG)(F:Hp)(L:List qv)(J:It)(ds:List D):Prop where
 go:∀ (i:Nat) (H:Hp),bZ F H->i<ds.length->J.go i H
 stop:∀ (H:Hp),bZ F H->J.stop ds.length H
 yld:∀ (i:Nat) (H F1:Hp) (L1:List qv) (S:aE) (x:V) (H':Hp) (d:D),Gr F L F1 L1->Rel K F1 L1 S H->ds[i]? = qq d->J.yld i H x H'->∃ F2,bZ F1 F2/\Rel K F2 L1 S H'/\Den K F2 d x
def iV(K:FrG)(f:FL):TI:=λ σ H R=>∃ F L S env ds S',Rel K F L S H/\EnvR K F L env σ/\f env S=qq (ds,S')/\∀ F' L' H' J,Gr F L F' L'->Rel K F' L' S' H'->Wk K F' L' J ds->R J H'
theorem PI.weak{tg iter:qw}{t t':TI}(h:PI X tg iter t)(w:∀ σ H R,t' σ H R->t σ H R):PI X tg iter t':=λ aB s σ H R I q=>h aB s σ H R I (w σ H R q)
theorem aPz{K:FrG}{F:Hp}{L:List qv}{a:qv}{xs:List V}{ds:List D}(sq:bL K F a xs)(dl:DenL K F ds xs):Wk K F L (Itl K a) ds where
 go:=λ i H s hi=>⟨xs,xs[i]'(by rw[<- dl.length];exact hi),s.seq sq,by simp[dl.length▸hi]⟩
 stop:=λ H s=>⟨xs,s.seq sq,yFx dl.length.symm⟩
 yld:=λ i H F1 L1 S x H' d g R e y=>by
  obtain⟨e1,y⟩:=y;subst e1;have h:=y xs ((g.f.trans R.sub).seq sq);obtain⟨x',e2,dx⟩:=dl.get e;rw[h] at e2;cases e2;exact⟨F1,bZ.refl _,R,dx.mono g.f⟩
theorem aQ0{K:FrG}{F:Hp}{L:List qv}{a:qv}{xs:List V}{ds:List D}(sq:bQ K F a xs)(dl:DenL K F ds xs):Wk K F L (Itt K a) ds where
 go:=λ i H s hi=>⟨xs,xs[i]'(by rw[<- dl.length];exact hi),iM s sq,by simp[dl.length▸hi]⟩
 stop:=λ H s=>⟨xs,iM s sq,yFx dl.length.symm⟩
 yld:=λ i H F1 L1 S x H' d g R e y=>by
  obtain⟨e1,y⟩:=y;subst e1;have h:=y xs (iM (g.f.trans R.sub) sq);obtain⟨x',e2,dx⟩:=dl.get e;rw[h] at e2;cases e2;exact⟨F1,bZ.refl _,R,dx.mono g.f⟩
noncomputable def jZ(lo:Int):Nat->List D
 | 0=>[]
 | n+1=>.int lo::jZ (lo+1) n
theorem aBt(n:Nat):∀ lo:Int,(jZ lo n).length=n:=by
 induction n with
 | zero=>intro lo;rfl
 | succ n ih=>intro lo;simp[jZ,ih]
theorem aGq:∀ (n:Nat) (lo:Int) (i:Nat),i<n->(jZ lo n)[i]? = qq (.int (lo+i))
 | 0,_,_,h=>by omega
 | n+1,lo,0,_=>by simp[jZ]
 | n+1,lo,i+1,h=>by
   rw[jZ,yCi,aGq n (lo+1) i (by omega)]
   congr 2
   push_cast
   omega
theorem aGv{K:FrG}{F:Hp}{L:List qv}(lo:Int)(n:Nat):Wk K F L (xB lo n) (jZ lo n) where
 go:=λ i H s hi=>by rw[aBt] at hi;exact hi
 stop:=λ H s=>by rw[aBt];exact yAb _
 yld:=λ i H F1 L1 S x H' d g R e y=>by
  obtain⟨rfl,rfl⟩:=y;have hi:i<n:=by
   have:=(gIm e).1;rw[aBt] at this;exact this
  rw[aGq n lo i hi] at e;cases e;exact⟨F1,bZ.refl _,R,.int _⟩
noncomputable def aKq(fa:FE):FL:=λ env S=>(fa env S).bind λ p=>match p.1 with
 | .d (.list ds)=>qq (ds,p.2)
 | _=>qz
noncomputable def aKl(fa:FE):FL:=λ env S=>(fa env S).bind λ p=>match p.1 with
 | .d (.tuple ds)=>qq (ds,p.2)
 | _=>qz
theorem aUh{tg a:qw}{fa:FE}(ha:PE X a (aP X.K fa)):PI X tg a (iV X.K (aKq fa)):=PI.weak (aOS ha) λ σ H Rr aO=>by
 obtain⟨F,L,S,env,ds,S',R,E,e,q⟩:=aO;obtain⟨⟨w,S1⟩,e1,e2⟩:=bind_some e;dsimp only at e2
 split at e2
 ·cases e2;refine⟨F,L,S,env,_,_,R,E,e1,λ F1 L1 H1 v g1 R1 d1=>?_⟩
  cases (show Den X.K F1 (.list ds) v from d1) with
  | lst sq dl=>exact⟨_,rfl,⟨_,R1.sub.seq sq⟩,q F1 L1 H1 _ g1 R1 (aPz sq dl)⟩
 ·cases e2
theorem aTJ{tg a:qw}{fa:FE}(ha:PE X a (aP X.K fa)):PI X tg a (iV X.K (aKl fa)):=PI.weak (aRf ha) λ σ H Rr aO=>by
 obtain⟨F,L,S,env,ds,S',R,E,e,q⟩:=aO;obtain⟨⟨w,S1⟩,e1,e2⟩:=bind_some e;dsimp only at e2
 split at e2
 ·cases e2;refine⟨F,L,S,env,_,_,R,E,e1,λ F1 L1 H1 v g1 R1 d1=>?_⟩
  cases (show Den X.K F1 (.tuple ds) v from d1) with
  | tup sq dl=>exact⟨_,rfl,⟨_,iM R1.sub sq⟩,q F1 L1 H1 _ g1 R1 (aQ0 sq dl)⟩
 ·cases e2
noncomputable def vF(fa:FE):FL:=λ env S=>(fa env S).bind λ p=>match p.1 with
 | .d (.int j)=>if -(2^62)<=j/\j<2^62 then qq (jZ 0 j.toNat,p.2) else qz
 | _=>qz
noncomputable def vC(fa fb:FE):FL:=λ env S=>(fa env S).bind λ p=>(fb env p.2).bind λ q=>match p.1,q.1 with
 | .d (.int i),.d (.int j)=>if (-(2^62)<=i/\i<2^62 /\ -(2^62)<=j/\j<2^62) then qq (jZ i (j-i).toNat,q.2) else qz
 | _,_=>qz
theorem aS0{K:FrG}{fa:FE}(σ:St)(H:Hp)(Rr:It->Hp->Prop)(h:iV K (vF fa) σ H Rr):aJN (fF K (cS fa gQ)) σ H Rr:=by
 obtain⟨F,L,S,env,ds,S',R,E,e,q⟩:=h;obtain⟨⟨w,S1⟩,e1,e2⟩:=bind_some e;dsimp only at e2
 split at e2
 ·split at e2
  ·rename_i j c;cases e2;refine⟨F,L,S,env,[.d (.int j)],_,R,E,by unfold cS;rw[e1];rfl,λ F1 L1 H1 vs g1 R1 d1=>?_⟩
   cases d1 with
   | cons dd dr =>
     cases dr;cases (show Den K F1 (.int j) _ from dd)
     exact⟨j,rfl,c.1,c.2,q F1 L1 H1 _ g1 R1 (aGv 0 j.toNat)⟩
  ·cases e2
 ·cases e2
theorem aSt{K:FrG}{fa fb:FE}(σ:St)(H:Hp)(Rr:It->Hp->Prop)(h:iV K (vC fa fb) σ H Rr):aJk (fF K (cS fa (cS fb gQ))) σ H Rr:=by
 obtain⟨F,L,S,env,ds,S',R,E,e,q⟩:=h;obtain⟨⟨w,S1⟩,e1,e2⟩:=bind_some e;obtain⟨⟨w2,S2⟩,e3,e4⟩:=bind_some e2;dsimp only at e4
 split at e4
 ·split at e4
  ·rename_i i j _ _ c;cases e4;refine⟨F,L,S,env,[.d (.int _),.d (.int _)],_,R,E,by unfold cS;rw[e1];dsimp only[yCr];rw[e3];rfl,λ F1 L1 H1 vs g1 R1 d1=>?_⟩
   cases d1 with
   | cons dd dr =>
     cases dr with
     | cons dd2 dr =>
       cases dr;cases (show Den K F1 (.int _) _ from dd)
       cases (show Den K F1 (.int _) _ from dd2)
       exact⟨_,_,rfl,c,q F1 L1 H1 _ g1 R1 (aGv _ _)⟩
  ·cases e4
 ·cases e4
noncomputable def eZ(t:Tg)(fb:FS):List D->FS
 | []=>λ env S=>qq (.nx env,S)
 | d::ds=>λ env S=>(t.put d env).bind λ e1=>(fb e1 S).bind λ q=>(match q.1 with
    | .nx e=>eZ t fb ds e q.2
    | .ct e=>eZ t fb ds e q.2
    | .bk e=>qq (.nx e,q.2)
    | .rt w=>qq (.rt w,q.2))
noncomputable def dQ(t:Tg)(fi:FL)(fb:FS):FS:=λ env S=>(fi env S).bind λ p=>eZ t fb p.1 env p.2
theorem aVm{tg iter:qw}{b:List xk}{t:Tg}{g:TG}{fi:FL}{fb:FS}(hp:PassesOwn (model X.prog X.w) X.A X.env X.xe)(hc:X.calm=true)(hi:PI X tg iter (iV X.K fi))(hg:PG X tg g)(ga:GA X.K t g)(hb:dM X b (dG X.K fb))
 (hs:∀ x,jv iter X.env x=pure x):PS X (.For tg iter b [] pos) (dG X.K (dQ t fi fb)):=PS.weak (aQM hp hc hi hg hb hs) λ D σ H h=>by
 obtain⟨F,L,S,env,fl,S',R,E,e,q⟩:=kQ h;obtain⟨⟨ds,S1⟩,e1,e2⟩:=bind_some e;refine⟨F,L,S,env,ds,S1,R,E,e1,λ F0 L0 H0 J g0 R0 wk=>?_⟩
 dsimp only at e2;refine⟨λ i m σ1 H1=>i+m=ds.length/\∃ F1 L1 S1 env1,Gr F0 L0 F1 L1/\Rel X.K F1 L1 S1 H1/\EnvR X.K F1 L1 env1 σ1/\eZ t fb (ds.drop i) env1 S1=qq (fl,S'),
  ⟨ds.length,yEb _,F0,L0,S1,env,Gr.refl,R0,E.mono g0,by rw[yEh];exact e2⟩,?_⟩
 rintro i m σ1 H1 ⟨him,F1,L1,S1',env1,g1,R1,E1,e3⟩;cases m with
 | zero =>
   have hi:i=ds.length:=by omega
   subst hi;rw[yGb] at e3;cases e3;exact .inl ⟨wk.stop H1 (g1.f.trans R1.sub),q F1 L1 H1 (g0.trans g1) R1 σ1 E1⟩
 | succ m =>
   have hi:i<ds.length:=by omega
   refine .inr ⟨wk.go i H1 (g1.f.trans R1.sub) hi,λ σ3 H3=>∃ F3 L3 S3 env3,Gr F0 L0 F3 L3/\Rel X.K F3 L3 S3 H3/\EnvR X.K F3 L3 env3 σ3/\eZ t fb (ds.drop (i+1)) env3 S3=qq (fl,S'),
    λ σ3 H3 h3=>⟨m,yEu m,by omega,h3⟩,λ x H2 y=>?_⟩
   rw[yCa hi] at e3;obtain⟨env2,e4,e5⟩:=bind_some e3;obtain⟨⟨f6,S6⟩,e6,e7⟩:=bind_some e5;obtain⟨F2,s2,R2,d2⟩:=wk.yld i H1 F1 L1 S1' x H2 ds[i] g1 R1 (yAa hi) y;have g2:Gr F1 L1 F2 L1:=⟨s2,[],by simp⟩
   refine ga ds[i] x σ1 H2 F2 L1 S1' env1 env2 _ R2 (E1.mono g2) d2 e4 λ σ2 E2=>?_
   refine kW R2 E2 e6 λ F3 L3 H3 g3 R3=>?_
   have g03:=(g1.trans g2).trans g3;cases f6 with
   | nx e'=>exact λ σ3 E3=>⟨F3,L3,S6,e',g03,R3,E3,e7⟩
   | ct e'=>exact λ σ3 E3=>⟨F3,L3,S6,e',g03,R3,E3,e7⟩
   | bk e'=>cases e7;exact λ σ3 E3=>q F3 L3 H3 (g0.trans g03) R3 σ3 E3
   | rt w=>cases e7;exact λ v d=>q F3 L3 H3 (g0.trans g03) R3 v d
noncomputable def jV(k:Nat)(S:aE):W->Option (W×aE)
 | .d x=>qq (.d x,S.take k)
 | .loc m=>if m<k then qq (.loc m,S.take k) else match S[m]? with
   | some (qq ds)=>qq (.d (.list ds),S.take k)
   | _=>qz
noncomputable def gE(fb:FS)(n:Nat)(ws:List W)(S:aE):Option (W×aE):=(fb (ws.map qq++yAc (n-ws.length) qz) S).bind λ p=>match p.1 with
 | .rt w=>jV S.length p.2 w
 | .nx _=>qq (.d .none,p.2.take S.length)
 | _=>qz
theorem aL2{K:FrG}{F:Hp}{L:List qv}{N:List Str}:∀ {ws:List W}{vs:List V},WDenL K F L ws vs->EnvR K F L (ws.map qq++yAc (N.length-ws.length) qz) (L2.start N vs):=by
 intro ws vs h;unfold L2.start;rw[h.length];generalize N.length-vs.length=k;refine⟨by simp[h.length],?_⟩
 induction h with
 | nil =>
   intro i w e;have:=xAl e;simp at this
 | cons hd tl ih =>
   intro i w e;cases i with
   | zero=>simp at e;subst e;exact⟨_,rfl,hd⟩
   | succ i =>
     obtain⟨v,e1,d⟩:=ih i w (by simpa using e)
     exact⟨v,by simpa using e1,d⟩
theorem aIt{K:FrG}{F F1 H1:Hp}{L L1:List qv}{S S1:aE}{w w':W}{S':aE}{v:V}{Q:VK}(R:L.length=S.length)(g:Gr F L F1 L1)(R1:Rel K F1 L1 S1 H1)(d:eD K F1 L1 w v)(e:jV S.length S1 w=qq (w',S'))(q:sH K F L S' w' Q):Q v H1:=by
 obtain⟨sf,M,rfl⟩:=g;cases w with
 | d x =>
   cases e;have R2:=R1.cut;rw[R] at R2;exact q F1 L H1 v ⟨sf,[],by simp⟩ R2 d
 | loc m =>
   have e':(if m<S.length then qq (W.loc m,S1.take S.length) else match S1[m]? with | some (qq ds)=>qq (W.d (.list ds),S1.take S.length) | _=>qz)=qq (w',S'):=e
   split at e'
   ·rename_i hm;cases e';have R2:=R1.cut;rw[R] at R2;obtain⟨a,ea,rfl⟩:=d;rw[xAn (by rw[R];exact hm)] at ea
    exact q F1 L H1 _ ⟨sf,[],by simp⟩ R2 ⟨a,ea,rfl⟩
   ·rename_i hm
    split at e'
    ·rename_i ds es;cases e';obtain⟨a,ea,rfl⟩:=d;obtain⟨F2,g2,R2,d2⟩:=R1.freeze ea es;have R3:=R2.cut;rw[R,List.take_set,yDs (by rw[yBv];omega)] at R3
     exact q F2 L H1 _ ⟨sf.trans g2.f,[],by simp⟩ R3 d2
    ·cases e'
theorem aRD{K:FrG}{fb:FS}{N:List Str}{np:Nat}{vs:List V}{H:Hp}{Q:VK}{E:XK}(h:sY K np (gE fb N.length) vs H Q E):dG K fb {nx:=λ _ H'=>Q .non H',rt:=Q } (L2.start N vs) H:=by
 obtain⟨F,L,S,ws,w,S',hn,R,dl,e,q⟩:=h;obtain⟨⟨fl,S1⟩,e1,e2⟩:=bind_some e;refine kW R (aL2 dl) e1 λ F1 L1 H1 g1 R1=>?_
 cases fl with
 | nx aI =>
   cases e2;exact λ σ' E'=>aIt (w:=.d .none) R.len g1 R1 Den.non rfl q
 | rt w'=>exact λ v d=>aIt R.len g1 R1 d e2 q
 | bk aI=>cases e2
 | ct aI=>cases e2
end
theorem aEQ{α β:Type}{f:α->β->Sem (ForInStep β)}{g:α->β->β}:∀ (l:List α) (c:β),(∀ x∈l,∀ c,f x c=pure (ForInStep.yield (g x c)))->forIn l c f=pure (l.foldl (λ c x=>g x c) c)
 | [],c,_=>rfl
 | x::l,c,h=>by
   rw[yFi,h x xAd c,pure_bind];exact aEQ l (g x c) λ y hy=>h y (xAg _ hy)
noncomputable def jP(env:Env)(x:Str×vq)(cs:List (Str×qv)):List (Str×qv):=if (x.2==NameKind.free)=true then (x.1,(env.cells.lookup x.1).getD 0)::cs else cs
noncomputable def wS(scope:zw)(env:Env):List (Str×qv):=scope.names.foldl (λ c x=>jP env x c) []
theorem aL5{scope:zw}{env:Env}(h:∀ x∈scope.names,x.2=.free->∃ c,env.cells.lookup x.1=qq c):closureFor scope env=pure (wS scope env):=by
 unfold closureFor wS;dsimp only;rw[aEQ (g:=jP env) scope.names [] (λ x hx c=>?_)]
 ·rfl
 ·obtain⟨n,k⟩:=x;unfold jP;dsimp only
  by_cases hk:k=.free
  ·obtain⟨a,ha⟩:=h (n,k) hx hk;rw[if_pos (by simp[hk]),if_pos (by simp[hk])]
   have:cellOf env n=pure a:=by unfold cellOf;rw[ha]
   rw[this,pure_bind,ha];rfl
  ·rw[if_neg (by simp[hk]),if_neg (by simp[hk])]
theorem aGF{env:Env}:∀ (l:List (Str×vq)) (aF:List (Str×qv)),(∀ x∈l,x.2=.free->∃ c,env.cells.lookup x.1=qq c)->(∀ x c,aF.lookup x=qq c->env.cells.lookup x=qq c) ->
 ∀ x c,(l.foldl (λ c x=>jP env x c) aF).lookup x=qq c->env.cells.lookup x=qq c
 | [],aF,_,ha,x,c,e=>ha x c e
 | y::l,aF,h,ha,x,c,e=>by
   refine aGF l (jP env y aF) (λ z hz=>h z (xAg _ hz)) (λ z d ez=>?_) x c e
   unfold jP at ez
   split at ez
   ·rename_i hk;obtain⟨a,hy⟩:=h y xAd (by simpa using hk)
    rw[yCd] at ez
    split at ez
    ·rename_i hz;cases ez;have:z=y.1:=by simpa using hz
     rw[this,hy];rfl
    ·exact ha z d ez
   ·exact ha z d ez
theorem aDc{env:Env}:∀ (l:List (Str×vq)) (aF:List (Str×qv)) (x:Str),((∃ k,(x,k)∈l/\k=.free)\/∃ c,aF.lookup x=qq c)->∃ c,(l.foldl (λ c x=>jP env x c) aF).lookup x=qq c
 | [],aF,x,h=>by
   rcases h with ⟨k,hk,_⟩ | h
   ·simp at hk
   ·exact h
 | y::l,aF,x,h=>by
   refine aDc l (jP env y aF) x ?_;have step:(∃ c,aF.lookup x=qq c)->∃ c,(jP env y aF).lookup x=qq c:=λ aO=>by
    obtain⟨c,e⟩:=aO;unfold jP
    split
    ·rw[yCd]
     split
     ·exact⟨_,rfl⟩
     ·exact⟨c,e⟩
    ·exact⟨c,e⟩
   rcases h with ⟨k,hk,e⟩ | h
   ·rcases List.mem_cons.mp hk with z | z
    ·right
     subst z e;unfold jP;rw[if_pos (by simp)]
     exact⟨(env.cells.lookup x).getD 0,by rw[yCd];simp⟩
    ·exact .inl ⟨k,z,e⟩
   ·exact .inr (step h)
theorem aFa{x:Str}(h:Str->vq->vq):∀ l:List (Str×vq),(l.map λ p=>(p.1,h p.1 p.2)).lookup x=(l.lookup x).map (h x)
 | []=>rfl
 | (n,k)::r=>by
   have ih:=aFa (x:=x) h r;rw[yAs,yCd,yCd];cases hx:x==n with
   | true =>
     have e:x=n:=by simpa using hx
     subst e;rfl
   | false=>exact ih
theorem aLk{env:Env}{x:Str}(names:List (Str×vq)) :
 (names.map λ(n,k)=>if (k==NameKind.free&&env.scope.kind==.function&&env.kindOf n==qq .cell) then (n,NameKind.cell) else (n,k)).lookup x =
   (names.lookup x).map λ k=>if (k==NameKind.free&&env.scope.kind==.function&&env.kindOf x==qq .cell) then NameKind.cell else k:=by
 have e:(λ(p:Str×vq)=>match p with | (n,k)=>if (k==NameKind.free&&env.scope.kind==.function&&env.kindOf n==qq .cell)=true then (n,NameKind.cell) else (n,k)) =
  λ p=>(p.1,if (p.2==NameKind.free&&env.scope.kind==.function&&env.kindOf p.1==qq .cell)=true then NameKind.cell else p.2):=funext λ aO=>by
  obtain⟨n,k⟩:=aO;dsimp only
  split<;>rfl
 rw[e];exact aFa (λ n k=>if (k==NameKind.free&&env.scope.kind==.function&&env.kindOf n==qq .cell)=true then NameKind.cell else k) names
section
variable {prog : qu}{w : zx}{A : zv}{R : Result -> qj -> Prop}{s : qj}
theorem aLB{elt target iter:qw}{ifs:List qw}{scope:zw}{pos:Pos}{it aF:qx}{env:Env}(I:Nat->qj->Prop)
 (turn:∀ n s,I n s->qk (model prog w) A (vx it) (λ r s₁=>match r with
   | none=>R (.ok .next) s₁
   | some v=>qk (model prog w) A (wu target it v) (λ _ s₀=>qk (model prog w) A (assign target env v) (λ _ s₂ =>
      qk (model prog w) A (forIn ifs true λ c r=>if r=true then do let ok <- isTrue c env (eval c env);pure (ForInStep.yield ok) else pure (ForInStep.yield r)) (λ ok s₃ =>
       if ok=true then qk (model prog w) A (eval elt env) (λ x s₄ =>
        qk (model prog w) A (call (.builtin "list.append") [aF,x]) (λ _ s₅=>∃ m,m<n/\I m s₅) (λ _ _=>False) s₄) (λ _ _=>False) s₃
       else ∃ m,m<n/\I m s₃) (λ _ _=>False) s₂) (λ _ _=>False) s₀) (λ _ _=>False) s₁) (λ _ _=>False) s)
 (n:Nat) (h:I n s):vj (model prog w) A (.compLoop (.ListComp elt [⟨target,iter,ifs,0⟩] scope pos) 0 it aF env) R s:=by
 have up:∀ {α:Type}{t:Sem α}{Q Q':α->qj->Prop}{E:qx->qj->Prop}{s:qj},qk (model prog w) A t Q (λ _ _=>False) s->(∀ a s,Q a s->Q' a s)->qk (model prog w) A t Q' E s:=
  λ h hq=>wpAny_mono h hq λ _ _ f=>f.elim
 refine codeAny_loop rfl I (λ n s hI=>?_) n h
 show qk _ A ((compTurn (.ListComp elt [⟨target,iter,ifs,0⟩] scope pos) 0 it aF env).onRaise (λ x=>do noteFrame x env;theTreesLotGoes x)) _ _ s
 refine wpAny_noted ?_;rw[compTurn_list];refine wB (yu (wB (up (turn n s hI) λ r s₁ h₁=>?_)))
 cases r with
 | none=>exact wP h₁
 | some v =>
   refine wB (up h₁ λ _ s₀ h₀=>?_)
   refine wB (up h₀ λ _ s₂ h₂=>wB (up h₂ λ ok s₃ h₃=>?_))
   cases ok with
   | false=>exact wP ⟨rfl,h₃⟩
   | true =>
     exact wB (wB (up h₃ λ x s₄ h₄=>wB (up h₄ λ _ s₅ h₅=>wP (wP ⟨rfl,h₅⟩))))
end
noncomputable def kC(X:Cx)(aB:List (qv×Obj))(fp:List qv)(scope:zw)(C:qv)(s₀:qj)(H₀:Hp):Cx:=
 {X with s₀:=s₀,H₀:=H₀,env:=compEnvC scope (wS scope X.env) C X.env,outer:=X.stack,stack:=X.stack,ex:=fp,fn:=λ _=>false,pn:=X.pn++aB,xe:=λ _ _=>False }
def jS(X:Cx)(scope:zw)(Y:Cx):Prop:=∃ aB fp C s₀ H₀,Y=kC X aB fp scope C s₀ H₀
structure ScOk(scope osc:zw):Prop where
 kind:scope.kind=.function
 nocell:∀ x∈scope.names,x.2≠.cell
 free:∀ x∈scope.names,x.2=.free->osc.names.lookup x.1=qq .cell\/osc.names.lookup x.1=qq .free
 loc:∀ x∈scope.names,x.2=.local->scope.names.lookup x.1=qq .local
theorem mem_of_lookup{α:Type}{x:Str}{k:α}:∀ {l:List (Str×α)},l.lookup x=qq k->(x,k)∈l
 | [],h=>by simp at h
 | (n,j)::r,h=>by
   rw[yCd] at h
   split at h
   ·rename_i hx;cases h;have:x=n:=by simpa using hx
    subst this;exact xAd
   ·exact xAg _ (mem_of_lookup h)
section
variable {X : Cx}{aB : List (qv×Obj)}{σ : L2.St}{H : Hp}{s : qj}{scope : zw}{fp : List qv}
theorem aFP{C:qv}{s₀:qj}{H₀:Hp}{x:Str}:(kC X aB fp scope C s₀ H₀).env.kindOf x=(scope.names.lookup x).map λ k=>if (k==NameKind.free&&X.env.scope.kind==.function&&X.env.kindOf x==qq .cell) then NameKind.cell else k:=
 aLk scope.names
theorem aFS(ok:ScOk scope X.env.scope){C:qv}{s₀:qj}{H₀:Hp}{x:Str}(h:(kC X aB fp scope C s₀ H₀).env.kindOf x=qq .cell\/(kC X aB fp scope C s₀ H₀).env.kindOf x=qq .free):scope.names.lookup x=qq .free:=by
 rw[aFP] at h;cases e:scope.names.lookup x with
 | none=>rw[e] at h;simp at h
 | some k =>
   rw[e] at h;have nc:=ok.nocell (x,k) (mem_of_lookup e);cases k with
   | free=>rfl
   | cell=>exact absurd rfl nc
   | «local» => simp at h
   | globalExplicit=>simp at h
   | globalImplicit=>simp at h
theorem aHA(I:Inv X aB σ H s)(hfp:∀ b∈fp,gF X aB H b):∀ b∈fp,b ∉ iE X.stack:=λ b hb z=>by
 rcases List.mem_cons.mp (I.stkSub b z) with q | q
 ·exact(hfp b hb).2.1 q
 ·exact(hfp b hb).2.2.1 q
theorem aFR(I:Inv X aB σ H s)(ok:ScOk scope X.env.scope):∀ x∈scope.names,x.2=.free->∃ c,X.env.cells.lookup x.1=qq c:=λ x hx e=>by
 rcases ok.free x hx e with q | q
 ·exact I.ok.has x.1 (.inl q)
 ·exact I.ok.has x.1 (.inr q)
theorem pK(I:Inv X aB σ H s)(ok:ScOk scope X.env.scope){x:Str}{c:qv}(h:(wS scope X.env).lookup x=qq c):X.env.cells.lookup x=qq c:=
 aGF scope.names [] (aFR I ok) (λ x c e=>by simp at e) x c h
theorem aPZ(I:Inv X aB σ H s)(ok:ScOk scope X.env.scope)(hfp:∀ b∈fp,gF X aB H b)(hth:∀ b∈fp,b<s.heap.objs.size){C:qv}(hC:s.heap.objs.size<=C):(kC X aB fp scope C s H).Ok where
 mod:=I.ok.mod
 kind:=ok.kind
 glob:=I.ok.glob
 blt:=I.ok.blt
 above:=hC
 inj:=λ x y c h1 h2=>I.ok.inj x y c (pK I ok h1) (pK I ok h2)
 has:=λ x h=>aDc scope.names [] x (.inl ⟨.free,mem_of_lookup (aFS ok h),rfl⟩)
 cab:=λ x c h _=>nomatch h
 hd:=I.ok.hd
 frames:=I.ok.frames
 stk:=.inl rfl
 exf:=λ b hb=>⟨λ z=>absurd (xAc (hth b hb) hC) (by have z':b=C:=z;rw[z'];exact yCc _),λ x c h=>(hfp b hb).2.2.2.2.1 x c (pK I ok h)⟩
 bs:=I.bs
 bsz:=xAi I.ok.bsz I.sz
 noex:=λ b o e hb=>by
  rcases (hfp b hb).2.2.2.1 with z | z
  ·exact I.ok.noex b o e z
  ·exact absurd (xAc (xAa e) (xAi I.ok.bsz z)) (yCc _)
 exfs:=λ b hb=>aHA I hfp b hb
 funs:=I.stack
 frf:=I.stkFree
end
noncomputable def clr{α:Type}(is:List Nat)(l:List (Option α)):List (Option α):=is.foldl (λ e i=>e.set i qz) l
theorem yB{α:Type}:∀ (is:List Nat) (l:List (Option α)),(clr is l).length=l.length
 | [],_=>rfl
 | i::is,l=>by
   show(clr is (l.set i qz)).length=_;rw[yB is,yBh]
theorem zV{α:Type}:∀ (is:List Nat) (l:List (Option α)) (j:Nat) (v:α),(clr is l)[j]? = qq (qq v)->l[j]? = qq (qq v)/\j ∉ is
 | [],_,_,_,h=>⟨h,by simp⟩
 | i::is,l,j,v,h=>by
   obtain⟨h1,h2⟩:=zV is (l.set i qz) j v h
   by_cases hj:i=j
   ·subst hj;rcases Nat.lt_or_ge i l.length with q | q
    ·rw[yBc q] at h1;cases h1
    ·rw[yEk (by rw[yBh];exact q)] at h1;cases h1
   ·rw[yBg hj] at h1;exact⟨h1,λ z=>(List.mem_cons.mp z).elim (λ e=>hj e.symm) h2⟩
theorem aGt{α:Type}:∀ (is:List Nat) (l:List (Option α)) (j:Nat),j ∉ is->(clr is l)[j]? = l[j]?
 | [],_,_,_=>rfl
 | i::is,l,j,h=>by
   show(clr is (l.set i qz))[j]? = _;rw[aGt is _ j (λ z=>h (xAg _ z)),yBg (λ z=>h (by rw[z];exact xAd))]
noncomputable def Tg.slots:Tg->List Nat
 | .one i=>[i]
 | .many is=>is
theorem EnvR.clr{K:FrG}{F:Hp}{L:List qv}{env:aZ}{σ:St}(h:EnvR K F L env σ)(is:List Nat):EnvR K F L (EV.clr is env) (EV.clr is σ):=
 ⟨by rw[yB,yB];exact h.len,λ j w e=>by
  obtain⟨e1,hj⟩:=zV is env j w e;obtain⟨v,e2,d⟩:=h.get j w e1;exact⟨v,by rw[aGt is σ j hj];exact e2,d⟩⟩
theorem aBr:∀ {is:List Nat}{ds:List D}{env aI:aZ}{j:Nat},nW is ds env=qq aI->j ∉ is->aI[j]? = env[j]?
 | [],[],_,_,_,e,_=>by cases e;rfl
 | i::is,d::ds,env,aI,j,e,h=>by
   rw[aBr (is:=is) (ds:=ds) e (λ z=>h (xAg _ z)),yBg (λ z=>h (by rw[z];exact xAd))]
 | [],_::_,_,_,_,e,_=>by cases e
 | _::_,[],_,_,_,e,_=>by cases e
theorem Tg.put_keep{t:Tg}{d:D}{env aI:aZ}{j:Nat}(e:t.put d env=qq aI)(h:j ∉ t.slots):aI[j]? = env[j]?:=by
 cases t with
 | one i=>cases e;exact yBg (λ z=>h (by rw[z];exact xAd))
 | many is =>
   cases d with
   | tuple ds=>exact aBr e h
   | list ds=>exact aBr e h
   | _=>cases e
theorem aBo:∀ {is:List Nat}{ds:List D}{env aI:aZ},nW is ds env=qq aI->aI.length=env.length
 | [],[],_,_,e=>by cases e;rfl
 | i::is,d::ds,env,aI,e=>by rw[aBo (is:=is) (ds:=ds) e,yBh]
 | [],_::_,_,_,e=>by cases e
 | _::_,[],_,_,e=>by cases e
theorem Tg.put_length{t:Tg}{d:D}{env aI:aZ}(e:t.put d env=qq aI):aI.length=env.length:=by
 cases t with
 | one i=>cases e;exact yBh
 | many is =>
   cases d with
   | tuple ds=>exact aBo e
   | list ds=>exact aBo e
   | _=>cases e
theorem EnvR.back{K:FrG}{F:Hp}{L:List qv}{env aI:aZ}{σ:St}{t:Tg}{d:D}(e:t.put d (EV.clr t.slots env)=qq aI)(h:EnvR K F L aI σ):EnvR K F L (EV.clr t.slots env) σ:=
 ⟨by rw[<- h.len,Tg.put_length e],λ j w q=>by
  obtain⟨_,hj⟩:=zV t.slots env j w q;exact h.get j w (by rw[Tg.put_keep e hj];exact q)⟩
noncomputable def hJ(t:Tg)(fc:FT)(fe:FE)(n:Nat)(env:aZ):List D->aE->Option aE
 | [],S=>qq S
 | d::ds,S=>(t.put d env).bind λ e1=>(fc e1 S).bind λ c=>if c.1=true then (fe e1 c.2).bind λ p=>(dZ p.2 (.loc n) p.1).bind λ r=>hJ t fc fe n env ds r.2 else hJ t fc fe n env ds c.2
noncomputable def hU(t:Tg)(fi:FL)(fc:FT)(fe:FE):FL:=λ env S=>(fi env S).bind λ p=>(hJ t fc fe p.2.length (clr t.slots env) p.1 (p.2++[qq []])).bind λ S'=>match S'[p.2.length]? with
 | some (qq zs)=>qq (zs,S'.take p.2.length)
 | _=>qz
def lW(Y:Cx)(ifs:List qw)(fc:FT):Prop:=∀ (aB:List (qv×Obj)) (s:qj) (σ:St) (H:Hp) (Q:Bool->Hp->Prop),Inv Y aB σ H s->eK Y.K fc σ H Q ->
 qk (model Y.prog Y.w) Y.A (forIn ifs true λ c r=>if r=true then do let ok <- isTrue c Y.env (eval c Y.env);pure (ForInStep.yield ok) else pure (ForInStep.yield r)) (TP Y aB σ Q) Y.xe s
noncomputable def oK:FT:=λ _ S=>qq (true,S)
theorem aF8{Y:Cx}:lW Y [] oK:=λ aB s σ H Q I aO=>by
 obtain⟨F,L,S,env,b,S',R,E,e,q⟩:=aO;cases e;exact wpAny_tests_nil ⟨H,I,q F L H Gr.refl R⟩
theorem aF1{Y:Cx}{c:qw}{fc:FT}(h:PT Y c (eK Y.K fc)):lW Y [c] fc:=λ aB s σ H Q I q=>wpAny_tests_one (h aB s σ H Q I q)
def aDt(N:List Str)(scope:zw)(is:List Nat):Prop:=∀ (i:Nat) (x:Str),N[i]? = qq x->scope.names.lookup x=qq .local->i∈is
section
variable {X : Cx}{scope : zw}{tg iter elt : qw}{ifs : List qw}{pos : Pos}{t : Tg}{g : TG}{fi : FL}{fc : FT}{fe : FE}
theorem aF3(use:Option (qx->Sem Unit))(hc:X.calm=true)(ok:ScOk scope X.env.scope)(own:aDt X.N scope t.slots)(hi:PI X tg iter (iV X.K fi))(hg:∀ Y,jS X scope Y->PG Y tg g)(ga:GA X.K t g)
 (ht:∀ Y,jS X scope Y->lW Y ifs fc) (he:∀ Y,jS X scope Y->PE Y elt (aP X.K fe)) (hs:∀ x,jv iter X.env x=pure x)
 {aB:List (qv×Obj)}{s:qj}{σ:St}{H:Hp}{Q:VK}{QQ:qx->qj->Prop}{pp:Pos} (I:Inv X aB σ H s) (h:iG X.K (hU t fi fc fe) σ H Q)
 (hend:∀ (p C:qv) (s1:qj) (H':Hp),gF X aB H' C->(∃ m,s1.heap.Ns C m)->(∀ h',yDx C s1.heap h'->Inv X aB σ H' {s1 with heap:=h' })->Q (.ref p) H' ->
   compPost (model X.prog X.w) X.A X.xe use QQ (.ref p) C (.ok .next) s1) :
 qk (model X.prog X.w) X.A (comprehension (.ListComp elt [⟨tg,iter,ifs,0⟩] scope pos) scope X.env pp (newList []) false (eval iter X.env) use) QQ X.xe s:=by
 obtain⟨F,L,S,env,zs,S',R,E,e,q⟩:=h;obtain⟨⟨ds,S1⟩,e1,e⟩:=bind_some e;obtain⟨S2,e2,e⟩:=bind_some e;dsimp only at e e2;have hz:S2[S1.length]? = qq (qq zs)/\S'=S2.take S1.length:=by
  split at e
  ·rename_i z ez;cases e;exact⟨ez,rfl⟩
  ·cases e
 obtain⟨hz,rfl⟩:=hz;refine wpAny_comprehension_free (use:=use) rfl hs (aL5 (aFR I ok)) ok.kind ok.loc ?_;refine bC (hi aB s σ H (λ J H'=>∃ F' L',Gr F L F' L'/\Rel X.K F' L' S1 H'/\Wk X.K F' L' J ds) I ⟨F,L,S,env,ds,S1,R,E,e1,λ F' L' H' J g R' wk=>⟨F',L',g,R',wk⟩⟩) λ v s1 h1=>bC h1 λ itv s2 h2=>?_
 obtain⟨it,fp,tn,J,H2,rfl,I2,T,st2,f2,F1,L1,g1,R1,wk⟩:=h2;refine xw (wpAny_newFunctionEnv ok.nocell (by intro y hy;simp at hy) (λ h₁ hns₁ hsb₁=>?_) ok.kind)
 dsimp only at hns₁ hsb₁ ⊢;have I3:Inv X aB σ (bE H2 s2.heap.objs.size (.lst [])) {s2 with heap:=s2.heap.push {cls:=.type "list",dict:=qz,data:=.seq ([]:List qx).toArray } }:=I2.lnew (aG:=[]) (t':=s2.toks) .nil (yEy _)
 generalize hs3:({s2 with heap:=s2.heap.push {cls:=.type "list",dict:=qz,data:=.seq ([]:List qx).toArray } }:qj)=s3 at I3
 have hh3:s2.heap.push {cls:=.type "list",dict:=qz,data:=.seq ([]:List qx).toArray }=s3.heap:=by rw[<- hs3]
 generalize hD:s2.heap.objs.size=Dd at I3;generalize hH3:bE H2 Dd (.lst [])=H3 at I3;have hfr2:H2 Dd=qz:=by rw[<- hD];exact I2.fresh
 rw[hh3] at hns₁ hsb₁;rw[hh3];have hst:({heap:=h₁,gens:=s2.gens,drawn:=s2.drawn,toks:=s2.toks+([]:List (Str×qx)).length,os:=s2.os }:qj)={s3 with heap:=h₁,toks:=s3.toks+([]:List (Str×qx)).length }:=by rw[<- hs3]
 rw[hst];clear hst;generalize hC:s3.heap.objs.size=C at hns₁ hsb₁;have old:∀ b u,s3.heap.get? b=qq u->h₁.get? b=qq u:=λ b u q=>by
  have hb:b≠C:=by rw[<- hC];exact xAk (xAa q)
  exact hsb₁.extBut b u hb (hpS _ q)
 have lt2:∀ b∈fp,b<s2.heap.objs.size:=λ b hb=>by
  obtain⟨o,eo,_⟩:=T.obj 0 _ st2 b hb;exact xAa eo
 have up23:∀ b u,s2.heap.get? b=qq u->s3.heap.get? b=qq u:=λ b u q=>by rw[<- hh3];exact hpS _ q
 have lt3:∀ b∈fp,b<s3.heap.objs.size:=λ b hb=>by
  obtain⟨o,eo,_⟩:=T.obj 0 _ st2 b hb;exact xAa (up23 b o eo)
 have f3:∀ b∈fp,gF X aB H3 b:=λ b hb=>by
  refine⟨?_,(f2 b hb).2⟩;have ne:b≠Dd:=by rw[<- hD];exact xAk (lt2 b hb)
  rw[<- hH3,bJ ne];exact(f2 b hb).1
 have okY:(kC X aB fp scope C s3 H3).Ok:=aPZ I3 ok f3 lt3 (by rw[hC];exact yAb _)
 have hIC:jS X scope (kC X aB fp scope C s3 H3):=⟨aB,fp,C,s3,H3,rfl⟩;generalize hY:kC X aB fp scope C s3 H3=Y at okY hIC;have yE:Y.env=compEnvC scope (wS scope X.env) C X.env:=by rw[<- hY];rfl
 have I4:Inv Y [] (clr t.slots σ) H3 {s3 with heap:=h₁,toks:=s3.toks+([]:List (Str×qx)).length }:=by
  rw[<- hY] at okY ⊢;refine⟨okY,rfl,I3.bare,Un.kept old,⟨_,hns₁,λ i x v a1 a2 a3=>?_⟩,λ x c a=>?_,?_,λ x c a=>I3.freeC x c (pK I3 ok a),λ p hp=>?_,I3.hok.kept old,by rw[yB];exact I3.len⟩
  ·obtain⟨a4,a5⟩:=zV t.slots σ i v a2;have nl:scope.names.lookup x≠qq .local:=λ z=>a5 (own i x a1 z)
   have qI:(kC X aB fp scope C s3 H3).env.kindOf x=qq .cell\/(kC X aB fp scope C s3 H3).env.kindOf x=qq .free:=by
    rcases a3 with z | z | z
    ·exfalso;have z':(kC X aB fp scope C s3 H3).env.kindOf x=qq .local:=z;rw[aFP] at z';cases ek:scope.names.lookup x with
     | none=>rw[ek] at z';cases z'
     | some k =>
       rw[ek] at z';cases k with
       | «local» => exact nl ek
       | free =>
         simp only[Option.map_some,Option.some.injEq] at z'
         split at z'<;>cases z'
       | cell=>exact ok.nocell (x,.cell) (mem_of_lookup ek) rfl
       | globalExplicit=>simp at z'
       | globalImplicit=>simp at z'
    ·exact .inl z
    ·exact .inr z
   have fr:=aFS ok qI;have ov:=ok.free (x,.free) (mem_of_lookup fr) rfl;obtain⟨m,hm,hl⟩:=I3.loc;obtain⟨u,ru,lk⟩:=hl i x v a1 a4 (ov.elim (λ z=>.inr (.inl z)) λ z=>.inr (.inr z))
   refine⟨u,ru,.inr ⟨qI,?_⟩⟩;obtain⟨c,hcl⟩:=aDc (env:=X.env) scope.names [] x (.inl ⟨.free,mem_of_lookup fr,rfl⟩);have hc2:=pK I3 ok hcl;rcases lk with ⟨z,_⟩ | ⟨_,c',e',o',ho',hd'⟩
   ·exfalso;have z':X.env.scope.names.lookup x=qq .local:=z;rcases ov with w | w
    ·rw[w] at z';cases z'
    ·rw[w] at z';cases z'
   ·rw[hc2] at e';cases e';exact⟨c,hcl,o',old _ _ ho',hd'⟩
  ·obtain⟨v,o,ho,hd⟩:=I3.cell x c (pK I3 ok a);exact⟨v,o,old _ _ ho,hd⟩
  ·show H3 C=qz;rw[<- hC];exact I3.fresh
  ·have hp':p∈X.pn++aB:=by
    have:p∈(X.pn++aB)++[]:=hp;rwa [yDb] at this
   obtain⟨b1,b2,b3,b4,b5⟩:=I3.pin p hp';refine⟨old _ _ b1,b2,?_,λ z=>?_,b5⟩
   ·show p.1≠C;rw[<- hC];exact xAk (xAa b1)
   ·rcases List.mem_cons.mp (I3.stkSub p.1 z) with w | w
    ·exact b3 w
    ·exact b4 w
 have fpY:∀ {H':Hp},(∀ b∈fp,H' b=qz)->∀ b∈fp,gF Y [] H' b:=λ hn b hb=>by
  rw[<- hY];refine⟨hn b hb,?_,aHA I3 f3 b hb,.inl hb,λ x c a=>(f3 b hb).2.2.2.2.1 x c (pK I3 ok a),λ p hp=>?_⟩
  ·show b≠C;rw[<- hC];exact xAk (lt3 b hb)
  ·have hp':p∈X.pn++aB:=by
    have:p∈(X.pn++aB)++[]:=hp;rwa [yDb] at this
   exact(f3 b hb).2.2.2.2.2 p hp'
 have yA:Y.A=X.A:=by rw[<- hY];rfl
 have yP:Y.prog=X.prog:=by rw[<- hY];rfl
 have yW:Y.w=X.w:=by rw[<- hY];rfl
 have yK:Y.K=X.K:=by rw[<- hY];rfl
 have yC:Y.calm=true:=by rw[<- hY];exact hc
 have yX:Y.xe=λ _ _=>False:=by rw[<- hY];rfl
 have R3:Rel X.K F1 (L1++[Dd]) (S1++[qq []]) H3:=by rw[<- hH3];exact R1.newLoc hfr2 .nil
 obtain⟨PP,hPP⟩:∃ PP:Result->qj->Prop,PP=compPost (model X.prog X.w) X.A X.xe use QQ (.ref Dd) C:=⟨_,rfl⟩;have bI:∀ (s1:qj) (σ':L2.St) (H' F':Hp) (L':List qv),Inv Y [] σ' H' s1->Gr F1 (L1++[Dd]) F' L'->Rel X.K F' L' S2 H'->PP (.ok .next) s1:=by
  intro s1 σ' H' F' L' J' gg RR;rw[hPP];rw[<- hY] at J';obtain⟨m,hmC,_⟩:=J'.loc;have hCn:H' C=qz:=J'.free;have hfC:gF X aB H' C:=I3.fpOk (by rw[hC];exact yAb _) hCn
  obtain⟨sf,M,rfl⟩:=gg;have bX:L1.length=S1.length:=R1.len;have eL:((L1++[Dd])++M)[S1.length]? = qq Dd:=by
   rw[yAz,yAg (by rw[bX];exact yAb _),bX,yBn];rfl
  obtain⟨hF,xs,hx,dl⟩:=RR.loc S1.length Dd zs eL hz;have RR2:Rel X.K F' (L1++([Dd]++M)) S2 H':=by rw[<- yAz];exact RR
  have Rc:=RR2.cut;rw[bX] at Rc;have hnd:Dd ∉ L1:=λ z=>by
   have nd:=RR2.nd;rw[yGu] at nd;exact nd.2.2 Dd z Dd (by simp) rfl
  refine hend Dd C s1 H' hfC ⟨m,hmC⟩ (λ h' sb=>?_) (q F' L1 H' Dd xs (g1.trans ⟨sf,[],by simp⟩) Rc hF hnd hx dl)
  have neC:∀ b u,s3.heap.get? b=qq u->b≠C:=λ b u z=>by rw[<- hC];exact xAk (xAa z)
  have kp:∀ b u,b≠C->s1.heap.get? b=qq u->h'.get? b=qq u:=λ b u z w=>sb.extBut b u z w
  have bU:Un (iE X.stack) fp H3 H' s3.heap s1.heap:=J'.base;have u:Un (iE X.stack) fp H3 H' s3.heap h':=
   ⟨λ b o z n hb hx=>kp b o (neC b o z) (bU.keep b o z n hb hx),λ b o z n hb hx=>by obtain⟨sl,w⟩:=bU.slot b o z n hb hx;exact⟨sl,kp b _ (neC b o z) w⟩,bU.free,
    λ b o z hx=>by obtain⟨o',w⟩:=bU.there b o z hx;exact⟨o',kp b _ (neC b o z) w⟩,bU.tups,bU.frzs,bU.tbls⟩
  have hokY:dN X.prog X.w H' s1.heap:=J'.hok;have hok':dN X.prog X.w H' h':=λ b o z=>(hokY b o z).stay (λ c v hc2 w=>kp c v (λ zz=>by
   rcases hc2 with w2 | w2
   ·rw[w2] at zz;rw[zz,hCn] at z;cases z
   ·rw[zz,hCn] at w2;cases w2) w) (λ _ w=>w) λ _ _ w=>w
  have os1:s1.os=s3.os:=J'.os;exact I3.call' (s':={s1 with heap:=h' }) os1 u hok' J'.bare λ b hb=>⟨(f3 b hb).2.2.2.1,(f3 b hb).2.1,(f3 b hb).2.2.2.2.1,(f3 b hb).2.2.2.2.2⟩
 have loop:∀ s5:qj,Inv Y [] (clr t.slots σ) H3 s5->tn 0 s5.heap ->
  vj (model X.prog X.w) X.A (.compLoop (.ListComp elt [⟨tg,iter,ifs,0⟩] scope pos) 0 (.ref it) (.ref Dd) Y.env) PP s5:=by
  intro s5 I5 st5;have E0:EnvR X.K F1 (L1++[Dd]) (clr t.slots env) (clr t.slots σ):=(E.mono (g1.trans Gr.newLoc)).clr t.slots;obtain⟨Iv,hIv⟩:∃ Iv:Nat->qj->Prop,∀ n s',Iv n s' ↔ (∃ i σ' H' F' L' S',Inv Y [] σ' H' s'/\tn i s'.heap/\(∀ b∈fp,H' b=qz)/\Gr F1 (L1++[Dd]) F' L'/\Rel X.K F' L' S' H'/\EnvR X.K F' L' (clr t.slots env) σ'/\i+n=ds.length /\
   hJ t fc fe S1.length (clr t.slots env) (ds.drop i) S'=qq S2):=⟨_,λ _ _=>Iff.rfl⟩
  refine aLB Iv ?_ ds.length ((hIv _ _).mpr ⟨0,clr t.slots σ,H3,F1,L1++[Dd],S1++[qq []],I5,st5,λ b hb=>(f3 b hb).1,Gr.refl,R3,E0,yEb _,by rw[yEh];exact e2⟩)
  intro n s6 h6;obtain⟨i,σ6,H6,F6,L6,S6,I6,st6,fr6,g6,R6,E6,hin,ec⟩:=(hIv _ _).mp h6;clear h6;have g16:Gr F1 L1 F6 L6:=Gr.newLoc.trans g6;have toA:∀ {α:Type}{tt:Sem α}{QQ:α->qj->Prop}{EE:qx->qj->Prop}{ss:qj},qk (model X.prog X.w) Y.A tt QQ EE ss->qk (model X.prog X.w) X.A tt QQ EE ss:=λ hh=>by rw[yA] at hh;exact hh
  cases n with
  | zero =>
    have hi':i=ds.length:=by omega
    subst hi';rw[yGb] at ec;cases ec;refine bC (toA (T.done Y yP yW yK yC ds.length [] s6 σ6 H6 _ I6 (fpY fr6) st6 (wk.stop H6 (g16.f.trans R6.sub)))) λ r s7 hPq33=>?_
    obtain⟨hr,I7⟩:=hPq33;subst hr;exact bI s7 σ6 H6 F6 L6 I7 g6 R6
  | succ n =>
    have hi':i<ds.length:=by omega
    refine bC (toA (T.item Y yP yW yK yC i [] s6 σ6 H6 _ I6 (fpY fr6) st6 (wk.go i H6 (g16.f.trans R6.sub) hi'))) λ r s7 hPq34=>?_
    obtain⟨u,hr,h7⟩:=hPq34;subst hr;refine bC (toA h7) λ _ s8 hPq35=>?_
    obtain⟨x,H8,I8,r8,y8,st8,fr8⟩:=hPq35;obtain⟨F8,sf8,R8,d8⟩:=wk.yld i H6 F6 L6 S6 x H8 ds[i] g16 R6 (yAa hi') y8;have g8:Gr F6 L6 F8 L6:=⟨sf8,[],by simp⟩
    rw[yCa hi'] at ec;obtain⟨env9,ep,ec⟩:=bind_some ec;obtain⟨⟨cb,S9⟩,et,ec⟩:=bind_some ec;have I8':=I8.pinned (fpY fr8) (T.obj _ _ st8);have toF:∀ {α:Type}{tt:Sem α}{QQ:α->qj->Prop}{ss:qj},qk (model Y.prog Y.w) Y.A tt QQ Y.xe ss->qk (model X.prog X.w) X.A tt QQ (λ _ _=>False) ss:=λ hh=>by rw[yX,yP,yW,yA] at hh;exact hh
    refine toF (bC (hg Y hIC _ s8 σ6 H8 x u (λ σ' H'=>H'=H8/\EnvR X.K F8 L6 env9 σ') I8' r8 (ga ds[i] x σ6 H8 F8 L6 S6 (clr t.slots env) env9 _ R8 (E6.mono g8) d8 ep λ σ' E'=>⟨rfl,E'⟩)) λ _ s9 hPq36=>?_)
    obtain⟨σ9,H9,I9,hH9,E9⟩:=hPq36;subst hH9;refine toF (bC (ht Y hIC _ s9 σ9 H9 (λ b H'=>∃ F' L',Gr F8 L6 F' L'/\Rel X.K F' L' S9 H'/\b=cb) I9 (by rw[yK];exact⟨F8,L6,S6,env9,cb,S9,R8,E9,et,λ F' L' H' g' R'=>⟨F',L',g',R',rfl⟩⟩)) λ ok2 s10 hPq37=>?_)
    obtain⟨H10,I10,F10,L10,g10,R10,hb10⟩:=hPq37;subst hb10;dsimp only at ec;have again:∀ {σ7:L2.St}{H7 F7:Hp}{L7:List qv}{S7:aE}{s7':qj},Inv Y ([]++uO fp s8.heap) σ7 H7 s7'->Gr F8 L6 F7 L7->Rel X.K F7 L7 S7 H7->EnvR X.K F7 L7 env9 σ7->hJ t fc fe S1.length (clr t.slots env) (ds.drop (i+1)) S7=qq S2 ->
     ∃ m,m<n+1/\Iv m s7':=by
     intro σ7 H7 F7 L7 S7 s7' I7 g7 R7 E7 ec7;refine⟨n,yEu n,(hIv _ _).mpr ⟨i+1,σ7,H7,F7,L7,S7,I7.unpinned,T.keep _ _ _ st8 λ b hb o eo=>(I7.pin (b,o) (xAq _ (xAq _ (tM hb eo)))).1,λ b hb=>?_,(g6.trans g8).trans g7,R7,EnvR.back ep E7,by omega,ec7⟩⟩
     obtain⟨o,eo,_⟩:=T.obj _ _ st8 b hb;exact(I7.pin (b,o) (xAq _ (xAq _ (tM hb eo)))).2.1
    cases ok2 with
    | false =>
      rw[if_neg (by simp)] at ec
      rw[if_neg (by simp)]
      exact again I10 g10 R10 (E9.mono g10) ec
    | true =>
      rw[if_pos rfl] at ec;rw[if_pos rfl];obtain⟨⟨wv,S11⟩,ee,ec⟩:=bind_some ec;obtain⟨⟨wn,S12⟩,ea,ec⟩:=bind_some ec;obtain⟨n',dv,zs',hn',hw',es',hlt,hwn,rfl⟩:=aGb ea;cases hn';subst hw';refine toF (bC (he Y hIC _ s10 σ9 H10 (λ v H'=>∃ F' L',Gr F10 L10 F' L'/\Rel X.K F' L' S11 H'/\Den X.K F' dv v) I10 ⟨F10,L10,S9,env9,_,S11,R10,E9.mono g10,ee,λ F' L' H' v g' R' d'=>⟨F',L',g',R',d'⟩⟩) λ xv s11 hPq38=>?_)
      obtain⟨v11,H11,I11,r11,F11,L11,g11,R11,d11⟩:=hPq38;have gA:Gr F1 (L1++[Dd]) F11 L11:=((g6.trans g8).trans g10).trans g11;have eL:L11[S1.length]? = qq Dd:=gA.get (by rw[yAg (by rw[R1.len];exact yAb _),R1.len,yBn];rfl)
      obtain⟨hF,xs,hx,dl⟩:=R11.loc S1.length Dd zs' eL es';refine toF (bC (aFE (X:=Y) _ s11 σ9 H11 (.ref Dd) [v11] (.ref Dd) [xv] (λ _ H'=>Rel X.K F11 L11 (S11.set S1.length (qq (zs'++[dv]))) H') I11 rfl (.cons r11 .nil) ⟨Dd,xs,v11,rfl,rfl,hx,by rw[<- dl.length];exact hlt,R11.put eL hF (dl.append (.cons d11 .nil))⟩) λ _ s12 hPq39=>?_)
      obtain⟨_,H12,I12,_,R12⟩:=hPq39;exact again I12 (g10.trans g11) R12 (E9.mono (g10.trans g11)) ec
 rw[yE,hPP] at loop;have st4:tn 0 h₁:=T.keep 0 _ _ st2 λ b _ o eo=>old b o (up23 b o eo)
 exact codeAny_compStart_list (loop _ I4 st4) (T.self X.A 0 _ _ _ st4 (loop _ I4 st4))
theorem aIa(hc:X.calm=true)(ok:ScOk scope X.env.scope)(own:aDt X.N scope t.slots)(hi:PI X tg iter (iV X.K fi))(hg:∀ Y,jS X scope Y->PG Y tg g)(ga:GA X.K t g)
 (ht:∀ Y,jS X scope Y->lW Y ifs fc) (he:∀ Y,jS X scope Y->PE Y elt (aP X.K fe)) (hs:∀ x,jv iter X.env x=pure x) :
 PE X (.ListComp elt [⟨tg,iter,ifs,0⟩] scope pos) (iG X.K (hU t fi fc fe)):=λ aB s σ H Q I h=>by
 rw[eval_ListComp];exact aF3 qz hc ok own hi hg ga ht he hs I h λ p C s1 H' _ hm hI q=>hm.elim λ m hm=>⟨m,hm,λ h' sb=>⟨.ref p,H',hI h' sb,rfl,q⟩⟩
theorem aMC{i:Nat}{x:Str}{pos' spos:Pos}{fa:FE}(hN:X.N.Nodup)(hx1:X.N[i]? = qq x)(hx2:L2.Loc X.env.scope x)(hf:X.fn x=true\/X.env.scope.names.lookup x=qq .local)
 (hc:X.calm=true) (ok:ScOk scope X.env.scope) (own:aDt X.N scope t.slots) (hi:PI X tg iter (iV X.K fi)) (hg:∀ Y,jS X scope Y->PG Y tg g) (ga:GA X.K t g)
 (ht:∀ Y,jS X scope Y->lW Y ifs fc) (he:∀ Y,jS X scope Y->PE Y elt (aP X.K fe)) (hs:∀ x,jv iter X.env x=pure x)
 (hw:∀ σ H Q,aP X.K fa σ H Q->iG X.K (hU t fi fc fe) σ H Q) :
 PS X (.Assign [.Name x pos'] (.ListComp elt [⟨tg,iter,ifs,0⟩] scope pos) spos) (dG X.K (fM i fa)):=by
 have hb:∃ b,swapsWith (.ListComp elt [⟨tg,iter,ifs,0⟩] scope pos) (qq (.Name x pos')) spos.line X.env=pure b:=⟨_,rfl⟩;obtain⟨b,hb⟩:=hb;cases b with
 | false=>exact aJU hN hx1 hx2 (PE.weak (aIa hc ok own hi hg ga ht he hs) hw) hb hf
 | true =>
   intro aB s σ H DD I h;have h2:=aJI DD σ H h;rw[exec_Assign_Name_used _ _ _ _ hb];refine wB (yu (wB ?_));show qk _ X.A (do let _ <- comprehension (.ListComp elt [⟨tg,iter,ifs,0⟩] scope pos) scope X.env _ (newList []) false (eval iter X.env) (qq (assign (.Name x pos') X.env))) _ _ s
   refine wB (bC (aF3 (QQ:=λ _ s'=>SP X aB DD .next s') (qq (assign (.Name x pos') X.env)) hc ok own hi hg ga ht he hs I (hw _ _ _ h2) λ p C s1 H' hC hm hI q=>?_) λ _ s' hq=>wP (wP hq))
   obtain⟨m,hm⟩:=hm;have I1:Inv X aB σ H' s1:=hI s1.heap (Heap.SameBut.refl _ _);obtain⟨o,es,ep,ho,hd,r⟩:=hm;have I2:=I1.pinned (fp:=[C]) (λ b hb=>by rw[List.mem_singleton.mp hb];exact hC) λ b hb=>by rw[List.mem_singleton.mp hb];exact⟨o,ho,λ v z=>by rw[hd] at z;cases z⟩
   refine bC (aCr (pos:=pos') hN hx1 hx2 hf _ s1 σ H' (.ref p) (.ref p) _ I2 rfl q) λ _ s2 hPq40=>?_
   obtain⟨σ2,H2,I3,q3⟩:=hPq40;obtain⟨b1,b2,_⟩:=I3.pin (C,o) (xAq _ (xAq _ (tM (by simp) ho)))
   refine⟨m,⟨o,es,ep,b1,hd,r⟩,λ h' sb=>⟨σ2,H2,?_,q3⟩⟩
   exact I3.unpinned.turned (t':=s2.toks) (λ b o hb e=>sb.extBut b o hb e) b2 hC.2.1 hC.2.2.2.1 hC.2.2.2.2.1 hC.2.2.2.2.2
end
noncomputable def pL:List D->Option (List Int)
 | []=>qq []
 | .int i::r=>(pL r).bind λ l=>qq (i::l)
 | _::_=>qz
noncomputable def lU:List D->Option (List Bool)
 | []=>qq []
 | .bool i::r=>(lU r).bind λ l=>qq (i::l)
 | _::_=>qz
noncomputable def fO:List D->Option D
 | [.list xs]=>qq (.int xs.length)
 | [.tuple xs]=>qq (.int xs.length)
 | [.str z]=>if z.length<=qy then qq (.int z.length) else qz
 | _=>qz
noncomputable def pZ:List D->Option D
 | [.int i,.int j]=>qq (.int (if j>i then j else i))
 | [.int i,.int j,.int k]=>qq (.int (if j>i then (if k>j then k else j) else (if k>i then k else i)))
 | [.list xs]=>match pL xs with
   | some (i::r)=>qq (.int (r.foldl max i))
   | _=>qz
 | _=>qz
noncomputable def pU:List D->Option D
 | [.int i,.int j]=>qq (.int (if j<i then j else i))
 | [.list xs]=>match pL xs with
   | some (i::r)=>qq (.int (r.foldl min i))
   | _=>qz
 | _=>qz
noncomputable def vV:List D->Option D
 | [.int i]=>qq (.int i)
 | [.bool k]=>qq (.int (if k then 1 else 0))
 | _=>qz
noncomputable def aDC:List D->Option D
 | [.int i]=>qq (.int (if i<0 then -i else i))
 | _=>qz
noncomputable def uS:List D->Option D
 | [.list xs]=>qq (.tuple xs)
 | [.tuple xs]=>qq (.tuple xs)
 | _=>qz
noncomputable def aDT:List D->Option D
 | [.list xs]=>(pL xs).bind λ l=>qq (.int l.sum)
 | _=>qz
noncomputable def wJ:List D->Option D
 | [.list xs]=>(lU xs).bind λ l=>qq (.bool (l.all id))
 | _=>qz
noncomputable def vY:List D->Option D
 | [.list xs]=>(lU xs).bind λ l=>qq (.bool (l.any id))
 | _=>qz
section
variable {X : Cx}
theorem iR{F H:Hp}{d:D}{xs:List V}(h:NowL X.K F H [d] xs):∃ x,xs=[x]/\bM X.K F H d x:=by
 cases h with
 | cons a b=>cases b;exact⟨_,rfl,a⟩
theorem aJ6{F H:Hp}{d e:D}{xs:List V}(h:NowL X.K F H [d,e] xs):∃ x y,xs=[x,y]/\bM X.K F H d x/\bM X.K F H e y:=by
 cases h with
 | cons a b =>
   cases b with
   | cons c d=>cases d;exact⟨_,_,rfl,a,c⟩
theorem aWJ{F H:Hp}{d e f:D}{xs:List V}(h:NowL X.K F H [d,e,f] xs):∃ x y z,xs=[x,y,z]/\bM X.K F H d x/\bM X.K F H e y/\bM X.K F H f z:=by
 cases h with
 | cons a b=>cases b with
   | cons c d=>cases d with
     | cons e f=>cases f;exact⟨_,_,_,rfl,a,c,e⟩
theorem aUS{x y z:V}{us:List qx}(r:aT [x,y,z] us):∃ u v w',us=[u,v,w']/\bB x u/\bB y v/\bB z w':=by
 cases r with
 | cons r1 r2=>cases r2 with
   | cons r3 r4=>cases r4 with
     | cons r5 r6=>cases r6;exact⟨_,_,_,rfl,r1,r3,r5⟩
theorem aMR(hc:X.calm=true):dD X (.builtin "max") (λ xs H Q=>∃ i j k,xs=[.int i,.int j,.int k]/\Q (.int (if j>i then (if k>j then k else j) else (if k>i then k else i))) H):=by
 intro aB s σ H xs us Q I r h;obtain⟨i,j,k,rfl,q⟩:=h;obtain⟨u,v,w',rfl,⟨t,rfl⟩,⟨t',rfl⟩,⟨t2,rfl⟩⟩:=aUS r;refine max_three_ints (I.ok.hd hc) λ h' tk kk=>⟨_,H,I.kept kk,?_,q⟩
 by_cases h1:j>i<;>by_cases h2:k>j<;>by_cases h3:k>i<;>simp only[h1,h2,h3,if_true,if_false]<;>exact⟨_,rfl⟩
theorem tK{K:FrG}{F:Hp}:∀ {ds:List D}{xs:List V}{ns:List Int},DenL K F ds xs->pL ds=qq ns->xs=ns.map V.int
 | _,_,_,.nil,e=>by cases e;rfl
 | .int i::r,_,_,.cons h t,e=>by
   obtain⟨l,e1,e2⟩:=bind_some e;cases e2;cases h;rw[yAs,tK t e1]
 | .none::_,_,_,.cons _ _,e=>by cases e
 | .bool _::_,_,_,.cons _ _,e=>by cases e
 | .str _::_,_,_,.cons _ _,e=>by cases e
 | .list _::_,_,_,.cons _ _,e=>by cases e
 | .tuple _::_,_,_,.cons _ _,e=>by cases e
 | .dict _::_,_,_,.cons _ _,e=>by cases e
theorem aHG:∀ (l:List Int) (i:Int),(l.foldl max i∈i::l)/\∀ a∈i::l,a<=l.foldl max i
 | [],i=>⟨List.mem_singleton.mpr rfl,λ a h=>by rw[List.mem_singleton.mp h];exact Int.le_refl _⟩
 | b::l,i=>by
   obtain⟨h1,h2⟩:=aHG l (max i b);rw[yBm];refine⟨?_,λ a ha=>?_⟩
   ·rcases List.mem_cons.mp h1 with h | h
    ·rw[h];rcases Int.le_total i b with q | q
     ·rw[Int.max_eq_right q];simp
     ·rw[Int.max_eq_left q];simp
    ·simp[h]
   ·have h3:=h2 (max i b) xAd;simp only[yCu] at ha;rcases ha with rfl | rfl | ha
    ·exact yHl (Int.le_max_left _ _) h3
    ·exact yHl (Int.le_max_right _ _) h3
    ·exact h2 a (xAg _ ha)
theorem aG6:∀ (l:List Int) (i:Int),(l.foldl min i∈i::l)/\∀ a∈i::l,l.foldl min i<=a
 | [],i=>⟨List.mem_singleton.mpr rfl,λ a h=>by rw[List.mem_singleton.mp h];exact Int.le_refl _⟩
 | b::l,i=>by
   obtain⟨h1,h2⟩:=aG6 l (min i b);rw[yBm];refine⟨?_,λ a ha=>?_⟩
   ·rcases List.mem_cons.mp h1 with h | h
    ·rw[h];rcases Int.le_total i b with q | q
     ·rw[Int.min_eq_left q];simp
     ·rw[Int.min_eq_right q];simp
    ·simp[h]
   ·have h3:=h2 (min i b) xAd;simp only[yCu] at ha;rcases ha with rfl | rfl | ha
    ·exact yHl h3 (Int.min_le_left _ _)
    ·exact yHl h3 (Int.min_le_right _ _)
    ·exact h2 a (xAg _ ha)
theorem aBz:∀ {l:List Int}{us:List qx},aT (l.map V.int) us->∃ ps:List (Int×Tok),us=ps.map (λ p=>Value.int p.1 p.2)/\ps.map (·.1)=l
 | [],us,r=>by cases r;exact⟨[],rfl,rfl⟩
 | i::l,us,r=>by
   cases r with
   | cons h t =>
     obtain⟨tk,rfl⟩:=h;obtain⟨ps,rfl,rfl⟩:=aBz t;exact⟨(i,tk)::ps,rfl,rfl⟩
theorem aNb(hc:X.calm=true):dD X (.builtin "max") (λ xs H Q=>∃ (a:qv) (l:List Int),xs=[.ref a]/\bL X.K H a (l.map V.int)/\0<l.length/\∀ M,M∈l->(∀ i∈l,i<=M)->Q (.int M) H):=by
 intro aB s σ H xs us Q I r h;obtain⟨a,l,rfl,sq,hl,q⟩:=h;obtain⟨u,rfl,ru⟩:=iL r;cases ru;obtain⟨aG,rv,pl,hz⟩:=I.list sq;obtain⟨ps,rfl,rfl⟩:=aBz rv;have hIL:s.heap.IsList a (intItems ps.toArray):=by
  have e:intItems ps.toArray=(ps.map (λ p=>Value.int p.1 p.2)).toArray:=by simp[intItems]
  rw[e];exact pl.isList
 refine max_intList (xs:=ps.toArray) (I.ok.hd hc) hIL (by simpa using hl) λ v h' tk hv hk=>?_
 obtain⟨t,rfl⟩:=intItems_at hv;obtain⟨h1,h2⟩:=argBest_gt (numAt ps.toArray) (ps.toArray.size-1);refine⟨.int _,H,I.kept hk,⟨_,rfl⟩,q _ ?_ λ i hi=>?_⟩
 ·rw[numAt_eq];have hz':0<ps.toArray.size:=by simpa using hl
  exact getD_mem (by rw[yAd,yEd];exact xAj h1 (Nat.sub_lt hz' Nat.one_pos))
 ·obtain⟨j,hj,rfl⟩:=mem_getD hi;rw[yAd] at hj;have:=h2 j (by rw[yAf];omega)
  rw[numAt_eq (j:=j)] at this;exact this
theorem aMH(hc:X.calm=true):dD X (.builtin "min") (λ xs H Q=>∃ (a:qv) (l:List Int),xs=[.ref a]/\bL X.K H a (l.map V.int)/\0<l.length/\∀ M,M∈l->(∀ i∈l,M<=i)->Q (.int M) H):=by
 intro aB s σ H xs us Q I r h;obtain⟨a,l,rfl,sq,hl,q⟩:=h;obtain⟨u,rfl,ru⟩:=iL r;cases ru;obtain⟨aG,rv,pl,hz⟩:=I.list sq;obtain⟨ps,rfl,rfl⟩:=aBz rv;have hIL:s.heap.IsList a (intItems ps.toArray):=by
  have e:intItems ps.toArray=(ps.map (λ p=>Value.int p.1 p.2)).toArray:=by simp[intItems]
  rw[e];exact pl.isList
 refine min_intList (xs:=ps.toArray) (I.ok.hd hc) hIL (by simpa using hl) λ v h' tk hv hk=>?_
 obtain⟨t,rfl⟩:=intItems_at hv;obtain⟨h1,h2⟩:=argBest_lt (numAt ps.toArray) (ps.toArray.size-1);refine⟨.int _,H,I.kept hk,⟨_,rfl⟩,q _ ?_ λ i hi=>?_⟩
 ·rw[numAt_eq];have hz':0<ps.toArray.size:=by simpa using hl
  exact getD_mem (by rw[yAd,yEd];exact xAj h1 (Nat.sub_lt hz' Nat.one_pos))
 ·obtain⟨j,hj,rfl⟩:=mem_getD hi;rw[yAd] at hj;have:=h2 j (by rw[yAf];omega)
  rw[numAt_eq (j:=j)] at this;exact this
theorem aVb:dD X (.builtin "len") (lK X fO):=λ aB s σ H xs us Q I r aO=>by
 obtain⟨F,L,S,ds,z,R,n,e,q⟩:=aO;unfold fO at e
 split at e
 ·cases e;obtain⟨x,rfl,nx⟩:=iR n;obtain⟨a,ys,rfl,sq,dl⟩:=nx.lst R.sub;exact aES aB s σ H _ us Q I r ⟨a,ys,rfl,.inl sq,by rw[<- dl.length];exact q.here R (.int _)⟩
 ·cases e;obtain⟨x,rfl,nx⟩:=iR n;obtain⟨a,ys,rfl,sq,dl⟩:=nx.tup R.sub;exact aES aB s σ H _ us Q I r ⟨a,ys,rfl,.inr sq,by rw[<- dl.length];exact q.here R (.int _)⟩
 ·split at e
  ·rename_i hz;cases e;obtain⟨x,rfl,nx⟩:=iR n;exact aLG aB s σ H _ us Q I r ⟨_,by rw[nx.str],hz,q.here R (.int _)⟩
  ·cases e
 ·cases e
theorem aVo(hc:X.calm=true):dD X (.builtin "max") (lK X pZ):=λ aB s σ H xs us Q I r aO=>by
 obtain⟨F,L,S,ds,z,R,n,e,q⟩:=aO;unfold pZ at e
 split at e
 ·cases e;obtain⟨x,y,rfl,nx,ny⟩:=aJ6 n;exact aMM hc aB s σ H _ us Q I r ⟨_,_,by rw[nx.int,ny.int],q.here R (.int _)⟩
 ·cases e;obtain⟨x,y,u,rfl,nx,ny,nu⟩:=aWJ n;exact aMR hc aB s σ H _ us Q I r ⟨_,_,_,by rw[nx.int,ny.int,nu.int],q.here R (.int _)⟩
 ·split at e
  ·rename_i xs' i r' hi;cases e;obtain⟨x,rfl,nx⟩:=iR n;obtain⟨a,ys,rfl,sq,dl⟩:=nx.lst R.sub;obtain rfl:=tK dl hi;refine aNb hc aB s σ H _ us Q I r ⟨a,i::r',rfl,sq,by simp,λ M h1 h2=>?_⟩
   have f:=aHG r' i;have:M=r'.foldl max i:=Int.le_antisymm (f.2 _ h1) (h2 _ f.1);rw[this];exact q.here R (.int _)
  ·cases e
 ·cases e
theorem aVU(hc:X.calm=true):dD X (.builtin "min") (lK X pU):=λ aB s σ H xs us Q I r aO=>by
 obtain⟨F,L,S,ds,z,R,n,e,q⟩:=aO;unfold pU at e
 split at e
 ·cases e;obtain⟨x,y,rfl,nx,ny⟩:=aJ6 n;exact aNm hc aB s σ H _ us Q I r ⟨_,_,by rw[nx.int,ny.int],q.here R (.int _)⟩
 ·split at e
  ·rename_i xs' i r' hi;cases e;obtain⟨x,rfl,nx⟩:=iR n;obtain⟨a,ys,rfl,sq,dl⟩:=nx.lst R.sub;obtain rfl:=tK dl hi;refine aMH hc aB s σ H _ us Q I r ⟨a,i::r',rfl,sq,by simp,λ M h1 h2=>?_⟩
   have f:=aG6 r' i;have:M=r'.foldl min i:=Int.le_antisymm (h2 _ f.1) (f.2 _ h1);rw[this];exact q.here R (.int _)
  ·cases e
 ·cases e
theorem aTO:dD X (.type "int") (lK X vV):=λ aB s σ H xs us Q I r aO=>by
 obtain⟨F,L,S,ds,z,R,n,e,q⟩:=aO;unfold vV at e
 split at e
 ·cases e;obtain⟨x,rfl,nx⟩:=iR n;exact aFN aB s σ H _ us Q I r (.inl ⟨_,by rw[nx.int],q.here R (.int _)⟩)
 ·cases e;obtain⟨x,rfl,nx⟩:=iR n;exact aFN aB s σ H _ us Q I r (.inr ⟨_,by rw[nx.bl],q.here R (.int _)⟩)
 ·cases e
theorem aVD:dD X (.builtin "abs") (lK X aDC):=λ aB s σ H xs us Q I r aO=>by
 obtain⟨F,L,S,ds,z,R,n,e,q⟩:=aO;unfold aDC at e
 split at e
 ·cases e;obtain⟨x,rfl,nx⟩:=iR n;exact aOb aB s σ H _ us Q I r ⟨_,by rw[nx.int],q.here R (.int _)⟩
 ·cases e
theorem aOT:dD X (.type "tuple") (lK X uS):=λ aB s σ H xs us Q I r aO=>by
 obtain⟨F,L,S,ds,z,R,n,e,q⟩:=aO;unfold uS at e
 split at e
 ·cases e;obtain⟨x,rfl,nx⟩:=iR n;obtain⟨a,ys,rfl,sq,dl⟩:=nx.lst R.sub;exact aEJ aB s σ H _ us Q I r ⟨a,ys,rfl,.inl ⟨sq,λ l hl=>q.tup R hl dl⟩⟩
 ·cases e;obtain⟨x,rfl,nx⟩:=iR n;have nx':=nx;obtain⟨a,ys,rfl,sq,dl⟩:=nx.tup R.sub;refine aEJ aB s σ H _ us Q I r ⟨a,ys,rfl,.inr ⟨sq,q.here R ?_⟩⟩;rcases nx' with nx | ⟨_,_,_,e,_⟩
  ·exact nx
  ·cases e
 ·cases e
theorem aBs{prog:qu}{w:zx}{A:zv}(hh:A.handled=qz)(I ax:qv)(hne:ax≠I)(aM:Array qx) :
 WalksS prog w A I [I,ax] [I] (λ a b=>b=a) aM.size (λ i v=>aM[i]? = qq v) (λ i s=>s.heap.IsListIter I ax i/\s.heap.IsList ax aM) where
 sub:=λ b hb=>by simp at hb;simp[hb]
 grefl:=λ _=>rfl
 gtrans:=λ _ _ _ h1 h2=>h2.trans h1
 frame:=λ _ _ _ _ st _ hk=>⟨st.1.at λ o e=>hk I (by simp) o e,st.2.at λ o e=>hk ax (by simp) o e⟩
 item:=λ i s Q E hi st hQ=>by
  refine vy st.1 st.2 (x:=aM[i]) (by simp[hi]) λ h' hit' hs'=>?_
  exact hQ _ _ (by simp[hi]) ⟨hit',st.2.extBut hs'.extBut hne⟩ ⟨λ b o hb e=>hs'.extBut b o (λ h=>hb (by simp[h])) e,rfl,rfl,rfl,yAb _⟩
 done:=λ s Q E st hQ=>vo hh st.1 st.2 (by simp) λ h' he'=>hQ _ ⟨λ b o hb e=>he' b o (λ h=>hb (by simp[h])) e,rfl,rfl,rfl,yAb _⟩
 self:=λ _ _ _ _ st hQ=>wpAny_pyIter_listiter st.1 hQ
theorem aFd:∀ (ns:List Int) (k:Nat),k<=ns.length->preSum (λ i=>ns.getD i 0) k=(ns.take k).sum
 | _,0,_=>by simp[preSum]
 | ns,k+1,h=>by
   rw[preSum,aFd ns k (by omega),yFn (by omega),List.sum_append]
   have:ns.getD k 0=ns[k]:=by simp[yGv,yAa (show k<ns.length by omega)]
   rw[this];simp
theorem xY{K:FrG}{F:Hp}:∀ {ds:List D}{xs:List V}{ns:List Bool},DenL K F ds xs->lU ds=qq ns->xs=ns.map V.bl
 | _,_,_,.nil,e=>by cases e;rfl
 | .bool i::r,_,_,.cons h t,e=>by
   obtain⟨l,e1,e2⟩:=bind_some e;cases e2;cases h;rw[yAs,xY t e1]
 | .none::_,_,_,.cons _ _,e=>by cases e
 | .int _::_,_,_,.cons _ _,e=>by cases e
 | .str _::_,_,_,.cons _ _,e=>by cases e
 | .list _::_,_,_,.cons _ _,e=>by cases e
 | .tuple _::_,_,_,.cons _ _,e=>by cases e
 | .dict _::_,_,_,.cons _ _,e=>by cases e
theorem aLI{ns:List Int}{us:List qx}(r:aT (ns.map V.int) us){i:Nat}{v:qx}(e:us[i]? = qq v):∃ t,v=.int (ns.getD i 0) t:=by
 have hl:=r.length;rw[yAd] at hl;have hi:i<ns.length:=by rw[hl];exact(gIm e).1
 obtain⟨u,e1,ru⟩:=aT.get r (i:=i) (x:=.int ns[i]) (by rw[xAb,yAa hi];rfl)
 rw[e] at e1;cases e1;obtain⟨t,rfl⟩:=ru;exact⟨t,by simp[yGv,yAa hi]⟩
theorem aEW{ns:List Bool}{us:List qx}(r:aT (ns.map V.bl) us){i:Nat}{v:qx}(e:us[i]? = qq v):v=.bool (ns.getD i false):=by
 have hl:=r.length;rw[yAd] at hl;have hi:i<ns.length:=by rw[hl];exact(gIm e).1
 obtain⟨u,e1,ru⟩:=aT.get r (i:=i) (x:=.bl ns[i]) (by rw[xAb,yAa hi];rfl)
 rw[e] at e1;cases e1;obtain rfl:=ru;simp[yGv,yAa hi]
theorem aUa(hc:X.calm=true):dD X (.builtin "sum") (lK X aDT):=λ aB s σ H xs us Q I r aO=>by
 obtain⟨F,L,S,ds,z,R,n,e,q⟩:=aO;unfold aDT at e
 split at e
 ·obtain⟨ns,e1,e2⟩:=bind_some e;cases e2;obtain⟨x,rfl,nx⟩:=iR n;obtain⟨a,ys,rfl,sq,dl⟩:=nx.lst R.sub;obtain rfl:=tK dl e1;obtain⟨u,rfl,ru⟩:=iL r;cases ru;obtain⟨aG,rv,pl,hz⟩:=I.list sq;have hh:X.A.in1.handled=qz:=I.ok.hd hc;refine call_sum_walkAnyS (jw pl.isList ?_);have hne:a≠s.heap.objs.size:=by
   obtain⟨o,ho,_⟩:=pl.isList;exact xAk (xAa ho)
  have hl:=rv.length;rw[yAd] at hl;refine⟨_,_,_,_,_,_,_,λ i=>ns.getD i 0,rfl,aBs hh s.heap.objs.size a hne aG.toArray,⟨⟨_,xAe _ rfl,rfl,rfl⟩,?_⟩,λ b hb=>?_,λ i v e=>aLI rv (by simpa using e),λ s' t' mv=>?_⟩
  ·obtain⟨o,ho,r'⟩:=pl.isList;exact⟨o,hpS _ ho,r'⟩
  ·obtain⟨o,ho,_⟩:=pl.isList;have h1:=xAa ho;simp only[yCu,yCe,or_false] at hb;rw[yBz];rcases hb with rfl | rfl
   ·exact yEu _
   ·exact yFr h1
  ·obtain⟨h',g',d',t2,o'⟩:=s';obtain⟨mh,mg,md,mo,mt⟩:=mv;dsimp only at mh mg md mo;subst mg md mo;have I':Inv X aB σ H {s with heap:=h',toks:=t2 }:=I.kept λ b o e=>mh b o (λ z=>by
    have:b=s.heap.objs.size:=by simpa using z
    exact yCc _ (this▸xAa e)) (hpS _ e)
   have e3:preSum (λ i=>ns.getD i 0) aG.toArray.size=ns.sum:=by
    rw[yAf,<- hl,aFd ns ns.length (yAb _),yAe]
   rw[e3];exact⟨.int ns.sum,H,I',⟨_,rfl⟩,q.here R (.int _)⟩
 ·cases e
theorem aFy{prog:qu}{w:zx}{A:zv}{b:Bool}{s:qj}{Q:Bool->qj->Prop}{E:qx->qj->Prop}(h:Q b s):qk (model prog w) A (truthy (.bool b)) Q E s:=by
 first
  | exact xq h
  | exact PySem.wpAny_truthy_bool h
  | exact truthy_bool h
theorem aNo(bs:List Bool):(yAx bs.length).all (λ i=>bs.getD i false)=bs.all id:=by
 have h:(yAx bs.length).map (λ i=>bs.getD i false)=bs:=by
  apply yHb
  ·simp
  ·intro i h1 h2;simp[yGv,yAa h2]
 have h2:bs.all id=((yAx bs.length).map (λ i=>bs.getD i false)).all id:=by rw[h]
 rw[h2,List.all_map];rfl
theorem aMQ(bs:List Bool):(yAx bs.length).any (λ i=>bs.getD i false)=bs.any id:=by
 have h:(yAx bs.length).map (λ i=>bs.getD i false)=bs:=by
  apply yHb
  ·simp
  ·intro i h1 h2;simp[yGv,yAa h2]
 have h2:bs.any id=((yAx bs.length).map (λ i=>bs.getD i false)).any id:=by rw[h]
 rw[h2,List.any_map];rfl
theorem aVk(hc:X.calm=true):dD X (.builtin "all") (lK X wJ):=λ aB s σ H xs us Q I r aO=>by
 obtain⟨F,L,S,ds,z,R,n,e,q⟩:=aO;unfold wJ at e
 split at e
 ·obtain⟨bs,e1,e2⟩:=bind_some e;cases e2;obtain⟨x,rfl,nx⟩:=iR n;obtain⟨a,ys,rfl,sq,dl⟩:=nx.lst R.sub;obtain rfl:=xY dl e1;obtain⟨u,rfl,ru⟩:=iL r;cases ru;obtain⟨aG,rv,pl,hz⟩:=I.list sq;have hh:X.A.in1.handled=qz:=I.ok.hd hc;refine call_all_walkS (jw pl.isList ?_);have hne:a≠s.heap.objs.size:=by
   obtain⟨o,ho,_⟩:=pl.isList;exact xAk (xAa ho)
  have hl:=rv.length;rw[yAd] at hl;refine⟨_,_,_,_,_,_,_,λ i=>bs.getD i false,rfl,aBs hh s.heap.objs.size a hne aG.toArray,⟨⟨_,xAe _ rfl,rfl,rfl⟩,?_⟩,λ i v s' Q' E' e hq=>?_,λ s' mv=>?_⟩
  ·obtain⟨o,ho,r'⟩:=pl.isList;exact⟨o,hpS _ ho,r'⟩
  ·obtain rfl:=aEW rv (i:=i) (by simpa using e)
   exact aFy hq
  ·obtain⟨h',g',d',t2,o'⟩:=s';obtain⟨mh,mg,md,mo,mt⟩:=mv;dsimp only at mh mg md mo;subst mg md mo;have I':Inv X aB σ H {s with heap:=h',toks:=t2 }:=I.kept λ b o e=>mh b o (λ z=>by
    have:b=s.heap.objs.size:=by simpa using z
    exact yCc _ (this▸xAa e)) (hpS _ e)
   rw[yAf,<- hl,aNo];exact⟨.bl (bs.all id),H,I',rfl,q.here R (.bl _)⟩
 ·cases e
theorem aVi(hc:X.calm=true):dD X (.builtin "any") (lK X vY):=λ aB s σ H xs us Q I r aO=>by
 obtain⟨F,L,S,ds,z,R,n,e,q⟩:=aO;unfold vY at e
 split at e
 ·obtain⟨bs,e1,e2⟩:=bind_some e;cases e2;obtain⟨x,rfl,nx⟩:=iR n;obtain⟨a,ys,rfl,sq,dl⟩:=nx.lst R.sub;obtain rfl:=xY dl e1;obtain⟨u,rfl,ru⟩:=iL r;cases ru;obtain⟨aG,rv,pl,hz⟩:=I.list sq;have hh:X.A.in1.handled=qz:=I.ok.hd hc;refine call_any_walkS (jw pl.isList ?_);have hne:a≠s.heap.objs.size:=by
   obtain⟨o,ho,_⟩:=pl.isList;exact xAk (xAa ho)
  have hl:=rv.length;rw[yAd] at hl;refine⟨_,_,_,_,_,_,_,λ i=>bs.getD i false,rfl,aBs hh s.heap.objs.size a hne aG.toArray,⟨⟨_,xAe _ rfl,rfl,rfl⟩,?_⟩,λ i v s' Q' E' e hq=>?_,λ s' mv=>?_⟩
  ·obtain⟨o,ho,r'⟩:=pl.isList;exact⟨o,hpS _ ho,r'⟩
  ·obtain rfl:=aEW rv (i:=i) (by simpa using e)
   exact aFy hq
  ·obtain⟨h',g',d',t2,o'⟩:=s';obtain⟨mh,mg,md,mo,mt⟩:=mv;dsimp only at mh mg md mo;subst mg md mo;have I':Inv X aB σ H {s with heap:=h',toks:=t2 }:=I.kept λ b o e=>mh b o (λ z=>by
    have:b=s.heap.objs.size:=by simpa using z
    exact yCc _ (this▸xAa e)) (hpS _ e)
   rw[yAf,<- hl,aMQ];exact⟨.bl (bs.any id),H,I',rfl,q.here R (.bl _)⟩
 ·cases e
noncomputable def tyD:D->Option String
 | .none=>qq "NoneType"
 | .bool _=>qq "bool"
 | .int _=>qq "int"
 | .str _=>qq "str"
 | .list _=>qq "list"
 | .tuple _=>qq "tuple"
 | .dict _=>qz
noncomputable def vP(K:FrG)(n:String)(d:D):Option D:=(tyD d).bind λ t=>(PySem.W.kitOne K (.type t) (.type n)).map yAj
theorem aQ9{aB:List (qv×Obj)}{s:qj}{σ:L2.St}{H F:Hp}{L:List qv}{S:aE}{x:V}{v:qx}{d z:D}{n:String}{Q:VK}(I:Inv X aB σ H s)(R:Rel X.K F L S H)(rx:bB x v)(nx:bM X.K F H d x)(e:vP X.K n d=qq z)(q:fB X F L S z Q) :
 qk (model X.prog X.w) X.A (call (.builtin "isinstance") [v,.type n]) (EP X aB σ Q) X.xe s:=by
 obtain⟨t,e1,e2⟩:=bind_some e;cases ek:PySem.W.kitOne X.K (.type t) (.type n) with
 | none=>rw[ek] at e2;cases e2
 | some b =>
   rw[ek] at e2;cases e2;have bI:∀ tk,EP X aB σ Q (.bool b) {s with toks:=tk }:=λ tk=>⟨.bl b,H,I.tok _,rfl,q.here R (.bl b)⟩
   cases d with
   | none=>cases e1;obtain rfl:=nx.non;cases (show v=Value.none from rx);exact yEm PySem.W.kitx_none I.kIn True.intro ek (λ z=>nomatch z) bI
   | bool y=>cases e1;obtain rfl:=nx.bl;cases (show v=Value.bool y from rx);exact yEm PySem.W.kitx_bool I.kIn True.intro ek (λ z=>nomatch z) bI
   | int i=>cases e1;obtain rfl:=nx.int;obtain⟨t,q⟩:=(show ∃ t,v=Value.int i t from rx);cases q;exact yEm PySem.W.kitx_int I.kIn True.intro ek (λ z=>nomatch z) bI
   | str y=>cases e1;obtain rfl:=nx.str;obtain⟨t,q⟩:=(show ∃ t,v=Value.str y t from rx);cases q;exact yEm PySem.W.kitx_str I.kIn True.intro ek (λ z=>nomatch z) bI
   | list l =>
     cases e1;obtain⟨a,xs,rfl,sq,dl⟩:=nx.lst R.sub;cases (show v=Value.ref a from rx)
     obtain⟨aG,rv,pl,_⟩:=I.list sq;obtain⟨o,ho,hc,_⟩:=pl.isList;exact yEm PySem.W.kitx_list I.kIn ⟨o,ho,hc⟩ ek (λ z=>nomatch z) bI
   | tuple l =>
     cases e1;obtain⟨a,xs,rfl,sq,dl⟩:=nx.tup R.sub;cases (show v=Value.ref a from rx)
     obtain⟨aG,rv,pl,_⟩:=I.tuple sq;obtain⟨o,ho,hc,_⟩:=pl;exact yEm PySem.W.kitx_tuple I.kIn ⟨o,ho,hc⟩ ek (λ z=>nomatch z) bI
   | dict l=>cases e1
noncomputable def aKK(K:FrG)(n:String)(fa:FE):FE:=f1 fa (fU (vP K n))
theorem aT0{a:qw}{fa:FE}{n:String}{x:Str}{p p' pos:Pos}(ha:PE X a (aP X.K fa))(hg:Gl X "isinstance")(hm:X.mg "isinstance" = qz)(hv:jz "isinstance" = qq (.builtin "isinstance"))(hg':Gl X x)(hm':X.mg x=qz)(hv':jz x=qq (.type n))(hn:x ≠ "__name__")(hd:(x==("__debug__" : Str))=false)
 (h1:qo [a,.Name x p'] X.env=(false,eval a X.env)::qo [.Name x p'] X.env):PE X (.Call (.Name "isinstance" p) [a,.Name x p'] [] pos) (aP X.K (aKK X.K n fa)):=by
 have pt:PE X (.Name x p') (tC (.ty n)):=aOZ hg' hm' hv' rfl hn hd;have rule:dD X (.builtin "isinstance") (λ xs H Q=>∃ F L S y d z,xs=[y,.ty n]/\Rel X.K F L S H/\bM X.K F H d y/\vP X.K n d=qq z/\fB X F L S z Q):=λ aB s σ H xs us Q I r aO=>by
  obtain⟨F,L,S,y,d,z,e,R,ny,e2,q⟩:=aO;subst e;obtain⟨u,u2,rfl,r1,r2⟩:=vD r;cases (show u2=Value.type n from r2)
  exact aQ9 I R r1 ny e2 q
 refine PE.weak (nI rule hg hm hv (aCC ha (aCC pt aIU) h1) (by decide) (by decide) h1 rfl) λ σ H Q hPq41=>?_
 obtain⟨F,L,S,env,w,S',R,E,e,q⟩:=hPq41;obtain⟨⟨w1,S1⟩,e1,e2⟩:=bind_some e;obtain⟨d,z,e3,e4,rfl,rfl⟩:=tW e2;exact⟨F,L,S,env,w1,_,R,E,e1,λ F1 L1 H1 v g1 R1 d1=>⟨F1,L1,_,v,d,z,rfl,R1,jA R1 d1 e3,e4,aAd X rfl λ F2 L2 H2 v2 g2 R2 d2=>q F2 L2 H2 v2 (g1.trans g2) R2 d2⟩⟩
noncomputable def aAS(fa:FE):FL:=λ env S=>(fa env S).bind λ p=>(dr p.2 p.1).bind λ d=>(vN d).bind λ l=>qq (l,p.2)
theorem aVj{fa:FE}(σ:St)(H:Hp)(Q:VK)(h:iG X.K (aAS fa) σ H Q):tCB (λ xs H Q=>∃ p ys,xs=[.ref p]/\(bL X.K H p ys\/bQ X.K H p ys)/\∀ l,H l=qz->Q (.ref l) (bE H l (.lst ys))) (fF X.K (cS fa gQ)) σ H Q:=by
 obtain⟨F,L,S,env,ds,S',R,E,e,q⟩:=h;obtain⟨⟨w,S1⟩,e1,e⟩:=bind_some e;obtain⟨d,e2,e⟩:=bind_some e;obtain⟨l,e3,e⟩:=bind_some e;cases e;refine⟨F,L,S,env,[w],_,R,E,by unfold cS;rw[e1];rfl,λ F1 L1 H1 vs g1 R1 d1=>?_⟩
 cases d1 with
 | cons dd dr =>
   cases dr;obtain⟨p,xs,rfl,sq,dl⟩:=aCy R1.sub (jA R1 dd e2) e3;exact⟨p,xs,rfl,sq,λ l hl=>q F1 L1 _ l xs g1 (R1.lay hl) (R1.sub.free hl) (R1.notin hl) cX dl⟩
noncomputable def aJL:D->Option D
 | .int i=>qq (.int ((yAi i:Nat):Int))
 | _=>qz
noncomputable def aDm(fa:FE):FE:=f1 fa (fU aJL)
theorem aQg:kH X "int.bit_length" (λ x xs H Q=>∃ i,x=.int i/\xs=[]/\Q (.int ((yAi i:Nat):Int)) H):=λ aB s σ H x xs v us Q I rx rs aO=>by
 obtain⟨i,e1,e2,q⟩:=aO;subst e1 e2;obtain⟨t,rfl⟩:=rx;cases rs;exact call_gives yGf (yj s i t) PySem.F.entry_int_bit_length (PySem.F.args_int_bit_length_1 _) (PySem.AutoIntG2.int_bit_length_int_0 i t) (show EP X aB σ Q _ _ from ⟨.int _,H,I.tok _,⟨_,rfl⟩,q⟩)
end
section
variable {X : Cx}{aB : List (qv×Obj)}{σ : L2.St}{H : Hp}{s : qj}{h' : Heap}
theorem yQ{ch:List qv}{p:qv}{o:HO}{t':Nat}(I:Inv X aB σ H s)(hch:∀ b∈ch,gF X aB H b)(k:∀ b u,b ∉ ch->s.heap.get? b=qq u->h'.get? b=qq u)(hp:s.heap.objs.size<=p)
 (new:gL X.prog X.w (bE H p o) h' p o):Inv X aB σ (bE H p o) {s with heap:=h',toks:=t' }:=by
 have hn:=I.hok.fresh hp;have nch:∀ b u,H b=qq u->b ∉ ch:=λ b u e z=>by rw[(hch b z).1] at e;cases e
 have nep:∀ b u,s.heap.get? b=qq u->b≠p:=λ b u e z=>absurd (xAc (xAa e) hp) (by rw[z];exact yCc _)
 refine I.step (g':=s.gens) (d':=s.drawn) (ch:=ch) (λ b hb=>⟨(hch b hb).2.2.2.1,(hch b hb).2.1,(hch b hb).2.2.2.2.1,(hch b hb).2.2.2.2.2⟩) (λ b o _ _ hc e _=>k b o hc e) (λ b o _ _ hc e _=>⟨o.slots,k b o hc e⟩) (λ b o _ e n=>by rw[bJ (nep b o e)];exact n)
  (λ b o hc e=>⟨o,k b o hc e⟩) (λ b xs e=>by rw[bJ (dX e hn)];exact e) (λ b u v e=>by rw[bJ (dX e hn)];exact e) (λ b ps e=>⟨#[],by rw[bJ (dX e hn),e];simp⟩) (λ m hm=>?_) (λ b u e=>?_) I.bare
 ·obtain⟨o,es,ep,ho,r⟩:=hm;exact⟨o,es,ep,k _ o (λ z=>(hch _ z).2.1 rfl) ho,r⟩
 ·by_cases hb:b=p
  ·subst hb;rw[cX] at e;cases e;exact new
  ·rw[bJ hb] at e;refine(I.hok b u e).stay (λ c v hc q=>k c v ?_ q) (λ c q=>by rw[bJ (dX q hn)];exact q) λ c xs q=>by rw[bJ (dX q hn)];exact q
   rcases hc with z | z
   ·rw[z];exact nch b u e
   ·exact nch c _ z
end
noncomputable def Ite(K:FrG)(a:qv):It:=
 ⟨λ i H=>∃ xs x,bL K H a xs/\xs[i]? = qq x,λ i H x H'=>∃ p y,H p=qz/\H'=bE H p (.tup [.int i,y])/\x=.ref p/\∀ xs,bL K H a xs->xs[i]? = qq y,λ i H=>∃ xs,bL K H a xs/\xs.length<=i⟩
theorem aM7{P:qu}{w:zx}{K:FrG}{elts:List qw}{k:Nat}{pos:Pos}(a e it:qv)(hei:e≠it):Turn P w K (.Tuple elts k pos) (Ite K a) [e,it] e (λ i h=>(∃ old,IsEnum h e it (i:Nat) old)/\h.IsListIter it a i) where
 mem:=xAd
 obj:=λ i h aO b hb=>by
  obtain⟨⟨old,he⟩,⟨o,ho,hc,hd⟩⟩:=aO;rcases List.mem_cons.mp hb with rfl | hb
  ·exact⟨_,he,λ v=>by intro z;cases z⟩
  ·rw[yCh] at hb;subst hb;exact⟨o,ho,λ v z=>by rw[hd] at z;cases z⟩
 keep:=λ i h h' ⟨⟨old,he⟩,bH⟩ q=>⟨⟨old,q e xAd _ he⟩,bH.at λ o e=>q it (by simp) o e⟩
 item:=λ X hP hW hK hc i aB s σ H E I hf aO kJ=>by
  obtain⟨⟨old,he⟩,bH⟩:=aO;obtain⟨xs,x,hq,hx⟩:=kJ;subst hP hW hK;obtain⟨aG,rv,pl,hz⟩:=I.list hq;obtain⟨u,hu,ru⟩:=rv.get hx;refine wpAny_pyNext_enum_item he bH pl.isList (by simpa using hu) hei λ h₁ heo hit₁ ht₁ hz₁ hk₁=>⟨_,rfl,?_⟩
  refine yv heo λ h₂ he₂ hs₂=>?_
  have hs2:yDx e h₁ h₂:=hs₂;have eLt:e<s.heap.objs.size:=xAa he;have iLt:it<s.heap.objs.size:=by obtain⟨o,ho,_⟩:=bH;exact xAa ho
  have ht₂:h₂.get? s.heap.objs.size=qq {cls:=.type "tuple",data:=.seq #[.int i s.toks,u] }:=hs2.extBut _ _ (yDy eLt) ht₁;have I2:Inv X aB σ (bE H s.heap.objs.size (.tup [.int i,x])) {s with heap:=h₂,toks:=s.toks+1 }:=by
   refine yQ I hf (λ b o hb e'=>?_) (yAb _) ⟨by show 2<=qy;decide,[.int i s.toks,u],.cons ⟨_,rfl⟩ (.cons ru .nil),⟨_,ht₂,rfl,0,rfl⟩⟩
   have b1:b≠e:=λ z=>hb (by simp[z])
   have b2:b≠it:=λ z=>hb (by simp[z])
   exact hs2.extBut b o b1 (hk₁ b o b1 b2 e')
  refine⟨.ref s.heap.objs.size,_,I2,rfl,⟨s.heap.objs.size,x,I.fresh,rfl,rfl,λ ys hy=>by rw[I.list_inj hy hq];exact hx⟩,⟨⟨u,by have:=he₂;rw[show((i+1:Nat):Int)=(i:Int)+1 by omega];exact this⟩,hit₁.extBut hs2.extBut (Ne.symm hei)⟩,λ b hb=>?_⟩
  have:b<s.heap.objs.size:=by
   rcases List.mem_cons.mp hb with rfl | hb
   ·exact eLt
   ·rw[yCh] at hb;subst hb;exact iLt
  rw[bJ (xAk this)];exact(hf b hb).1
 done:=λ X hP hW hK hc i aB s σ H E I hf aO kJ=>by
  obtain⟨⟨old,he⟩,bH⟩:=aO;obtain⟨xs,hq,hx⟩:=kJ;subst hP hW hK;obtain⟨aG,rv,pl,hz⟩:=I.list hq;refine wpAny_pyNext_enum_end (I.ok.hd hc) he bH pl.isList (by have:=rv.length;simp;omega) λ h₁ he₁=>⟨rfl,?_⟩
  obtain⟨f1,f2,f3,f4,f5,f6⟩:=hf it (by simp)
  exact I.turned (t':=s.toks) (λ b o hb e'=>he₁ b o hb e') f1 f2 f4 f5 f6
 self:=λ A i s Q E ⟨⟨old,he⟩,_⟩ hq=>vk he hq
section
variable {X : Cx}
noncomputable def iN(k:Int):List D->List D
 | []=>[]
 | d::r=>.tuple [.int k,d]::iN (k+1) r
theorem tG:∀ (ds:List D) (k:Int),(iN k ds).length=ds.length
 | [],_=>rfl
 | _::r,k=>by simp[iN,tG r]
theorem aBO:∀ (ds:List D) (k:Int) (i:Nat) (e:D),(iN k ds)[i]? = qq e->∃ d,ds[i]? = qq d/\e=.tuple [.int (k+i),d]
 | [],_,_,_,h=>by simp[iN] at h
 | d::r,k,0,e,h=>by simp[iN] at h;subst h;exact⟨d,rfl,by simp⟩
 | d::r,k,i+1,e,h=>by
   obtain⟨d',e1,e2⟩:=aBO r (k+1) i e (by simpa [iN] using h)
   refine⟨d',by simpa using e1,?_⟩
   rw[e2];congr 3
   push_cast
   omega
theorem aPO{K:FrG}{F:Hp}{L:List qv}{a:qv}{xs:List V}{ds:List D}(sq:bL K F a xs)(dl:DenL K F ds xs):Wk K F L (Ite K a) (iN 0 ds) where
 go:=λ i H s hi=>by
  rw[tG] at hi;exact⟨xs,xs[i]'(by rw[<- dl.length];exact hi),s.seq sq,by simp[dl.length▸hi]⟩
 stop:=λ H s=>⟨xs,s.seq sq,by rw[tG];exact yFx dl.length.symm⟩
 yld:=λ i H F1 L1 S x H' d g R e y=>by
  obtain⟨p,y',hp,rfl,rfl,hy⟩:=y;obtain⟨d',e1,rfl⟩:=aBO ds 0 i d e;obtain⟨x',e2,dx⟩:=dl.get e1;have h:=hy xs ((g.f.trans R.sub).seq sq);rw[h] at e2;cases e2;have hF:F1 p=qz:=R.sub.free hp;refine⟨bE F1 p (.tup [.int i,y']),dP hF,R.new hp,.tup (bQ.of cX) ?_⟩;rw[Int.zero_add];exact .cons (.int _) (.cons (dx.mono (g.f.trans (dP hF))) .nil)
end
section
variable {prog : qu}{w : zx}{A : zv}{E : qx -> qj -> Prop}{s : qj}
theorem aLh{it t:qv}{i:Nat}{aM:Array qx}{x:qx}{Q:qx->qj->Prop}(bH:s.heap.IsTupleIter it t i)(ht:s.heap.IsTuple t aM)(hx:aM[i]? = qq x)
 (hQ:∀ h',h'.IsTupleIter it t (i+1)->yDx it s.heap h'->Q x {s with heap:=h' }):qk (model prog w) A (yAu (.ref it)) Q E s:=by
 obtain⟨o,ho,hc,hd⟩:=id bH;obtain⟨ol,hol,_,nl,hdl⟩:=ht;unfold yAu;refine wB (wpAny_callSpecial?_slot (name:=Str.ofString "__next__") bH.typeIs F.slot_tuple_iterator_next (xj F.slot_tuple_iterator_next bH.typeIs F.entry_tuple_iterator_next ?_ (F.args_tuple_iterator_next_1 _)));show qk _ _ (field (.ref it) 0 >>= _) _ _ s;refine wB (zj ho hd (x:=.ref t) rfl ?_);show qk _ _ (if (Value.ref t==Value.none)=true then _ else _) _ _ s
 rw[if_neg (show ¬ ((Value.ref t==Value.none)=true) from yBj)]
 show qk _ _ (field (.ref it) 1 >>= _) _ _ s;refine wB (zj ho hd (x:=.int i 0) rfl ?_);show qk _ _ (seqItems? (.ref t) >>= _) _ _ s;refine wB (xz hol hdl ?_);simp only[yAo,hx];refine wB (wpAny_setField ho hd (by simp) (wP ⟨x,rfl,wP (hQ _ ⟨_,yDi _ ho (Obj.isFreed_of_fields (Obj.data_mapFields hd _)),(Obj.cls_mapFields ..).trans hc,?_⟩ (Heap.SameBut.update ..))⟩))
 rw[Obj.data_mapFields hd];simp[yk]
theorem aEG{it t:qv}{i:Nat}{aM:Array qx}{Q:qx->qj->Prop}(hh:A.handled=qz)(bH:s.heap.IsTupleIter it t i)(ht:s.heap.IsTuple t aM)(hx:aM[i]? = qz)
 (hE:∀ h' e,Heap.ExtBut it s.heap h'->(∃ o,h'.get? e=qq o/\o.cls=.type "StopIteration")->E (.ref e) {s with heap:=h' }):qk (model prog w) A (yAu (.ref it)) Q E s:=by
 obtain⟨o,ho,hc,hd⟩:=id bH;obtain⟨ol,hol,_,nl,hdl⟩:=ht;unfold yAu;refine wB (wpAny_callSpecial?_slot (name:=Str.ofString "__next__") bH.typeIs F.slot_tuple_iterator_next (xj F.slot_tuple_iterator_next bH.typeIs F.entry_tuple_iterator_next ?_ (F.args_tuple_iterator_next_1 _)));show qk _ _ (field (.ref it) 0 >>= _) _ _ s;refine wB (zj ho hd (x:=.ref t) rfl ?_);show qk _ _ (if (Value.ref t==Value.none)=true then _ else _) _ _ s
 rw[if_neg (show ¬ ((Value.ref t==Value.none)=true) from yBj)]
 show qk _ _ (field (.ref it) 1 >>= _) _ _ s;refine wB (zj ho hd (x:=.int i 0) rfl ?_);show qk _ _ (seqItems? (.ref t) >>= _) _ _ s;refine wB (xz hol hdl ?_);simp only[yAo,hx];refine wB (wq (wB (wpAny_setField ho hd (by simp) ?_)))
 show qk _ _ (newExc (.type "StopIteration") [] >>= _) _ _ _;refine wB ?_;simp only[newExc,newTuple];refine wB (xw (wB (m:=firstArgMember _ _) (wpAny_of_eq (a:=Value.none) (by first | rfl | (simp only[firstArgMember];rfl)) (xw ?_ (by size_fits)))) (by size_fits))
 simp only[raiseNew];refine wB (wpAny_handled ?_)
 first | rw[show A.in1.handled=qz from hh] | rw[hh]
 exact wB (wP (wpAny_throw (hE _ _ (((Heap.SameBut.update ..).extBut.push _).push _) ⟨_,xAe _ rfl,rfl⟩)))
theorem aK9{e it t:qv}{i:Nat}{aM:Array qx}{old:qx}{Q:Option qx->qj->Prop}(hh:A.in1.handled=qz)
 (he:IsEnum s.heap e it i old) (bH:s.heap.IsTupleIter it t i) (ht:s.heap.IsTuple t aM) (hx:aM[i]? = qz)
 (hQ:∀ h',Heap.ExtBut it s.heap h'->Q qz {s with heap:=h' }):qk (model prog w) A (vx (.ref e)) Q E s:=by
 have hT:s.TypeIs (.ref e) "enumerate":=⟨_,he,rfl⟩;unfold vx;refine wB (wj (wpAny_callSpecial?_slot (name:=Str.ofString "__next__") hT F.slot_enumerate_next (xj F.slot_enumerate_next hT F.entry_enumerate_next ?_ (F.args_enumerate_next_1 _))));show qk _ _ (field (.ref e) 2 >>= _) _ _ _;refine wB (zj he rfl (x:=.ref it) rfl (wB (aEG hh bH ht hx λ h' x he' hx'=>?_)))
 obtain⟨o,ho,hc⟩:=hx';exact wB (kq (T:="StopIteration") (b:=true) ⟨o,ho,hc⟩ ky (wP (hQ _ he')))
theorem aFC(hh:A.handled=qz)(it t:qv)(hne:t≠it)(aM:Array qx):Draws prog w A it [it,t] aM.size (λ i v=>aM[i]? = qq v) (λ i h=>h.IsTupleIter it t i/\h.IsTuple t aM) where
 live:=λ _ _ st=>let ⟨o,ho,_⟩:=st.1;⟨o,ho⟩
 frame:=λ _ _ _ st hk=>⟨st.1.at λ o e=>hk it (by simp) o e,let ⟨u,hu,r⟩:=st.2;⟨u,hk t (by simp) u hu,r⟩⟩
 item:=λ i s Q E hi st hQ=>aLh st.1 st.2 (x:=aM[i]) (by simp[hi]) λ h' hit' hs'=>hQ _ h' s.toks (by simp[hi]) ⟨hit',let ⟨u,hu,r⟩:=st.2;⟨u,hs'.extBut t u hne hu,r⟩⟩ hs'
 done:=λ s Q E st hE=>aEG hh st.1 st.2 (by simp) hE
theorem aMN(l:qv)(aM:Array qx)(n:Nat)(dct:Option qv)(sl:Array (Option qx)) :
 Meets (Builtin.«enumerate.__new__» ⟨[.type "enumerate",.ref l],[]⟩) (λ _ R s=>s.heap.get? l=qq {cls:=.type "tuple",dict:=dct,data:=.seq aM n,slots:=sl } /\
  R (.ok (.ret (.ref (s.heap.push {cls:=.type "tuple_iterator",data:=.fields #[.ref l,.int 0 0] }).objs.size)))
   {s with heap:=(s.heap.push {cls:=.type "tuple_iterator",data:=.fields #[.ref l,.int 0 0] }).push {cls:=.type "enumerate",data:=.fields #[.none,.bool false,.ref s.heap.objs.size,yk 0,.none,.none] } }):=
 .of_wp λ prog w A R s h=>by
  obtain⟨hp,g,d,tk,os⟩:=s;obtain⟨hl,h⟩:=h;have hsub:=sub_enumerate;have hL:Heap.IsTuple (Shared.heap ⟨hp,g,d,tk,os⟩) l aM:=⟨_,hl,rfl,n,rfl⟩
  wp_walk using AutoSeq1.wpAny_loadPart' hl
  refine wpAny_stack_any λ st=>wP ?_
  split
  ·rename_i c _ _ _ _ _;cases (c==Value.type "enumerate")
   ·wp_walk using AutoSeq1.wpAny_loadPart' hl,jy hL
    exact⟨_,rfl,h⟩
   ·wp_walk using AutoSeq1.wpAny_loadPart' hl,jy hL
    exact⟨_,rfl,h⟩
  ·wp_walk using AutoSeq1.wpAny_loadPart' hl,jy hL
   exact⟨_,rfl,h⟩
theorem aMq{l:qv}{aM:Array qx}{Q:qx->qj->Prop}(hL:s.heap.IsTuple l aM)
 (h:∀ h',IsEnum h' (s.heap.objs.size+1) s.heap.objs.size 0 .none->h'.IsTupleIter s.heap.objs.size l 0->h'.objs.size=s.heap.objs.size+2 ->
   (∀ b o,s.heap.get? b=qq o->h'.get? b=qq o)->Q (.ref (s.heap.objs.size+1)) {s with heap:=h' }) :
 qk (model prog w) A (call (.type "enumerate") [.ref l]) Q E s:=by
 obtain⟨⟨c,dct,dt,sl⟩,hl,hc,n,hd⟩:=hL
 replace hc:c=.type "tuple":=hc
 replace hd:dt=.seq aM n:=hd
 subst hc hd;refine callType_new F.called_enumerate (by decide) (F.typeCall_enumerate_1 _) (F.newCall_enumerate_1 _) (λ obj=>F.args_object_init_2 obj _) F.entry_enumerate_new (aMN l aM n dct sl) ⟨hl,?_⟩
 have hz:(s.heap.push {cls:=.type "tuple_iterator",data:=.fields #[.ref l,.int 0 0] }).objs.size=s.heap.objs.size+1:=yBz ..;show _/\_;rw[hz];have he:IsEnum ((s.heap.push {cls:=.type "tuple_iterator",data:=.fields #[.ref l,.int 0 0] }).push {cls:=.type "enumerate",data:=.fields #[.none,.bool false,.ref s.heap.objs.size,yk 0,.none,.none] }) (s.heap.objs.size+1) s.heap.objs.size 0 .none:=by
  have:=xAe (s.heap.push {cls:=.type "tuple_iterator",data:=.fields #[.ref l,.int 0 0] }) (o:={cls:=.type "enumerate",data:=.fields #[.none,.bool false,.ref s.heap.objs.size,yk 0,.none,.none] }) rfl;rw[hz] at this;exact this
 exact⟨⟨_,he,rfl⟩,h _ he ⟨_,hpS _ (xAe _ rfl),rfl,rfl⟩ (by rw[yBz,hz]) λ b o x=>hpS _ (hpS _ x)⟩
end
noncomputable def aDU(K:FrG)(a:qv):It:=
 ⟨λ i H=>∃ xs x,bQ K H a xs/\xs[i]? = qq x,λ i H x H'=>∃ p y,H p=qz/\H'=bE H p (.tup [.int i,y])/\x=.ref p/\∀ xs,bQ K H a xs->xs[i]? = qq y,λ i H=>∃ xs,bQ K H a xs/\xs.length<=i⟩
theorem aMy{P:qu}{w:zx}{K:FrG}{elts:List qw}{k:Nat}{pos:Pos}(a e it:qv)(hei:e≠it)(hea:e≠a)(hai:a≠it):Turn P w K (.Tuple elts k pos) (aDU K a) [e,it] e (λ i h=>(∃ old,IsEnum h e it (i:Nat) old)/\h.IsTupleIter it a i) where
 mem:=xAd
 obj:=λ i h aO b hb=>by
  obtain⟨⟨old,he⟩,⟨o,ho,hc,hd⟩⟩:=aO;rcases List.mem_cons.mp hb with rfl | hb
  ·exact⟨_,he,λ v=>by intro z;cases z⟩
  ·rw[yCh] at hb;subst hb;exact⟨o,ho,λ v z=>by rw[hd] at z;cases z⟩
 keep:=λ i h h' ⟨⟨old,he⟩,bH⟩ q=>⟨⟨old,q e xAd _ he⟩,bH.at λ o e=>q it (by simp) o e⟩
 item:=λ X hP hW hK hc i aB s σ H E I hf aO kJ=>by
  obtain⟨⟨old,he⟩,bH⟩:=aO;obtain⟨xs,x,hq,hx⟩:=kJ;subst hP hW hK;obtain⟨aG,rv,pl,hz⟩:=I.tuple hq;obtain⟨u,hu,ru⟩:=rv.get hx;have hlt:i<aG.toArray.size:=by
   rw[yAf];exact(gIm hu).1
  have hh:X.A.in1.handled=qz:=I.ok.hd hc;refine wpAny_pyNext_enum_itemD (aFC (prog:=X.prog) (w:=X.w) hh it a hai aG.toArray) he ⟨bH,pl⟩ hlt hei (by simp[hei,hea]) λ x' h₁ tk hP heo hit₁ ht₁ hz₁ hk₁=>⟨_,rfl,?_⟩
  have:x'=u:=by
   rw[yDk,hu] at hP;exact(Option.some.inj hP).symm
  subst this;refine yv heo λ h₂ he₂ hs₂=>?_
  have hs2:yDx e h₁ h₂:=hs₂;have eLt:e<s.heap.objs.size:=xAa he;have iLt:it<s.heap.objs.size:=by obtain⟨o,ho,_⟩:=bH;exact xAa ho
  have ht₂:h₂.get? s.heap.objs.size=qq {cls:=.type "tuple",data:=.seq #[.int i tk,x'] }:=hs2.extBut _ _ (yDy eLt) ht₁;have I2:Inv X aB σ (bE H s.heap.objs.size (.tup [.int i,x])) {s with heap:=h₂,toks:=tk+1 }:=by
   refine yQ I hf (λ b o hb e'=>?_) (yAb _) ⟨by show 2<=qy;decide,[.int i tk,x'],.cons ⟨_,rfl⟩ (.cons ru .nil),⟨_,ht₂,rfl,0,rfl⟩⟩
   have b1:b≠e:=λ z=>hb (by simp[z])
   have b2:b≠it:=λ z=>hb (by simp[z])
   exact hs2.extBut b o b1 (hk₁ b o b1 b2 e')
  refine⟨.ref s.heap.objs.size,_,I2,rfl,⟨s.heap.objs.size,x,I.fresh,rfl,rfl,λ ys hy=>by rw[I.tuple_inj hy hq];exact hx⟩,⟨⟨x',by have:=he₂;rw[show((i+1:Nat):Int)=(i:Int)+1 by omega];exact this⟩,?_⟩,λ b hb=>?_⟩
  ·obtain⟨o,ho,r⟩:=hit₁.1;exact⟨o,hs2.extBut it o (Ne.symm hei) ho,r⟩
  ·have:b<s.heap.objs.size:=by
    rcases List.mem_cons.mp hb with rfl | hb
    ·exact eLt
    ·rw[yCh] at hb;subst hb;exact iLt
   rw[bJ (xAk this)];exact(hf b hb).1
 done:=λ X hP hW hK hc i aB s σ H E I hf aO kJ=>by
  obtain⟨⟨old,he⟩,bH⟩:=aO;obtain⟨xs,hq,hx⟩:=kJ;subst hP hW hK;obtain⟨aG,rv,pl,hz⟩:=I.tuple hq;have hh:X.A.in1.handled=qz:=I.ok.hd hc;have hl:=rv.length;refine aK9 hh he bH pl (by simp;omega) λ h₁ he₁=>⟨rfl,?_⟩
  obtain⟨f1,f2,f3,f4,f5,f6⟩:=hf it (by simp)
  exact I.turned (t':=s.toks) (λ b o hb e'=>he₁ b o hb e') f1 f2 f4 f5 f6
 self:=λ A i s Q E ⟨⟨old,he⟩,_⟩ hq=>vk he hq
section
variable {X : Cx}
def aH9(K:FrG)(ta:TA):TI:=λ σ H R=>ta σ H λ vs H1=>∃ a,vs=[.ref a]/\(((∃ xs,bL K H1 a xs)/\R (Ite K a) H1)\/((∃ xs,bQ K H1 a xs)/\R (aDU K a) H1))
theorem aOm{elts:List qw}{k:Nat}{pp:Pos}{a:qw}{ta:TA}{p pos:Pos}(hg:Gl X "enumerate")(hm:X.mg "enumerate" = qz)(ha:PA X [a] ta)(hs:qo [a] X.env=[(false,eval a X.env)]):PI X (.Tuple elts k pp) (.Call (.Name "enumerate" p) [a] [] pos) (aH9 X.K ta):=by
 intro aB s σ H R I h;refine Call_ (kX I hg hm boot_enumerate (yBk (bC (ha pos aB s σ H _ I h) λ us s1 hPq42=>?_) hs rfl))
 obtain⟨vs,H1,I1,r1,q1⟩:=hPq42;obtain⟨l,rfl,q1⟩:=q1;obtain⟨u,rfl,ru⟩:=iL r1;cases ru;have hb':∀ b∈[s1.heap.objs.size+1,s1.heap.objs.size],s1.heap.objs.size<=b:=λ b hb=>by
  rcases List.mem_cons.mp hb with rfl | hb
  ·exact Nat.le_succ _
  ·rw[yCh] at hb;rw[hb];exact yAb _
 rcases q1 with ⟨⟨xs,sq⟩,q⟩ | ⟨⟨xs,sq⟩,q⟩
 ·obtain⟨aG,rv,pl,hz⟩:=I1.list sq;refine call_enumerate_list pl.isList λ h' he bH hsz hk=>vk he ?_
  have I2:Inv X aB σ H1 {s1 with heap:=h' }:=I1.kept (t':=s1.toks) hk
  exact⟨s1.heap.objs.size+1,[s1.heap.objs.size+1,s1.heap.objs.size],_,_,H1,rfl,I2,aM7 l _ _ (Nat.succ_ne_self _),⟨⟨_,he⟩,bH⟩,λ b hb=>I1.fpOk (hb' b hb) (I1.hok.fresh (hb' b hb)),q⟩
 ·obtain⟨aG,rv,pl,hz⟩:=I1.tuple sq;have hlt:l<s1.heap.objs.size:=by obtain⟨o,ho,_⟩:=pl;exact xAa ho
  refine aMq pl λ h' he bH hsz hk=>vk he ?_
  have I2:Inv X aB σ H1 {s1 with heap:=h' }:=I1.kept (t':=s1.toks) hk
  exact⟨s1.heap.objs.size+1,[s1.heap.objs.size+1,s1.heap.objs.size],_,_,H1,rfl,I2,aMy l _ _ (Nat.succ_ne_self _) (yDy (yFr hlt)) (xAk hlt),⟨⟨_,he⟩,bH⟩,λ b hb=>I1.fpOk (hb' b hb) (I1.hok.fresh (hb' b hb)),q⟩
theorem aNv{K:FrG}{F:Hp}{L:List qv}{a:qv}{xs:List V}{ds:List D}(sq:bQ K F a xs)(dl:DenL K F ds xs):Wk K F L (aDU K a) (iN 0 ds) where
 go:=λ i H s hi=>by
  rw[tG] at hi;exact⟨xs,xs[i]'(by rw[<- dl.length];exact hi),iM s sq,by simp[dl.length▸hi]⟩
 stop:=λ H s=>⟨xs,iM s sq,by rw[tG];exact yFx dl.length.symm⟩
 yld:=λ i H F1 L1 S x H' d g R e y=>by
  obtain⟨p,y',hp,rfl,rfl,hy⟩:=y;obtain⟨d',e1,rfl⟩:=aBO ds 0 i d e;obtain⟨x',e2,dx⟩:=dl.get e1;have h:=hy xs (iM (g.f.trans R.sub) sq);rw[h] at e2;cases e2;have hF:F1 p=qz:=R.sub.free hp;refine⟨bE F1 p (.tup [.int i,y']),dP hF,R.new hp,.tup (bQ.of cX) ?_⟩;rw[Int.zero_add];exact .cons (.int _) (.cons (dx.mono (g.f.trans (dP hF))) .nil)
noncomputable def uL(fa:FE):FL:=λ env S=>(fa env S).bind λ p=>match p.1 with
 | .d (.list ds)=>qq (iN 0 ds,p.2)
 | .d (.tuple ds)=>qq (iN 0 ds,p.2)
 | _=>qz
theorem aQu{K:FrG}{fa:FE}(σ:St)(H:Hp)(Rr:It->Hp->Prop)(h:iV K (uL fa) σ H Rr):aH9 K (fF K (cS fa gQ)) σ H Rr:=by
 obtain⟨F,L,S,env,ds,S',R,E,e,q⟩:=h;obtain⟨⟨w,S1⟩,e1,e2⟩:=bind_some e;dsimp only at e2
 split at e2
 ·rename_i ds';cases e2;refine⟨F,L,S,env,[.d (.list ds')],_,R,E,by unfold cS;rw[e1];rfl,λ F1 L1 H1 vs g1 R1 d1=>?_⟩
  cases d1 with
  | cons dd dr =>
    cases dr;cases (show Den K F1 (.list ds') _ from dd) with
    | lst sq dl=>exact⟨_,rfl,.inl ⟨⟨_,R1.sub.seq sq⟩,q F1 L1 H1 _ g1 R1 (aPO sq dl)⟩⟩
 ·rename_i ds';cases e2;refine⟨F,L,S,env,[.d (.tuple ds')],_,R,E,by unfold cS;rw[e1];rfl,λ F1 L1 H1 vs g1 R1 d1=>?_⟩
  cases d1 with
  | cons dd dr =>
    cases dr;cases (show Den K F1 (.tuple ds') _ from dd) with
    | tup sq dl=>exact⟨_,rfl,.inr ⟨⟨_,iM R1.sub sq⟩,q F1 L1 H1 _ g1 R1 (aNv sq dl)⟩⟩
 ·cases e2
end
inductive Tv where
 | int (i:Int) | str (x:Str) | bool (b:Bool)
 deriving DecidableEq
noncomputable def Tv.d:Tv->D
 | .int i=>.int i | .str x=>.str x | .bool b=>.bool b
noncomputable def Tv.v:Tv->V
 | .int i=>.int i | .str x=>.str x | .bool b=>.bl b
theorem Tv.den{K:FrG}{F:Hp}(t:Tv):Den K F t.d t.v:=by
 cases t
 ·exact .int _
 ·exact .str _
 ·exact .bl _
noncomputable def rV(w:zx):List DictEntry->List (Str×Tv)->Prop
 | [],[]=>True
 | e::r,(x,v)::bA=>e.hash=hashStr w x/\(∃ t,e.key=.str x t)/\bB v.v e.val/\rV w r bA
 | _,_=>False
def vO(K:FrG)(w:zx)(a:qv)(bA:List (Str×Tv)):Prop:=∃ es ep,K.lookup a=qq {cls:=.type "dict",data:=.dict es ep }/\rV w es.toList bA
noncomputable def aA3(bA:List (Str×Tv)):D->Option D
 | .str x=>(bA.lookup x).map Tv.d
 | _=>qz
theorem aGw{P:qu}{w:zx}:∀ {l:List DictEntry}{bA:List (Str×Tv)},rV w l bA->∀ e∈l,∃ k,(nP P w).is k e.key=true/\e.hash=(nP P w).hash k
 | [],[],_,e,h=>by cases h
 | e::r,(x,v)::bA,ok,e',h=>by
   obtain⟨h1,⟨t,h2⟩,_,h4⟩:=ok;rcases List.mem_cons.mp h with rfl | h
   ·exact⟨.inr x,by rw[h2];exact aFG x t,h1⟩
   ·exact aGw h4 e' h
 | [],_::_,ok,_,_=>ok.elim
 | _::_,[],ok,_,_=>ok.elim
theorem aNH(x y:Str)(t:Tok):pT (.inr x) (.str y t)=(x==y):=by
 have h:(y==x)=(x==y):=by
  rw[yEn];constructor<;>intro z<;>simp at z ⊢ <;> exact z.symm
 simp[pT,Value.isStrOf,h]
theorem aGW{w:zx}{k:Str}{v:Tv}:∀ {l:List DictEntry}{bA:List (Str×Tv)},rV w l bA->bA.lookup k=qq v->∃ u,(l.find? λ e=>pT (.inr k) e.key).map (·.val)=qq u/\bB v.v u
 | [],[],_,h=>by cases h
 | e::r,(x,v')::bA,ok,h=>by
   obtain⟨h1,⟨t,h2⟩,h3,h4⟩:=ok;rw[yCd] at h;rw[List.find?_cons,h2,aNH];cases q:k==x with
   | true =>
     rw[q] at h;cases h;exact⟨e.val,rfl,h3⟩
   | false =>
     rw[q] at h;exact aGW h4 h
 | [],_::_,ok,_=>ok.elim
 | _::_,[],ok,_=>ok.elim
section
variable {X : Cx}
theorem aTj{bA:List (Str×Tv)}:lI X (λ x y H Q=>∃ a k v,x=.ref a/\vO X.K X.w a bA/\y=.str k/\bA.lookup k=qq v/\Q v.v H):=by
 intro value iX aB s σ H x y v u Q I rx ry h hs;obtain⟨a,k,tv,rfl,⟨es,ep,hl,ok⟩,rfl,hv,q⟩:=h;cases rx;obtain⟨t,rfl⟩:=ry;obtain⟨z,e1,e2⟩:=aGW ok hv;have hm:s.heap.MapOf (nP X.prog X.w) a (λ k=>findBy (nP X.prog X.w).is es k):=⟨_,es,ep,I.kIn a _ hl,⟨rfl,rfl,rfl⟩,rfl,λ e he=>aGw ok e (by simpa using he),λ _=>rfl⟩
 have hz:findBy (nP X.prog X.w).is es (.inr k)=qq z:=by
  unfold findBy;rw[<- Array.find?_toList];exact e1
 exact tail_any hm.typeIs PySem.F.slot_dict_getitem.lookup (wpAny_getItem_of (aFG k t) hm hz ⟨_,H,I.tok _,e2,q⟩) hs
theorem aT7{x:Str}{k:qw}{fk:FE}{p pos:Pos}{bA:List (Str×Tv)}(hg:Gl X x)(hd:(x==("__debug__" : Str))=false)(ht:∃ a,X.mg x=qq (.ref a)/\vO X.K X.w a bA)(hk:PE X k (aP X.K fk))(hs:zX k) :
 PE X (.Subscript (.Name x p) k pos) (aP X.K (f1 fk (fU (aA3 bA)))):=by
 obtain⟨a,hm,ta⟩:=ht;refine PE.weak (aJX (aTj (bA:=bA)) (aHe (v:=.ref a) hg hm rfl hd) hk hs) λ σ H Q hPq43=>?_
 obtain⟨F,L,S,env,w,S',R,E,e,q⟩:=hPq43;obtain⟨⟨w1,S1⟩,e1,e2⟩:=bind_some e;obtain⟨d,z,e3,e4,rfl,rfl⟩:=tW e2;cases d with
 | str y =>
   obtain⟨v,hv,rfl⟩:=Option.map_eq_some_iff.mp (show(bA.lookup y).map Tv.d=qq z from e4)
   refine⟨F,L,S,env,w1,_,R,E,e1,λ F1 L1 H1 u g1 R1 d1=>⟨a,y,v,rfl,ta,(jA R1 d1 e3).str,hv,?_⟩⟩
   exact q F1 L1 H1 v.v g1 R1 (show Den X.K F1 v.d v.v from v.den)
 | _=>cases e4
end
section
variable {prog : qu}{w : zx}{A : zv}{s : qj}{R : Result -> qj -> Prop}{J : qv}{fp wr : List qv}{Gg : Array GenState -> Array GenState -> Prop}{m : Nat}{P : Nat -> qx -> Prop}{St : Nat -> qj -> Prop}
end
section
variable {prog : qu}{w : zx}{A : zv}{E : qx -> qj -> Prop}{s : qj}{J : qv}{fp wr : List qv}{Gg : Array GenState -> Array GenState -> Prop}{m : Nat}{P : Nat -> qx -> Prop}{St : Nat -> qj -> Prop}
end
section
variable {X : Cx}
end
noncomputable def aAv:List qx->List Tv->Prop
 | [],[]=>True
 | u::us,t::ts=>bB t.v u/\aAv us ts
 | _,_=>False
theorem aGO:∀ {us:List qx}{ts:List Tv},aAv us ts->aT (ts.map Tv.v) us
 | [],[],_=>.nil
 | _::_,_::_,⟨h1,h2⟩=>.cons h1 (aGO h2)
 | [],_::_,h=>h.elim
 | _::_,[],h=>h.elim
theorem aG4{K:FrG}{F:Hp}:∀ ts:List Tv,DenL K F (ts.map Tv.d) (ts.map Tv.v)
 | []=>.nil
 | t::ts=>.cons t.den (aG4 ts)
def rS(K:FrG)(a:qv)(ts:List Tv):Prop:=∃ (o:Obj) (aG:Array qx) (n:Nat),K.lookup a=qq o/\o.cls=.type "tuple" /\ o.data=.seq aG n/\aG.size<=qy/\aAv aG.toList ts
theorem aP8{K:FrG}{F:Hp}{a:qv}{ts:List Tv}(h:rS K a ts):Den K F (.tuple (ts.map Tv.d)) (.ref a):=by
 obtain⟨o,aG,n,h1,h2,h3,h4,h5⟩:=h;exact .tup (.inr ⟨o,aG,n,h1,h2,h3,h4,aGO h5⟩) (aG4 ts)
section
variable {X : Cx}
theorem aTS{x:Str}{p:Pos}{ts:List Tv}(hg:Gl X x)(hd:(x==("__debug__" : Str))=false)(ht:∃ a,X.mg x=qq (.ref a)/\rS X.K a ts):PE X (.Name x p) (aP X.K (fC (.tuple (ts.map Tv.d)))):=by
 obtain⟨a,hm,ca⟩:=ht;refine PE.weak (aHe (v:=.ref a) hg hm rfl hd) λ σ H Q hPq44=>?_
 obtain⟨F,L,S,env,w,S',R,E,e,q⟩:=hPq44;cases e;exact q F L H _ Gr.refl R (aP8 ca)
noncomputable def mB(op op':jq)(fa fb fc:FE):FE:=λ env S=>(fa env S).bind λ p=>(fb env p.2).bind λ q=>(gU (aV op) q.2 p.1 q.1).bind λ r=>match r.1 with
 | .d (.bool true)=>(fc env r.2).bind λ t=>gU (aV op') t.2 q.1 t.1
 | .d (.bool false)=>qq (.d (.bool false),r.2)
 | _=>qz
theorem aF4{op:jq}{x y z:D}(h:aV op x y=qq z):∃ k,z=.bool k:=by
 unfold aV at h;obtain⟨k,_,rfl⟩:=Option.map_eq_some_iff.mp h;exact⟨k,rfl⟩
theorem aHE{op op':jq}{fa fb fc:FE}(σ:L2.St)(H:Hp)(Q:VK)(h:aP X.K (mB op op' fa fb fc) σ H Q):aDa (sR X (aV op)) (sR X (aV op')) (aP X.K fa) (aP X.K fb) (aP X.K fc) σ H Q:=by
 obtain⟨F,L,S,env,w,S',R,E,e,q⟩:=h;obtain⟨⟨wx,S1⟩,ea,e⟩:=bind_some e;obtain⟨⟨wy,S2⟩,eb,e⟩:=bind_some e;obtain⟨⟨wr,S3⟩,er,e⟩:=bind_some e;dsimp only at e eb er;obtain⟨a,b,z,e1,e2,e3,rfl,rfl⟩:=zI er;obtain⟨k,rfl⟩:=aF4 e3;refine⟨F,L,S,env,wx,S1,R,E,ea,λ F1 L1 H1 x g1 R1 d1=>⟨F1,L1,S1,env,wy,S3,R1,E.mono g1,eb,λ F2 L2 H2 y g2 R2 d2=>?_⟩⟩
 refine rM F2 L2 S3 H2 x y wx wy (.d (.bool k)) S3 _ R2 (d1.mono g2) d2 er λ F3 L3 H3 v g3 R3 d3=>?_
 have d3':Den X.K F3 (.bool k) v:=d3;cases d3';refine⟨k,rfl,?_⟩;cases k with
 | false =>
   dsimp only at e;cases e;rw[if_neg (by decide)]
   exact q F3 L3 H3 _ ((g1.trans g2).trans g3) R3 d3
 | true =>
   dsimp only at e;obtain⟨⟨wz,S4⟩,ec,e⟩:=bind_some e;rw[if_pos rfl];exact⟨F3,L3,S3,env,wz,S4,R3,((E.mono g1).mono g2).mono g3,ec,λ F4 L4 H4 w' g4 R4 d4=>rM F4 L4 S4 H4 y w' wy wz w S' Q R4 ((d2.mono g3).mono g4) d4 e λ F5 L5 H5 v g5 R5 d5=>q F5 L5 H5 v ((((g1.trans g2).trans g3).trans g4).trans g5) R5 d5⟩
theorem aMm{op op':jq}{fa fb fc:FE}{env:aZ}{S S':aE}{w:W}(e:mB op op' fa fb fc env S=qq (w,S')):∃ k,w=.d (.bool k):=by
 obtain⟨⟨wx,S1⟩,ea,e⟩:=bind_some e;obtain⟨⟨wy,S2⟩,eb,e⟩:=bind_some e;obtain⟨⟨wr,S3⟩,er,e⟩:=bind_some e;dsimp only at e
 split at e
 ·obtain⟨⟨wz,S4⟩,ec,e⟩:=bind_some e;obtain⟨a,b,z,e1,e2,e3,rfl,rfl⟩:=zI e;obtain⟨k,rfl⟩:=aF4 e3;exact⟨k,rfl⟩
 ·cases e;exact⟨false,rfl⟩
 ·cases e
theorem aPd{a b c:qw}{op op':jq}{pos:Pos}{fa fb fc:FE}(hu:X.A.units+64<cLine)(ha:PE X a (aP X.K fa))(hb:PE X b (aP X.K fb))(hc:PE X c (aP X.K fc))(hm:lastMarks [op,op'] [b,c]=false):PE X (.Compare a [op,op'] [b,c] pos) (aP X.K (mB op op' fa fb fc)):=
 PE.weak (aNB (qX hu) (qX hu) ha hb hc hm) aHE
theorem aOo{a b c:qw}{op op':jq}{pos:Pos}{fa fb fc:FE}(hu:X.A.units+64<cLine)(ha:PE X a (aP X.K fa))(hb:PE X b (aP X.K fb))(hc:PE X c (aP X.K fc))(hm:lastMarks [op,op'] [b,c]=false):PT X (.Compare a [op,op'] [b,c] pos) (eK X.K (cT (mB op op' fa fb fc))):=
 PT.weak (aN9 (qX hu) (qX hu) ha hb hc hm) λ σ H Q aO=>by
  obtain⟨F,L,S,env,b,S',R,E,e,q⟩:=aO;obtain⟨w,d,e1,e2,e3⟩:=aBI e;obtain⟨kk,rfl⟩:=aMm e1;cases e2;have e3':qq kk=qq b:=e3;cases e3';refine aHE σ H _ ⟨F,L,S,env,_,S',R,E,e1,λ F1 L1 H1 v g1 R1 d1=>?_⟩
  have d1':Den X.K F1 (.bool b) v:=d1;cases d1';exact⟨b,rfl,q F1 L1 H1 g1 R1⟩
theorem aLa{prog:qu}{w:zx}{A:zv}{E:qx->qj->Prop}{s:qj}{t sl:qv}{aM:Array qx}{vl vu:qx}{lo hi:Option Int}{Q:qx->qj->Prop}(ht:IsTup s.heap t aM)(hs:s.heap.IsSliceOf sl vl vu .none)(pl:IsPart vl lo)(pu:IsPart vu hi)
 (hw:HT.sIx aM.size 0 lo=0/\HT.sIx aM.size aM.size hi=aM.size) (h:Q (.ref t) s):qk (model prog w) A (getItem (.ref t) (.ref sl)) Q E s:=by
 obtain⟨os,hos,hcs,hds⟩:=id hs;have hTs:s.TypeIs (.ref sl) "slice":=⟨os,hos,hcs⟩;unfold getItem
 try with_reducible refine zy ?_
 first | refine wB (wP ?_) | skip
 refine wB (wpAny_sequenceKey ht.typeIs (by decide) ?_)
 refine wB (wpAny_callSpecial?_slot (name:=Str.ofString "__getitem__") ht.typeIs yCm
  (xj yCm ht.typeIs entry_tuple_getitem ?_ (args_tuple_getitem _ _)))
 show qk _ _ (yGk (.ref t) >>= _) _ _ s;refine wB (tupleItemsOf_ ht ?_);refine wB (wpAny_typeOf hTs ?_);rw[if_pos (by decide)]
 refine wB (HT.sliceApplied_gen hs pl pu ?_);have hyes:(((HT.sIx aM.size 0 lo:Nat):Int)==0&&(1:Int)==1&&(HT.sIx aM.size aM.size hi-HT.sIx aM.size 0 lo)==aM.size)=true:=by
  rw[hw.1,hw.2];simp
 show qk _ _ (if (((HT.sIx aM.size 0 lo:Nat):Int)==0&&(1:Int)==1&&(HT.sIx aM.size aM.size hi-HT.sIx aM.size 0 lo)==aM.size)=true then _ else _) _ _ s
 rw[if_pos hyes];unfold Builtin.Tuple.tupleIsExact;refine wB (wB (wpAny_typeOf ht.typeIs (wP ?_)));rw[if_pos (by decide)]
 first
  | exact wB (wq (wP ⟨_,rfl,wP h⟩))
  | exact wB (wq (wB (wP (wP ⟨_,rfl,wP h⟩))))
  | exact wB (wq (wP ⟨_,rfl,h⟩))
noncomputable def aUD(K:FrG):V->Option Int->Option Int->Hp->VK->Prop:=λ x lo hi H Q=>∃ a xs,x=.ref a/\bQ K H a xs /\
 (((HT.sIx xs.length 0 lo=0/\HT.sIx xs.length xs.length hi=xs.length)/\Q (.ref a) H)\/(¬ (HT.sIx xs.length 0 lo=0/\HT.sIx xs.length xs.length hi=xs.length)/\∀ p,H p=qz->Q (.ref p) (bE H p (.tup (mN xs lo hi)))))
theorem aPs:oU X (aUD X.K):=by
 intro aB s σ H x v vl vu lo hi sl Q I rx hs pl pu h;obtain⟨a,xs,rfl,hx,⟨hw,q⟩ | ⟨hw,q⟩⟩:=h
 ·cases rx;obtain⟨aG,r,ht,hz⟩:=I.tuple hx;have bX:aG.toArray.size=xs.length:=by rw[yAf];exact r.length.symm
  refine⟨"tuple",_,PyProof.Rows.slot_tuple_getitem.lookup,ht.typeIs,?_⟩;exact aLa ht hs pl pu (by rw[bX];exact hw) ⟨.ref a,H,I,rfl,q⟩
 ·exact aSO aB s σ H _ v vl vu lo hi sl Q I rx hs pl pu ⟨a,xs,rfl,hx,hw,q⟩
noncomputable def aKv:D->Option Int->Option Int->Option D
 | .tuple xs,lo,hi=>qq (.tuple (eC xs lo hi))
 | _,_,_=>qz
noncomputable def aJW(fa:FE)(fl fh:FO):FE:=λ env S=>(fa env S).bind λ p=>(fl env p.2).bind λ q=>(fh env q.2).bind λ r=>(dr r.2 p.1).bind λ d=>(aKv d q.1 r.1).bind λ z=>qq (.d z,r.2)
theorem aR8{a:qw}{lo hi:Option qw}{p2 pos:Pos}{fa:FE}{fl fh:FO}(ha:PE X a (aP X.K fa))(hl:PO X lo (lE X.K fl))(hh:PO X hi (lE X.K fh)):PE X (.Subscript a (.Slice lo hi qz p2) pos) (aP X.K (aJW fa fl fh)):=
 PE.weak (aGj aPs ha hl hh) λ σ H Q aO=>by
  obtain⟨F,L,S,env,ds,S',R,E,e,q⟩:=aO;obtain⟨⟨w,S1⟩,e1,e⟩:=bind_some e;obtain⟨⟨l,S2⟩,e2,e⟩:=bind_some e;obtain⟨⟨h,S3⟩,e3,e⟩:=bind_some e;obtain⟨d,e4,e⟩:=bind_some e;obtain⟨z,e5,e⟩:=bind_some e;cases e;refine⟨F,L,S,env,w,S1,R,E,e1,λ F1 L1 H1 v g1 R1 d1=>⟨F1,L1,S1,env,l,S2,R1,E.mono g1,e2,λ F2 L2 H2 g2 R2=>⟨F2,L2,S2,env,h,S3,R2,E.mono (g1.trans g2),e3,λ F3 L3 H3 g3 R3=>?_⟩⟩⟩
  have n:=jA R3 (d1.mono (g2.trans g3)) e4;cases d with
  | tuple xs =>
    cases e5;obtain⟨a,vs,rfl,sq,dl⟩:=n.tup R3.sub;refine⟨a,vs,rfl,sq,?_⟩
    by_cases hw:HT.sIx vs.length 0 l=0/\HT.sIx vs.length vs.length h=vs.length
    ·refine .inl ⟨hw,q F3 L3 H3 _ ((g1.trans g2).trans g3) R3 ?_⟩;have ec:eC xs l h=xs:=by
      unfold eC;rw[dl.length,hw.1,hw.2,yEh,yHm,<- dl.length,yAe]
     rw[ec];rcases n with n | ⟨_,_,_,z,_⟩
     ·exact n
     ·cases z
    ·exact .inr ⟨hw,λ p hp=>q _ L3 _ _ (((g1.trans g2).trans g3).trans (Gr.new (R3.sub.free hp))) (R3.new hp) (Den.tup (bQ.of cX) ((aHa dl l h).mono (dP (R3.sub.free hp))))⟩
  | _=>cases e5
noncomputable def aUm(X:Cx):R2:=λ x y H Q=>∃ a k xs,x=.ref a/\y=.int k/\bL X.K H a xs /\ -(2^63)<=k/\k<2^63/\xs.length*k.toNat<=qy/\∀ p,H p=qz->Q (.ref p) (bE H p (.lst (yAc k.toNat xs).flatten))
noncomputable def wL(fa fb:FE):FL:=λ env S=>(fa env S).bind λ p=>(fb env p.2).bind λ q=>(dr q.2 p.1).bind λ d=>match d,q.1 with
 | .list xs,.d (.int k)=>if k<2^63 /\ -(2^63)<=k/\xs.length*k.toNat<=qy then qq (eE k.toNat xs,q.2) else qz
 | _,_=>qz
theorem aT9{a b:qw}{pos:Pos}{fa fb:FE}(ha:PE X a (aP X.K fa))(hb:PE X b (aP X.K fb)):PE X (.BinOp a .Mult b pos) (iG X.K (wL fa fb)):=by
 refine PE.weak (aJw (r:=aUm X) (λ aB s σ H x y v u Q I rx ry ⟨a,k,xs,hx,hy,sq,h1,h2,hz,q⟩=>?_) ha hb) λ σ H Q ⟨F,L,S,env,ds,S',R,E,e,q⟩=>?_
 ·subst hx hy;cases rx;obtain⟨t,rfl⟩:=ry;exact aKB I sq h1 h2 hz q
 ·obtain⟨⟨w1,S1⟩,e1,e⟩:=bind_some e;obtain⟨⟨w2,S2⟩,e2,e⟩:=bind_some e;obtain⟨d,e3,e⟩:=bind_some e;dsimp only at e e2 e3;refine⟨F,L,S,env,w1,S1,R,E,e1,λ F1 L1 H1 x g1 R1 d1=>⟨F1,L1,S1,env,w2,S2,R1,E.mono g1,e2,λ F2 L2 H2 y g2 R2 d2=>?_⟩⟩
  cases d with
  | list xs =>
    cases w2 with
    | loc n=>cases e
    | d v =>
      cases v with
      | int kk =>
        dsimp only at e
        split at e
        ·rename_i c;cases e;obtain⟨a,vs,rfl,sq,dl⟩:=(jA R2 (d1.mono g2) e3).lst R2.sub;cases (show Den X.K F2 (.int kk) y from d2)
         exact⟨a,kk,vs,rfl,rfl,sq,c.2.1,c.1,by rw[<- dl.length];exact c.2.2,λ p hp=>q F2 L2 _ p _ (g1.trans g2) (R2.lay hp) (R2.sub.free hp) (R2.notin hp) cX (dl.rep kk.toNat)⟩
        ·cases e
      | _=>cases e
  | _=>cases e
end
structure ZA(z TI TO i1 i2:qv)(dH dI:List qv):Prop where
 TIz:TI≠z
 TOz:TO≠z
 i1z:i1≠z
 i2z:i2≠z
 TITO:TI≠TO
 TIi1:TI≠i1
 TIi2:TI≠i2
 TOi1:TO≠i1
 TOi2:TO≠i2
 f1:∀ b∈dH,b≠z/\b≠TO/\b≠i2
 f2:∀ b∈dI,b≠z/\b≠TO/\b≠i1
section
variable {prog : qu}{w : zx}{A : zv}{E : qx -> qj -> Prop}{s : qj}
theorem aLj{z TI TO i1 i2:qv}{dH dI:List qv}{n1 n2 k:Nat}{P1 P2:Nat->qx->Prop}{cF cC:Nat->Heap->Prop}{a b:qx}{Q:qx->qj->Prop}
 (D1:Draws prog w A i1 dH n1 P1 cF) (D2:Draws prog w A i2 dI n2 P2 cC) (Z:ZA z TI TO i1 i2 dH dI)
 (hz:vw s.heap z TI TO .none) (cU:zk s.heap TI (.ref i1) (.ref i2)) (dO:zk s.heap TO a b) (s1:cF k s.heap) (s2:cC k s.heap) (k1:k<n1) (k2:k<n2)
 (hQ:∀ x y h' tk,P1 k x->P2 k y->vw h' z TI TO (yk s.heap.objs.size)->zk h' TO x y->zk h' TI (.ref i1) (.ref i2)->cF (k+1) h'->cC (k+1) h'->zk h' s.heap.objs.size x y->h'.objs.size=s.heap.objs.size+1 ->
   (∀ c o,c≠z->c≠TO->c≠i1->c≠i2->s.heap.get? c=qq o->h'.get? c=qq o)->Q (.ref s.heap.objs.size) {s with heap:=h',toks:=tk }) :
 qk (model prog w) A (Builtin.«zip.__next__» ⟨[.ref z],[]⟩) (λ bI s'=>∃ v,bI=.done (.ret v)/\Q v s') E s:=by
 show qk _ _ (field (.ref z) 2 >>= _) _ _ _;refine wB (zj hz rfl (x:=.bool false) rfl ?_);show qk _ _ (field (.ref z) 3 >>= _) _ _ _;refine wB (zj hz rfl (x:=.ref TI) rfl ?_);refine wB (xz cU rfl ?_);show qk _ _ (yAv (.ref z) >>= _) _ _ _;refine wB ?_;unfold yAv;refine wB (zj hz rfl (x:=.none) rfl (wP ?_));simp only[if_true];refine wB (wq ?_);refine wB (zj hz rfl (x:=.ref TO) rfl ?_);refine wB (xu hz (by simp) λ h₁ hz₁ hs₁=>?_)
 replace hz₁:vw h₁ z TI TO .ellipsis:=hz₁
 refine wB ?_;simp only[yHc,List.zipIdx_nil,yFi,yFv];have s11:cF k h₁:=D1.frame k _ _ s1 λ c hc o e=>hs₁.extBut _ _ (Z.f1 c hc).1 e
 have s21:cC k h₁:=D2.frame k _ _ s2 λ c hc o e=>hs₁.extBut _ _ (Z.f2 c hc).1 e
 refine wB (wB (yo ?_));show qk _ _ (yAu (.ref i1) >>= _) _ _ _;refine wB (D1.item k _ _ _ k1 s11 λ x h₂ tk₂ px s12 hs₂=>wP ?_)
 have s22:cC k h₂:=D2.frame k _ _ s21 λ c hc o e=>hs₂.extBut _ _ (Z.f2 c hc).2.2 e
 have hTO₂:zk h₂ TO a b:=hs₂.extBut _ _ Z.TOi1 (hs₁.extBut _ _ Z.TOz dO);refine wB (xz hTO₂ rfl ?_);refine wB (ww hTO₂ λ h₃ hTO₃ hs₃=>?_)
 replace hTO₃:zk h₃ TO x b:=hTO₃
 have s13:cF (k+1) h₃:=D1.frame _ _ _ s12 λ c hc o e=>hs₃.extBut _ _ (Z.f1 c hc).2.1 e
 have s23:cC k h₃:=D2.frame k _ _ s22 λ c hc o e=>hs₃.extBut _ _ (Z.f2 c hc).2.1 e
 refine wB (ku (wP ?_));refine wB (wB (yo ?_));show qk _ _ (yAu (.ref i2) >>= _) _ _ _;refine wB (D2.item k _ _ _ k2 s23 λ y h₄ tk₄ py s24 hs₄=>wP ?_)
 have s14:cF (k+1) h₄:=D1.frame _ _ _ s13 λ c hc o e=>hs₄.extBut _ _ (Z.f1 c hc).2.2 e
 have hTO₄:zk h₄ TO x b:=hs₄.extBut _ _ Z.TOi2 hTO₃;refine wB (xz hTO₄ rfl ?_);refine wB (ww hTO₄ λ h₅ hTO₅ hs₅=>?_)
 replace hTO₅:zk h₅ TO x y:=hTO₅
 have s15:cF (k+1) h₅:=D1.frame _ _ _ s14 λ c hc o e=>hs₅.extBut _ _ (Z.f1 c hc).2.1 e
 have s25:cC (k+1) h₅:=D2.frame _ _ _ s24 λ c hc o e=>hs₅.extBut _ _ (Z.f2 c hc).2.1 e
 refine wB (ku (wP (wP ?_)));refine wB (xz hTO₅ rfl ?_);refine wB (wpAny_newTuple ?_);have hsz:h₅.objs.size=s.heap.objs.size:=by rw[hs₅.1,hs₄.1,hs₃.1,hs₂.1,hs₁.1]
 have hz₅:vw h₅ z TI TO .ellipsis:=hs₅.extBut _ _ Z.TOz.symm (hs₄.extBut _ _ Z.i2z.symm (hs₃.extBut _ _ Z.TOz.symm (hs₂.extBut _ _ Z.i1z.symm hz₁)));have hk₅:∀ c o,c≠z->c≠TO->c≠i1->c≠i2->s.heap.get? c=qq o->h₅.get? c=qq o:=λ c o c1 c2 c3 c4 e =>
  hs₅.extBut _ _ c2 (hs₄.extBut _ _ c4 (hs₃.extBut _ _ c2 (hs₂.extBut _ _ c3 (hs₁.extBut _ _ c1 e))))
 have hzlt:z<h₅.objs.size:=xAa hz₅;show qk _ _ (yEs (.ref z) (.ref h₅.objs.size) >>= _) _ _ _;refine wB ?_;unfold yEs;have hz₆:vw (h₅.push {cls:=.type "tuple",data:=.seq #[x,y] }) z TI TO .ellipsis:=hpS _ hz₅;refine wB (xu hz₆ (by simp) λ h₇ hz₇ hs₇=>?_)
 replace hz₇:vw h₇ z TI TO (yk h₅.objs.size):=hz₇
 refine xu hz₇ (by simp) λ h₈ hz₈ hs₈=>?_
 replace hz₈:vw h₈ z TI TO (yk h₅.objs.size):=hz₈
 have up:∀ c o,c≠z->h₅.get? c=qq o->h₈.get? c=qq o:=λ c o c1 e=>hs₈.extBut _ _ c1 (hs₇.extBut _ _ c1 (hpS _ e))
 have hT₈:zk h₈ h₅.objs.size x y:=hs₈.extBut _ _ (yDy hzlt) (hs₇.extBut _ _ (yDy hzlt) (xAe _ rfl));have hz8:h₈.objs.size=h₅.objs.size+1:=by rw[hs₈.1,hs₇.1,yBz]
 rw[hsz] at hz₈ hT₈ hz8;refine wP ⟨_,rfl,?_⟩;show Q (.ref h₅.objs.size) _;rw[hsz];exact hQ x y h₈ _ px py hz₈ (up _ _ Z.TOz hTO₅) (up _ _ Z.TIz (hk₅ _ _ Z.TIz Z.TITO Z.TIi1 Z.TIi2 cU)) (D1.frame _ _ _ s15 λ c hc o e=>up c o (Z.f1 c hc).1 e) (D2.frame _ _ _ s25 λ c hc o e=>up c o (Z.f2 c hc).1 e) hT₈ hz8 λ c o c1 c2 c3 c4 e=>up c o c1 (hk₅ c o c1 c2 c3 c4 e)
theorem aLu{z TI TO i1 i2:qv}{dH dI:List qv}{n1 n2 k:Nat}{P1 P2:Nat->qx->Prop}{cF cC:Nat->Heap->Prop}{a b:qx}{Q:Fin->qj->Prop}
 (D1:Draws prog w A i1 dH n1 P1 cF) (D2:Draws prog w A i2 dI n2 P2 cC) (Z:ZA z TI TO i1 i2 dH dI)
 (hz:vw s.heap z TI TO .none) (cU:zk s.heap TI (.ref i1) (.ref i2)) (dO:zk s.heap TO a b) (s1:cF k s.heap) (s2:cC k s.heap) (hend:k=n1\/(k<n1/\k=n2))
 (hE:∀ h' tk e,(∀ c o,c≠z->c≠TO->c≠i1->c≠i2->s.heap.get? c=qq o->h'.get? c=qq o)->(∃ o,h'.get? e=qq o/\o.cls=.type "StopIteration")->E (.ref e) {s with heap:=h',toks:=tk }) :
 qk (model prog w) A (Builtin.«zip.__next__» ⟨[.ref z],[]⟩) Q E s:=by
 show qk _ _ (field (.ref z) 2 >>= _) _ _ _;refine wB (zj hz rfl (x:=.bool false) rfl ?_);show qk _ _ (field (.ref z) 3 >>= _) _ _ _;refine wB (zj hz rfl (x:=.ref TI) rfl ?_);refine wB (xz cU rfl ?_);show qk _ _ (yAv (.ref z) >>= _) _ _ _;refine wB ?_;unfold yAv;refine wB (zj hz rfl (x:=.none) rfl (wP ?_));simp only[if_true];refine wB (wq ?_);refine wB (zj hz rfl (x:=.ref TO) rfl ?_);refine wB (xu hz (by simp) λ h₁ hz₁ hs₁=>?_)
 replace hz₁:vw h₁ z TI TO .ellipsis:=hz₁
 refine wB ?_;simp only[yHc,List.zipIdx_nil,yFi,yFv];have s11:cF k h₁:=D1.frame k _ _ s1 λ c hc o e=>hs₁.extBut _ _ (Z.f1 c hc).1 e
 have s21:cC k h₁:=D2.frame k _ _ s2 λ c hc o e=>hs₁.extBut _ _ (Z.f2 c hc).1 e
 refine wB (wB (yo ?_));show qk _ _ (yAu (.ref i1) >>= _) _ _ _;rcases hend with rfl | ⟨k1,rfl⟩
 ·refine wB (D1.done _ _ _ s11 λ h₂ e hs₂ he=>?_)
  obtain⟨oe,hoe,hce⟩:=he;have hz₂:vw h₂ z TI TO .ellipsis:=hs₂ _ _ Z.i1z.symm hz₁;have hez:e≠z:=λ x=>by subst x;rw[hz₂] at hoe;cases hoe;simp at hce
  exact xu hz₂ (by simp) λ h₃ _ hs₃=>hE h₃ _ e (λ c o c1 _ c3 _ x=>hs₃.extBut _ _ c1 (hs₂ _ _ c3 (hs₁.extBut _ _ c1 x))) ⟨oe,hs₃.extBut _ _ hez hoe,hce⟩
 ·refine wB (D1.item k _ _ _ k1 s11 λ x h₂ tk₂ px s12 hs₂=>wP ?_)
  have s22:cC k h₂:=D2.frame k _ _ s21 λ c hc o e=>hs₂.extBut _ _ (Z.f2 c hc).2.2 e
  have hTO₂:zk h₂ TO a b:=hs₂.extBut _ _ Z.TOi1 (hs₁.extBut _ _ Z.TOz dO);refine wB (xz hTO₂ rfl ?_);refine wB (ww hTO₂ λ h₃ hTO₃ hs₃=>?_)
  have s23:cC k h₃:=D2.frame k _ _ s22 λ c hc o e=>hs₃.extBut _ _ (Z.f2 c hc).2.1 e
  refine wB (ku (wP ?_));refine wB (wB (yo ?_));show qk _ _ (yAu (.ref i2) >>= _) _ _ _;refine wB (D2.done _ _ _ s23 λ h₄ e hs₄ he=>?_)
  obtain⟨oe,hoe,hce⟩:=he;have hz₄:vw h₄ z TI TO .ellipsis:=hs₄ _ _ Z.i2z.symm (hs₃.extBut _ _ Z.TOz.symm (hs₂.extBut _ _ Z.i1z.symm hz₁));have hez:e≠z:=λ x=>by subst x;rw[hz₄] at hoe;cases hoe;simp at hce
  exact xu hz₄ (by simp) λ h₅ _ hs₅=>hE h₅ _ e (λ c o c1 c2 c3 c4 x=>hs₅.extBut _ _ c1 (hs₄ _ _ c4 (hs₃.extBut _ _ c2 (hs₂.extBut _ _ c3 (hs₁.extBut _ _ c1 x))))) ⟨oe,hs₅.extBut _ _ hez hoe,hce⟩
theorem aEA{z TI TO i1 i2:qv}{dH dI:List qv}{n1 n2 k:Nat}{P1 P2:Nat->qx->Prop}{cF cC:Nat->Heap->Prop}{a b:qx}{Q:Option qx->qj->Prop}
 (D1:Draws prog w A.in1 i1 dH n1 P1 cF) (D2:Draws prog w A.in1 i2 dI n2 P2 cC) (Z:ZA z TI TO i1 i2 dH dI)
 (hz:vw s.heap z TI TO .none) (cU:zk s.heap TI (.ref i1) (.ref i2)) (dO:zk s.heap TO a b) (s1:cF k s.heap) (s2:cC k s.heap) (k1:k<n1) (k2:k<n2)
 (hQ:∀ x y h' tk,P1 k x->P2 k y->vw h' z TI TO (yk s.heap.objs.size)->zk h' TO x y->zk h' TI (.ref i1) (.ref i2)->cF (k+1) h'->cC (k+1) h'->zk h' s.heap.objs.size x y->h'.objs.size=s.heap.objs.size+1 ->
   (∀ c o,c≠z->c≠TO->c≠i1->c≠i2->s.heap.get? c=qq o->h'.get? c=qq o)->Q (qq (.ref s.heap.objs.size)) {s with heap:=h',toks:=tk }) :
 qk (model prog w) A (vx (.ref z)) Q E s:=by
 have hT:s.TypeIs (.ref z) "zip":=⟨_,hz,rfl⟩;unfold vx;exact wB (wj (wpAny_callSpecial?_slot (name:=Str.ofString "__next__") hT F.slot_zip_next
  (xj F.slot_zip_next hT F.entry_zip_next
    (aLj D1 D2 Z hz cU dO s1 s2 k1 k2 λ x y h' tk a0 b0 a1 a2 a3 a4 a5 a6 a7 a8=>wP (hQ x y h' tk a0 b0 a1 a2 a3 a4 a5 a6 a7 a8)) (F.args_zip_next_1 _))))
theorem aEC{z TI TO i1 i2:qv}{dH dI:List qv}{n1 n2 k:Nat}{P1 P2:Nat->qx->Prop}{cF cC:Nat->Heap->Prop}{a b:qx}{Q:Option qx->qj->Prop}
 (D1:Draws prog w A.in1 i1 dH n1 P1 cF) (D2:Draws prog w A.in1 i2 dI n2 P2 cC) (Z:ZA z TI TO i1 i2 dH dI)
 (hz:vw s.heap z TI TO .none) (cU:zk s.heap TI (.ref i1) (.ref i2)) (dO:zk s.heap TO a b) (s1:cF k s.heap) (s2:cC k s.heap) (hend:k=n1\/(k<n1/\k=n2))
 (hQ:∀ h' tk,(∀ c o,c≠z->c≠TO->c≠i1->c≠i2->s.heap.get? c=qq o->h'.get? c=qq o)->Q qz {s with heap:=h',toks:=tk }):qk (model prog w) A (vx (.ref z)) Q E s:=by
 have hT:s.TypeIs (.ref z) "zip":=⟨_,hz,rfl⟩;unfold vx;refine wB (wj (wpAny_callSpecial?_slot (name:=Str.ofString "__next__") hT F.slot_zip_next
  (xj F.slot_zip_next hT F.entry_zip_next (aLu D1 D2 Z hz cU dO s1 s2 hend λ h' tk e hk he=>?_) (F.args_zip_next_1 _))))
 obtain⟨o,ho,hc⟩:=he;refine wB (kq (T:="StopIteration") (b:=true) ⟨o,ho,hc⟩ ky ?_);exact wP (hQ _ _ hk)
end
noncomputable def aC4(t:Bool):String:=if t then "tuple_iterator" else "list_iterator"
def gP(t:Bool)(h:Heap)(a:qv)(aG:Array qx):Prop:=match t with
 | true=>h.IsTuple a aG
 | false=>h.IsList a aG
def fY(t:Bool)(h:Heap)(it a:qv)(i:Nat):Prop:=match t with
 | true=>h.IsTupleIter it a i
 | false=>h.IsListIter it a i
def Sq(t:Bool)(K:FrG)(H:Hp)(a:qv)(xs:List V):Prop:=match t with
 | true=>bQ K H a xs
 | false=>bL K H a xs
theorem fY.at{t:Bool}{h h':Heap}{it a:qv}{i:Nat}(x:fY t h it a i)(q:∀ o,h.get? it=qq o->h'.get? it=qq o):fY t h' it a i:=by
 cases t with
 | true=>exact Heap.IsTupleIter.at (h:=h) x q
 | false=>exact Heap.IsListIter.at (h:=h) x q
theorem fY.obj{t:Bool}{h:Heap}{it a:qv}{i:Nat}(x:fY t h it a i):∃ o,h.get? it=qq o/\∀ v,o.data≠.cell v:=by
 cases t with
 | true=>obtain⟨o,ho,hc,hd⟩:=x;exact⟨o,ho,λ v z=>by rw[hd] at z;cases z⟩
 | false=>obtain⟨o,ho,hc,hd⟩:=x;exact⟨o,ho,λ v z=>by rw[hd] at z;cases z⟩
theorem gP.lt{t:Bool}{h:Heap}{a:qv}{aG:Array qx}(x:gP t h a aG):a<h.objs.size:=by
 cases t with
 | true=>obtain⟨o,ho,_⟩:=x;exact xAa ho
 | false=>obtain⟨o,ho,_⟩:=x;exact xAa ho
theorem nG{prog:qu}{w:zx}{A:zv}(hh:A.handled=qz)(t:Bool)(it l:qv)(hne:l≠it)(aM:Array qx):Draws prog w A it [it,l] aM.size (λ i v=>aM[i]? = qq v) (λ i h=>fY t h it l i/\gP t h l aM):=by
 cases t with
 | true=>exact aFC hh it l hne aM
 | false=>exact Draws.list hh it l hne aM
theorem jC{X:Cx}{aB:List (qv×Obj)}{σ:L2.St}{H:Hp}{s:qj}{t:Bool}{a:qv}{xs:List V}(I:Inv X aB σ H s)(h:Sq t X.K H a xs):∃ aG:List qx,aT xs aG/\gP t s.heap a aG.toArray:=by
 cases t with
 | true=>obtain⟨aG,rv,pl,hz⟩:=I.tuple h;exact⟨aG,rv,pl⟩
 | false=>obtain⟨aG,rv,pl,hz⟩:=I.list h;exact⟨aG,rv,pl.isList⟩
theorem aID{X:Cx}{aB:List (qv×Obj)}{σ:L2.St}{H:Hp}{s:qj}{t:Bool}{a:qv}{xs ys:List V}(I:Inv X aB σ H s)(h:Sq t X.K H a xs)(h':Sq t X.K H a ys):xs=ys:=by
 cases t with
 | true=>exact I.tuple_inj h h'
 | false=>exact I.list_inj h h'
theorem gZ{t:Bool}{K:FrG}{H H':Hp}{a:qv}{xs:List V}(e:bZ H H')(h:Sq t K H a xs):Sq t K H' a xs:=by
 cases t with
 | true=>exact iM e h
 | false=>exact e.seq h
theorem aFl{X:Cx}{aB:List (qv×Obj)}{σ:L2.St}{H:Hp}{s:qj}{h':Heap}{ch:List qv}{t':Nat}(I:Inv X aB σ H s)(hch:∀ b∈ch,gF X aB H b)(k:∀ b u,b ∉ ch->s.heap.get? b=qq u->h'.get? b=qq u) :
 Inv X aB σ H {s with heap:=h',toks:=t' }:=by
 have nch:∀ b u,H b=qq u->b ∉ ch:=λ b u e z=>by rw[(hch b z).1] at e;cases e
 refine I.step (g':=s.gens) (d':=s.drawn) (ch:=ch) (λ b hb=>⟨(hch b hb).2.2.2.1,(hch b hb).2.1,(hch b hb).2.2.2.2.1,(hch b hb).2.2.2.2.2⟩) (λ b o _ _ hc e _=>k b o hc e) (λ b o _ _ hc e _=>⟨o.slots,k b o hc e⟩) (λ _ _ _ _ n=>n)
  (λ b o hc e=>⟨o,k b o hc e⟩) (λ _ _ e=>e) (λ _ _ _ e=>e) (λ b ps e=>⟨#[],by rw[e];simp⟩) (λ m hm=>?_) (λ b u e=>?_) I.bare
 ·obtain⟨o,es,ep,ho,r⟩:=hm;exact⟨o,es,ep,k _ o (λ z=>(hch _ z).2.1 rfl) ho,r⟩
 ·refine(I.hok b u e).stay (λ c v hc q=>k c v ?_ q) (λ _ q=>q) λ _ _ q=>q
  rcases hc with z | z
  ·rw[z];exact nch b u e
  ·exact nch c _ z
noncomputable def aDD(K:FrG)(t u:Bool)(a b:qv):It:=
 ⟨λ i H=>∃ xs x ys y,Sq t K H a xs/\xs[i]? = qq x/\Sq u K H b ys/\ys[i]? = qq y,
  λ i H v H'=>∃ p x y,H p=qz/\H'=bE H p (.tup [x,y])/\v=.ref p/\(∀ xs,Sq t K H a xs->xs[i]? = qq x)/\∀ ys,Sq u K H b ys->ys[i]? = qq y,
  λ i H=>∃ xs ys,Sq t K H a xs/\Sq u K H b ys/\i=min xs.length ys.length⟩
theorem mY{a c:qv}{l:List qv}(h:c ∉ a::l):c≠a:=λ q=>h (q▸xAd)
theorem fA{a c:qv}{l:List qv}(h:c ∉ a::l):c ∉ l:=λ q=>h (xAg _ q)
theorem mT{a b:qv}{l:List qv}(h:a∈l):a∈b::l:=xAg _ h
theorem lH{P:qv->Prop}{a:qv}{l:List qv}(h:P a)(t:∀ b∈l,P b):∀ b∈a::l,P b:=List.forall_mem_cons.mpr ⟨h,t⟩
theorem aln{P:qv->Prop}:∀ b∈([]:List qv),P b:=λ _ h=>nomatch h
theorem aNN{P:qu}{w:zx}{K:FrG}{elts:List qw}{k:Nat}{pos:Pos}(t u:Bool)(a b z TI TO i1 i2:qv)(Z:ZA z TI TO i1 i2 [i1,a] [i2,b])(h1:a≠i1)(h2:b≠i2) :
 Turn P w K (.Tuple elts k pos) (aDD K t u a b) [z,TI,TO,i1,i2] z (λ i h=>vw h z TI TO .none/\zk h TI (.ref i1) (.ref i2)/\(∃ x y,zk h TO x y)/\fY t h i1 a i/\fY u h i2 b i) where
 mem:=xAd
 obj:=λ i h ⟨hz,cU,⟨x,y,dO⟩,hi1,hi2⟩=>lH ⟨_,hz,λ v=>by intro z;cases z⟩ (lH ⟨_,cU,λ v=>by intro z;cases z⟩ (lH ⟨_,dO,λ v=>by intro z;cases z⟩ (lH hi1.obj (lH hi2.obj aln))))
 keep:=λ i h h' ⟨hz,cU,⟨x,y,dO⟩,hi1,hi2⟩ q=>⟨q z xAd _ hz,q TI (mT xAd) _ cU,⟨x,y,q TO (mT (mT xAd)) _ dO⟩,hi1.at λ o e=>q i1 (mT (mT (mT xAd))) o e,hi2.at λ o e=>q i2 (mT (mT (mT (mT xAd)))) o e⟩
 item:=λ X hP hW hK hc i aB s σ H E I hf aO kJ=>by
  obtain⟨hz,cU,⟨x0,y0,dO⟩,hi1,hi2⟩:=aO;obtain⟨xs,x,ys,y,sq1,hx,sq2,hy⟩:=kJ;subst hP hW hK;have hh:X.A.in1.handled=qz:=I.ok.hd hc;obtain⟨gH,rv1,pl1⟩:=jC I sq1;obtain⟨eH,rv2,pl2⟩:=jC I sq2;obtain⟨u1,hu1,ru1⟩:=rv1.get hx;obtain⟨u2,hu2,ru2⟩:=rv2.get hy;have lt1:i<gH.toArray.size:=by rw[yAf];exact(gIm hu1).1
  have lt2:i<eH.toArray.size:=by rw[yAf];exact(gIm hu2).1
  refine aEA (nG (prog:=X.prog) (w:=X.w) hh t i1 a h1 gH.toArray) (nG (prog:=X.prog) (w:=X.w) hh u i2 b h2 eH.toArray) Z hz cU dO ⟨hi1,pl1⟩ ⟨hi2,pl2⟩ lt1 lt2 λ x' y' h₁ tk px py hz₁ hTO₁ hTI₁ s1 s2 hT₁ hsz hk=>⟨_,rfl,?_⟩
  have ex:x'=u1:=by rw[yDk,hu1] at px;exact(Option.some.inj px).symm
  have ey:y'=u2:=by rw[yDk,hu2] at py;exact(Option.some.inj py).symm
  subst ex ey;have zLt:z<s.heap.objs.size:=xAa hz;refine wpAny_letOwnedTupleGo_zip hz₁ λ h₂ hz₂ hs₂=>?_
  have hs2:yDx z h₁ h₂:=hs₂;have ht₂:zk h₂ s.heap.objs.size x' y':=hs2.extBut _ _ (yDy zLt) hT₁;have I2:Inv X aB σ (bE H s.heap.objs.size (.tup [x,y])) {s with heap:=h₂,toks:=tk }:=by
   refine yQ I hf (λ c o hb e'=>?_) (yAb _) ⟨by show 2<=qy;decide,[x',y'],.cons ru1 (.cons ru2 .nil),⟨_,ht₂,rfl,0,rfl⟩⟩
   exact hs2.extBut c o (mY hb) (hk c o (mY hb) (mY (fA (fA hb))) (mY (fA (fA (fA hb)))) (mY (fA (fA (fA (fA hb))))) e')
  refine⟨.ref s.heap.objs.size,_,I2,rfl,⟨s.heap.objs.size,x,y,I.fresh,rfl,rfl,λ zs hy=>by rw[aID I hy sq1];exact hx,λ zs hz=>by rw[aID I hz sq2];exact hy⟩,⟨hz₂,hs2.extBut _ _ Z.TIz hTI₁,⟨_,_,hs2.extBut _ _ Z.TOz hTO₁⟩,s1.1.at λ o e=>hs2.extBut _ _ Z.i1z e,s2.1.at λ o e=>hs2.extBut _ _ Z.i2z e⟩,λ c hb=>?_⟩
  have:c<s.heap.objs.size:=lH (P:=λ c=>c<s.heap.objs.size) zLt (lH (xAa cU) (lH (xAa dO) (lH (let ⟨_,ho,_⟩:=hi1.obj;xAa ho) (lH (let ⟨_,ho,_⟩:=hi2.obj;xAa ho) aln)))) c hb
  rw[bJ (xAk this)];exact(hf c hb).1
 done:=λ X hP hW hK hc i aB s σ H E I hf aO kJ=>by
  obtain⟨hz,cU,⟨x0,y0,dO⟩,hi1,hi2⟩:=aO;obtain⟨xs,ys,sq1,sq2,hi⟩:=kJ;subst hP hW hK;have hh:X.A.in1.handled=qz:=I.ok.hd hc;obtain⟨gH,rv1,pl1⟩:=jC I sq1;obtain⟨eH,rv2,pl2⟩:=jC I sq2;have l1:=rv1.length;have l2:=rv2.length;have hend:i=gH.toArray.size\/(i<gH.toArray.size/\i=eH.toArray.size):=by
   rw[yAf,yAf];omega
  refine aEC (nG (prog:=X.prog) (w:=X.w) hh t i1 a h1 gH.toArray) (nG (prog:=X.prog) (w:=X.w) hh u i2 b h2 eH.toArray) Z hz cU dO ⟨hi1,pl1⟩ ⟨hi2,pl2⟩ hend λ h₁ tk hk=>⟨rfl,?_⟩
  exact aFl I hf λ c o hb e'=>hk c o (mY hb) (mY (fA (fA hb))) (mY (fA (fA (fA hb)))) (mY (fA (fA (fA (fA hb))))) e'
 self:=λ A i s Q E ⟨hz,_⟩ hq=>kz hz hq
section
variable {prog : qu}{w : zx}{A : zv}{E : qx -> qj -> Prop}{s : qj}
noncomputable abbrev xC(h:Heap)(t:Bool)(l1:qv):Heap:=h.push {cls:=.type (aC4 t),data:=.fields #[.ref l1,.int 0 0] }
noncomputable abbrev zH2(h:Heap)(t u:Bool)(l1 l2:qv):Heap:=(xC h t l1).push {cls:=.type (aC4 u),data:=.fields #[.ref l2,.int 0 0] }
noncomputable abbrev zH3(h:Heap)(t u:Bool)(l1 l2:qv):Heap:=(zH2 h t u l1 l2).push {cls:=.type "tuple",data:=.seq #[.ref h.objs.size,.ref (xC h t l1).objs.size] }
noncomputable abbrev zH4(h:Heap)(t u:Bool)(l1 l2:qv):Heap:=(zH3 h t u l1 l2).push {cls:=.type "tuple",data:=.seq #[.none,.none] }
noncomputable abbrev mV(h:Heap)(t u:Bool)(l1 l2:qv):Heap:=(zH4 h t u l1 l2).push {cls:=.type "zip",data:=.fields #[.none,.bool false,.bool false,.ref (zH2 h t u l1 l2).objs.size,.ref (zH3 h t u l1 l2).objs.size] }
theorem aFU{t:Bool}{l:qv}{aM:Array qx}{Q:qx->qj->Prop}(hl:gP t s.heap l aM)
 (h:Q (.ref s.heap.objs.size) {s with heap:=s.heap.push {cls:=.type (aC4 t),data:=.fields #[.ref l,.int 0 0] } }):qk (model prog w) A (pyIter (.ref l)) Q E s:=by
 cases t with
 | true=>exact jy hl h
 | false=>exact jw hl h
theorem gP.push{t:Bool}{h:Heap}{a:qv}{aG:Array qx}(x:gP t h a aG)(o:Obj):gP t (h.push o) a aG:=by
 cases t with
 | true=>obtain⟨o,ho,r⟩:=x;exact⟨o,hpS _ ho,r⟩
 | false=>obtain⟨o,ho,r⟩:=x;exact⟨o,hpS _ ho,r⟩
theorem aLl(t u:Bool)(l1 l2:qv)(xs ys:Array qx) :
 Meets (Builtin.«zip.__new__» ⟨[.type "zip",.ref l1,.ref l2],[]⟩) (λ _ R s=>gP t s.heap l1 xs/\gP u s.heap l2 ys /\
  R (.ok (.ret (.ref (zH4 s.heap t u l1 l2).objs.size))) {s with heap:=mV s.heap t u l1 l2 }):=
 .of_wp λ prog w A R s h=>by
  obtain⟨hp,g,d,tk,os⟩:=s;obtain⟨hl1,hl2,h⟩:=h;have hsub:=sub_zip;have hL1:gP t (Shared.heap ⟨hp,g,d,tk,os⟩) l1 xs:=hl1;have hL2:gP u (Shared.heap ⟨xC hp t l1,g,d,tk,os⟩) l2 ys:=gP.push hl2 _
  wp_walk using aFU hL1,aFU hL2
  exact⟨_,rfl,h⟩
theorem aF6{t u:Bool}{l1 l2:qv}{xs ys:Array qx}{Q:qx->qj->Prop}(hl1:gP t s.heap l1 xs)(hl2:gP u s.heap l2 ys)
 (h:∀ h',vw h' (s.heap.objs.size+4) (s.heap.objs.size+2) (s.heap.objs.size+3) .none->zk h' (s.heap.objs.size+2) (.ref s.heap.objs.size) (.ref (s.heap.objs.size+1)) ->
   zk h' (s.heap.objs.size+3) .none .none->fY t h' s.heap.objs.size l1 0->fY u h' (s.heap.objs.size+1) l2 0->h'.objs.size=s.heap.objs.size+5 ->
   (∀ c o,s.heap.get? c=qq o->h'.get? c=qq o)->Q (.ref (s.heap.objs.size+4)) {s with heap:=h' }) :
 qk (model prog w) A (call (.type "zip") [.ref l1,.ref l2]) Q E s:=by
 refine callType_new F.called_zip (by decide) (F.typeCall_zip_2 _ _) (F.newCall_zip_2 _ _) (λ obj=>F.args_object_init_3 obj _ _) F.entry_zip_new
  (aLl t u l1 l2 xs ys) ⟨hl1,hl2,?_⟩
 have z1:(xC s.heap t l1).objs.size=s.heap.objs.size+1:=yBz ..;have z2:(zH2 s.heap t u l1 l2).objs.size=s.heap.objs.size+2:=by rw[yBz,z1]
 have z3:(zH3 s.heap t u l1 l2).objs.size=s.heap.objs.size+3:=by rw[yBz,z2]
 have z4:(zH4 s.heap t u l1 l2).objs.size=s.heap.objs.size+4:=by rw[yBz,z3]
 have z5:(mV s.heap t u l1 l2).objs.size=s.heap.objs.size+5:=by rw[yBz,z4]
 have g5:(mV s.heap t u l1 l2).get? (zH4 s.heap t u l1 l2).objs.size=qq _:=xAe _ rfl;have g4:(mV s.heap t u l1 l2).get? (zH3 s.heap t u l1 l2).objs.size=qq _:=hpS _ (xAe _ rfl);have g3:(mV s.heap t u l1 l2).get? (zH2 s.heap t u l1 l2).objs.size=qq _:=hpS _ (hpS _ (xAe _ rfl));have g2:(mV s.heap t u l1 l2).get? (xC s.heap t l1).objs.size=qq _:=hpS _ (hpS _ (hpS _ (xAe _ rfl)));have g1:(mV s.heap t u l1 l2).get? s.heap.objs.size=qq _:=hpS _ (hpS _ (hpS _ (hpS _ (xAe _ rfl))));show _/\_;rw[z2,z3,z4] at g5;rw[z1,z2] at g3;rw[z3] at g4;rw[z1] at g2;rw[z4];have i1:fY t (mV s.heap t u l1 l2) s.heap.objs.size l1 0:=by cases t<;>exact⟨_,g1,rfl,rfl⟩
 have i2:fY u (mV s.heap t u l1 l2) (s.heap.objs.size+1) l2 0:=by cases u<;>exact⟨_,g2,rfl,rfl⟩
 exact⟨⟨_,g5,rfl⟩,h _ g5 g3 g4 i1 i2 z5 λ c o x =>
  hpS _ (hpS _ (hpS _ (hpS _ (hpS _ x))))⟩
end
theorem aIm{n a b:Nat}(ha:a<n)(hb:b<n):ZA (n+4) (n+2) (n+3) n (n+1) [n,a] [n+1,b]:=by
 have h:∀ i j:Nat,i≠j->(n+i:Nat)≠(n+j:Nat):=λ i j h=>by omega
 have l:∀ (c i:Nat),c<n->(c:Nat)≠(n+i:Nat):=λ c i h=>by omega
 refine⟨h 2 4 (by decide),h 3 4 (by decide),h 0 4 (by decide),h 1 4 (by decide),h 2 3 (by decide),h 2 0 (by decide),h 2 1 (by decide),h 3 0 (by decide),h 3 1 (by decide),λ c hc=>?_,λ c hc=>?_⟩
 ·rcases List.mem_cons.mp hc with e | e
  ·rw[e];exact⟨h 0 4 (by decide),h 0 3 (by decide),h 0 1 (by decide)⟩
  ·rw[List.mem_singleton.mp e];exact⟨l a 4 ha,l a 3 ha,l a 1 ha⟩
 ·rcases List.mem_cons.mp hc with e | e
  ·rw[e];exact⟨h 1 4 (by decide),h 1 3 (by decide),h 1 0 (by decide)⟩
  ·rw[List.mem_singleton.mp e];exact⟨l b 4 hb,l b 3 hb,l b 0 hb⟩
section
variable {X : Cx}
def aKc(K:FrG)(ta:TA):TI:=λ σ H R=>ta σ H λ vs H1=>∃ a b t u,vs=[.ref a,.ref b]/\(∃ xs,Sq t K H1 a xs)/\(∃ ys,Sq u K H1 b ys)/\R (aDD K t u a b) H1
theorem aSN{elts:List qw}{k:Nat}{pp:Pos}{a b:qw}{ta:TA}{p pos:Pos}(hg:Gl X "zip")(hm:X.mg "zip" = qz)(ha:PA X [a,b] ta)(hs:qo [a,b] X.env=(false,eval a X.env)::qo [b] X.env)(hs2:qo [b] X.env=[(false,eval b X.env)]):PI X (.Tuple elts k pp) (.Call (.Name "zip" p) [a,b] [] pos) (aKc X.K ta):=by
 intro aB s σ H R I h;refine Call_ (kX I hg hm boot_zip (yBk (bC (ha pos aB s σ H _ I h) λ us s1 hPq45=>?_) hs (by rw[hs2];rfl)))
 obtain⟨vs,H1,I1,r1,q1⟩:=hPq45;obtain⟨l1,l2,t,u,rfl,⟨xs,sq1⟩,⟨ys,sq2⟩,q⟩:=q1;obtain⟨u1,u2,rfl,ru1,ru2⟩:=vD r1;cases ru1;cases ru2;obtain⟨gH,rv1,pl1⟩:=jC I1 sq1;obtain⟨eH,rv2,pl2⟩:=jC I1 sq2;have a1:=pl1.lt;have a2:=pl2.lt;refine aF6 pl1 pl2 λ h' hz cU dO hi1 hi2 hsz hk=>kz hz ?_
 have I2:Inv X aB σ H1 {s1 with heap:=h' }:=I1.kept (t':=s1.toks) hk
 have hb':∀ b∈[s1.heap.objs.size+4,s1.heap.objs.size+2,s1.heap.objs.size+3,s1.heap.objs.size,s1.heap.objs.size+1],s1.heap.objs.size<=b:=λ b hb=>by
  simp only[yCu,yCe,or_false] at hb;omega
 have Z:=aIm (n:=s1.heap.objs.size) (a:=l1) (b:=l2) a1 a2;exact⟨s1.heap.objs.size+4,[s1.heap.objs.size+4,s1.heap.objs.size+2,s1.heap.objs.size+3,s1.heap.objs.size,s1.heap.objs.size+1],_,_,H1,rfl,I2,aNN t u l1 l2 _ _ _ _ _ Z (xAk a1) (xAk (yFr a2)),⟨hz,cU,⟨_,_,dO⟩,hi1,hi2⟩,λ b hb=>I1.fpOk (hb' b hb) (I1.hok.fresh (hb' b hb)),q⟩
noncomputable def cV:List D->List D->List D
 | a::as,b::bs=>.tuple [a,b]::cV as bs
 | _,_=>[]
theorem tH:∀ as bs:List D,(cV as bs).length=min as.length bs.length
 | [],_=>by simp[cV]
 | _::_,[]=>by simp[cV]
 | _::as,_::bs=>by simp[cV,tH as bs]
theorem zE:∀ (as bs:List D) (i:Nat) (d:D),(cV as bs)[i]? = qq d->∃ a b,as[i]? = qq a/\bs[i]? = qq b/\d=.tuple [a,b]
 | [],_,i,d,h=>by simp[cV] at h
 | _::_,[],i,d,h=>by simp[cV] at h
 | a::as,b::bs,0,d,h=>by simp[cV] at h;exact⟨a,b,rfl,rfl,h.symm⟩
 | a::as,b::bs,i+1,d,h=>by
   obtain⟨x,y,h1,h2,h3⟩:=zE as bs i d (by simpa [cV] using h)
   exact⟨x,y,by simpa using h1,by simpa using h2,h3⟩
theorem aRa{K:FrG}{F:Hp}{L:List qv}{t u:Bool}{a b:qv}{xs ys:List V}{ds es:List D}(sq1:Sq t K F a xs)(dl1:DenL K F ds xs)(sq2:Sq u K F b ys)(dl2:DenL K F es ys):Wk K F L (aDD K t u a b) (cV ds es) where
 go:=λ i H s hi=>by
  rw[tH] at hi;have h1:i<xs.length:=by rw[<- dl1.length];omega
  have h2:i<ys.length:=by rw[<- dl2.length];omega
  exact⟨xs,xs[i],ys,ys[i],gZ s sq1,by simp[h1],gZ s sq2,by simp[h2]⟩
 stop:=λ H s=>⟨xs,ys,gZ s sq1,gZ s sq2,by rw[tH,dl1.length,dl2.length]⟩
 yld:=λ i H F1 L1 S x H' d g R e y=>by
  obtain⟨p,x',y',hp,rfl,rfl,hx,hy⟩:=y;obtain⟨d1,d2,e1,e2,rfl⟩:=zE ds es i d e;obtain⟨x1,e3,dx⟩:=dl1.get e1;obtain⟨y1,e4,dy⟩:=dl2.get e2;have q1:=hx xs (gZ (g.f.trans R.sub) sq1);rw[q1] at e3;cases e3;have q2:=hy ys (gZ (g.f.trans R.sub) sq2);rw[q2] at e4;cases e4;have hF:F1 p=qz:=R.sub.free hp;exact⟨bE F1 p (.tup [x',y']),dP hF,R.new hp,.tup (bQ.of cX) (.cons (dx.mono (g.f.trans (dP hF))) (.cons (dy.mono (g.f.trans (dP hF))) .nil))⟩
end
section
variable {X : Cx}
noncomputable def wM:W->Option (List D)
 | .d (.list ds)=>qq ds
 | .d (.tuple ds)=>qq ds
 | _=>qz
noncomputable def qB(fa fb:FE):FL:=λ env S=>(fa env S).bind λ p=>(fb env p.2).bind λ q=>(wM p.1).bind λ ds=>(wM q.1).bind λ es=>qq (cV ds es,q.2)
theorem yU{K:FrG}{F:Hp}{L:List qv}{w:W}{ds:List D}{v:V}(h:wM w=qq ds)(d:eD K F L w v):∃ t a xs,v=.ref a/\Sq t K F a xs/\DenL K F ds xs:=by
 unfold wM at h
 split at h
 ·cases h;cases (show Den K F (.list ds) v from d) with
  | lst sq dl=>exact⟨false,_,_,rfl,sq,dl⟩
 ·cases h;cases (show Den K F (.tuple ds) v from d) with
  | tup sq dl=>exact⟨true,_,_,rfl,sq,dl⟩
 ·cases h
theorem aVn{K:FrG}{fa fb:FE}(σ:L2.St)(H:Hp)(Rr:It->Hp->Prop)(h:iV K (qB fa fb) σ H Rr):aKc K (fF K (cS fa (cS fb gQ))) σ H Rr:=by
 obtain⟨F,L,S,env,ds,S',R,E,e,q⟩:=h;obtain⟨⟨w1,S1⟩,e1,e⟩:=bind_some e;obtain⟨⟨w2,S2⟩,e2,e⟩:=bind_some e;obtain⟨ds1,e3,e⟩:=bind_some e;obtain⟨ds2,e4,e⟩:=bind_some e;dsimp only at e e2 e3 e4;cases e;refine⟨F,L,S,env,[w1,w2],S',R,E,by unfold cS;simp only[e1,e2,gQ,yCk],λ F1 L1 H1 vs g1 R1 d1=>?_⟩
 cases d1 with
 | cons da dr =>
   cases dr with
   | cons db dn =>
     cases dn;obtain⟨t,a,xs,rfl,sq1,dl1⟩:=yU e3 da;obtain⟨u,b,ys,rfl,sq2,dl2⟩:=yU e4 db;exact⟨a,b,t,u,rfl,⟨xs,gZ R1.sub sq1⟩,⟨ys,gZ R1.sub sq2⟩,q F1 L1 H1 _ g1 R1 (aRa sq1 dl1 sq2 dl2)⟩
end
structure ZB(z TI TO i1 i2 i3:qv)(dH dI fp3:List qv):Prop where
 TIz:TI≠z
 TOz:TO≠z
 i1z:i1≠z
 i2z:i2≠z
 i3z:i3≠z
 TITO:TI≠TO
 TIi1:TI≠i1
 TIi2:TI≠i2
 TIi3:TI≠i3
 TOi1:TO≠i1
 TOi2:TO≠i2
 TOi3:TO≠i3
 f1:∀ b∈dH,b≠z/\b≠TO/\b≠i2/\b≠i3
 f2:∀ b∈dI,b≠z/\b≠TO/\b≠i1/\b≠i3
 f3:∀ b∈fp3,b≠z/\b≠TO/\b≠i1/\b≠i2
section
variable {prog : qu}{w : zx}{A : zv}{E : qx -> qj -> Prop}{s : qj}
end
section
variable {prog : qu}{w : zx}{A : zv}{E : qx -> qj -> Prop}{s : qj}
end
section
variable {X : Cx}
end
section
variable {X : Cx}
end
section
open PySem.SeqAt
open PySem.AutoSeq1 (wpAny_loadPart')
open PySem.MeetsSeq PySem.MeetsSeq2 PySem.MeetsSeq3
theorem rE:∀ {vs:List qx}{ns:List Int}{i:Nat},IntsAre vs ns->i<vs.length->∃ a t,vs[i]? = qq (.int a t)/\ns.drop i=a::ns.drop (i+1)
 | _,_,i,.nil,h=>absurd h (yDt i)
 | _,_,0,.cons a t _,_=>⟨a,t,rfl,rfl⟩
 | _,_,i+1,.cons a t r,h=>by
   obtain⟨b,u,h1,h2⟩:=rE (i:=i) r (by simpa using h)
   exact⟨b,u,by simpa using h1,by simpa using h2⟩
end
section
variable {prog : qu}{w : zx}{A : zv}{E : qx -> qj -> Prop}{s : qj}
end
section
variable {X : Cx}
end
section
variable {X : Cx}
end
noncomputable def aJ9(f:FL):FL:=λ env S=>(f env S).bind λ p=>if p.1.length<=1000000 then qq p else qz
theorem aMv:1000000<=qy:=by rw[zq];decide
section
variable {X : Cx}
end
section
variable {X : Cx}
end
noncomputable def Itd(hi:Int)(n:Nat):It:=⟨λ i _=>i<n,λ i H x H'=>H'=H/\x=.int (hi-i),λ i _=>n<=i⟩
theorem aMK{P:qu}{w:zx}{K:FrG}{tg:qw}(it:qv)(hi:Int)(n:Nat):Turn P w K tg (Itd hi n) [it] it (λ i h=>kv h it (hi+(i:Nat)*(-1)) ((n:Int)-(i:Nat)) (-1)) where
 mem:=by simp
 obj:=λ i h st b hb=>by
  have e:b=it:=by simpa using hb
  subst e;exact⟨_,st,λ v z=>by
   have z':Data.fields _=Data.cell v:=z;cases z'⟩
 keep:=λ i h h' st k=>k it (by simp) _ st
 item:=by
  intro X hP hw hK hc i aB s σ H E I hf st hg;subst hP hw hK;obtain⟨f0,f1,f2,f3,f4,f5⟩:=hf it (by simp)
  have W:=Walks.range (prog:=X.prog) (w:=X.w) (I.ok.hd hc) it hi (-1) n;refine W.item i s _ _ hg st λ v h' tk hv st' kk=>?_
  obtain⟨t,rfl⟩:=hv;have I1:Inv X aB σ H {s with heap:=h',toks:=tk }:=I.turned (λ b o hb e=>kk b o (by simpa using hb) e) f0 f1 f3 f4 f5
  refine⟨_,rfl,aAI (s:={s with heap:=h',toks:=tk }) (n:="range_iterator") st' rfl rfl (by decide) ⟨.int (hi-i),H,I1,⟨t,?_⟩,⟨rfl,rfl⟩,st',λ b hb=>(hf b hb).1⟩⟩
  congr 1;omega
 done:=by
  intro X hP hw hK hc i aB s σ H E I hf st hg;subst hP hw hK;obtain⟨f0,f1,f2,f3,f4,f5⟩:=hf it (by simp)
  exact wpAny_pyNext_range_end (I.ok.hd hc) st (by have:n<=i:=hg;omega) λ h' eb=>⟨rfl,I.turned (t':=s.toks) (λ b o hb e=>eb b o hb e) f0 f1 f3 f4 f5⟩
 self:=λ _ _ _ _ _ st h=>kx st h
theorem aEF(a b:Int):yEe a b (-1)=if b<a then a-b else 0:=by
 unfold yEe;simp only[show ¬ ((-1:Int)>0) by decide,if_false,Int.neg_neg,Int.ediv_one,gt_iff_lt]
 split<;>omega
theorem aMx{a b:Int}(ha : -(2^62)<=a)(ha':a<2^62)(hb : -(2^62)<=b)(hb':b<2^62):yHq a b (-1)=true:=by
 unfold yHq;rw[aEF];simp only[Builtin.Range.rangeFitsLong,yAl,yDu,decide_eq_true_eq,beq_iff_eq,show ¬ ((-1:Int)>0) by decide,if_false]
 split<;>omega
section
variable {X : Cx}{tg : qw}
theorem aPI{aB:List (qv×Obj)}{σ:L2.St}{H:Hp}{s:qj}{R:It->Hp->Prop}{E:qx->qj->Prop}{hi lo:Int}{t u v:Tok}{tk:Nat}(I:Inv X aB σ H s)(h1 : -(2^62)<=hi)(h2:hi<2^62)(h3 : -(2^62)<=lo)(h4:lo<2^62)
 (q:R (Itd hi (hi-lo).toNat) H):qk (model X.prog X.w) X.A (pyIter (.ref s.heap.objs.size)) (PIE X aB σ tg R) E {s with heap:=s.heap.push {cls:=.type "range",data:=.fields #[.int hi t,.int lo u,.int (-1) v] },toks:=tk }:=by
 refine wpAny_pyIter_range (IsRange.new ..) (aMx h1 h2 h3 h4) ?_;have I1:Inv X aB σ H {s with heap:=s.heap.push {cls:=.type "range",data:=.fields #[.int hi t,.int lo u,.int (-1) v] },toks:=tk }:=I.kept λ b o e=>hpS _ e
 refine⟨(s.heap.push {cls:=.type "range",data:=.fields #[.int hi t,.int lo u,.int (-1) v] }).objs.size,[(s.heap.push {cls:=.type "range",data:=.fields #[.int hi t,.int lo u,.int (-1) v] }).objs.size],_,_,H,rfl,
  I1.kept (t':=tk) λ b o e=>hpS _ e,aMK _ hi (hi-lo).toNat,?_,λ b hb=>?_,q⟩
 ·have e1:hi+((0:Nat):Int)*(-1)=hi:=by simp
  have e2:(((hi-lo).toNat:Nat):Int)-((0:Nat):Int)=yEe hi lo (-1):=by rw[aEF];split<;>omega
  show kv _ _ (hi+((0:Nat):Int)*(-1)) ((((hi-lo).toNat:Nat):Int)-((0:Nat):Int)) (-1);rw[e1,e2];exact xAe _ rfl
 ·have e:b=(s.heap.push {cls:=.type "range",data:=.fields #[.int hi t,.int lo u,.int (-1) v] }).objs.size:=by simpa using hb
  subst e;exact I1.fpOk (yAb _) (I1.hok.fresh (yAb _))
def aJp(ta:TA):TI:=λ σ H R=>ta σ H λ vs H1=>∃ i j:Int,vs=[.int i,.int j,.int (-1)]/\(-(2^62)<=i/\i<2^62 /\ -(2^62)<=j/\j<2^62)/\R (Itd i (i-j).toNat) H1
theorem aNq{a b c:qw}{ta:TA}{p pos:Pos}(hg:Gl X "range")(hm:X.mg "range" = qz)(ha:PA X [a,b,c] ta)(hs:qo [a,b,c] X.env=(false,eval a X.env)::qo [b,c] X.env)(hs2:qo [b,c] X.env=[(false,eval b X.env),(false,eval c X.env)]) :
 PI X tg (.Call (.Name "range" p) [a,b,c] [] pos) (aJp ta):=by
 intro aB s σ H R I h;refine Call_ (kX I hg hm boot_range (yBk (bC (ha pos aB s σ H _ I h) λ us s1 hPq46=>?_) hs (by rw[hs2];rfl)))
 obtain⟨vs,H1,I1,r1,q1⟩:=hPq46;obtain⟨i,j,e,⟨q1,q2,q3,q4⟩,q⟩:=q1;subst e;cases r1 with
 | cons r rr =>
   cases rr with
   | cons r' rr =>
     cases rr with
     | cons r'' rr =>
       cases rr;obtain⟨t,rfl⟩:=r;obtain⟨t',rfl⟩:=r';obtain⟨t'',rfl⟩:=r'';exact call_range_3 (by decide) (aPI I1 q1 q2 q3 q4 q)
noncomputable def lA(hi:Int):Nat->List D
 | 0=>[]
 | n+1=>.int hi::lA (hi-1) n
theorem qM:∀ (n:Nat) (hi:Int),(lA hi n).length=n
 | 0,_=>rfl
 | n+1,hi=>by rw[lA,yAw,qM n]
theorem aBy:∀ (n:Nat) (hi:Int) (i:Nat),i<n->(lA hi n)[i]? = qq (.int (hi-i))
 | 0,_,_,h=>by omega
 | n+1,hi,0,_=>by simp[lA]
 | n+1,hi,i+1,h=>by
   rw[lA,yCi,aBy n (hi-1) i (by omega)]
   congr 2
   push_cast
   omega
theorem aPF{K:FrG}{F:Hp}{L:List qv}(hi:Int)(n:Nat):Wk K F L (Itd hi n) (lA hi n) where
 go:=λ i H s hi=>by rw[qM] at hi;exact hi
 stop:=λ H s=>by rw[qM];exact yAb _
 yld:=λ i H F1 L1 S x H' d g R e y=>by
  obtain⟨rfl,rfl⟩:=y;have hi:i<n:=by
   have:=(gIm e).1;rw[qM] at this;exact this
  rw[aBy n _ i hi] at e;cases e;exact⟨F1,bZ.refl _,R,.int _⟩
noncomputable def aAL(fa fb fc:FE):FL:=λ env S=>(fa env S).bind λ p=>(fb env p.2).bind λ q=>(fc env q.2).bind λ r=>match p.1,q.1,r.1 with
 | .d (.int i),.d (.int j),.d (.int k)=>if (-(2^62)<=i/\i<2^62 /\ -(2^62)<=j/\j<2^62)/\k = -1 then qq (lA i (i-j).toNat,r.2) else qz
 | _,_,_=>qz
theorem aRr{K:FrG}{fa fb fc:FE}(σ:L2.St)(H:Hp)(Rr:It->Hp->Prop)(h:iV K (aAL fa fb fc) σ H Rr):aJp (fF K (cS fa (cS fb (cS fc gQ)))) σ H Rr:=by
 obtain⟨F,L,S,env,ds,S',R,E,e,q⟩:=h;obtain⟨⟨w,S1⟩,e1,e2⟩:=bind_some e;obtain⟨⟨w2,S2⟩,e3,e4⟩:=bind_some e2;obtain⟨⟨w3,S3⟩,e5,e6⟩:=bind_some e4;dsimp only at e6 e3 e5
 split at e6
 ·split at e6
  ·rename_i c;obtain⟨c,rfl⟩:=c;cases e6;refine⟨F,L,S,env,[.d (.int _),.d (.int _),.d (.int _)],_,R,E,by unfold cS;rw[e1];dsimp only[yCr];rw[e3];dsimp only[yCr];rw[e5];rfl,λ F1 L1 H1 vs g1 R1 d1=>?_⟩
   cases d1 with
   | cons dd dr =>
     cases dr with
     | cons dd2 dr =>
       cases dr with
       | cons dd3 dr =>
         cases dr;cases (show Den K F1 (.int _) _ from dd)
         cases (show Den K F1 (.int _) _ from dd2)
         cases (show Den K F1 (.int _) _ from dd3)
         exact⟨_,_,rfl,c,q F1 L1 H1 _ g1 R1 (aPF _ _)⟩
  ·cases e6
 ·cases e6
end
abbrev jR(h:Heap)(z TI TO a:qv)(f:Bool):Prop:=
 h.get? z=qq {cls:=.type "zip",dict:=qz,data:=.fields #[yk a,.bool f,.bool false,.ref TI,.ref TO],slots:=#[] }
section
variable {prog : qu}{w : zx}{A : zv}{E : qx -> qj -> Prop}{s : qj}
theorem aNj{a:qv}{Q:Option Obj->qj->Prop}(h:Q (s.heap.get? a) s):qk (model prog w) A (loadIfAlive a) Q E s:=λ _ _ _=>h
theorem aFq{z TI TO a:qv}{f:Bool}{Q:Bool->qj->Prop}(hz:jR s.heap z TI TO a f)(ha:∃ o,s.heap.get? a=qq o)
 (hQ:∀ h',jR h' z TI TO a true->yDx z s.heap h'->Q false {s with heap:=h' }):qk (model prog w) A (yAv (.ref z)) Q E s:=by
 unfold yAv;refine wB (zj hz rfl (x:=yk a) rfl ?_);obtain⟨o,ho⟩:=ha;have hn:((s.heap.get? ((a:Int)).toNat).isNone)=false:=by
  rw[yAo,ho];rfl
 show qk _ _ (loadIfAlive ((a:Int)).toNat >>= _) _ _ _;refine wB (aNj ?_);rw[hn];simp only[yAt,if_false];cases f with
 | true =>
   refine wB (zj hz rfl (x:=.bool true) rfl ?_);rw[if_neg (by decide)]
   exact wP (hQ s.heap hz (Heap.SameBut.refl _ _))
 | false =>
   refine wB (zj hz rfl (x:=.bool false) rfl ?_);rw[if_pos (by decide)]
   exact wB (xu hz (by simp) λ h₁ hz₁ hs₁=>wP (hQ h₁ hz₁ hs₁))
theorem aLi{z TI TO i1 i2 a:qv}{f:Bool}{dH dI:List qv}{n1 n2 k:Nat}{P1 P2:Nat->qx->Prop}{cF cC:Nat->Heap->Prop}{Q:qx->qj->Prop}
 (D1:Draws prog w A i1 dH n1 P1 cF) (D2:Draws prog w A i2 dI n2 P2 cC) (Z:ZA z TI TO i1 i2 dH dI)
 (hz:jR s.heap z TI TO a f) (ha:∃ o,s.heap.get? a=qq o) (cU:zk s.heap TI (.ref i1) (.ref i2)) (s1:cF k s.heap) (s2:cC k s.heap) (k1:k<n1) (k2:k<n2)
 (hQ:∀ x y h' tk,P1 k x->P2 k y->jR h' z TI TO a true->zk h' TI (.ref i1) (.ref i2)->cF (k+1) h'->cC (k+1) h'->zk h' s.heap.objs.size x y->h'.objs.size=s.heap.objs.size+1 ->
   (∀ c o,c≠z->c≠i1->c≠i2->s.heap.get? c=qq o->h'.get? c=qq o)->Q (.ref s.heap.objs.size) {s with heap:=h',toks:=tk }) :
 qk (model prog w) A (Builtin.«zip.__next__» ⟨[.ref z],[]⟩) (λ bI s'=>∃ v,bI=.done (.ret v)/\Q v s') E s:=by
 show qk _ _ (field (.ref z) 2 >>= _) _ _ _;refine wB (zj hz rfl (x:=.bool false) rfl ?_);show qk _ _ (field (.ref z) 3 >>= _) _ _ _;refine wB (zj hz rfl (x:=.ref TI) rfl ?_);refine wB (xz cU rfl ?_);show qk _ _ (yAv (.ref z) >>= _) _ _ _;refine wB (aFq hz ha λ h₁ hz₁ hs₁=>?_)
 have s11:cF k h₁:=D1.frame k _ _ s1 λ c hc o e=>hs₁.extBut _ _ (Z.f1 c hc).1 e
 have s21:cC k h₁:=D2.frame k _ _ s2 λ c hc o e=>hs₁.extBut _ _ (Z.f2 c hc).1 e
 simp only[yAt,if_false];rw[<- Array.forIn_toList];simp only[yFi,yFv];refine wB ?_;refine wB (wB (zy ?_));show qk _ _ (yAu (.ref i1) >>= _) _ _ _;refine wB (D1.item k _ _ _ k1 s11 λ x h₂ tk₂ px s12 hs₂=>wP ?_)
 have s22:cC k h₂:=D2.frame k _ _ s21 λ c hc o e=>hs₂.extBut _ _ (Z.f2 c hc).2.2 e
 refine wP ?_;refine wB (wB (zy ?_));show qk _ _ (yAu (.ref i2) >>= _) _ _ _;refine wB (D2.item k _ _ _ k2 s22 λ y h₃ tk₃ py s23 hs₃=>wP ?_)
 have s13:cF (k+1) h₃:=D1.frame _ _ _ s12 λ c hc o e=>hs₃.extBut _ _ (Z.f1 c hc).2.2 e
 refine wP (wP ?_);refine wB (wpAny_newTuple (hsz:=show 2<=qy by decide) ?_)
 have hsz:h₃.objs.size=s.heap.objs.size:=by rw[hs₃.1,hs₂.1,hs₁.1]
 have up:∀ c o,c≠z->c≠i1->c≠i2->s.heap.get? c=qq o->h₃.get? c=qq o:=λ c o c1 c3 c4 e=>hs₃.extBut _ _ c4 (hs₂.extBut _ _ c3 (hs₁.extBut _ _ c1 e))
 have hz₃:jR h₃ z TI TO a true:=hs₃.extBut _ _ Z.i2z.symm (hs₂.extBut _ _ Z.i1z.symm hz₁);refine wP ⟨_,rfl,?_⟩;show Q (.ref h₃.objs.size) _;rw[hsz];have ps:∀ c o,h₃.get? c=qq o->(h₃.push {cls:=.type "tuple",data:=.seq #[x,y] }).get? c=qq o:=λ c o e=>hpS _ e
 have hT:zk (h₃.push {cls:=.type "tuple",data:=.seq #[x,y] }) s.heap.objs.size x y:=by rw[<- hsz];exact xAe _ rfl
 exact hQ x y _ _ px py (ps _ _ hz₃) (ps _ _ (up _ _ Z.TIz Z.TIi1 Z.TIi2 cU)) (D1.frame _ _ _ s13 λ c hc o e=>ps c o e) (D2.frame _ _ _ s23 λ c hc o e=>ps c o e) hT (by rw[yBz,hsz]) λ c o c1 c3 c4 e=>ps c o (up c o c1 c3 c4 e)
theorem aLv{z TI TO i1 i2 a:qv}{f:Bool}{dH dI:List qv}{n1 n2 k:Nat}{P1 P2:Nat->qx->Prop}{cF cC:Nat->Heap->Prop}{Q:Fin->qj->Prop}
 (D1:Draws prog w A i1 dH n1 P1 cF) (D2:Draws prog w A i2 dI n2 P2 cC) (Z:ZA z TI TO i1 i2 dH dI)
 (hz:jR s.heap z TI TO a f) (ha:∃ o,s.heap.get? a=qq o) (cU:zk s.heap TI (.ref i1) (.ref i2)) (s1:cF k s.heap) (s2:cC k s.heap) (hend:k=n1\/(k<n1/\k=n2))
 (hE:∀ h' tk e,(∀ c o,c≠z->c≠i1->c≠i2->s.heap.get? c=qq o->h'.get? c=qq o)->(∃ o,h'.get? e=qq o/\o.cls=.type "StopIteration")->E (.ref e) {s with heap:=h',toks:=tk }) :
 qk (model prog w) A (Builtin.«zip.__next__» ⟨[.ref z],[]⟩) Q E s:=by
 show qk _ _ (field (.ref z) 2 >>= _) _ _ _;refine wB (zj hz rfl (x:=.bool false) rfl ?_);show qk _ _ (field (.ref z) 3 >>= _) _ _ _;refine wB (zj hz rfl (x:=.ref TI) rfl ?_);refine wB (xz cU rfl ?_);show qk _ _ (yAv (.ref z) >>= _) _ _ _;refine wB (aFq hz ha λ h₁ hz₁ hs₁=>?_)
 have s11:cF k h₁:=D1.frame k _ _ s1 λ c hc o e=>hs₁.extBut _ _ (Z.f1 c hc).1 e
 have s21:cC k h₁:=D2.frame k _ _ s2 λ c hc o e=>hs₁.extBut _ _ (Z.f2 c hc).1 e
 simp only[yAt,if_false];rw[<- Array.forIn_toList];simp only[yFi,yFv];refine wB ?_;refine wB (wB (zy ?_));show qk _ _ (yAu (.ref i1) >>= _) _ _ _;rcases hend with rfl | ⟨k1,rfl⟩
 ·exact wB (D1.done _ _ _ s11 λ h₂ e hs₂ he=>hE h₂ _ e (λ c o c1 c3 _ x=>hs₂ _ _ c3 (hs₁.extBut _ _ c1 x)) he)
 ·refine wB (D1.item k _ _ _ k1 s11 λ x h₂ tk₂ px s12 hs₂=>wP ?_)
  have s22:cC k h₂:=D2.frame k _ _ s21 λ c hc o e=>hs₂.extBut _ _ (Z.f2 c hc).2.2 e
  refine wP ?_;refine wB (wB (zy ?_));show qk _ _ (yAu (.ref i2) >>= _) _ _ _;exact wB (D2.done _ _ _ s22 λ h₃ e hs₃ he=>hE h₃ _ e (λ c o c1 c3 c4 x=>hs₃ _ _ c4 (hs₂.extBut _ _ c3 (hs₁.extBut _ _ c1 x))) he)
theorem aLd{z TI TO i1 i2 a:qv}{f:Bool}{dH dI:List qv}{n1 n2 k:Nat}{P1 P2:Nat->qx->Prop}{cF cC:Nat->Heap->Prop}{Q:Option qx->qj->Prop}
 (D1:Draws prog w A.in1 i1 dH n1 P1 cF) (D2:Draws prog w A.in1 i2 dI n2 P2 cC) (Z:ZA z TI TO i1 i2 dH dI)
 (hz:jR s.heap z TI TO a f) (ha:∃ o,s.heap.get? a=qq o) (cU:zk s.heap TI (.ref i1) (.ref i2)) (s1:cF k s.heap) (s2:cC k s.heap) (k1:k<n1) (k2:k<n2)
 (hQ:∀ x y h' tk,P1 k x->P2 k y->jR h' z TI TO a true->zk h' TI (.ref i1) (.ref i2)->cF (k+1) h'->cC (k+1) h'->zk h' s.heap.objs.size x y->h'.objs.size=s.heap.objs.size+1 ->
   (∀ c o,c≠z->c≠i1->c≠i2->s.heap.get? c=qq o->h'.get? c=qq o)->Q (qq (.ref s.heap.objs.size)) {s with heap:=h',toks:=tk }) :
 qk (model prog w) A (vx (.ref z)) Q E s:=by
 have hT:s.TypeIs (.ref z) "zip":=⟨_,hz,rfl⟩;unfold vx;exact wB (wj (wpAny_callSpecial?_slot (name:=Str.ofString "__next__") hT F.slot_zip_next
  (xj F.slot_zip_next hT F.entry_zip_next
    (aLi D1 D2 Z hz ha cU s1 s2 k1 k2 λ x y h' tk a0 b0 a1 a3 a4 a5 a6 a7 a8=>wP (hQ x y h' tk a0 b0 a1 a3 a4 a5 a6 a7 a8)) (F.args_zip_next_1 _))))
theorem aLe{z TI TO i1 i2 a:qv}{f:Bool}{dH dI:List qv}{n1 n2 k:Nat}{P1 P2:Nat->qx->Prop}{cF cC:Nat->Heap->Prop}{Q:Option qx->qj->Prop}
 (D1:Draws prog w A.in1 i1 dH n1 P1 cF) (D2:Draws prog w A.in1 i2 dI n2 P2 cC) (Z:ZA z TI TO i1 i2 dH dI)
 (hz:jR s.heap z TI TO a f) (ha:∃ o,s.heap.get? a=qq o) (cU:zk s.heap TI (.ref i1) (.ref i2)) (s1:cF k s.heap) (s2:cC k s.heap) (hend:k=n1\/(k<n1/\k=n2))
 (hQ:∀ h' tk,(∀ c o,c≠z->c≠i1->c≠i2->s.heap.get? c=qq o->h'.get? c=qq o)->Q qz {s with heap:=h',toks:=tk }):qk (model prog w) A (vx (.ref z)) Q E s:=by
 have hT:s.TypeIs (.ref z) "zip":=⟨_,hz,rfl⟩;unfold vx;refine wB (wj (wpAny_callSpecial?_slot (name:=Str.ofString "__next__") hT F.slot_zip_next
  (xj F.slot_zip_next hT F.entry_zip_next (aLv D1 D2 Z hz ha cU s1 s2 hend λ h' tk e hk he=>?_) (F.args_zip_next_1 _))))
 obtain⟨o,ho,hc⟩:=he;refine wB (kq (T:="StopIteration") (b:=true) ⟨o,ho,hc⟩ ky ?_);exact wP (hQ _ _ hk)
end
theorem Rel.relay{K:FrG}{F:Hp}{L:List qv}{S:aE}{H:Hp}(r:Rel K F L S H){p:qv}{o:HO}(hF:F p=qz)(hL:p ∉ L):Rel K F L S (bE H p o):=by
 refine⟨λ b u q=>by rw[bJ (dX q hF)];exact r.sub _ _ q,r.nd,r.len,λ n a ds e1 e2=>?_,λ n a e=>?_⟩
 ·obtain⟨f,xs,e3,dl⟩:=r.loc n a ds e1 e2;have ne:a≠p:=λ z=>hL (by rw[<- z];exact xAl e1)
  exact⟨f,xs,by rw[bJ ne];exact e3,dl⟩
 ·obtain⟨xs,hx⟩:=r.tr n a e;have ne:a≠p:=λ z=>hL (by rw[<- z];exact xAl e)
  exact⟨xs,by rw[bJ ne];exact hx⟩
theorem aF9{K:FrG}{F:Hp}{d:D}{v:V}(k:Den K F d v):∀ {ds:List D}{xs:List V},DenL K F ds xs->DenL K F (ds++[d]) (xs++[v])
 | _,_,.nil=>.cons k .nil
 | _,_,.cons a b=>.cons a (aF9 k b)
structure ZW(X:Cx)(aB:List (qv×Obj))(σ:L2.St)(F1:Hp)(L1:List qv)(S1:aE)(SA z TI TO i1 i2:qv)(ds:List D)(H F:Hp)(vs:List V)(s:qj):Prop where
 inv:Inv X aB σ H s
 same:bZ F1 F
 rel:Rel X.K F L1 S1 H
 free:F SA=qz
 lst:H SA=qq (.lst vs)
 den:DenL X.K F ds vs
 fp:∀ c∈[z,TI,TO,i1,i2],gF X aB H c
structure ZH(z TI TO i1 i2 a b:qv)(t u:Bool)(i:Nat)(h:Heap):Prop where
 ti:zk h TI (.ref i1) (.ref i2)
 q1:fY t h i1 a i
 q2:fY u h i2 b i
 to:∃ o,h.get? TO=qq o
 z:(vw h z TI TO .none/\∃ x y,zk h TO x y)\/∃ a0 f,jR h z TI TO a0 f/\∃ o,h.get? a0=qq o
theorem ZH.zlt{z TI TO i1 i2 a b:qv}{t u:Bool}{i:Nat}{h:Heap}(x:ZH z TI TO i1 i2 a b t u i h):∃ o,h.get? z=qq o:=by
 rcases x.z with ⟨y,_⟩ | ⟨_,_,y,_⟩
 ·exact⟨_,y⟩
 ·exact⟨_,y⟩
theorem ZH.keep{z TI TO i1 i2 a b:qv}{t u:Bool}{i:Nat}{h h':Heap}(x:ZH z TI TO i1 i2 a b t u i h)(k:∀ c o,c∈[z,TI,TO,i1,i2]->h.get? c=qq o->h'.get? c=qq o)(k2:∀ c o,h.get? c=qq o->∃ o',h'.get? c=qq o'):ZH z TI TO i1 i2 a b t u i h':=by
 refine⟨k _ _ (by simp) x.ti,x.q1.at λ o e=>k _ _ (by simp) e,x.q2.at λ o e=>k _ _ (by simp) e,let ⟨o,e⟩:=x.to;k2 _ _ e,?_⟩
 rcases x.z with ⟨y,p,q,r⟩ | ⟨a0,f,y,o,e⟩
 ·exact .inl ⟨k _ _ (by simp) y,p,q,k _ _ (by simp) r⟩
 ·exact .inr ⟨a0,f,k _ _ (by simp) y,k2 _ _ e⟩
section
variable {X : Cx}{aB : List (qv×Obj)}{σ : L2.St}{F1 : Hp}{L1 : List qv}{S1 : aE}{SA z TI TO i1 i2 a b : qv}{t u : Bool}{ds : List D}{H F : Hp}{vs : List V}{s : qj}{xs ys : List V}{ds1 ds2 : List D}{A : zv}{E : qx -> qj -> Prop}{i : Nat}
theorem aOi{Q:Option qx->qj->Prop}(hh:A.in1.handled=qz)(Z:ZA z TI TO i1 i2 [i1,a] [i2,b])(n1:a≠i1)(n2:b≠i2)(sq1:Sq t X.K F1 a xs)(dl1:DenL X.K F1 ds1 xs)(sq2:Sq u X.K F1 b ys)(dl2:DenL X.K F1 ds2 ys)
 (hw:ZW X aB σ F1 L1 S1 SA z TI TO i1 i2 ds H F vs s) (hz:ZH z TI TO i1 i2 a b t u i s.heap) {d:D} (hd:(cV ds1 ds2)[i]? = qq d)
 (hQ:∀ s' p H' F',ZW X aB σ F1 L1 S1 SA z TI TO i1 i2 ds H' F' vs s'->ZH z TI TO i1 i2 a b t u (i+1) s'.heap->Den X.K F' d (.ref p)->Q (qq (.ref p)) s'):qk (model X.prog X.w) A (vx (.ref z)) Q E s:=by
 obtain⟨d1,d2,e1,e2,rfl⟩:=zE ds1 ds2 i d hd;obtain⟨x,hx,dx⟩:=dl1.get e1;obtain⟨y,hy,dy⟩:=dl2.get e2;have I:=hw.inv;obtain⟨gH,rv1,pl1⟩:=jC I (gZ (hw.same.trans hw.rel.sub) sq1);obtain⟨eH,rv2,pl2⟩:=jC I (gZ (hw.same.trans hw.rel.sub) sq2);obtain⟨u1,hu1,ru1⟩:=rv1.get hx;obtain⟨u2,hu2,ru2⟩:=rv2.get hy;have lt1:i<gH.toArray.size:=by rw[yAf];exact(gIm hu1).1
 have lt2:i<eH.toArray.size:=by rw[yAf];exact(gIm hu2).1
 have D1:=nG (prog:=X.prog) (w:=X.w) (A:=A.in1) hh t i1 a n1 gH.toArray;have D2:=nG (prog:=X.prog) (w:=X.w) (A:=A.in1) hh u i2 b n2 eH.toArray;have hp:H s.heap.objs.size=qz:=I.fresh;have bI:∀ x' y' h' tk,gH.toArray[i]? = qq x'->eH.toArray[i]? = qq y'->zk h' TI (.ref i1) (.ref i2)->fY t h' i1 a (i+1)->fY u h' i2 b (i+1)->zk h' s.heap.objs.size x' y' ->
  (∀ c o,c≠z->c≠TO->c≠i1->c≠i2->s.heap.get? c=qq o->h'.get? c=qq o)->(∃ o,h'.get? TO=qq o)->(∃ a0 f,jR h' z TI TO a0 f/\∃ o,h'.get? a0=qq o)->Q (qq (.ref s.heap.objs.size)) {s with heap:=h',toks:=tk }:=λ x' y' h' tk px py ti q1 q2 hT hk hto hzb=>by
  have ex:x'=u1:=by rw[yDk,hu1] at px;exact(Option.some.inj px).symm
  have ey:y'=u2:=by rw[yDk,hu2] at py;exact(Option.some.inj py).symm
  subst ex ey;have I2:Inv X aB σ (bE H s.heap.objs.size (.tup [x,y])) {s with heap:=h',toks:=tk }:=by
   refine yQ I hw.fp (λ c o hb e'=>?_) (yAb _) ⟨by show 2<=qy;decide,[x',y'],.cons ru1 (.cons ru2 .nil),⟨_,hT,rfl,0,rfl⟩⟩
   exact hk c o (λ q=>hb (by simp[q])) (λ q=>hb (by simp[q])) (λ q=>hb (by simp[q])) (λ q=>hb (by simp[q])) e'
  have hF:F s.heap.objs.size=qz:=hw.rel.sub.free hp;have neS:SA≠s.heap.objs.size:=λ q=>by rw[<- q,hw.lst] at hp;cases hp
  refine hQ _ s.heap.objs.size _ (bE F s.heap.objs.size (.tup [x,y])) ⟨I2,hw.same.trans (dP hF),hw.rel.new hp,by rw[bJ neS];exact hw.free,by rw[bJ neS];exact hw.lst,hw.den.mono (dP hF),λ c hc=>?_⟩ ⟨ti,q1,q2,hto,.inr hzb⟩ ?_
  ·have f:=hw.fp c hc;have:c≠s.heap.objs.size:=by
    have hc':∃ o,s.heap.get? c=qq o:=by
     simp only[yCu,yCe,or_false] at hc;rcases hc with rfl | rfl | rfl | rfl | rfl
     ·exact hz.zlt
     ·exact⟨_,hz.ti⟩
     ·exact hz.to
     ·obtain⟨o,ho,_⟩:=hz.q1.obj;exact⟨o,ho⟩
     ·obtain⟨o,ho,_⟩:=hz.q2.obj;exact⟨o,ho⟩
    obtain⟨o,ho⟩:=hc';exact xAk (xAa ho)
   exact⟨by rw[bJ this];exact f.1,f.2⟩
  ·exact .tup (bQ.of cX) (.cons (dx.mono (hw.same.trans (dP hF))) (.cons (dy.mono (hw.same.trans (dP hF))) .nil))
 rcases hz.z with ⟨hz0,p,q,dO⟩ | ⟨a0,f,hzb,ha0⟩
 ·refine aEA D1 D2 Z hz0 hz.ti dO ⟨hz.q1,pl1⟩ ⟨hz.q2,pl2⟩ lt1 lt2 λ x' y' h₁ tk px py hz₁ hTO₁ hTI₁ s1 s2 hT₁ hsz hk=>?_
  exact bI x' y' h₁ tk px py hTI₁ s1.1 s2.1 hT₁ hk ⟨_,hTO₁⟩ ⟨s.heap.objs.size,false,hz₁,_,hT₁⟩
 ·refine aLd D1 D2 Z hzb ha0 hz.ti ⟨hz.q1,pl1⟩ ⟨hz.q2,pl2⟩ lt1 lt2 λ x' y' h₁ tk px py hz₁ hTI₁ s1 s2 hT₁ hsz hk=>?_
  refine bI x' y' h₁ tk px py hTI₁ s1.1 s2.1 hT₁ (λ c o c1 _ c3 c4 e=>hk c o c1 c3 c4 e) (let ⟨o,e⟩:=hz.to;⟨o,hk _ o Z.TOz Z.TOi1 Z.TOi2 e⟩) ⟨a0,true,hz₁,?_⟩
  obtain⟨o,ho⟩:=ha0
  by_cases c1:a0=z
  ·rw[c1];exact⟨_,hz₁⟩
  by_cases c2:a0=i1
  ·rw[c2];obtain⟨o,ho,_⟩:=s1.1.obj;exact⟨o,ho⟩
  by_cases c3:a0=i2
  ·rw[c3];obtain⟨o,ho,_⟩:=s2.1.obj;exact⟨o,ho⟩
  exact⟨o,hk a0 o c1 c2 c3 ho⟩
theorem aOO{p:qv}{d:D}{aG:List qx}{n:Nat}{tk:Nat}(hL:SA ∉ L1)(hw:ZW X aB σ F1 L1 S1 SA z TI TO i1 i2 ds H F vs s)(hz:ZH z TI TO i1 i2 a b t u i s.heap)(hd:Den X.K F d (.ref p))(hl:vs.length+1<=qy)
 (rv:aT vs aG) (e:s.heap.get? SA=qq {cls:=.type "list",data:=.seq aG.toArray n }) :
 ∃ H',ZW X aB σ F1 L1 S1 SA z TI TO i1 i2 (ds++[d]) H' F (vs++[.ref p]) {s with heap:=s.heap.update SA (Obj.mapSeq (·.push (.ref p))),toks:=tk }/\ZH z TI TO i1 i2 a b t u i (s.heap.update SA (Obj.mapSeq (·.push (.ref p)))):=by
 have I3:Inv X aB σ (bE H SA (.lst (vs++[.ref p]))) {s with heap:=s.heap.update SA (Obj.mapSeq (·.push (.ref p))),toks:=tk }:=hw.inv.lset (its':=aG++[.ref p]) hw.lst e (by simp) (aT.append rv (.cons (show bB (.ref p) (Value.ref p) from rfl) .nil)) (by rw[xAo];exact hl)
 have ne:∀ c∈[z,TI,TO,i1,i2],c≠SA:=λ c hc q=>by
  have:=(hw.fp c hc).1;rw[q,hw.lst] at this;cases this
 refine⟨_,⟨I3,hw.same,Rel.relay hw.rel hw.free hL,hw.free,cX,aF9 hd hw.den,λ c hc=>⟨by rw[bJ (ne c hc)];exact(hw.fp c hc).1,(hw.fp c hc).2⟩⟩,hz.keep (λ c o hc q=>(yBx _ _ (Ne.symm (ne c hc))).trans q) λ c o q=>?_⟩
 by_cases c1:c=SA
 ·subst c1;exact⟨_,PySem.IsL.update e _⟩
 ·exact⟨o,(yBx _ _ (Ne.symm c1)).trans q⟩
theorem aNW{R:Result->qj->Prop}{res:qx}(hh:A.in1.in1.handled=qz)(Z:ZA z TI TO i1 i2 [i1,a] [i2,b])(n1:a≠i1)(n2:b≠i2)(sq1:Sq t X.K F1 a xs)(dl1:DenL X.K F1 ds1 xs)(sq2:Sq u X.K F1 b ys)(dl2:DenL X.K F1 ds2 ys)(hL:SA ∉ L1)(bX:(cV ds1 ds2).length<=1000000)
 (hR:∀ s' H' F' vs',ZW X aB σ F1 L1 S1 SA z TI TO i1 i2 (cV ds1 ds2) H' F' vs' s'->R (.ok (.ret res)) s') :
 ∀ (k i:Nat) (s:qj) (H F:Hp) (vs:List V),(cV ds1 ds2).length-i=k->i<=(cV ds1 ds2).length->ZW X aB σ F1 L1 S1 SA z TI TO i1 i2 ((cV ds1 ds2).take i) H F vs s->ZH z TI TO i1 i2 a b t u i s.heap ->
 vj (model X.prog X.w) A (.builtin "list.extend.loop" ⟨[.ref SA,.ref z,res],[]⟩) R s:=by
 intro k
 induction k with
 | zero =>
   intro i s H F vs hk hi hw hz;have hin:i=(cV ds1 ds2).length:=by omega
   refine codeAny_builtin yGq ?_;rw[Around.under_plainId yDn _];show qk _ A.in1 (vx (.ref z) >>= _) _ _ s;rw[hin,yAe] at hw;have I:=hw.inv;obtain⟨gH,rv1,pl1⟩:=jC I (gZ (hw.same.trans hw.rel.sub) sq1);obtain⟨eH,rv2,pl2⟩:=jC I (gZ (hw.same.trans hw.rel.sub) sq2);have D1:=nG (prog:=X.prog) (w:=X.w) (A:=A.in1.in1) hh t i1 a n1 gH.toArray;have D2:=nG (prog:=X.prog) (w:=X.w) (A:=A.in1.in1) hh u i2 b n2 eH.toArray;have l1:=rv1.length;have l2:=rv2.length;have m1:=dl1.length;have m2:=dl2.length;rw[tH] at hin;have hend:i=gH.toArray.size\/(i<gH.toArray.size/\i=eH.toArray.size):=by
    rw[yAf,yAf];omega
   have bI:∀ h' tk,(∀ c o,c≠z->c≠TO->c≠i1->c≠i2->s.heap.get? c=qq o->h'.get? c=qq o)->R (.ok (.ret res)) {s with heap:=h',toks:=tk }:=λ h' tk hk' =>
    hR _ H F vs ⟨aFl I hw.fp λ c o hb e'=>hk' c o (λ q=>hb (by simp[q])) (λ q=>hb (by simp[q])) (λ q=>hb (by simp[q])) (λ q=>hb (by simp[q])) e',hw.same,hw.rel,hw.free,hw.lst,hw.den,hw.fp⟩
   rcases hz.z with ⟨hz0,p,q,dO⟩ | ⟨a0,f,hzb,ha0⟩
   ·exact wB (aEC D1 D2 Z hz0 hz.ti dO ⟨hz.q1,pl1⟩ ⟨hz.q2,pl2⟩ hend λ h₁ tk hk'=>wP (bI h₁ tk hk'))
   ·exact wB (aLe D1 D2 Z hzb ha0 hz.ti ⟨hz.q1,pl1⟩ ⟨hz.q2,pl2⟩ hend λ h₁ tk hk'=>wP (bI h₁ tk λ c o c1 _ c3 c4 e=>hk' c o c1 c3 c4 e))
 | succ k ih =>
   intro i s H F vs hk hi hw hz;have hlt:i<(cV ds1 ds2).length:=by omega
   refine codeAny_builtin yGq ?_;rw[Around.under_plainId yDn _];show qk _ A.in1 (vx (.ref z) >>= _) _ _ s;refine wB (aOi hh Z n1 n2 sq1 dl1 sq2 dl2 hw hz (yAa hlt) λ s' p H' F' hw' hz' hd=>?_)
   obtain⟨hv,aG,n,rv,hl,e⟩:=hw'.inv.lstM hw'.lst;have vl:vs.length=i:=by
    have:=hw'.den.length;rw[yBv] at this;omega
   have hs:1000000<=qy:=aMv;show qk _ A.in1 (updateSeq SA (·.push (.ref p)) >>= _) _ _ _;obtain⟨H3,hw3,hz3⟩:=aOO (tk:=s'.toks) hL hw' hz' hd (by omega) rv e
   rw[show(cV ds1 ds2).take i++[(cV ds1 ds2)[i]]=(cV ds1 ds2).take (i+1) from (yFn hlt).symm] at hw3
   refine wB (yz e rfl (wP ⟨plainId_quiet yDn _,ih (i+1) _ H3 F' _ (by omega) hlt hw3 hz3⟩) (by simp;omega) (by simp;omega))
end
theorem aLW:typeLookup (.type "zip") "__len__" = pure qz:=by rw[typeLookup_type,builtinLookup_eq_fast];kernel_rfl
theorem aLP:typeLookup (.type "zip") "__length_hint__" = pure qz:=by rw[typeLookup_type,builtinLookup_eq_fast];kernel_rfl
section
variable {prog : qu}{w : zx}{A : zv}{s : qj}{R : Result -> qj -> Prop}{z TI TO : qv}{f0 : qx}
theorem aMk(S:qv)(res:qx)(c₀:Nat)(hz:vw s.heap z TI TO f0)(hSz:S≠z)(hS:s.heap.get? S=qq {cls:=.type "list",data:=.seq #[] c₀ })
 (hR:∀ h' c,(∀ b o,b≠S->s.heap.get? b=qq o->h'.get? b=qq o)->h'.get? S=qq {cls:=.type "list",data:=.seq #[] c }->vj (model prog w) A (.builtin "list.extend.loop" ⟨[.ref S,.ref z,res],[]⟩) R {s with heap:=h' }) :
 qk (model prog w) A.in1 (yDc (.ref S) (.ref z) res)
  (λ bI s'=>match bI with | .done f=>R (.ok f) s' | .again c'=>c'.quiet=true/\vj (model prog w) A c' R s') (λ e s'=>R (.error e) s') s:=by
 have hT:s.TypeIs (.ref z) "zip":=⟨_,hz,rfl⟩;unfold yDc;refine wB (wpAny_typeOf hT ?_);have h1:yGw (.ref S) (.ref z)=false:=by simp[yGw,hSz]
 have h2:(Value.type "zip" == Value.type "list")=false:=by decide
 have h3:(Value.type "zip" == Value.type "tuple")=false:=by decide
 simp only[h1,h2,h3,yFg,yAt,if_false];refine wB (kz hz ?_);refine wB (zy ?_);unfold Builtin.List.listLengthHint;refine wB (kj hT aLW ?_);show qk _ A.in1 (specialOf (Value.ref z) (Str.ofString "__length_hint__") >>= _) _ _ _;refine wB (kj hT aLP ?_);refine wP ?_;show qk _ A.in1 (rule "list.extend.makes-room" >>= λ _=>Builtin.List.listTouch (.ref S) >>= λ _ =>
  again (.builtin "list.extend.loop" ⟨[.ref S,.ref z,res],[]⟩)) _ _ _
 refine wB (wq ?_);refine wB ?_;show qk _ A.in1 (updateSeq S (·.push .none) >>= λ _=>updateSeq S (·.pop)) _ _ _
 refine wB (yz hS rfl ?_);have hS₂:=yDi (Obj.mapSeq (·.push Value.none)) hS rfl;refine yz (hz:=by seq_fits) hS₂ rfl ?_
 have hS₃:=yDi (Obj.mapSeq (·.pop)) hS₂ rfl;have oth:∀ b o,b≠S->s.heap.get? b=qq o->((s.heap.update S (Obj.mapSeq (·.push Value.none))).update S (Obj.mapSeq (·.pop))).get? b=qq o:=
  λ b o hb e=>(yBx _ _ (Ne.symm hb)).trans ((yBx _ _ (Ne.symm hb)).trans e)
 exact wP ⟨plainId_quiet yDn _,hR _ _ oth hS₃⟩
theorem aOu(S:qv)(hz:vw s.heap z TI TO f0)(hSz:S≠z)(hS:s.heap.get? S=qq {cls:=.type "list",data:=.seq #[] })
 (hR:∀ h' c,(∀ b o,b≠S->s.heap.get? b=qq o->h'.get? b=qq o)->h'.get? S=qq {cls:=.type "list",data:=.seq #[] c }->vj (model prog w) A (.builtin "list.extend.loop" ⟨[.ref S,.ref z,.none],[]⟩) R {s with heap:=h' }) :
 qk (model prog w) A.in1 (Builtin.«list.__init__» ⟨[.ref S,.ref z],[]⟩)
  (λ bI s'=>match bI with | .done f=>R (.ok f) s' | .again c'=>c'.quiet=true/\vj (model prog w) A c' R s') (λ e s'=>R (.error e) s') s:=by
 show qk _ A.in1 (yHi (.ref S) >>= λ old=>Builtin.List.listUpdate (.ref S) (λ _=>#[]) >>= λ _=>letGo old.toList.reverse >>= λ _=>yDc (.ref S) (.ref z) .none) _ _ s
 refine wB ?_;unfold yHi;refine wB (xz hS rfl (wP ?_));show qk _ A.in1 (updateSeq S (λ _=>#[]) >>= λ _=>letGo (#[]:Array qx).toList.reverse >>= λ _=>yDc (.ref S) (.ref z) .none) _ _ s
 have hS2:=yDi (Obj.mapSeq (λ _=>(#[]:Array qx))) hS rfl
 have oth:∀ b o,b≠S->s.heap.get? b=qq o->(s.heap.update S (Obj.mapSeq (λ _=>(#[]:Array qx)))).get? b=qq o:=λ b o hb e=>(yBx _ _ (Ne.symm hb)).trans e
 refine wB (yz hS rfl (wB (ku ?_)));exact aMk S .none _ (oth _ _ (Ne.symm hSz) hz) hSz hS2 λ h' c hk hS'=>hR h' c (λ b o hb e=>hk b o hb (oth b o hb e)) hS'
end
section
variable {prog : qu}{w : zx}{A : zv}{E : qx -> qj -> Prop}{s : qj}{z TI TO : qv}{f0 : qx}
theorem aLt{Q:qx->qj->Prop}(hz:vw s.heap z TI TO f0)
 (hQ:∀ h' c (R:Result->qj->Prop),(∀ b o,s.heap.get? b=qq o->h'.get? b=qq o)->h'.get? s.heap.objs.size=qq {cls:=.type "list",data:=.seq #[] c }->(∀ s',Q (.ref s.heap.objs.size) s'->R (.ok (.ret .none)) s')->vj (model prog w) A.in1 (.builtin "list.extend.loop" ⟨[.ref s.heap.objs.size,.ref z,.none],[]⟩) R {s with heap:=h' }) :
 qk (model prog w) A (call (.type "list") [.ref z]) Q E s:=by
 have hSz:s.heap.objs.size≠z:=yDy (xAa hz);have hS:(s.heap.push {cls:=.type "list",data:=.seq #[] }).get? s.heap.objs.size=qq {cls:=.type "list",data:=.seq #[] }:=xAe _ rfl;refine callType_codes (Q₁:=λ ob s1=>ob=.ref s.heap.objs.size/\s1={s with heap:=s.heap.push {cls:=.type "list",data:=.seq #[] } }) PySem.F.called_list (PySem.F.typeCall_list_1 _) PySem.F.entry_list_init (code_list_new _ ⟨rfl,rfl⟩) λ ob s1 h1=>?_
 obtain⟨rfl,rfl⟩:=h1;refine⟨⟨_,hS,rfl⟩,PySem.F.args_list_init_2 _ _,aOu _ (hpS _ hz) hSz hS λ h' c hk hS'=>?_⟩
 exact hQ h' c _ (λ b o e=>hk b o (xAk (xAa e)) (hpS _ e)) hS' λ s' q=>⟨rfl,q⟩
end
noncomputable def rT(fa fb:FE):FL:=aJ9 (qB fa fb)
section
variable {X : Cx}
theorem aSc{a b:qw}{fa fb:FE}{p p2 pos pos2:Pos}(ha:PE X a (aP X.K fa))(hb:PE X b (aP X.K fb))(hc:X.calm=true)(hg:Gl X "list")(hm:X.mg "list" = qz)(hg2:Gl X "zip")(hm2:X.mg "zip" = qz)
 (hs:qo [a,b] X.env=(false,eval a X.env)::qo [b] X.env) (hs2:qo [b] X.env=[(false,eval b X.env)]):PE X (.Call (.Name "list" p) [.Call (.Name "zip" p2) [a,b] [] pos2] [] pos) (iG X.K (rT fa fb)):=by
 rintro aB s σ H Q I ⟨F,L,S,env,ds,S',R,E,e,q⟩;obtain⟨⟨ds',S1'⟩,e0,e⟩:=bind_some e;obtain⟨⟨w1,S1⟩,e1,e2⟩:=bind_some e0;obtain⟨⟨w2,S2⟩,e3,e4⟩:=bind_some e2;obtain⟨ds1,e5,e6⟩:=bind_some e4;obtain⟨ds2,e7,e8⟩:=bind_some e6;dsimp only at e e3 e5 e7;cases e8
 split at e
 ·rename_i bX;cases e;refine jx (kX I hg hm (show jz "list" = qq (.type "list") by decide +kernel) ?_)
  refine yBk ?_ rfl rfl;show qk _ _ (spliced ((false,eval (.Call (.Name "zip" p2) [a,b] [] pos2) X.env)::[])) _ _ s;refine Calls.spliced_cons ?_;refine jx (kX I hg2 hm2 boot_zip ?_);refine yBk ?_ hs (by rw[hs2];rfl)
  refine bC (nX ha (nX hb aDw hs2) hs pos2 aB s σ H (λ vs H1=>∃ v v2 F1 L1,vs=[v,v2]/\Gr F L F1 L1/\Rel X.K F1 L1 S2 H1/\eD X.K F1 L1 w1 v/\eD X.K F1 L1 w2 v2) I ⟨F,L,S,env,[w1,w2],_,R,E,by unfold cS;rw[e1];dsimp only[yCr];rw[e3];rfl,λ F1 L1 H1 vs g1 R1 d1=>by
   cases d1 with
   | cons d0 dr =>
     cases dr with
     | cons d2 dr=>cases dr;exact⟨_,_,F1,L1,rfl,g1,R1,d0,d2⟩⟩) λ us s1 ⟨vs,H1,I1,r1,v,v2,F1,L1,ev,g1,R1,d1,d2⟩=>?_
  subst ev;obtain⟨u1,u2,rfl,ru1,ru2⟩:=vD r1;obtain⟨t,l1,xs,rfl,sq1,dl1⟩:=yU e5 d1;obtain⟨u,l2,ys,rfl,sq2,dl2⟩:=yU e7 d2;cases ru1;cases ru2;obtain⟨gH,rv1,pl1⟩:=jC I1 (gZ R1.sub sq1);obtain⟨eH,rv2,pl2⟩:=jC I1 (gZ R1.sub sq2);have a1:=pl1.lt;have a2:=pl2.lt;refine aF6 pl1 pl2 λ h' hz cU dO hi1 hi2 hsz hk=>?_
  refine Calls.spliced_nil ?_;have I2:Inv X aB σ H1 {s1 with heap:=h' }:=I1.kept (t':=s1.toks) hk
  have hb':∀ b∈[s1.heap.objs.size+4,s1.heap.objs.size+2,s1.heap.objs.size+3,s1.heap.objs.size,s1.heap.objs.size+1],s1.heap.objs.size<=b/\b<s1.heap.objs.size+5:=λ b hb=>by
   simp only[yCu,yCe,or_false] at hb;omega
  have Z:=aIm (n:=s1.heap.objs.size) (a:=l1) (b:=l2) a1 a2;refine aLt hz λ h2 c R2 hk2 hS hR2=>?_
  dsimp only at hk2 hS hR2 ⊢;have fr:H1 h'.objs.size=qz:=I2.hok.fresh (yAb _);have I3:Inv X aB σ (bE H1 h'.objs.size (.lst [])) {s1 with heap:=h2 }:=I2.laid (t':=s1.toks) hk2 (yAb _) ⟨yEy _,[],c,.nil,hS⟩
  have nS:h'.objs.size ∉ L1:=R1.notin fr;have fpk:∀ b∈[s1.heap.objs.size+4,s1.heap.objs.size+2,s1.heap.objs.size+3,s1.heap.objs.size,s1.heap.objs.size+1],gF X aB (bE H1 h'.objs.size (.lst [])) b:=λ b hb=>by
   have f:=I1.fpOk (hb' b hb).1 (I1.hok.fresh (hb' b hb).1);exact⟨by rw[bJ (by rw[hsz];exact xAk (hb' b hb).2)];exact f.1,f.2⟩
  refine aNW (X:=X) (A:=X.A.in1) (aB:=aB) (σ:=σ) (F1:=F1) (L1:=L1) (S1:=S2) (ds1:=ds1) (ds2:=ds2) (show X.A.in1.in1.in1.handled=qz from I.ok.hd hc) Z (xAk a1) (xAk (yFr a2)) sq1 dl1 sq2 dl2 nS bX (λ s' H' F' vs' hw=>hR2 s' ?_) _ 0 _ (bE H1 h'.objs.size (.lst [])) F1 [] rfl (yEy _)
   ⟨I3,bZ.refl _,R1.lay fr,R1.sub.free fr,cX,.nil,fpk⟩ ⟨hk2 _ _ cU,hi1.at λ o e=>hk2 _ _ e,hi2.at λ o e=>hk2 _ _ e,⟨_,hk2 _ _ dO⟩,.inl ⟨hk2 _ _ hz,_,_,hk2 _ _ dO⟩⟩
  exact⟨.ref h'.objs.size,H',hw.inv,rfl,q F' L1 H' _ vs' (g1.trans ⟨hw.same,[],by simp⟩) hw.rel hw.free nS hw.lst hw.den⟩
 ·cases e
end
section
variable {prog : qu}{w : zx}{A : zv}{E : qx -> qj -> Prop}{s : qj}
end
section
variable {X : Cx}{tg : qw}
end
section
variable {X : Cx}
noncomputable def aKb(K:FrG):V->List V->Hp->VK->Prop:=λ x vs H Q=>(∃ (a:qv) (ns:List Int) (k:Int),x=.ref a/\vs=[.int k]/\bL K H a (ns.map V.int)/\k∈ns/\Q (.int (ns.idxOf k:Nat)) H)\/(∃ (a:qv) (bs:List Bool) (k:Bool),x=.ref a/\vs=[.bl k]/\bL K H a (bs.map V.bl)/\k∈bs/\Q (.int (bs.idxOf k:Nat)) H)
noncomputable def aDV(k:Bool):qx->Bool
 | .bool b=>b==k
 | _=>false
theorem aU8{bs:List Bool}:∀ {us:List qx},aT (bs.map V.bl) us->us=bs.map Value.bool:=by
 induction bs with
 | nil=>intro us r;rw[yDz] at r;cases r;rfl
 | cons b bs ih =>
   intro us r;rw[yAs] at r;cases r with
   | cons r1 r2 =>
     cases r1;rw[ih r2];rfl
theorem aV3(aB:List (qv×Obj))(s:qj)(σ:L2.St)(H:Hp)(v:qx)(us:List qx)(Q:VK)(I:Inv X aB σ H s)(a:qv)(bs:List Bool)(k:Bool)(rx:bB (.ref a) v)(rv:aT [.bl k] us)(sq:bL X.K H a (bs.map V.bl))(hk:k∈bs)(q:Q (.int (bs.idxOf k:Nat)) H):qk (model X.prog X.w) X.A (call (.builtin "list.index") (v::us)) (EP X aB σ Q) X.xe s:=by
 cases rx;obtain⟨u,rfl,ru⟩:=rv.one;cases ru;obtain⟨aG,r,pl,hz⟩:=I.list sq;obtain rfl:=aU8 r;obtain⟨⟨cls,dd,data,sl⟩,ho,hc,n,hd⟩:=pl.isList;simp only at hc hd;subst hc hd;have hn:=lX;have hj:bs.idxOf k<bs.length:=List.idxOf_lt_length_iff.mpr hk;rw[yAd] at hz;refine vz yFj ⟨_,ho,rfl⟩ PySem.F.entry_list_index (yGr _ _)
  (SeqAt.list_indexAt a (bs.map Value.bool).toArray n dd sl (.bool k) (aDV k) (bs.idxOf k) (by simpa using hj) (by omega) ?_ ?_) ⟨ho,λ y hy=>?_,⟨.int (bs.idxOf k:Nat),H,I.tok _,⟨_,rfl⟩,q⟩⟩
 ·simp[aDV]
 ·intro j hjs hlt;have:=List.not_of_lt_findIdx (p:=(· == k)) (xs:=bs) hlt;simp only[List.getElem_toArray,yEv,aDV];simpa using this
 ·have hy':y∈bs.map Value.bool:=by simpa using hy
  obtain⟨b,_,rfl⟩:=List.mem_map.mp hy';exact SeqAt.EqAt.bool_bool b k
theorem aOA:MtM X "list.index" (aKb X.K):=by
 intro aB s σ H x vs v us Q I rx rv h;rcases h with h | ⟨a,bs,k,rfl,rfl,sq,hk,q⟩
 case inr=>exact aV3 aB s σ H v us Q I a bs k rx rv sq hk q
 obtain⟨a,ns,k,rfl,rfl,sq,hk,q⟩:=h;cases rx;obtain⟨u,rfl,ru⟩:=rv.one;obtain⟨t,rfl⟩:=ru;obtain⟨aG,r,pl,hz⟩:=I.list sq;have hi:=aMt r;obtain⟨⟨cls,dd,data,sl⟩,ho,hc,n,hd⟩:=pl.isList;simp only at hc hd;subst hc hd;have bX:=hi.length;have hn:=lX;have hj:ns.idxOf k<ns.length:=List.idxOf_lt_length_iff.mpr hk;rw[yAd] at hz;refine vz yFj ⟨_,ho,rfl⟩ PySem.F.entry_list_index (yGr _ _)
  (SeqAt.list_indexAt a aG.toArray n dd sl (.int k t) (isInt k) (ns.idxOf k) (by simpa [bX] using hj) (by omega) ?_ ?_) ⟨ho,λ y hy=>(eq_isInt k t hi y (by simpa using hy)).at _ _,⟨.int (ns.idxOf k:Nat),H,I.tok _,⟨_,rfl⟩,q⟩⟩
 ·show isInt k aG[ns.idxOf k]=true;rw[isInt_at k hi _ (by omega) hj]
  simpa using List.getElem_idxOf hj
 ·intro j hjs hlt;show isInt k aG[j]=false;rw[isInt_at k hi j (by simpa using hjs) (by omega)]
  exact ne_of_lt_idxOf hlt _
noncomputable def aA1(S:aE):W->W->Option (W×aE)
 | .d (.list xs),.d (.int k)=>(pL xs).bind λ ns=>if k∈ns then qq (.d (.int ((ns.idxOf k:Nat):Int)),S) else qz
 | .d (.list xs),.d (.bool k)=>(lU xs).bind λ ns=>if k∈ns then qq (.d (.int ((ns.idxOf k:Nat):Int)),S) else qz
 | _,_=>qz
theorem aMD{S S':aE}{o x w:W}(h:aA1 S o x=qq (w,S')):(∃ xs k ns,o=.d (.list xs)/\x=.d (.int k)/\pL xs=qq ns/\k∈ns/\w=.d (.int ((ns.idxOf k:Nat):Int))/\S'=S)\/(∃ xs k ns,o=.d (.list xs)/\x=.d (.bool k)/\lU xs=qq ns/\k∈ns/\w=.d (.int ((ns.idxOf k:Nat):Int))/\S'=S):=by
 unfold aA1 at h
 split at h
 case h_2 =>
  rename_i xs k;obtain⟨ns,e1,e⟩:=bind_some h
  by_cases c:k∈ns
  ·rw[if_pos c] at e;cases e;exact .inr ⟨xs,k,ns,rfl,rfl,e1,c,rfl,rfl⟩
  ·rw[if_neg c] at e;cases e
 ·rename_i xs k;obtain⟨ns,e1,e⟩:=bind_some h
  by_cases c:k∈ns
  ·rw[if_pos c] at e;cases e;exact .inl ⟨xs,k,ns,rfl,rfl,e1,c,rfl,rfl⟩
  ·rw[if_neg c] at e;cases e
 ·cases h
noncomputable def aAZ(fo fe:FE):FE:=f2 fo fe aA1
theorem aUp{K:FrG}{fo fe:FE}(σ:L2.St)(H:Hp)(Q:VK)(h:aP K (aAZ fo fe) σ H Q):tBM K "list" (aKb K) (aP K fo) (fF K (cS fe gQ)) σ H Q:=by
 obtain⟨F,L,S,env,w,S',R,E,e,q⟩:=h;obtain⟨⟨wo,S1⟩,e1,e⟩:=bind_some e;obtain⟨⟨we,S2⟩,e2,e⟩:=bind_some e;rcases aMD e with ⟨xs,k,ns,rfl,rfl,e5,hk,rfl,rfl⟩ | ⟨xs,k,ns,rfl,rfl,e5,hk,rfl,rfl⟩
 case inr =>
  refine⟨F,L,S,env,_,S1,R,E,e1,λ F1 L1 H1 o g1 R1 d1=>?_⟩
  cases (show Den K F1 (.list xs) o from d1) with
  | lst sq dl =>
    obtain rfl:=xY dl e5;refine⟨.inl ⟨rfl,_,R1.sub.seq sq⟩,F1,L1,S1,env,[.d (.bool k)],S',R1,E.mono g1,?_,λ F2 L2 H2 vs g2 R2 d2=>?_⟩
    ·unfold cS;rw[e2];rfl
    ·cases d2 with
     | cons dd dr =>
       cases dr;cases (show Den K F2 (.bool k) _ from dd)
       exact .inr ⟨_,ns,k,rfl,rfl,R2.sub.seq (g2.f.seq sq),hk,q F2 L2 H2 _ (g1.trans g2) R2 (.int _)⟩
 refine⟨F,L,S,env,_,S1,R,E,e1,λ F1 L1 H1 o g1 R1 d1=>?_⟩
 cases (show Den K F1 (.list xs) o from d1) with
 | lst sq dl =>
   obtain rfl:=tK dl e5;refine⟨.inl ⟨rfl,_,R1.sub.seq sq⟩,F1,L1,S1,env,[.d (.int k)],S',R1,E.mono g1,?_,λ F2 L2 H2 vs g2 R2 d2=>?_⟩
   ·unfold cS;rw[e2];rfl
   ·cases d2 with
    | cons dd dr =>
      cases dr;cases (show Den K F2 (.int k) _ from dd)
      exact .inl ⟨_,ns,k,rfl,rfl,R2.sub.seq (g2.f.seq sq),hk,q F2 L2 H2 _ (g1.trans g2) R2 (.int _)⟩
end
noncomputable def lJ(fa:FE)(fl fh:FO):FE:=λ env S=>(fa env S).bind λ p=>(fl env p.2).bind λ q=>(fh env q.2).bind λ r=>(dr r.2 p.1).bind λ d=>match d with
 | .list xs=>qq (.d (.list (eC xs q.1 r.1)),r.2)
 | .tuple xs=>qq (.d (.tuple (eC xs q.1 r.1)),r.2)
 | _=>qz
noncomputable def fV(fa:FE):FL:=λ env S=>(fa env S).bind λ p=>match p.1 with
 | .d (.list ds)=>qq (ds,p.2)
 | .d (.tuple ds)=>qq (ds,p.2)
 | _=>qz
section
variable {X : Cx}{pos : Pos}
theorem aWd{a:qw}{lo hi:Option qw}{p2:Pos}{fa:FE}{fl fh:FO}(ha:PE X a (aP X.K fa))(hl:PO X lo (lE X.K fl))(hh:PO X hi (lE X.K fh)):PE X (.Subscript a (.Slice lo hi qz p2) pos) (aP X.K (lJ fa fl fh)):=by
 rintro aB s σ H Q I ⟨F,L,S,env,w,S',R,E,e,q⟩;obtain⟨⟨w1,S1⟩,e1,e⟩:=bind_some e;obtain⟨⟨l,S2⟩,e2,e⟩:=bind_some e;obtain⟨⟨h,S3⟩,e3,e⟩:=bind_some e;obtain⟨d,e4,e⟩:=bind_some e;dsimp only at e e2 e3 e4;cases d with
 | list xs =>
   cases e;refine aKk (aUr ha hl hh) aB s σ H Q I ⟨F,L,S,env,_,_,R,E,?_,q⟩;unfold iD aKn;rw[e1];dsimp only[yCr];rw[e2];dsimp only;rw[e3];dsimp only;rw[e4];rfl
 | tuple xs =>
   cases e;refine aR8 ha hl hh aB s σ H Q I ⟨F,L,S,env,_,_,R,E,?_,q⟩;unfold aJW;rw[e1];dsimp only[yCr];rw[e2];dsimp only;rw[e3];dsimp only;rw[e4];dsimp only[aKv]
 | _=>cases e
theorem aVX{tg a:qw}{fa:FE}(ha:PE X a (aP X.K fa)):PI X tg a (iV X.K (fV fa)):=by
 rintro aB s σ H Rr I ⟨F,L,S,env,ds,S',R,E,e,q⟩;obtain⟨⟨w1,S1⟩,e1,e⟩:=bind_some e;dsimp only at e
 split at e
 ·rename_i ds';cases e;refine aUh ha aB s σ H Rr I ⟨F,L,S,env,_,_,R,E,?_,q⟩;unfold aKq;rw[e1];rfl
 ·cases e;refine aTJ ha aB s σ H Rr I ⟨F,L,S,env,_,_,R,E,?_,q⟩;unfold aKl;rw[e1];rfl
 ·cases e
end
inductive Ty where
 | int | bool | str | lst | tup
 deriving DecidableEq
noncomputable def Ty.s:Ty->String
 | .int => "int" | .bool => "bool" | .str => "str" | .lst => "list" | .tup => "tuple"
noncomputable def Ty.n:Ty->Str
 | .int => "int" | .bool => "bool" | .str => "str" | .lst => "list" | .tup => "tuple"
noncomputable def iQ:Ty->D->Option D
 | _,.dict _=>qz
 | .int,.int _=>qq (.bool true)
 | .int,.bool _=>qq (.bool true)
 | .bool,.bool _=>qq (.bool true)
 | .str,.str _=>qq (.bool true)
 | .lst,.list _=>qq (.bool true)
 | .tup,.tuple _=>qq (.bool true)
 | _,_=>qq (.bool false)
theorem aUf{i:Int}:iQ .int (.int i)=qq (.bool true):=rfl
theorem aVa{i:Int}:iQ .bool (.int i)=qq (.bool false):=rfl
theorem aVT{xs:List D}:iQ .tup (.tuple xs)=qq (.bool true):=rfl
theorem aTx{b:Bool}:iQ .bool (.bool b)=qq (.bool true):=rfl
theorem aTC{b:Bool}:iQ .int (.bool b)=qq (.bool true):=rfl
theorem aSa(K:FrG){ty:Ty}{d z:D}(h:iQ ty d=qq z):vP K ty.s d=qq z:=by
 cases ty<;>cases d<;>first | (cases h;done) | (cases h;rfl)
inductive B where
 | len | mx | mn | int | abs | tup | sum | all | any
 deriving DecidableEq
noncomputable def B.g:B->List D->Option D
 | .len=>fO | .mx=>pZ | .mn=>pU | .int=>vV | .abs=>aDC | .tup=>uS | .sum=>aDT | .all=>wJ | .any=>vY
noncomputable def B.n:B->Str
 | .len => "len" | .mx => "max" | .mn => "min" | .int => "int" | .abs => "abs" | .tup => "tuple" | .sum => "sum" | .all => "all" | .any => "any"
inductive E where
 | var (i:Nat) | int (i:Int) | bl (b:Bool) | non | str (x:Str)
 | bin (op:ju) (a b:E) | un (op:yx) (a:E) | cmp (op:jq) (a b:E) | ltl (a b:E)
 | and (a b:E) | or (a b:E) | not (a:E) | ite (c a b:E)
 | tup (es:E) | lst (es:E) | nil | cons (a r:E)
 | chn (op op':jq) (a b c:E) | con (x:Str) (ts:List Tv)
 | ix (a b:E) | dsp (k l m:Str) (a b c i:E) | tab (x:Str) (bA:List (Str×Tv)) (k:E) | slL (a lo hi:E) | sl (a lo hi:E) | no
 | call (f:Nat) (es:E) | blt (b:B) (es:E) | isi (a:E) (n:Ty) | bits (a:E) | app (o a:E) | pop (o a:E) | idx (o a:E)
 | lof (a:E) | lzip (a b:E) | lrg1 (a:E) | lrg2 (a b:E) | srt (a:E) | lrev (a:E) | lrep (a b:E) | comp (elt:E) (t:Tg) (it:E) (cond:E)
 | it (a:E) | rng1 (a:E) | rng2 (a b:E) | rng3 (a b c:E) | rrng (a:E) | enm (a:E) | zip (a b:E) | zip3 (a b c:E)
 | fz (a:E) | new (a:E)
abbrev Calls:=Nat->Option (Nat×(List W->aE->Option (W×aE)))
noncomputable def kT(C:Calls)(f:Nat)(fs:FA):FE:=λ env S=>match C f with
 | some (np,call)=>aAC fs np call env S
 | none=>qz
section
variable (C : Calls)
mutual
noncomputable def ev:E->FE
 | .var i=>iS i
 | .int i=>fC (.int i)
 | .bl b=>fC (.bool b)
 | .non=>fC .none
 | .str x=>fC (.str x)
 | .bin op a b=>qA op (ev a) (ev b)
 | .un op a=>wX op (ev a)
 | .cmp op a b=>mQ op (ev a) (ev b)
 | .and a b=>vI (ev a) (ev b)
 | .or a b=>wG (ev a) (ev b)
 | .not a=>uW (ev a)
 | .ite c a b=>vQ (tv c) (ev a) (ev b)
 | .tup es=>vS (av es)
 | .ix a b=>oP (ev a) (ev b)
 | .tab _ bA k=>f1 (ev k) (fU (aA3 bA))
 | .chn op op' a b c=>mB op op' (ev a) (ev b) (ev c)
 | .con _ ts=>fC (.tuple (ts.map Tv.d))
 | .sl a lo hi=>lJ (ev a) (ov lo) (ov hi)
 | .call f es=>kT C f (av es)
 | .blt b es=>pW (av es) b.g
 | .isi a n=>f1 (ev a) (fU (iQ n))
 | .bits a=>aDm (ev a)
 | .app o a=>iA (ev o) (ev a)
 | .idx o a=>aAZ (ev o) (ev a)
 | .fz a=>iD (lv a)
 | .new a=>eY (lv a)
 | _=>λ _ _=>qz
noncomputable def tv:E->FT
 | .and a b=>vR (tv a) (tv b)
 | .or a b=>xF (tv a) (tv b)
 | .not a=>wH (tv a)
 | .var i=>cT (iS i)
 | .cmp op a b=>cT (mQ op (ev a) (ev b))
 | .chn op op' a b c=>cT (mB op op' (ev a) (ev b) (ev c))
 | .ix a b=>cT (oP (ev a) (ev b))
 | .call f es=>cT (kT C f (av es))
 | .blt b es=>cT (pW (av es) b.g)
 | .isi a n=>cT (f1 (ev a) (fU (iQ n)))
 | .bin op a b=>cT (qA op (ev a) (ev b))
 | .bl b=>cT (fC (.bool b))
 | .no=>oK
 | _=>λ _ _=>qz
noncomputable def av:E->FA
 | .nil=>gQ
 | .cons a r=>cS (ev a) (av r)
 | _=>λ _ _=>qz
noncomputable def ov:E->FO
 | .no=>qG
 | .cons a .nil=>lC (ev a)
 | _=>λ _ _=>qz
noncomputable def lv:E->FL
 | .lst es=>wC (av es)
 | .lof a=>aAS (ev a)
 | .lzip a b=>rT (ev a) (ev b)
 | .lrep a b=>wL (ev a) (ev b)
 | .comp elt t it cond=>hU t (lv it) (tv cond) (ev elt)
 | .it a=>fV (ev a)
 | .rng1 a=>vF (ev a)
 | .rng2 a b=>vC (ev a) (ev b)
 | .rng3 a b c=>aAL (ev a) (ev b) (ev c)
 | .enm a=>uL (ev a)
 | .zip a b=>qB (ev a) (ev b)
 | _=>λ _ _=>qz
end
inductive Sx where
 | skip | seq (a b:Sx) | expr (e:E) | ret (e:E)
 | ifs (c:E) (a b:Sx) | set (i:Nat) (e:E) | setC (nw:Bool) (i:Nat) (e:E) | setT (t:Tg) (e:E) | put (o i e:E)
 | wh (n:Nat) (c:E) (b:Sx) | loop (t:Tg) (it:E) (b:Sx)
noncomputable def xs:Sx->FS
 | .skip=>sA
 | .seq a b=>dL (xs a) (xs b)
 | .expr e=>vG (ev C e)
 | .ret e=>oJ (ev C e)
 | .ifs c a b=>mX (tv C c) (xs a) (xs b)
 | .set i e=>fM i (ev C e)
 | .setC nw i e=>fM i (match nw with | true=>eY (lv C e) | false=>iD (lv C e))
 | .setT t e=>aAH t (ev C e)
 | .put o i e=>jE (ev C o) (ev C i) (ev C e)
 | .wh n c b=>jI (tv C c) (xs b) n
 | .loop t it b=>dQ t (lv C it) (xs b)
theorem aAl{i}:ev C (.var i)=iS i:=rfl
theorem aQV{i}:ev C (.int i)=fC (.int i):=rfl
theorem aVd{b}:ev C (.bl b)=fC (.bool b):=rfl
theorem aQP:ev C .non=fC .none:=rfl
theorem aRk{x}:ev C (.str x)=fC (.str x):=rfl
theorem aH3{op a b}:ev C (.bin op a b)=qA op (ev C a) (ev C b):=rfl
theorem aJS{op a}:ev C (.un op a)=wX op (ev C a):=rfl
theorem aCZ{op a b}:ev C (.cmp op a b)=mQ op (ev C a) (ev C b):=rfl
theorem aH7{a b}:ev C (.and a b)=vI (ev C a) (ev C b):=rfl
theorem aJH{a b}:ev C (.or a b)=wG (ev C a) (ev C b):=rfl
theorem aIl{a}:ev C (.not a)=uW (ev C a):=rfl
theorem aIo{c a b}:ev C (.ite c a b)=vQ (tv C c) (ev C a) (ev C b):=rfl
theorem aIx{es}:ev C (.tup es)=vS (av C es):=rfl
theorem aDy{a b}:ev C (.ix a b)=oP (ev C a) (ev C b):=rfl
theorem aQ8{n0 bA k}:ev C (.tab n0 bA k)=f1 (ev C k) (fU (aA3 bA)):=rfl
theorem aQQ{op op' a b c}:ev C (.chn op op' a b c)=mB op op' (ev C a) (ev C b) (ev C c):=rfl
theorem aQ7{n0 ts}:ev C (.con n0 ts)=fC (.tuple (ts.map Tv.d)):=rfl
theorem aDx{a lo hi}:ev C (.sl a lo hi)=lJ (ev C a) (ov C lo) (ov C hi):=rfl
theorem aCn{f es}:ev C (.call f es)=kT C f (av C es):=rfl
theorem aIr{b es}:ev C (.blt b es)=pW (av C es) b.g:=rfl
theorem aIH{a n}:ev C (.isi a n)=f1 (ev C a) (fU (iQ n)):=rfl
theorem aPJ{a}:ev C (.bits a)=aDm (ev C a):=rfl
theorem aIV{o a}:ev C (.app o a)=iA (ev C o) (ev C a):=rfl
theorem aSr{o a}:ev C (.idx o a)=aAZ (ev C o) (ev C a):=rfl
theorem aJZ{a}:ev C (.fz a)=iD (lv C a):=rfl
theorem uK{a}:ev C (.new a)=eY (lv C a):=rfl
theorem aIh{a b}:tv C (.and a b)=vR (tv C a) (tv C b):=rfl
theorem aJT{a b}:tv C (.or a b)=xF (tv C a) (tv C b):=rfl
theorem aIA{a}:tv C (.not a)=wH (tv C a):=rfl
theorem aRn{i}:tv C (.var i)=cT (iS i):=rfl
theorem aI1{op a b}:tv C (.cmp op a b)=cT (mQ op (ev C a) (ev C b)):=rfl
theorem aQJ{op op' a b c}:tv C (.chn op op' a b c)=cT (mB op op' (ev C a) (ev C b) (ev C c)):=rfl
theorem aUn{a b}:tv C (.ix a b)=cT (oP (ev C a) (ev C b)):=rfl
theorem aQr{f es}:tv C (.call f es)=cT (kT C f (av C es)):=rfl
theorem aQ4{b es}:tv C (.blt b es)=cT (pW (av C es) b.g):=rfl
theorem aSk{a n}:tv C (.isi a n)=cT (f1 (ev C a) (fU (iQ n))):=rfl
theorem aRx{op a b}:tv C (.bin op a b)=cT (qA op (ev C a) (ev C b)):=rfl
theorem aVr{b}:tv C (.bl b)=cT (fC (.bool b)):=rfl
theorem aVR:tv C .no=oK:=rfl
theorem aI0:av C .nil=gQ:=rfl
theorem aCt{a r}:av C (.cons a r)=cS (ev C a) (av C r):=rfl
theorem aVK:ov C .no=qG:=rfl
theorem aHv{a}:ov C (.cons a .nil)=lC (ev C a):=rfl
theorem aI7{es}:lv C (.lst es)=wC (av C es):=rfl
theorem aSz{a}:lv C (.lof a)=aAS (ev C a):=rfl
theorem aQk{a b}:lv C (.lzip a b)=rT (ev C a) (ev C b):=rfl
theorem nL{a b c}:lv C (.rng3 a b c)=aAL (ev C a) (ev C b) (ev C c):=rfl
theorem aAc{a b}:lv C (.lrep a b)=wL (ev C a) (ev C b):=rfl
theorem aQf{elt t it cond}:lv C (.comp elt t it cond)=hU t (lv C it) (tv C cond) (ev C elt):=rfl
theorem oE{a}:lv C (.it a)=fV (ev C a):=rfl
theorem lV{a}:lv C (.rng1 a)=vF (ev C a):=rfl
theorem nK{a b}:lv C (.rng2 a b)=vC (ev C a) (ev C b):=rfl
theorem nU{a}:lv C (.enm a)=uL (ev C a):=rfl
theorem nR{a b}:lv C (.zip a b)=qB (ev C a) (ev C b):=rfl
theorem aHS:xs C .skip=sA:=rfl
theorem jQ{a b}:xs C (.seq a b)=dL (xs C a) (xs C b):=rfl
theorem aHR{e}:xs C (.expr e)=vG (ev C e):=rfl
theorem aC7{e}:xs C (.ret e)=oJ (ev C e):=rfl
theorem rL{c a b}:xs C (.ifs c a b)=mX (tv C c) (xs C a) (xs C b):=rfl
theorem rH{i e}:xs C (.set i e)=fM i (ev C e):=rfl
theorem uE{nw i e}:xs C (.setC nw i e)=fM i (match nw with | true=>eY (lv C e) | false=>iD (lv C e)):=rfl
theorem aOQ{t e}:xs C (.setT t e)=aAH t (ev C e):=rfl
theorem aIY{o i e}:xs C (.put o i e)=jE (ev C o) (ev C i) (ev C e):=rfl
theorem aUN{n c b}:xs C (.wh n c b)=jI (tv C c) (xs C b) n:=rfl
theorem aPq{t it b}:xs C (.loop t it b)=dQ t (lv C it) (xs C b):=rfl
end
theorem no{P:Prop}(h:false=true):P:=by cases h
theorem gR{a b:Bool}(h:(a&&b)=true):a=true/\b=true:=by
 cases a with
 | false=>exact no h
 | true=>exact⟨rfl,h⟩
theorem aL{a b:Bool}(h:(a&&b)=true):a=true:=(gR h).1
theorem aR{a b:Bool}(h:(a&&b)=true):b=true:=(gR h).2
theorem eO{c:Prop}{d:Decidable c}{f:c->Bool}(h:(@dite _ c d f λ _=>false)=true):c:=by
 cases d with
 | isTrue k=>exact k
 | isFalse _=>exact no h
noncomputable def iW(k:Str->Pos->Bool)(x:qw):Bool:=if h:x.ctorIdx=23 then @Expr.Name.elim (λ _=>Bool) x h k else false
theorem mP{P:qw->Prop}{k:Str->Pos->Bool}{x:qw}(h:iW k x=true)(g:∀ a b,k a b=true->P (.Name a b)):P x:=@Expr.Name.elim (λ e=>iW k e=true->P e) x (eO h) g h
noncomputable def kCo(k:Const->Nat->Pos->Bool)(x:qw):Bool:=if h:x.ctorIdx=19 then @Expr.Constant.elim (λ _=>Bool) x h k else false
theorem aWf{P:qw->Prop}{k:Const->Nat->Pos->Bool}{x:qw}(h:kCo k x=true)(g:∀ a b c,k a b c=true->P (.Constant a b c)):P x:=@Expr.Constant.elim (λ e=>kCo k e=true->P e) x (eO h) g h
noncomputable def wZ(k:qw->ju->qw->Pos->Bool)(x:qw):Bool:=if h:x.ctorIdx=2 then @Expr.BinOp.elim (λ _=>Bool) x h k else false
theorem aKO{P:qw->Prop}{k:qw->ju->qw->Pos->Bool}{x:qw}(h:wZ k x=true)(g:∀ a b c d,k a b c d=true->P (.BinOp a b c d)):P x:=@Expr.BinOp.elim (λ e=>wZ k e=true->P e) x (eO h) g h
noncomputable def xA(k:yx->qw->Pos->Bool)(x:qw):Bool:=if h:x.ctorIdx=3 then @Expr.UnaryOp.elim (λ _=>Bool) x h k else false
theorem aDY{P:qw->Prop}{k:yx->qw->Pos->Bool}{x:qw}(h:xA k x=true)(g:∀ a b c,k a b c=true->P (.UnaryOp a b c)):P x:=@Expr.UnaryOp.elim (λ e=>xA k e=true->P e) x (eO h) g h
noncomputable def kCm(k:qw->List jq->List qw->Pos->Bool)(x:qw):Bool:=if h:x.ctorIdx=15 then @Expr.Compare.elim (λ _=>Bool) x h k else false
theorem aKj{P:qw->Prop}{k:qw->List jq->List qw->Pos->Bool}{x:qw}(h:kCm k x=true)(g:∀ a b c d,k a b c d=true->P (.Compare a b c d)):P x:=@Expr.Compare.elim (λ e=>kCm k e=true->P e) x (eO h) g h
noncomputable def kBo(k:BoolOp->List qw->Pos->Bool)(x:qw):Bool:=if h:x.ctorIdx=0 then @Expr.BoolOp.elim (λ _=>Bool) x h k else false
theorem aWe{P:qw->Prop}{k:BoolOp->List qw->Pos->Bool}{x:qw}(h:kBo k x=true)(g:∀ a b c,k a b c=true->P (.BoolOp a b c)):P x:=@Expr.BoolOp.elim (λ e=>kBo k e=true->P e) x (eO h) g h
noncomputable def kIe(k:qw->qw->qw->Pos->Bool)(x:qw):Bool:=if h:x.ctorIdx=5 then @Expr.IfExp.elim (λ _=>Bool) x h k else false
theorem aWi{P:qw->Prop}{k:qw->qw->qw->Pos->Bool}{x:qw}(h:kIe k x=true)(g:∀ a b c d,k a b c d=true->P (.IfExp a b c d)):P x:=@Expr.IfExp.elim (λ e=>kIe k e=true->P e) x (eO h) g h
noncomputable def xJ(k:List qw->Nat->Pos->Bool)(x:qw):Bool:=if h:x.ctorIdx=25 then @Expr.Tuple.elim (λ _=>Bool) x h k else false
theorem wI{P:qw->Prop}{k:List qw->Nat->Pos->Bool}{x:qw}(h:xJ k x=true)(g:∀ a b c,k a b c=true->P (.Tuple a b c)):P x:=@Expr.Tuple.elim (λ e=>xJ k e=true->P e) x (eO h) g h
noncomputable def kLi(k:List qw->Pos->Bool)(x:qw):Bool:=if h:x.ctorIdx=24 then @Expr.List.elim (λ _=>Bool) x h k else false
theorem aVZ{P:qw->Prop}{k:List qw->Pos->Bool}{x:qw}(h:kLi k x=true)(g:∀ a b,k a b=true->P (.List a b)):P x:=@Expr.List.elim (λ e=>kLi k e=true->P e) x (eO h) g h
noncomputable def kSu(k:qw->qw->Pos->Bool)(x:qw):Bool:=if h:x.ctorIdx=21 then @Expr.Subscript.elim (λ _=>Bool) x h k else false
theorem aKu{P:qw->Prop}{k:qw->qw->Pos->Bool}{x:qw}(h:kSu k x=true)(g:∀ a b c,k a b c=true->P (.Subscript a b c)):P x:=@Expr.Subscript.elim (λ e=>kSu k e=true->P e) x (eO h) g h
noncomputable def kSl(k:Option qw->Option qw->Option qw->Pos->Bool)(x:qw):Bool:=if h:x.ctorIdx=26 then @Expr.Slice.elim (λ _=>Bool) x h k else false
theorem aVV{P:qw->Prop}{k:Option qw->Option qw->Option qw->Pos->Bool}{x:qw}(h:kSl k x=true)(g:∀ a b c d,k a b c d=true->P (.Slice a b c d)):P x:=@Expr.Slice.elim (λ e=>kSl k e=true->P e) x (eO h) g h
noncomputable def kCa(k:qw->List qw->List Keyword->Pos->Bool)(x:qw):Bool:=if h:x.ctorIdx=16 then @Expr.Call.elim (λ _=>Bool) x h k else false
theorem aJ3{P:qw->Prop}{k:qw->List qw->List Keyword->Pos->Bool}{x:qw}(h:kCa k x=true)(g:∀ a b c d,k a b c d=true->P (.Call a b c d)):P x:=@Expr.Call.elim (λ e=>kCa k e=true->P e) x (eO h) g h
noncomputable def kAt(k:qw->Str->Pos->Bool)(x:qw):Bool:=if h:x.ctorIdx=20 then @Expr.Attribute.elim (λ _=>Bool) x h k else false
theorem aWa{P:qw->Prop}{k:qw->Str->Pos->Bool}{x:qw}(h:kAt k x=true)(g:∀ a b c,k a b c=true->P (.Attribute a b c)):P x:=@Expr.Attribute.elim (λ e=>kAt k e=true->P e) x (eO h) g h
noncomputable def kLc(k:qw->List Comprehension->zw->Pos->Bool)(x:qw):Bool:=if h:x.ctorIdx=8 then @Expr.ListComp.elim (λ _=>Bool) x h k else false
theorem aW1{P:qw->Prop}{k:qw->List Comprehension->zw->Pos->Bool}{x:qw}(h:kLc k x=true)(g:∀ a b c d,k a b c d=true->P (.ListComp a b c d)):P x:=@Expr.ListComp.elim (λ e=>kLc k e=true->P e) x (eO h) g h
noncomputable def kEx(k:qw->Pos->Bool)(x:xk):Bool:=if h:x.ctorIdx=24 then @Stmt.Expr.elim (λ _=>Bool) x h k else false
theorem aWW{P:xk->Prop}{k:qw->Pos->Bool}{x:xk}(h:kEx k x=true)(g:∀ a b,k a b=true->P (.Expr a b)):P x:=@Stmt.Expr.elim (λ e=>kEx k e=true->P e) x (eO h) g h
noncomputable def kRe(k:Option qw->Pos->Bool)(x:xk):Bool:=if h:x.ctorIdx=3 then @Stmt.Return.elim (λ _=>Bool) x h k else false
theorem aWm{P:xk->Prop}{k:Option qw->Pos->Bool}{x:xk}(h:kRe k x=true)(g:∀ a b,k a b=true->P (.Return a b)):P x:=@Stmt.Return.elim (λ e=>kRe k e=true->P e) x (eO h) g h
noncomputable def kSf(k:qw->List xk->List xk->Pos->Bool)(x:xk):Bool:=if h:x.ctorIdx=12 then @Stmt.If.elim (λ _=>Bool) x h k else false
theorem aWq{P:xk->Prop}{k:qw->List xk->List xk->Pos->Bool}{x:xk}(h:kSf k x=true)(g:∀ a b c d,k a b c d=true->P (.If a b c d)):P x:=@Stmt.If.elim (λ e=>kSf k e=true->P e) x (eO h) g h
noncomputable def sV(k:List qw->qw->Pos->Bool)(x:xk):Bool:=if h:x.ctorIdx=5 then @Stmt.Assign.elim (λ _=>Bool) x h k else false
theorem aAV{P:xk->Prop}{k:List qw->qw->Pos->Bool}{x:xk}(h:sV k x=true)(g:∀ a b c,k a b c=true->P (.Assign a b c)):P x:=@Stmt.Assign.elim (λ e=>sV k e=true->P e) x (eO h) g h
noncomputable def kWh(k:qw->List xk->List xk->Pos->Bool)(x:xk):Bool:=if h:x.ctorIdx=11 then @Stmt.While.elim (λ _=>Bool) x h k else false
theorem aWC{P:xk->Prop}{k:qw->List xk->List xk->Pos->Bool}{x:xk}(h:kWh k x=true)(g:∀ a b c d,k a b c d=true->P (.While a b c d)):P x:=@Stmt.While.elim (λ e=>kWh k e=true->P e) x (eO h) g h
noncomputable def kFo(k:qw->qw->List xk->List xk->Pos->Bool)(x:xk):Bool:=if h:x.ctorIdx=9 then @Stmt.For.elim (λ _=>Bool) x h k else false
theorem aV4{P:xk->Prop}{k:qw->qw->List xk->List xk->Pos->Bool}{x:xk}(h:kFo k x=true)(g:∀ a b c d e,k a b c d e=true->P (.For a b c d e)):P x:=@Stmt.For.elim (λ e=>kFo k e=true->P e) x (eO h) g h
noncomputable def jY{α:Type}(k:α->Bool)(l:List α):Bool:=match l with
 | [a]=>k a
 | _=>false
theorem lD{α:Type}{P:List α->Prop}{k:α->Bool}:∀ {l:List α},jY k l=true->(∀ a,k a=true->P [a])->P l
 | [],h,_=>no h
 | [a],h,g=>g a h
 | _::_::_,h,_=>no h
noncomputable def wF{α:Type}(k:α->α->Bool)(l:List α):Bool:=match l with
 | a::r=>jY (k a) r
 | []=>false
theorem aAA{α:Type}{P:List α->Prop}{k:α->α->Bool}:∀ {l:List α},wF k l=true->(∀ a b,k a b=true->P [a,b])->P l
 | [],h,_=>no h
 | a::_,h,g=>lD (P:=λ r=>P (a::r)) h (g a)
noncomputable def aKF{α:Type}(k:α->α->α->Bool)(l:List α):Bool:=match l with
 | a::r=>wF (k a) r
 | []=>false
theorem aVs{α:Type}{P:List α->Prop}{k:α->α->α->Bool}:∀ {l:List α},aKF k l=true->(∀ a b c,k a b c=true->P [a,b,c])->P l
 | [],h,_=>no h
 | a::_,h,g=>aAA (P:=λ r=>P (a::r)) h (g a)
theorem mG{α:Type}{P:List α->Prop}:∀ {l:List α},l.isEmpty=true->P []->P l
 | [],_,g=>g
 | _::_,h,_=>no h
noncomputable def aDL{α:Type}(o:Option α):Bool:=match o with
 | none=>true
 | some _=>false
theorem aJi{α:Type}{P:Option α->Prop}:∀ {o:Option α},aDL o=true->P qz->P o
 | none,_,g=>g
 | some _,h,_=>no h
theorem aJb{α:Type}{P:Option α->Prop}{k:α->Bool}:∀ {o:Option α},o.any k=true->(∀ a,k a=true->P (qq a))->P o
 | none,h,_=>no h
 | some a,h,g=>g a h
theorem dT{p:Prop}{d:Decidable p}(h:decide p=true):p:=oqT h
noncomputable def qI(sc:zw)(x:Str):Bool:=match sc.names.lookup x with
 | some .local=>true | some .cell=>true | some .free=>true | _=>false
noncomputable def loc(sc:zw)(x:Str):Bool:=match sc.names.lookup x with
 | some .local=>true | some .cell=>true | _=>false
noncomputable def aJl(e:E):Bool:=decide (e.ctorIdx=E.nil.ctorIdx)
theorem aWH{P:E->Prop}{e:E}(h:aJl e=true)(g:P .nil):P e:=@E.nil.elim P e (dT h) g
noncomputable def lo(sc:zw)(x:Str):Bool:=decide (sc.names.lookup x=qq .local)
noncomputable def gl(sc:zw)(x:Str):Bool:=decide (sc.names.lookup x=qq .globalImplicit)
noncomputable def cO(e:qw):Bool:=![7,22,26].contains e.ctorIdx
noncomputable def lF(e:qw):Bool:=![0,3,5,15].contains e.ctorIdx
noncomputable def aAi(e:qw):Bool:=![16].contains e.ctorIdx
noncomputable def rK(e:qw):Bool:=![8,9,10].contains e.ctorIdx
noncomputable def uX(e:qw):Bool:=xJ (λ _ _ _=>true) e
noncomputable def qY:List qw->Bool
 | []=>true
 | e::r=>cO e&&qY r
noncomputable def pX(scope osc:zw):zw:={scope with names:=scope.names.map λ(n,k)=>if (k==.free&&osc.kind==.function&&osc.names.lookup n==qq .cell) then (n,.cell) else (n,k) }
noncomputable def aDs(scope osc:zw):Bool:=decide (scope.kind=.function)&&scope.names.all λ x=>(!decide (x.2=.cell))&&(!decide (x.2=.free)||decide (osc.names.lookup x.1=qq .cell)||decide (osc.names.lookup x.1=qq .free))&&(!decide (x.2=.local)||decide (scope.names.lookup x.1=qq .local))
noncomputable def aAU(N:List Str)(scope:zw)(is:List Nat):Nat->Bool
 | 0=>true
 | n+1=>aAU N scope is n&&(match N[n]? with
   | some x=>!decide (scope.names.lookup x=qq .local)||is.contains n
   | none=>true)
noncomputable def aCU(b:Bool)(N:List Str)(sc:zw)(i:Nat)(x:Str):Bool:=decide (N[i]? = qq x)&&(match b with
 | true=>decide (sc.names.lookup x=qq .local)
 | false=>loc sc x)
noncomputable def aCo(b:Bool)(N:List Str)(sc:zw):List Nat->List qw->Bool
 | [],es=>es.isEmpty
 | i::is,es=>(match es with
   | e::r=>iW (λ x _=>aCU b N sc i x&&aCo b N sc is r) e
   | []=>false)
noncomputable def wE(b:Bool)(N:List Str)(sc:zw)(t:Tg)(e:qw):Bool:=match t with
 | .one i=>iW (λ x _=>aCU b N sc i x) e
 | .many is=>xJ (λ es _ _=>aCo b N sc is es) e
noncomputable def aHB(e:E):Bool:=decide (e.ctorIdx=(E.comp .no (.one 0) .no .no).ctorIdx)
theorem aWT{P:E->Prop}{e:E}(h:aHB e=true)(g:∀ a t b c,P (.comp a t b c)):P e:=@E.comp.elim P e (dT h) g
noncomputable def aD1(e:E):Bool:=decide (e.ctorIdx=E.no.ctorIdx)
theorem aKp{P:E->Prop}{e:E}(h:aD1 e=true)(g:P .no):P e:=@E.no.elim P e (dT h) g
noncomputable def sO(c:Const)(e:qw):Bool:=kCo (λ d _ _=>decide (d=c)) e
theorem aAN{P:qw->Prop}{c:Const}{x:qw}(h:sO c x=true)(g:∀ k p,P (.Constant c k p)):P x:=
 aWf h λ _ k p z=>(dT z)▸g k p
noncomputable def aDR(k:qw->jq->qw->Bool)(e:qw):Bool:=kCm (λ x os ys _=>jY (λ o=>jY (λ y=>k x o y&&cO y) ys) os) e
theorem aJK{P:qw->Prop}{k:qw->jq->qw->Bool}{x:qw}(h:aDR k x=true)(g:∀ a o b p,k a o b=true->cO b=true->P (.Compare a [o] [b] p)):P x:=
 aKj h λ a os _ p z=>lD (P:=λ os=>P (.Compare a os _ p)) z λ o z=>lD (P:=λ ys=>P (.Compare a [o] ys p)) z λ b z=>g a o b p (aL z) (aR z)
noncomputable def aDM(k:qw->jq->qw->jq->qw->Bool)(e:qw):Bool:=kCm (λ x os ys _=>wF (λ o o'=>wF (λ y z=>k x o y o' z&&cO z) ys) os) e
theorem aJs{P:qw->Prop}{k:qw->jq->qw->jq->qw->Bool}{x:qw}(h:aDM k x=true)(g:∀ a o b o' c p,k a o b o' c=true->cO c=true->P (.Compare a [o,o'] [b,c] p)):P x:=
 aKj h λ a os _ p z=>aAA (P:=λ os=>P (.Compare a os _ p)) z λ o o' z=>aAA (P:=λ ys=>P (.Compare a [o,o'] ys p)) z λ b c z=>g a o b o' c p (aL z) (aR z)
noncomputable def vJ(op:BoolOp)(k:qw->qw->Bool)(e:qw):Bool:=kBo (λ o es p=>decide (o=op)&&(match es with
 | [x,y]=>k x y
 | x::y::z::r=>k x (.BoolOp op (y::z::r) p)
 | _=>false)) e
theorem aAr{P:qw->Prop}{op:BoolOp}{k:qw->qw->Bool}{x:qw}(h:vJ op k x=true)(g:∀ a b p,k a b=true->P (.BoolOp op [a,b] p))(f:∀ a b c r p,k a (.BoolOp op (b::c::r) p)=true->P (.BoolOp op (a::b::c::r) p)):P x:=
 aWe h λ o es p z=>by
  obtain rfl:=dT (aL z)
  match es,aR z with
  | [a,b],z=>exact g a b p z
  | a::b::c::r,z=>exact f a b c r p z
  | [],z=>exact no z
  | [_],z=>exact no z
noncomputable def xE(k:qw->qw->Bool)(e:qw):Bool:=kSu (λ x y _=>k x y&&cO y) e
theorem aDQ{P:qw->Prop}{k:qw->qw->Bool}{x:qw}(h:xE k x=true)(g:∀ a b p,k a b=true->cO b=true->P (.Subscript a b p)):P x:=aKu h λ a b p z=>g a b p (aL z) (aR z)
noncomputable def aKo(k:qw->Option qw->Option qw->Bool)(e:qw):Bool:=kSu (λ x s _=>kSl (λ l h t _=>aDL t&&k x l h) s) e
theorem aTK{P:qw->Prop}{k:qw->Option qw->Option qw->Bool}{x:qw}(h:aKo k x=true)(g:∀ a l u p q,k a l u=true->P (.Subscript a (.Slice l u qz p) q)):P x:=
 aKu h λ a _ q z=>aVV (P:=λ s=>P (.Subscript a s q)) z λ l u _ p z=>aJi (P:=λ t=>P (.Subscript a (.Slice l u t p) q)) (aL z) (g a l u p q (aR z))
noncomputable def nZ(k:Str->List qw->Bool)(e:qw):Bool:=kCa (λ f xs ks _=>iW (λ n _=>ks.isEmpty&&k n xs) f) e
theorem uI{P:qw->Prop}{k:Str->List qw->Bool}{x:qw}(h:nZ k x=true)(g:∀ n p xs q,k n xs=true->P (.Call (.Name n p) xs [] q)):P x:=
 aJ3 h λ _ xs ks q z=>mP (P:=λ f=>P (.Call f xs ks q)) z λ n p z=>mG (P:=λ ks=>P (.Call (.Name n p) xs ks q)) (aL z) (g n p xs q (aR z))
noncomputable def xH(nm:Str)(sc:zw)(k:qw->Bool)(e:qw):Bool:=nZ (λ n xs=>decide (n=nm)&&gl sc n&&jY (λ y=>k y&&cO y) xs) e
theorem aAP{P:qw->Prop}{nm:Str}{sc:zw}{k:qw->Bool}{x:qw}(h:xH nm sc k x=true)(g:∀ p y q,gl sc nm=true->k y=true->cO y=true->P (.Call (.Name nm p) [y] [] q)):P x:=
 uI h λ n p xs q z=>by
  obtain rfl:=dT (aL (aL z));exact lD (P:=λ xs=>P (.Call (.Name n p) xs [] q)) (aR z) λ y u=>g p y q (aR (aL z)) (aL u) (aR u)
noncomputable def sS(nm:Str)(sc:zw)(k l:qw->Bool)(e:qw):Bool:=nZ (λ n xs=>decide (n=nm)&&gl sc n&&wF (λ y z=>(k y&&cO y)&&(l z&&cO z)) xs) e
theorem aAR{P:qw->Prop}{nm:Str}{sc:zw}{k l:qw->Bool}{x:qw}(h:sS nm sc k l x=true)(g:∀ p y z q,gl sc nm=true->k y=true->cO y=true->l z=true->cO z=true->P (.Call (.Name nm p) [y,z] [] q)):P x:=
 uI h λ n p xs q z=>by
  obtain rfl:=dT (aL (aL z));exact aAA (P:=λ xs=>P (.Call (.Name n p) xs [] q)) (aR z) λ y w u=>g p y w q (aR (aL z)) (aL (aL u)) (aR (aL u)) (aL (aR u)) (aR (aR u))
noncomputable def kB3(nm:Str)(sc:zw)(k l m:qw->Bool)(e:qw):Bool:=nZ (λ n xs=>decide (n=nm)&&gl sc n&&aKF (λ y z w=>(k y&&cO y)&&((l z&&cO z)&&(m w&&cO w))) xs) e
theorem aWs{P:qw->Prop}{nm:Str}{sc:zw}{k l m:qw->Bool}{x:qw}(h:kB3 nm sc k l m x=true)(g:∀ p y z w q,gl sc nm=true->k y=true->cO y=true->l z=true->cO z=true->m w=true->cO w=true->P (.Call (.Name nm p) [y,z,w] [] q)):P x:=
 uI h λ n p xs q z=>by
  obtain rfl:=dT (aL (aL z));exact aVs (P:=λ xs=>P (.Call (.Name n p) xs [] q)) (aR z) λ y w v u=>g p y w v q (aR (aL z)) (aL (aL u)) (aR (aL u)) (aL (aL (aR u))) (aR (aL (aR u))) (aL (aR (aR u))) (aR (aR (aR u)))
noncomputable def kMe(nm:Str)(k:qw->List qw->Bool)(e:qw):Bool:=kCa (λ f xs ks cp=>kAt (λ o m ap=>ks.isEmpty&&(ap.endLine==cp.line)&&decide (m=nm)&&aAi o&&k o xs) f) e
theorem aKg{P:qw->Prop}{nm:Str}{k:qw->List qw->Bool}{x:qw}(h:kMe nm k x=true)(g:∀ o ap xs cp,(ap.endLine==cp.line)=true->aAi o=true->k o xs=true->P (.Call (.Attribute o nm ap) xs [] cp)):P x:=
 aJ3 h λ _ xs ks cp z=>aWa (P:=λ f=>P (.Call f xs ks cp)) z λ o m ap z=>by
  obtain rfl:=dT (aR (aL (aL z)));exact mG (P:=λ ks=>P (.Call (.Attribute o m ap) xs ks cp)) (aL (aL (aL (aL z)))) (g o ap xs cp (aR (aL (aL (aL z)))) (aR (aL z)) (aR z))
noncomputable def aD2(nm:Str)(k l:qw->Bool)(e:qw):Bool:=kMe nm (λ o xs=>k o&&jY (λ y=>l y&&cO y) xs) e
theorem aJB{P:qw->Prop}{nm:Str}{k l:qw->Bool}{x:qw}(h:aD2 nm k l x=true)(g:∀ o ap y cp,(ap.endLine==cp.line)=true->aAi o=true->k o=true->l y=true->cO y=true->P (.Call (.Attribute o nm ap) [y] [] cp)):P x:=
 aKg h λ o ap xs cp h1 h2 z=>lD (P:=λ xs=>P (.Call (.Attribute o nm ap) xs [] cp)) (aR z) λ y u=>g o ap y cp h1 h2 (aL z) (aL u) (aR u)
noncomputable def aJr(k:qw->qw->qw->List qw->zw->Bool)(e:qw):Bool:=kLc (λ el gs sc _=>jY (λ g=>decide (g.is_async=0)&&k el g.target g.iter g.ifs sc) gs) e
theorem aQT{P:qw->Prop}{k:qw->qw->qw->List qw->zw->Bool}{x:qw}(h:aJr k x=true)(g:∀ e tg it ifs sc p,k e tg it ifs sc=true->P (.ListComp e [⟨tg,it,ifs,0⟩] sc p)):P x:=
 aW1 h λ e _ sc p z=>lD (P:=λ gs=>P (.ListComp e gs sc p)) z λ aO z=>by
  obtain⟨tg,it,ifs,as⟩:=aO;obtain rfl:as=0:=dT (aL z);exact g e tg it ifs sc p (aR z)
noncomputable def aKE(N:List Str)(t:Tg)(cond:E)(sc:zw)(fI:qw->qw->Bool)(fT fE:zw->qw->Bool)(x:qw):Bool:=aJr (λ e tg iter ifs scope=>aDs scope sc&&aAU N scope t.slots N.length&&wE true N (pX scope sc) t tg&&fI tg iter&&cO iter &&
 (match ifs with | []=>aD1 cond | y::r=>r.isEmpty&&fT (pX scope sc) y)&&fE (pX scope sc) e) x
theorem aKz{P:qw->Prop}{N:List Str}{t:Tg}{cond:E}{sc:zw}{fI:qw->qw->Bool}{fT fE:zw->qw->Bool}{x:qw}(h:aKE N t cond sc fI fT fE x=true)(g:∀ e tg iter ifs scope p,aDs scope sc=true->aAU N scope t.slots N.length=true->wE true N (pX scope sc) t tg=true->fI tg iter=true->cO iter=true->(match ifs with | []=>aD1 cond | y::r=>r.isEmpty&&fT (pX scope sc) y)=true->fE (pX scope sc) e=true->P (.ListComp e [⟨tg,iter,ifs,0⟩] scope p)):P x:=
 aQT h λ e tg iter ifs scope p h=>g e tg iter ifs scope p (aL (aL (aL (aL (aL (aL h)))))) (aR (aL (aL (aL (aL (aL h)))))) (aR (aL (aL (aL (aL h))))) (aR (aL (aL (aL h)))) (aR (aL (aL h))) (aR (aL h)) (aR h)
structure Tx where
 fn:List (Str×Nat)
 tb:List (Str×List (Str×Tv))
 cn:List (Str×List Tv)
section
variable (T : Tx)(N : List Str)
mutual
noncomputable def bF:E->zw->qw->Bool
 | .var i,sc,x=>iW (λ x _=>decide (N[i]? = qq x)&&qI sc x && !(x==("__debug__" : Str)) && !(x==("__classdict__" : Str))) x
 | .int i,_,x=>sO (.int i) x
 | .bl i,_,x=>sO (.bool i) x
 | .non,_,x=>sO .none x
 | .str i,_,x=>sO (.str i) x
 | .bin op a b,sc,x=>wZ (λ x op' y _=>decide (op'=op)&&bF a sc x&&bF b sc y) x
 | .un op a,sc,x=>xA (λ op' x _=>decide (op'=op) && !decide (op=.Not)&&bF a sc x) x
 | .cmp op a b,sc,x=>aDR (λ x op' y=>decide (op'=op)&&bF a sc x&&bF b sc y) x
 | .and a b,sc,x=>vJ .And (λ x y=>bF a sc x&&bF b sc y) x
 | .or a b,sc,x=>vJ .Or (λ x y=>bF a sc x&&bF b sc y) x
 | .not a,sc,x=>xA (λ o x _=>decide (o=.Not)&&bF a sc x) x
 | .ite c a b,sc,x=>kIe (λ x y z _=>kE c sc x&&bF a sc y&&bF b sc z) x
 | .tup es,sc,x=>xJ (λ xs _ _=>mS es sc xs) x
 | .ix a b,sc,x=>xE (λ x y=>bF a sc x&&bF b sc y) x
 | .chn op op' a b c,sc,x=>aDM (λ x o y o' z=>decide (o=op)&&decide (o'=op')&&bF a sc x&&bF b sc y&&bF c sc z) x
 | .con n ts,sc,x=>iW (λ x _=>decide (x=n)&&T.cn.contains (n,ts)&&gl sc x && !(x==("__debug__" : Str))) x
 | .tab n bA k,sc,x=>xE (λ x y=>bF k sc y&&iW (λ x _=>decide (x=n)&&T.tb.contains (n,bA)&&gl sc x && !(x==("__debug__" : Str))) x) x
 | .sl a lo hi,sc,x=>aKo (λ x l h=>bF a sc x&&okO lo sc l&&okO hi sc h) x
 | .call f es,sc,x=>nZ (λ x xs=>decide ((T.fn[f]?).map (·.1)=qq x)&&gl sc x && !(x==("__debug__" : Str))&&mS es sc xs&&qY xs) x
 | .blt b es,sc,x=>nZ (λ x ys=>!ys.isEmpty&&decide (x=b.n)&&gl sc x&&mS es sc ys&&qY ys) x
 | .isi a n,sc,x=>sS "isinstance" sc (λ y=>bF a sc y) (λ z=>iW (λ z _=>decide (z=n.n)&&gl sc z) z) x
 | .bits a,sc,x=>kMe "bit_length" (λ x ys=>bF a sc x&&ys.isEmpty) x
 | .app o a,sc,x=>aD2 "append" (λ x=>bF o sc x) (λ y=>bF a sc y) x
 | .idx o a,sc,x=>aD2 "index" (λ x=>bF o sc x) (λ y=>bF a sc y) x
 | .fz a,sc,e=>wW a sc e
 | .new a,sc,e=>wW a sc e
 | _,_,_=>false
noncomputable def kE:E->zw->qw->Bool
 | .and a b,sc,x=>vJ .And (λ x y=>kE a sc x&&kE b sc y) x
 | .or a b,sc,x=>vJ .Or (λ x y=>kE a sc x&&kE b sc y) x
 | .not a,sc,x=>xA (λ o x _=>decide (o=.Not)&&kE a sc x) x
 | .chn op op' a b c,sc,x=>aDM (λ x o y o' z=>decide (o=op)&&decide (o'=op')&&bF a sc x&&bF b sc y&&bF c sc z) x
 | .cmp op a b,sc,x=>aDR (λ x op' y=>decide (op'=op)&&bF a sc x&&bF b sc y) x
 | .var i,sc,x=>iW (λ x _=>decide (N[i]? = qq x)&&qI sc x && !(x==("__debug__" : Str)) && !(x==("__classdict__" : Str))) x&&lF x
 | .bl i,_,x=>sO (.bool i) x&&lF x
 | .bin op a b,sc,x=>wZ (λ x op' y _=>decide (op'=op)&&bF a sc x&&bF b sc y) x&&lF x
 | .ix a b,sc,x=>xE (λ x y=>bF a sc x&&bF b sc y) x&&lF x
 | .call f es,sc,x=>nZ (λ x xs=>decide ((T.fn[f]?).map (·.1)=qq x)&&gl sc x && !(x==("__debug__" : Str))&&mS es sc xs&&qY xs) x&&lF x
 | .blt b es,sc,x=>nZ (λ x ys=>!ys.isEmpty&&decide (x=b.n)&&gl sc x&&mS es sc ys&&qY ys) x&&lF x
 | .isi a n,sc,x=>sS "isinstance" sc (λ y=>bF a sc y) (λ z=>iW (λ z _=>decide (z=n.n)&&gl sc z) z) x&&lF x
 | _,_,_=>false
noncomputable def mS:E->zw->List qw->Bool
 | .nil,_,xs=>xs.isEmpty
 | .cons a r,sc,xs=>(match xs with
   | x::xs=>bF a sc x&&cO x&&mS r sc xs
   | []=>false)
 | _,_,_=>false
noncomputable def okO:E->zw->Option qw->Bool
 | .no,_,x=>aDL x
 | .cons a r,sc,x=>aJl r&&x.any λ x=>bF a sc x
 | _,_,_=>false
noncomputable def wW:E->zw->qw->Bool
 | .lst es,sc,x=>kLi (λ xs _=>mS es sc xs) x
 | .lof a,sc,x=>xH "list" sc (λ y=>bF a sc y) x
 | .lzip a b,sc,x=>xH "list" sc (λ y=>sS "zip" sc (λ z=>bF a sc z) (λ w=>bF b sc w) y) x
 | .lrep a b,sc,x=>wZ (λ x o y _=>decide (o=.Mult)&&bF a sc x&&bF b sc y) x
 | .comp elt t it cond,sc,x=>aKE N t cond sc (λ g y=>okI it sc g y) (λ s y=>kE cond s y) (λ s y=>bF elt s y) x
 | _,_,_=>false
noncomputable def okI:E->zw->qw->qw->Bool
 | .it a,sc,_,x=>bF a sc x
 | .rng1 a,sc,_,x=>xH "range" sc (λ y=>bF a sc y) x
 | .rng2 a b,sc,_,x=>sS "range" sc (λ y=>bF a sc y) (λ z=>bF b sc z) x
 | .rng3 a b c,sc,_,x=>kB3 "range" sc (λ y=>bF a sc y) (λ z=>bF b sc z) (λ w=>bF c sc w) x
 | .zip a b,sc,tg,x=>uX tg&&sS "zip" sc (λ y=>bF a sc y) (λ z=>bF b sc z) x
 | .enm a,sc,tg,x=>uX tg&&xH "enumerate" sc (λ y=>bF a sc y) x
 | _,_,_,_=>false
end
mutual
noncomputable def okS:Sx->zw->xk->Bool
 | .expr e,sc,st=>kEx (λ x _=>bF T N e sc x&&rK x) st
 | .ret e,sc,st=>kRe (λ v _=>v.any λ x=>bF T N e sc x) st
 | .ifs c a b,sc,st=>kSf (λ x y z _=>kE T N c sc x&&mM a sc y&&mM b sc z) st
 | .set i e,sc,st=>sV (λ ts y _=>bF T N e sc y&&rK y&&jY (λ t=>iW (λ x _=>decide (N[i]? = qq x)&&loc sc x) t) ts) st
 | .setC _ i e,sc,st=>sV (λ ts y _=>aHB e&&wW T N e sc y&&jY (λ t=>iW (λ x _=>decide (N[i]? = qq x)&&loc sc x) t) ts) st
 | .setT t e,sc,st=>sV (λ ts y _=>bF T N e sc y&&rK y && !uX y&&jY (λ tg=>uX tg&&wE false N sc t tg) ts) st
 | .put o i e,sc,st=>sV (λ ts z _=>bF T N e sc z&&rK z&&jY (λ t=>xE (λ x y=>bF T N o sc x&&bF T N i sc y) t) ts) st
 | .wh _ c b,sc,st=>kWh (λ x y z _=>z.isEmpty&&kE T N c sc x&&mM b sc y) st
 | .loop t it b,sc,st=>kFo (λ tg x y z _=>z.isEmpty&&wE false N sc t tg&&okI T N it sc tg x&&cO x&&mM b sc y) st
 | _,_,_=>false
noncomputable def mM:Sx->zw->List xk->Bool
 | .skip,_,l=>l.isEmpty
 | .seq a b,sc,l=>(match l with
   | st::r=>okS a sc st&&mM b sc r
   | []=>false)
 | _,_,_=>false
end
end
noncomputable def bltNames:List Str:=["len", "max", "min", "int", "abs", "tuple", "sum", "all", "any", "isinstance", "list", "range", "enumerate", "bool", "str", "reversed", "zip", "sorted"]
structure Ctx(T:Tx)(C:Calls)(X:Cx):Prop where
 nd:X.N.Nodup
 calm:X.calm=true
 xe:X.xe=λ _ _=>False
 kind:X.env.scope.kind=.function
 room:∃ k,Room k X.A/\∀ f np call x,C f=qq (np,call)->(T.fn[f]?).map (·.1)=qq x->∃ fa fd ps,X.mg x=qq (.ref fa)/\yCw X.K (.ref fa)=true/\mH X.K fd ps []/\FnOk X.prog X.w X.K X.mg X.base sW k fa fd ps (sY X.K np call)
 blt:∀ x∈bltNames,X.mg x=qz
 tbs:∀ x bA,(x,bA)∈T.tb->∃ a,X.mg x=qq (.ref a)/\vO X.K X.w a bA
 cns:∀ x ts,(x,ts)∈T.cn->∃ a,X.mg x=qq (.ref a)/\rS X.K a ts
theorem Ctx.units{T:Tx}{C:Calls}{X:Cx}(h:Ctx T C X):X.A.units+64<cLine:=let ⟨_,r,_⟩:=h.room;r.units
theorem Ctx.own{T:Tx}{C:Calls}{X:Cx}(h:Ctx T C X):PassesOwn (model X.prog X.w) X.A X.env X.xe:=by rw[h.xe];exact PassesOwn.never
theorem Ctx.comp{T:Tx}{C:Calls}{X Y:Cx}{scope:zw}(h:Ctx T C X)(hk:scope.kind=.function)(hy:jS X scope Y):Ctx T C Y/\Y.env.scope=pX scope X.env.scope/\Y.N=X.N/\Y.K=X.K:=by
 obtain⟨aB,fp,Ca,s₀,H₀,rfl⟩:=hy;exact⟨⟨h.nd,h.calm,rfl,hk,h.room,h.blt,h.tbs,h.cns⟩,rfl,rfl,rfl⟩
theorem iZ{e:qw}(h:cO e=true)(es:List qw)(env:Env):qo (e::es) env=(false,eval e env)::qo es env:=by
 cases e<;>first | rfl | exact no h
theorem aB1:∀ {es:List qw} (h:qY es=true) (env:Env) (pos:Pos),(backTo pos (qo es env)).any (·.1)=false
 | [],_,_,_=>rfl
 | e::es,h,env,pos=>by
   obtain⟨h1,h2⟩:=gR h;rw[iZ h1];show(false||(backTo pos (qo es env)).any (·.1))=false
   rw[aB1 h2 env pos];rfl
theorem aJt{e:qw}(h:cO e=true):zX e:=by
 intro o i;cases e<;>first | rfl | exact no h
theorem zG{e:qw}(h:cO e=true)(op:jq):jk op e=false:=by
 cases e<;>first | rfl | exact no h
theorem aBK{e:qw}(h:cO e=true)(env:Env)(x:qx):jv e env x=pure x:=by
 cases e<;>first | rfl | exact no h
theorem rB{e:qw}(h:aAi e=true)(m:Str)(env:Env):attributeBase e m env (eval e env)=eval e env:=by
 cases e<;>first | rfl | exact no h
theorem aCd{e:qw}(h:rK e=true)(t:Option qw)(line:Nat)(env:Env):swapsWith e t line env=pure false:=by
 cases e<;>first | rfl | exact no h
theorem aRh{e:qw}(h:lF e=true)(env:Env)(eS:Sem qx):isTrue e env eS=(do let v <- eS;standAt e.pos;holding [v] (truthy v)):=by
 cases e<;>first | rfl | exact no h
theorem aMB{o i:qw}{pos:Pos}{env:Env}(h:cO i=true)(v:qx):assign (.Subscript o i pos) env v=(do
 let ov <- holding [v] (eval o env)
 let iv <- holding [v,ov] (eval i env)
 standAt pos
 holding [v,ov,iv] (setItem ov iv v)
 release [v,ov,iv] []):=by
 cases i<;>first | rfl | exact no h
section
variable {X : Cx}
theorem aQN{x:Str}(h:qI X.env.scope x=true):wU X.env.scope x:=by
 unfold qI at h;unfold wU
 split at h<;>first | exact .inl (by assumption) | exact .inr (.inl (by assumption)) | exact .inr (.inr (by assumption)) | exact no h
theorem aCY{x:Str}(h:loc X.env.scope x=true):L2.Loc X.env.scope x:=by
 unfold loc at h;unfold L2.Loc
 split at h<;>first | exact .inl (by assumption) | exact .inr (by assumption) | exact no h
theorem hV{x:Str}(h:gl X.env.scope x=true):Gl X x:=(oqT h:X.env.scope.names.lookup x=qq .globalImplicit)
theorem tQ{x y:Str}(h:(!(x==y))=true):(x==y)=false:=by
 cases e:x==y with
 | false=>rfl
 | true=>rw[e] at h;exact no h
def aC8(b:Bool)(X:Cx):Prop:=b=true\/∀ x,X.fn x=true
theorem aHg{b:Bool}(st:aC8 b X){i:Nat}{x:Str}(h:aCU b X.N X.env.scope i x=true):X.N[i]? = qq x/\L2.Loc X.env.scope x/\(X.fn x=true\/X.env.scope.names.lookup x=qq .local):=by
 obtain⟨h1,h2⟩:=gR h;cases b with
 | true =>
   have h3:=oqT h2;exact⟨oqT h1,.inl h3,.inr h3⟩
 | false =>
   refine⟨oqT h1,aCY h2,?_⟩;rcases st with z | z
   ·cases z
   ·exact .inl (z x)
noncomputable def vZ:List Nat->iT
 | []=>aD0
 | i::is=>aDp (nY i) (vZ is)
noncomputable def sQ(K:FrG):Tg->TG
 | .one i=>nY i
 | .many is=>aDE K is.length (vZ is)
theorem aIq(K:FrG):∀ is:List Nat,xI K is (vZ is)
 | []=>aQe
 | _::is=>aNU (aIq K is)
theorem aAt(K:FrG)(t:Tg):GA K t (sQ K t):=by
 cases t with
 | one i=>exact aRT i
 | many is=>exact aPw (aIq K is)
theorem aGu{b:Bool}(st:aC8 b X)(nd:X.N.Nodup):∀ {is:List Nat}{es:List qw},aCo b X.N X.env.scope is es=true->qH X es (vZ is)/\(zo es X.env).length=is.length/\(zo es X.env).findIdx? (·.1)=qz
 | [],[],_=>⟨aPa,rfl,rfl⟩
 | [],_::_,h=>no h
 | _::_,[],h=>no h
 | i::is,e::r,h=>mP (P:=λ e=>qH X (e::r) (vZ (i::is))/\(zo (e::r) X.env).length=(i::is).length/\(zo (e::r) X.env).findIdx? (·.1)=qz) h λ x p h=>by
   obtain⟨a1,a2,a3⟩:=aHg st (aL h);obtain⟨pg,hl2,hf⟩:=aGu st nd (aR h);refine⟨aNA (aCr nd a1 a2 a3) pg rfl,?_,?_⟩
   ·show((false,assign (.Name x p) X.env)::zo r X.env).length=_;rw[yAw,yAw,hl2]
   ·show((false,assign (.Name x p) X.env)::zo r X.env).findIdx? (·.1)=qz;rw[List.findIdx?_cons,hf];rfl
theorem aAE{b:Bool}(st:aC8 b X)(nd:X.N.Nodup)(hc:X.calm=true){t:Tg}{tg:qw}(h:wE b X.N X.env.scope t tg=true):PG X tg (sQ X.K t):=by
 cases t with
 | one i=>exact mP (P:=λ e=>PG X e (nY i)) h λ x p h=>let ⟨a1,a2,a3⟩:=aHg st h;aCr nd a1 a2 a3
 | many is=>exact wI (P:=λ e=>PG X e (sQ X.K (.many is))) h λ es k p h=>let ⟨pg,hl2,hf⟩:=aGu st nd h;aSM hc pg hl2 hf
end
section
variable (T : Tx)(C : Calls)
def SE(c:E):Prop:=∀ X,Ctx T C X->∀ x,bF T X.N c X.env.scope x=true->PE X x (aP X.K (ev C c))
def ST(c:E):Prop:=∀ X,Ctx T C X->∀ x,kE T X.N c X.env.scope x=true->PT X x (eK X.K (tv C c))/\∀ op es p,x=.BoolOp op es p->PW X x (eK X.K (tv C c))
def SA(c:E):Prop:=∀ X,Ctx T C X->∀ x,mS T X.N c X.env.scope x=true->PA X x (fF X.K (av C c))
def SO(c:E):Prop:=∀ X,Ctx T C X->∀ x,okO T X.N c X.env.scope x=true->PO X x (lE X.K (ov C c))
def SL(c:E):Prop:=∀ X,Ctx T C X->∀ x,wW T X.N c X.env.scope x=true->PE X x (iG X.K (lv C c))
def SI(c:E):Prop:=∀ X,Ctx T C X->∀ tg x,okI T X.N c X.env.scope tg x=true->PI X tg x (iV X.K (lv C c))
end
section
variable {T : Tx}{C : Calls}
theorem aQB{X:Cx}{x:qw}{f:FE}(h:∀ env S,f env S=qz):PE X x (aP X.K f):=λ aB s σ H Q I aO=>by
 obtain⟨F,L,S,env,w,S',R,E,e,q⟩:=aO;rw[h] at e;cases e
theorem aT3{X:Cx}{x:qw}{f:FE}(h:PE X x (aP X.K f))(ht:lF x=true):PT X x (eK X.K (cT f))/\∀ op es p,x=.BoolOp op es p->PW X x (eK X.K (cT f)):=
 ⟨aVe h λ eS=>aRh ht X.env eS,λ op es p e=>by subst e;exact no ht⟩
theorem aIG(i:Nat):SE T C (.var i):=λ X hX x hx=>mP (P:=λ x=>PE X x _) hx λ y p h=>aUw (dT (aL (aL (aL h)))) (aQN (aR (aL (aL h)))) (tQ (aR (aL h))) (tQ (aR h))
theorem aRW(i:Int):SE T C (.int i):=λ X hX x h=>aAN (P:=λ x=>PE X x _) h λ k p=>aU0
theorem aJm(i:Bool):SE T C (.bl i):=λ X hX x h=>aAN (P:=λ x=>PE X x _) h λ k p=>aWL
theorem aS4:SE T C .non:=λ X hX x h=>aAN (P:=λ x=>PE X x _) h λ k p=>aUC
theorem aS2(i:Str):SE T C (.str i):=λ X hX x h=>aAN (P:=λ x=>PE X x _) h λ k p=>aVx
theorem aIR{op:ju}{a b:E}(ha:SE T C a)(hb:SE T C b):SE T C (.bin op a b):=λ X hX x hx=>aKO (P:=λ x=>PE X x _) hx λ l o r p h=>by
 obtain rfl:=dT (aL (aL h));exact aUR (ha X hX _ (aR (aL h))) (hb X hX _ (aR h))
theorem aUM{op:yx}{a:E}(ha:SE T C a):SE T C (.un op a):=λ X hX x hx=>aDY (P:=λ x=>PE X x _) hx λ o r p h=>by
 obtain rfl:=dT (aL (aL h));exact aWb (ha X hX _ (aR h))
theorem aRA{op:jq}{a b:E}(ha:SE T C a)(hb:SE T C b):SE T C (.cmp op a b):=λ X hX x hx=>aJK (P:=λ x=>PE X x _) hx λ l o r p h h4=>by
 obtain rfl:=dT (aL (aL h));exact aVM hX.units (ha X hX _ (aR (aL h))) (hb X hX _ (aR h)) (zG h4 o)
theorem aDq{X:Cx}{x:qw}{t:TT}(h:PT X x t)(n:x.ctorIdx≠0):PT X x t/\∀ op es p,x=.BoolOp op es p->PW X x t:=
 ⟨h,λ op es p e=>absurd (congrArg Expr.ctorIdx e) n⟩
theorem aSS{op:jq}{a b:E}(ha:SE T C a)(hb:SE T C b):ST T C (.cmp op a b):=λ X hX x hx=>aJK (P:=λ x=>PT X x _/\∀ op es p,x=.BoolOp op es p->PW X x _) hx λ l o r p h h4=>by
 obtain rfl:=dT (aL (aL h));exact aDq (aRZ hX.units (ha X hX _ (aR (aL h))) (hb X hX _ (aR h)) (zG h4 o)) (yHd 14)
theorem aQ2{op op':jq}{a b c:E}(ha:SE T C a)(hb:SE T C b)(hc:SE T C c):SE T C (.chn op op' a b c):=λ X hX x hx=>aJs (P:=λ x=>PE X x _) hx λ l o m o' r p h h6=>by
 obtain rfl:=dT (aL (aL (aL (aL h))));obtain rfl:=dT (aR (aL (aL (aL h))));exact aPd hX.units (ha X hX _ (aR (aL (aL h)))) (hb X hX _ (aR (aL h))) (hc X hX _ (aR h)) (zG h6 o')
theorem aSw{op op':jq}{a b c:E}(ha:SE T C a)(hb:SE T C b)(hc:SE T C c):ST T C (.chn op op' a b c):=λ X hX x hx=>aJs (P:=λ x=>PT X x _/\∀ op es p,x=.BoolOp op es p->PW X x _) hx λ l o m o' r p h h6=>by
 obtain rfl:=dT (aL (aL (aL (aL h))));obtain rfl:=dT (aR (aL (aL (aL h))));exact aDq (aOo hX.units (ha X hX _ (aR (aL (aL h)))) (hb X hX _ (aR (aL h))) (hc X hX _ (aR h)) (zG h6 o')) (yHd 14)
theorem aTn{n:Str}{ts:List Tv}:SE T C (.con n ts):=λ X hX x hx=>mP (P:=λ x=>PE X x _) hx λ y p h=>by
 obtain rfl:=dT (aL (aL (aL h)));exact aTS (hV (aR (aL h))) (tQ (aR h)) (hX.cns _ _ (List.contains_iff_mem.mp (aR (aL (aL h)))))
theorem aTh{a b:E}(ha:SE T C a)(hb:SE T C b):SE T C (.and a b):=λ X hX x hx=>aAr (P:=λ x=>PE X x _) hx
 (λ l r p h=>PE.weak (aH4 (ha X hX _ (aL h)) (aIN (hb X hX _ (aR h)))) aIf) λ l b c r p h=>PE.weak (aH4 (ha X hX _ (aL h)) (hb X hX _ (aR h))) aIf
theorem aU6{a b:E}(ha:SE T C a)(hb:SE T C b):SE T C (.or a b):=λ X hX x hx=>aAr (P:=λ x=>PE X x _) hx
 (λ l r p h=>PE.weak (aJG (ha X hX _ (aL h)) (aIN (hb X hX _ (aR h)))) aJP) λ l b c r p h=>PE.weak (aJG (ha X hX _ (aL h)) (hb X hX _ (aR h))) aJP
theorem aIK{X:Cx}{x:qw}{t:TT}(k:PW X x t):PT X x t/\∀ op es p,x=.BoolOp op es p->PW X x t:=⟨k.pt,λ _ _ _ _=>k⟩
theorem aSQ{a b:E}(ha:ST T C a)(hb:ST T C b):ST T C (.and a b):=λ X hX x hx=>aIK (aAr (P:=λ x=>PW X x _) hx
 (λ l r p h=>PW.weak (aH6 (ha X hX _ (aL h)).1 (aOC (hb X hX _ (aR h)).1)) aJo) λ l b c r p h=>PW.weak (aH6 (ha X hX _ (aL h)).1 ((hb X hX _ (aR h)).2 _ _ _ rfl)) aJo)
theorem aTz{a b:E}(ha:ST T C a)(hb:ST T C b):ST T C (.or a b):=λ X hX x hx=>aIK (aAr (P:=λ x=>PW X x _) hx
 (λ l r p h=>PW.weak (aJD (ha X hX _ (aL h)).1 (aS9 (hb X hX _ (aR h)).1)) aKm) λ l b c r p h=>PW.weak (aJD (ha X hX _ (aL h)).1 ((hb X hX _ (aR h)).2 _ _ _ rfl)) aKm)
theorem aR6{a:E}(ha:SE T C a):SE T C (.not a):=λ X hX x hx=>aDY (P:=λ x=>PE X x _) hx λ o y p h=>by
 obtain rfl:=dT (aL h);exact aSb (ha X hX _ (aR h))
theorem aRE{a:E}(ha:ST T C a):ST T C (.not a):=λ X hX x hx=>aDY (P:=λ x=>PT X x _/\∀ op es p,x=.BoolOp op es p->PW X x _) hx λ o y p h=>by
 obtain rfl:=dT (aL h);exact aDq (aU4 (ha X hX _ (aR h)).1) (yHd 2)
theorem aSm{c a b:E}(hc:ST T C c)(ha:SE T C a)(hb:SE T C b):SE T C (.ite c a b):=λ X hX x hx=>aWi (P:=λ x=>PE X x _) hx λ x y z p h=>aVw (hc X hX _ (aL (aL h))).1 (ha X hX _ (aR (aL h))) (hb X hX _ (aR h))
theorem aSv{a:E}(ha:SA T C a):SE T C (.tup a):=λ X hX x hx=>wI (P:=λ x=>PE X x _) hx λ xs k p h=>aUs (ha X hX _ h)
theorem aQ6{a:E}(ha:SA T C a):SL T C (.lst a):=λ X hX x hx=>aVZ (P:=λ x=>PE X x _) hx λ xs p h=>aTZ (ha X hX _ h)
theorem aS6:SA T C .nil:=λ X hX x h=>mG (P:=λ x=>PA X x _) h aDw
theorem aQa{a r:E}(ha:SE T C a)(hr:SA T C r):SA T C (.cons a r):=λ X hX x h=>by
 cases x with
 | nil=>exact no h
 | cons y ys=>exact nX (ha X hX _ (aL (aL h))) (hr X hX _ (aR h)) (iZ (aR (aL h)) _ _)
theorem aUE:SO T C .no:=λ X hX x h=>aJi (P:=λ x=>PO X x _) h aWu
theorem aPg{a r:E}(ha:SE T C a):SO T C (.cons a r):=λ X hX x h=>aWH (P:=λ r=>PO X x (lE X.K (ov C (.cons a r)))) (aL h) (aJb (P:=λ x=>PO X x _) (aR h) λ y h=>aRC (ha X hX _ h))
theorem aJq{a b:E}(ha:SE T C a)(hb:SE T C b):SE T C (.ix a b):=λ X hX x hx=>aDQ (P:=λ x=>PE X x _) hx λ l r p h h3=>aWp (ha X hX _ (aL h)) (hb X hX _ (aR h)) (aJt h3)
theorem aSi{n:Str}{bA:List (Str×Tv)}{k:E}(hk:SE T C k):SE T C (.tab n bA k):=λ X hX x hx=>aDQ (P:=λ x=>PE X x _) hx λ y z p g h6=>mP (P:=λ y=>PE X (.Subscript y z p) _) (aR g) λ u q h=>by
 obtain rfl:=dT (aL (aL (aL h)));exact aT7 (hV (aR (aL h))) (tQ (aR h)) (hX.tbs _ _ (List.contains_iff_mem.mp (aR (aL (aL h))))) (hk X hX _ (aL g)) (aJt h6)
theorem aUo{a lo hi:E}(ha:SE T C a)(hl:SO T C lo)(hh:SO T C hi):SE T C (.sl a lo hi):=λ X hX x hx=>aTK (P:=λ x=>PE X x _) hx λ y l u p q h=>aWd (ha X hX _ (aL (aL h))) (hl X hX _ (aR (aL h))) (hh X hX _ (aR h))
theorem aO1{N:List Str}{a:E}{sc:zw}(h:mS T N a sc []=true):a=.nil:=by
 cases a<;>first | rfl | exact no h
theorem aM0{f np:Nat}{call:List W->aE->Option (W×aE)}{fs:FA}(h:C f=qq (np,call)):kT C f fs=aAC fs np call:=by
 funext env S
 unfold kT;rw[h]
theorem aHY{f:Nat}{a:E}(ha:SA T C a):SE T C (.call f a):=λ X hX x hx=>uI (P:=λ x=>PE X x _) hx λ y p zs q h=>by
 cases hC:C f with
 | none=>exact aQB λ env S=>by show kT C f (av C a) env S=qz;unfold kT;rw[hC]
 | some nc =>
   obtain⟨k,rm,fs⟩:=hX.room;obtain⟨fa,fd,ps,m1,m2,m3,m4⟩:=fs f nc.1 nc.2 y hC (dT (aL (aL (aL (aL h)))));have hw:∀ σ H Q,aP X.K (ev C (.call f a)) σ H Q->aAK (sY X.K nc.1 nc.2) [] E0 (fF X.K (av C a)) σ H Q:=λ σ H Q hq=>aQ3 σ H Q (aM0 (fs:=av C a) hC▸hq)
   have h2:=hV (aR (aL (aL (aL h))));have h3:=tQ (aR (aL (aL h)));cases zs with
   | nil =>
     refine PE.weak (aNT m4 rm h2 m1 m2 m3 .nil aJf h3) λ σ H Q hq=>?_
     obtain⟨F,L,S,env,ws,S',R,E,e,q2⟩:=hw σ H Q hq;cases aO1 (aR (aL h));cases e;exact q2 F L H [] Gr.refl R .nil
   | cons z zr=>exact PE.weak (aOR m4 rm h2 m1 m2 m3 .nil aJf (ha X hX _ (aR (aL h))) h3 (iZ (aL (aR h)) _ _) (aB1 (aR (aR h)) _ _)) hw
theorem aIJ{b:B}{a:E}(ha:SA T C a):SE T C (.blt b a):=λ X hX x hx=>uI (P:=λ x=>PE X x _) hx λ y p zs q h=>by
 obtain rfl:=dT (aR (aL (aL (aL h))));cases zs with
 | nil=>exact no (aL (aL (aL (aL h))))
 | cons z zr =>
 have A:=ha X hX _ (aR (aL h));have G:=hV (aR (aL (aL h)));have s1:=iZ (aL (aR h)) zr X.env;have s2:=aB1 (aR (aR h)) X.env q;cases b with
 | len=>exact PE.weak (nI aVb G (hX.blt _ (by decide)) (by decide +kernel) A (by decide) (by decide) s1 s2) mF
 | mx=>exact PE.weak (nI (aVo hX.calm) G (hX.blt _ (by decide)) (by decide +kernel) A (by decide) (by decide) s1 s2) mF
 | mn=>exact PE.weak (nI (aVU hX.calm) G (hX.blt _ (by decide)) (by decide +kernel) A (by decide) (by decide) s1 s2) mF
 | abs=>exact PE.weak (nI aVD G (hX.blt _ (by decide)) (by decide +kernel) A (by decide) (by decide) s1 s2) mF
 | sum=>exact PE.weak (nI (aUa hX.calm) G (hX.blt _ (by decide)) (by decide +kernel) A (by decide) (by decide) s1 s2) mF
 | all=>exact PE.weak (nI (aVk hX.calm) G (hX.blt _ (by decide)) (by decide +kernel) A (by decide) (by decide) s1 s2) mF
 | any=>exact PE.weak (nI (aVi hX.calm) G (hX.blt _ (by decide)) (by decide +kernel) A (by decide) (by decide) s1 s2) mF
 | int=>exact PE.weak (aBJ aTO G (hX.blt _ (by decide)) (by decide +kernel) A (by decide) (by decide) s1 s2) mF
 | tup=>exact PE.weak (aBJ aOT G (hX.blt _ (by decide)) (by decide +kernel) A (by decide) (by decide) s1 s2) mF
theorem aGo(n:Ty):jz n.n=qq (.type n.s)/\n.n∈bltNames:=by cases n<;>exact⟨by decide +kernel,by decide⟩
theorem aIP{a:E}{n:Ty}(ha:SE T C a):SE T C (.isi a n):=λ X hX x hx=>aAR (P:=λ x=>PE X x _) hx λ p y w q h3 h5 h6 h7 _=>mP (P:=λ w=>PE X (.Call (.Name "isinstance" p) [y,w] [] q) _) h7 λ z pz h=>by
 obtain rfl:=dT (aL h);have k:=aT0 (X:=X) (n:=n.s) (x:=n.n) (p:=p) (p':=pz) (pos:=q) (ha X hX _ h5) (hV h3) (hX.blt _ (by decide)) (by decide +kernel) (hV (aR h)) (hX.blt _ (aGo n).2) (aGo n).1 (by cases n<;>decide) (by cases n<;>decide) (iZ h6 _ _)
 refine PE.weak k λ σ H Q ⟨F,L,S,env,w,S',R,E,e,q2⟩=>⟨F,L,S,env,w,S',R,E,?_,q2⟩
 obtain⟨⟨w1,S1⟩,e1,e2⟩:=bind_some e;obtain⟨d,z,e3,e4,rfl,rfl⟩:=tW e2;unfold aKK f1;rw[e1];show fU (vP X.K n.s) _ w1=_;unfold fU;rw[e3];dsimp only[yCr];rw[aSa X.K e4]
theorem aPW{a:E}(ha:SE T C a):SE T C (.bits a):=λ X hX x hx=>aKg (P:=λ x=>PE X x _) hx λ o ap xs cp h4 h3 h=>mG (P:=λ xs=>PE X (.Call (.Attribute o "bit_length" ap) xs [] cp) _) (aR h) (by
 refine PE.weak (aSp PySem.F.plainAttrs_int yGf PySem.F.type_int_bit_length aQg (ha X hX _ (aL h)) (rB h3 _ _) h4) λ σ H Q hPq47=>?_
 obtain⟨F,L,S,env,w,S',R,E,e,q⟩:=hPq47;obtain⟨⟨w1,S1⟩,e1,e2⟩:=bind_some e;obtain⟨d,z,e3,e4,rfl,rfl⟩:=tW e2;refine⟨F,L,S,env,w1,_,R,E,e1,λ F1 L1 H1 v g1 R1 d1=>?_⟩
 have nw:=jA R1 d1 e3;cases d<;>first | (cases e4;done) | skip
 cases e4;obtain rfl:=nw.int;exact⟨rfl,_,rfl,rfl,q F1 L1 H1 _ g1 R1 (Den.int _)⟩)
theorem iU{X:Cx}{z:qw}(h:cO z=true):qo [z] X.env=(false,eval z X.env)::qo [] X.env:=iZ h [] X.env
theorem oQ{X:Cx}{a:E}{z:qw}(ha:SE T C a)(hX:Ctx T C X)(h:bF T X.N a X.env.scope z=true)(hp:cO z=true):PA X [z] (fF X.K (cS (ev C a) gQ)):=nX (ha X hX _ h) aDw (iU hp)
theorem aSx{o a:E}(ho:SE T C o)(ha:SE T C a):SE T C (.app o a):=λ X hX x hx=>aJB (P:=λ x=>PE X x _) hx λ y ap z cp h4 h3 h2 h5 h6 =>
 PE.weak (aJ1 PySem.F.plainAttrs_list PySem.F.slot_list_append PySem.F.type_list_append aFE (ho X hX _ h2) (oQ ha hX h5 h6) (rB h3 _ _) (by rw[iU h6];rfl) h4 (iU h6) rfl) aTN
theorem aTo{o a:E}(ho:SE T C o)(ha:SE T C a):SE T C (.idx o a):=λ X hX x hx=>aJB (P:=λ x=>PE X x _) hx λ y ap z cp h4 h3 h2 h5 h6 =>
 PE.weak (aJ1 PySem.F.plainAttrs_list yFj PySem.F.type_list_index aOA (ho X hX _ h2) (oQ ha hX h5 h6) (rB h3 _ _) (by rw[iU h6];rfl) h4 (iU h6) rfl) aUp
theorem aQ5{a:E}(ha:SE T C a):SL T C (.lof a):=λ X hX x hx=>aAP (P:=λ x=>PE X x _) hx λ p z q h2 h3 h4 =>
 PE.weak (aBJ aLz (hV h2) (hX.blt _ (by decide)) (by decide +kernel) (oQ ha hX h3 h4) (by decide) (by decide) (iU h4) rfl) aVj
theorem aOW{a b:E}(ha:SE T C a)(hb:SE T C b):SL T C (.lzip a b):=λ X hX x hx=>aAP (P:=λ x=>PE X x _) hx λ p y q h2 h3 _=>aAR (P:=λ y=>PE X (.Call (.Name "list" p) [y] [] q) _) h3 λ p' z w q' h4 h5 h6 h7 h8 =>
 aSc (ha X hX _ h5) (hb X hX _ h7) hX.calm (hV h2) (hX.blt _ (by decide)) (hV h4) (hX.blt _ (by decide)) (iZ h6 [w] X.env) (iU h8)
theorem aPR{a b:E}(ha:SE T C a)(hb:SE T C b):SL T C (.lrep a b):=λ X hX x hx=>aKO (P:=λ x=>PE X x _) hx λ l o r p h=>by
 obtain rfl:=dT (aL (aL h));exact aT9 (ha X hX _ (aR (aL h))) (hb X hX _ (aR h))
theorem aTX{a:E}(ha:SE T C a):SI T C (.it a):=λ X hX tg x h=>aVX (ha X hX _ h)
theorem aPv{a:E}(ha:SE T C a):SI T C (.rng1 a):=λ X hX tg x hx=>aAP (P:=λ x=>PI X tg x _) hx λ p z q h2 h3 h4 =>
 PI.weak (aNg (hV h2) (hX.blt _ (by decide)) (oQ ha hX h3 h4) (iU h4)) aS0
theorem aPe{a b c:E}(ha:SE T C a)(hb:SE T C b)(hc:SE T C c):SI T C (.rng3 a b c):=λ X hX tg x hx=>aWs (P:=λ x=>PI X tg x _) hx λ p z w v q h2 h3 h4 h5 h6 h7 h8=>by
 have st:=iZ h4 [w,v] X.env;have st2:=iZ h6 [v] X.env;exact PI.weak (aNq (hV h2) (hX.blt _ (by decide)) (nX (ha X hX _ h3) (nX (hb X hX _ h5) (oQ hc hX h7 h8) st2) st) st (by rw[st2,iU h8];rfl)) aRr
theorem aPx{a b:E}(ha:SE T C a)(hb:SE T C b):SI T C (.rng2 a b):=λ X hX tg x hx=>aAR (P:=λ x=>PI X tg x _) hx λ p z z2 q h2 h3 h4 h5 h6=>by
 have st:=iZ h4 [z2] X.env;exact PI.weak (aM5 (hV h2) (hX.blt _ (by decide)) (nX (ha X hX _ h3) (oQ hb hX h5 h6) st) (by rw[st,iU h6];rfl) (iU h6)) aSt
theorem aSu{a:E}(ha:SE T C a):SI T C (.enm a):=λ X hX tg x hx=>wI (P:=λ tg=>PI X tg x _) (aL hx) λ ts k tp _=>aAP (P:=λ x=>PI X _ x _) (aR hx) λ p z q h2 h3 h4 =>
 PI.weak (aOm (hV h2) (hX.blt _ (by decide)) (oQ ha hX h3 h4) (iU h4)) aQu
theorem aQE{a b:E}(ha:SE T C a)(hb:SE T C b):SI T C (.zip a b):=λ X hX tg x hx=>wI (P:=λ tg=>PI X tg x _) (aL hx) λ ts k tp _=>aAR (P:=λ x=>PI X _ x _) (aR hx) λ p z z2 q h2 h3 h4 h5 h6 =>
 PI.weak (aSN (hV h2) (hX.blt _ (by decide)) (nX (ha X hX _ h3) (oQ hb hX h5 h6) (iZ h4 [z2] X.env)) (iZ h4 [z2] X.env) (iU h6)) aVn
theorem or2{a b:Bool}(h:(a||b)=true)(n:a=false):b=true:=by
 rw[n] at h;exact h
theorem aHX{scope osc:zw}(h:aDs scope osc=true):ScOk scope osc:=by
 have h2:=List.all_eq_true.mp (aR h);refine⟨dT (aL h),λ x hx e=>?_,λ x hx e=>?_,λ x hx e=>?_⟩
 ·have:=h2 x hx;simp[e] at this
 ·have:=h2 x hx;simp[e] at this;exact this
 ·have:=h2 x hx;simp[e] at this;exact this
theorem aDe{N:List Str}{scope:zw}{is:List Nat}:∀ {n:Nat},aAU N scope is n=true->∀ i,i<n->∀ x,N[i]? = qq x->scope.names.lookup x=qq .local->i∈is
 | 0,_,i,hi,_,_,_=>absurd hi (yDt i)
 | n+1,h,i,hi,x,e,el=>by
   rcases Nat.lt_succ_iff_lt_or_eq.mp hi with z | z
   ·exact aDe (aL h) i z x e el
   ·subst z;have h2:=aR h;rw[e] at h2;exact List.contains_iff_mem.mp (or2 h2 (by rw[el];rfl))
theorem aOF{elt it cond:E}{t:Tg}(he:SE T C elt)(hi:SI T C it)(hc:ST T C cond):SL T C (.comp elt t it cond):=λ X hX x hx=>aKz (P:=λ x=>PE X x _) hx λ e tg iter ifs scope p h1 h2 h3 h4 h5 h6 h7=>by
 have sok:=aHX h1;refine aIa (g:=sQ X.K t) hX.calm sok (λ i x a1 a2=>aDe h2 i (gIm a1).1 x a1 a2) (hi X hX tg iter h4) (λ Y hY=>?_) (aAt X.K t) (λ Y hY=>?_) (λ Y hY=>?_) (aBK h5 X.env)
 ·obtain⟨c1,c2,c3,c4⟩:=hX.comp sok.kind hY;rw[<- c4];exact aAE (.inl rfl) c1.nd c1.calm (by rw[c2,c3];exact h3)
 ·obtain⟨c1,c2,c3,c4⟩:=hX.comp sok.kind hY;cases ifs with
  | nil=>exact aKp (P:=λ cond=>lW Y [] (tv C cond)) h6 aF8
  | cons y r=>exact mG (P:=λ r=>lW Y (y::r) _) (aL h6) (aF1 (hc Y c1 y (by rw[c2,c3];exact aR h6)).1)
 ·obtain⟨c1,c2,c3,c4⟩:=hX.comp sok.kind hY;rw[<- c4];exact he Y c1 e (by rw[c2,c3];exact h7)
theorem aUz{a:E}(ha:SL T C a):SE T C (.fz a):=λ X hX x h=>aKk (ha X hX x h)
theorem aR5{a:E}(ha:SL T C a):SE T C (.new a):=λ X hX x h=>aUv (ha X hX x h)
theorem pQ{c:E}(h:SE T C c)(ht:tv C c=cT (ev C c))(hk:∀ N sc x,kE T N c sc x=(bF T N c sc x&&lF x)):ST T C c:=λ X hX x q=>by
 rw[hk] at q;rw[ht];exact aT3 (h X hX x (aL q)) (aR q)
structure Sn(T:Tx)(C:Calls)(c:E):Prop where
 e:SE T C c:=by exact λ _ _ _ h=>no h
 t:ST T C c:=by exact λ _ _ _ h=>no h
 a:SA T C c:=by exact λ _ _ _ h=>no h
 o:SO T C c:=by exact λ _ _ _ h=>no h
 l:SL T C c:=by exact λ _ _ _ h=>no h
 i:SI T C c:=by exact λ _ _ _ _ h=>no h
theorem sn(c:E):Sn T C c:=by
 induction c with
 | var i=>exact {e:=aIG i,t:=pQ (aIG i) rfl λ _ _ _=>rfl }
 | int i=>exact {e:=aRW i }
 | bl b=>exact {e:=aJm b,t:=pQ (aJm b) rfl λ _ _ _=>rfl }
 | non=>exact {e:=aS4 }
 | str x=>exact {e:=aS2 x }
 | bin op a b aX bV=>exact {e:=aIR aX.e bV.e,t:=pQ (aIR aX.e bV.e) rfl λ _ _ _=>rfl }
 | un op a aX=>exact {e:=aUM aX.e }
 | cmp op a b aX bV=>exact {e:=aRA aX.e bV.e,t:=aSS aX.e bV.e }
 | ltl a b aX bV=>exact {}
 | and a b aX bV=>exact {e:=aTh aX.e bV.e,t:=aSQ aX.t bV.t }
 | or a b aX bV=>exact {e:=aU6 aX.e bV.e,t:=aTz aX.t bV.t }
 | not a aX=>exact {e:=aR6 aX.e,t:=aRE aX.t }
 | ite c a b ihc aX bV=>exact {e:=aSm ihc.t aX.e bV.e }
 | tup a aX=>exact {e:=aSv aX.a }
 | lst a aX=>exact {l:=aQ6 aX.a }
 | nil=>exact {a:=aS6 }
 | cons a r aX ihr=>exact {a:=aQa aX.e ihr.a,o:=aPg aX.e }
 | chn op gU a b c aX bV ihc=>exact {e:=aQ2 aX.e bV.e ihc.e,t:=aSw aX.e bV.e ihc.e }
 | con x ts=>exact {e:=aTn }
 | ix a b aX bV=>exact {e:=aJq aX.e bV.e,t:=pQ (aJq aX.e bV.e) rfl λ _ _ _=>rfl }
 | dsp k l m a b c i aX bV ihc ihi=>exact {}
 | tab x bA k ihk=>exact {e:=aSi ihk.e }
 | slL a lo hi aX ihlo ihhi=>exact {}
 | sl a lo hi aX ihlo ihhi=>exact {e:=aUo aX.e ihlo.o ihhi.o }
 | no=>exact {o:=aUE }
 | call f a aX=>exact {e:=aHY aX.a,t:=pQ (aHY aX.a) rfl λ _ _ _=>rfl }
 | blt b a aX=>exact {e:=aIJ aX.a,t:=pQ (aIJ aX.a) rfl λ _ _ _=>rfl }
 | isi a n aX=>exact {e:=aIP aX.e,t:=pQ (aIP aX.e) rfl λ _ _ _=>rfl }
 | bits a aX=>exact {e:=aPW aX.e }
 | app o a iho aX=>exact {e:=aSx iho.e aX.e }
 | pop o a iho aX=>exact {}
 | idx o a iho aX=>exact {e:=aTo iho.e aX.e }
 | lof a aX=>exact {l:=aQ5 aX.e }
 | lzip a b aX bV=>exact {l:=aOW aX.e bV.e }
 | lrg1 a aX=>exact {}
 | lrg2 a b aX bV=>exact {}
 | srt a aX=>exact {}
 | lrev a aX=>exact {}
 | lrep a b aX bV=>exact {l:=aPR aX.e bV.e }
 | comp elt t it cond ihelt ihit ihcond=>exact {l:=aOF ihelt.e ihit.i ihcond.t }
 | it a aX=>exact {i:=aTX aX.e }
 | rng1 a aX=>exact {i:=aPv aX.e }
 | rng2 a b aX bV=>exact {i:=aPx aX.e bV.e }
 | rng3 a b c aX bV ihc=>exact {i:=aPe aX.e bV.e ihc.e }
 | rrng a aX=>exact {}
 | enm a aX=>exact {i:=aSu aX.e }
 | zip a b aX bV=>exact {i:=aQE aX.e bV.e }
 | zip3 a b c aX bV ihc=>exact {}
 | fz a aX=>exact {e:=aUz aX.l }
 | new a aX=>exact {e:=aR5 aX.l }
end
section
variable (T : Tx)(C : Calls)
def SS(c:Sx):Prop:=∀ X,Ctx T C X->(∀ x,X.fn x=true)->∀ st,okS T X.N c X.env.scope st=true->PS X st (dG X.K (xs C c))
def mU(c:Sx):Prop:=∀ X,Ctx T C X->(∀ x,X.fn x=true)->∀ st,mM T X.N c X.env.scope st=true->dM X st (dG X.K (xs C c))
end
section
variable {T : Tx}{C : Calls}
theorem aHV{e t:qw}(h:rK e=true)(line:Nat)(env:Env):swapsWithSole [t] e line env=pure false:=aCd h _ _ _
theorem aMz{e:qw}{ts:List qw}{k:Nat}{p:Pos}{env:Env}(h:uX e=false):yy [.Tuple ts k p] e env=pure qz:=by
 cases e<;>first | rfl | exact no h.symm
theorem aLN{o i e:qw}{p:Pos}{env:Env}:yy [.Subscript o i p] e env=pure qz:=by
 cases e<;>rfl
theorem aSY{a b:Sx}(ha:SS T C a)(hb:mU T C b):mU T C (.seq a b):=λ X hX hf st h=>by
 cases st with
 | nil=>exact no h
 | cons s r =>
   obtain⟨h1,h2⟩:=gR h;exact aVc (ha X hX hf _ h1) (hb X hX hf _ h2)
theorem aPj:mU T C .skip:=λ X hX hf st h=>mG (P:=λ st=>dM X st _) h aRe
theorem aPh{e:E}:SS T C (.expr e):=λ X hX hf st h=>aWW (P:=λ st=>PS X st _) h λ x p h=>aQY ((sn e).e X hX _ (aL h)) (aCd (aR h) _ _ _)
theorem aRu{e:E}:SS T C (.ret e):=λ X hX hf st h=>aWm (P:=λ st=>PS X st _) h λ _ p h=>aJb (P:=λ v=>PS X (.Return v p) _) h λ x h=>aUT ((sn e).e X hX _ h)
theorem aSs{c:E}{a b:Sx}(ha:mU T C a)(hb:mU T C b):SS T C (.ifs c a b):=λ X hX hf st h=>aWq (P:=λ st=>PS X st _) h λ x y z p h=>aWj ((sn c).t X hX _ (aL (aL h))).1 (ha X hX hf _ (aR (aL h))) (hb X hX hf _ (aR h))
theorem aQX{i:Nat}{e:E}:SS T C (.set i e):=λ X hX hf st h=>aAV (P:=λ st=>PS X st _) h λ _ y p h=>lD (P:=λ ts=>PS X (.Assign ts y p) _) (aR h) λ _ g=>mP (P:=λ t=>PS X (.Assign [t] y p) _) g λ x q g =>
 aJU hX.nd (dT (aL g)) (aCY (aR g)) ((sn e).e X hX _ (aL (aL h))) (aCd (aR (aL h)) _ _ _) (.inl (hf _))
theorem aWK{K:FrG}{f:FL}(σ:St)(H:Hp)(Q:VK)(h:aP K (iD f) σ H Q):iG K f σ H Q:=by
 obtain⟨F,L,S,env,w,S',R,E,e,q⟩:=h;obtain⟨⟨ds,S1⟩,e1,e2⟩:=bind_some e;cases e2;exact⟨F,L,S,env,ds,_,R,E,e1,λ F1 L1 H1 p xs g1 R1 hF hL hH dl=>q _ L1 _ _ (g1.trans (Gr.new hF)) (R1.adopt hF hL hH) (Den.lst (bL.of cX) (dl.mono (dP hF)))⟩
theorem aVA{K:FrG}{f:FL}(σ:St)(H:Hp)(Q:VK)(h:aP K (eY f) σ H Q):iG K f σ H Q:=by
 obtain⟨F,L,S,env,w,S',R,E,e,q⟩:=h;obtain⟨⟨ds,S1⟩,e1,e2⟩:=bind_some e;cases e2;refine⟨F,L,S,env,ds,_,R,E,e1,λ F1 L1 H1 p xs g1 R1 hF hL hH dl=>q _ _ _ _ (g1.trans Gr.newLoc) (R1.adoptLoc hF hL hH dl) ⟨p,?_,rfl⟩⟩
 dsimp only;rw[<- R1.len,yAg (yAb _)];simp
theorem aWY{K:FrG}{f:FL}(nw:Bool):∀ (σ:St) (H:Hp) (Q:VK),aP K (match nw with | true=>eY f | false=>iD f) σ H Q->iG K f σ H Q:=by
 cases nw
 ·exact aWK
 ·exact aVA
theorem aPn{nw:Bool}{i:Nat}{e:E}:SS T C (.setC nw i e):=λ X hX hf st h=>aAV (P:=λ st=>PS X st _) h λ _ y p h=>lD (P:=λ ts=>PS X (.Assign ts y p) _) (aR h) λ _ g=>mP (P:=λ t=>PS X (.Assign [t] y p) _) g λ x q g=>by
 refine aWT (P:=λ e=>wW T X.N e X.env.scope y=true->PS X (.Assign [.Name x q] y p) (dG X.K (xs C (.setC nw i e)))) (aL (aL h)) (λ elt t it cond hL=>aKz (P:=λ y=>PS X (.Assign [.Name x q] y p) (dG X.K (xs C (.setC nw i (.comp elt t it cond))))) hL λ e tg iter ifs scope r h1 h2 h3 h4 h5 h6 h7=>?_) (aR (aL h))
 have sok:=aHX h1;refine aMC (g:=sQ X.K t) hX.nd (dT (aL g)) (aCY (aR g)) (.inl (hf _)) hX.calm sok (λ i x a1 a2=>aDe h2 i (gIm a1).1 x a1 a2) ((sn it).i X hX tg iter h4) (λ Y hY=>?_) (aAt X.K t) (λ Y hY=>?_) (λ Y hY=>?_) (aBK h5 X.env) (aWY nw)
 ·obtain⟨c1,c2,c3,c4⟩:=hX.comp sok.kind hY;rw[<- c4];exact aAE (.inl rfl) c1.nd c1.calm (by rw[c2,c3];exact h3)
 ·obtain⟨c1,c2,c3,c4⟩:=hX.comp sok.kind hY;cases ifs with
  | nil=>exact aKp (P:=λ cond=>lW Y [] (tv C cond)) h6 aF8
  | cons y r=>exact mG (P:=λ r=>lW Y (y::r) _) (aL h6) (aF1 ((sn cond).t Y c1 y (by rw[c2,c3];exact aR h6)).1)
 ·obtain⟨c1,c2,c3,c4⟩:=hX.comp sok.kind hY;rw[<- c4];exact(sn elt).e Y c1 e (by rw[c2,c3];exact h7)
theorem aV8{b:Bool}(h:(!b)=true):b=false:=by
 cases b with
 | false=>rfl
 | true=>exact no h
theorem aP3{t:Tg}{e:E}:SS T C (.setT t e):=λ X hX hf st h=>aAV (P:=λ st=>PS X st _) h λ _ v p h=>lD (P:=λ ts=>PS X (.Assign ts v p) _) (aR h) λ tg g=>by
 have h1:=aAE (.inr hf) hX.nd hX.calm (aR g)
 revert h1
 exact wI (P:=λ tg=>PG X tg (sQ X.K t)->PS X (.Assign [tg] v p) (dG X.K (xs C (.setT t e)))) (aL g) λ ts k q _ h1=>PS.weak (aI5 ((sn e).e X hX _ (aL (aL (aL h)))) h1 (aHV (aR (aL (aL h))) _ _) (aMz (aV8 (aR (aL h)))) rfl) (aRy (aAt X.K t))
theorem aS8{o i e:E}:SS T C (.put o i e):=λ X hX hf st h=>aAV (P:=λ st=>PS X st _) h λ _ z p h=>lD (P:=λ ts=>PS X (.Assign ts z p) _) (aR h) λ _ g=>aDQ (P:=λ t=>PS X (.Assign [t] z p) _) g λ x y q g h3 =>
 aUk ((sn o).e X hX _ (aL g)) ((sn i).e X hX _ (aR g)) ((sn e).e X hX _ (aL (aL h))) (aMB h3) (aHV (aR (aL h)) _ _) aLN
theorem aVI{n:Nat}{c:E}{b:Sx}(hb:mU T C b):SS T C (.wh n c b):=λ X hX hf st h=>aWC (P:=λ st=>PS X st _) h λ x y z p h=>mG (P:=λ z=>PS X (.While x y z p) _) (aL (aL h)) (aWU n hX.own ((sn c).t X hX _ (aR (aL h))).1 (hb X hX hf _ (aR h)))
theorem aQl{t:Tg}{it:E}{b:Sx}(hb:mU T C b):SS T C (.loop t it b):=λ X hX hf st h=>aV4 (P:=λ st=>PS X st _) h λ tg x y z p h=>mG (P:=λ z=>PS X (.For tg x y z p) _) (aL (aL (aL (aL h))))
 (aVm hX.own hX.calm ((sn it).i X hX _ _ (aR (aL (aL h)))) (aAE (.inr hf) hX.nd hX.calm (aR (aL (aL (aL h))))) (aAt X.K t) (hb X hX hf _ (aR h)) (aBK (aR (aL h)) X.env))
theorem ss(c:Sx):SS T C c/\mU T C c:=by
 have N2:∀ {c:Sx},SS T C c->(∀ N sc st,mM T N c sc st=false)->SS T C c/\mU T C c:=λ q hh=>⟨q,λ X hX hf st h=>by rw[hh] at h;exact no h⟩
 induction c with
 | skip=>exact⟨λ X hX hf st h=>no h,aPj⟩
 | seq a b aX bV=>exact⟨λ X hX hf st h=>no h,aSY aX.1 bV.2⟩
 | expr e=>exact N2 aPh λ _ _ _=>rfl
 | ret e=>exact N2 aRu λ _ _ _=>rfl
 | ifs c a b aX bV=>exact N2 (aSs aX.2 bV.2) λ _ _ _=>rfl
 | set i e=>exact N2 aQX λ _ _ _=>rfl
 | setC nw i e=>exact N2 aPn λ _ _ _=>rfl
 | setT t e=>exact N2 aP3 λ _ _ _=>rfl
 | put o i e=>exact N2 aS8 λ _ _ _=>rfl
 | wh n c b bV=>exact N2 (aVI bV.2) λ _ _ _=>rfl
 | loop t it b bV=>exact N2 (aQl bV.2) λ _ _ _=>rfl
end
structure Fn where
 name:Str
 np:Nat
 N:List Str
 body:Sx
 st:xk
noncomputable def aC(fs:List Fn):Nat->Calls
 | 0=>λ _=>qz
 | d+1=>λ f=>(fs[f]?).map λ F=>(F.np,gE (xs (aC fs d) F.body) F.N.length)
structure Tbs where
 tb:List (Str×List (Str×Tv))
 cn:List (Str×List Tv)
noncomputable def tab(fs:List Fn)(tb:Tbs):Tx:=⟨fs.map λ F=>(F.name,F.np),tb.tb,tb.cn⟩
noncomputable def aCQ:List Str->Bool
 | []=>true
 | x::r=>!r.contains x&&aCQ r
theorem aGy:∀ {l:List Str},aCQ l=true->l.Nodup
 | [],_=>List.nodup_nil
 | x::r,h=>by
   obtain⟨h1,h2⟩:=gR h;refine List.nodup_cons.mpr ⟨λ z=>?_,aGy h2⟩
   have:r.contains x=true:=by simpa using z
   rw[this] at h1;exact no h1
noncomputable def aAO(fs:List Fn)(tb:Tbs)(F:Fn):Bool:=
 decide ((eI F.st).kind=.function) && !(eI F.st).isCoroutine && !(eI F.st).isGenerator&&aCQ F.N&&decide (F.np<=F.N.length)&&(F.N.take F.np).all (loc (eI F.st))&&(eI F.st).names.all (λ y=>!decide (y.2=.free)) &&
  mM (tab fs tb) F.N F.body (eI F.st) (kR F.st)
theorem aSo{sc:zw}{x:Str}(h:loc sc x=true):sc.names.lookup x=qq .local\/sc.names.lookup x=qq .cell:=by
 unfold loc at h
 split at h<;>first | exact .inl (by assumption) | exact .inr (by assumption) | exact no h
theorem aNw{fs:List Fn}{tb:Tbs}{F:Fn}(h:aAO fs tb F=true):FnScope F.N (F.N.take F.np) (eI F.st)/\mM (tab fs tb) F.N F.body (eI F.st) (kR F.st)=true/\(F.N.take F.np).length=F.np:=by
 obtain⟨h,h8⟩:=gR h;obtain⟨h,h7⟩:=gR h;obtain⟨h,h6⟩:=gR h;obtain⟨h,h5⟩:=gR h;obtain⟨h,h4⟩:=gR h;obtain⟨h,h3⟩:=gR h;obtain⟨h1,h2⟩:=gR h;have hl:(F.N.take F.np).length=F.np:=by
  rw[yBv];have:=oqT h5;omega
 refine⟨⟨oqT h1,?_,?_,aGy h4,by rw[hl],λ x hx=>aSo (List.all_eq_true.mp h6 x hx),λ y hy=>?_⟩,h8,hl⟩
 ·cases q:(eI F.st).isCoroutine with
  | false=>rfl
  | true=>rw[q] at h2;exact no h2
 ·cases q:(eI F.st).isGenerator with
  | false=>rfl
  | true=>rw[q] at h3;exact no h3
 ·have:=List.all_eq_true.mp h7 y hy;intro z;rw[dqT z] at this;exact no this
section
variable {P : qu}{w : zx}{K : FrG}{mg : Str -> Option qx}{base : Heap}
theorem aHo(fs:List Fn)(tb:Tbs)(hk:∀ F∈fs,aAO fs tb F=true)(top:∀ F∈fs,∃ fa fd,Fun K F.name F.name F.st fa fd/\mg F.name=qq (.ref fa)/\mH K fd (F.N.take F.np) [])(hb:∀ x∈bltNames,mg x=qz)(ht:∀ x bA,(x,bA)∈tb.tb->∃ a,mg x=qq (.ref a)/\vO K w a bA)(hcn:∀ x ts,(x,ts)∈tb.cn->∃ a,mg x=qq (.ref a)/\rS K a ts) :
 ∀ d f F np call fa fd,fs[f]? = qq F->aC fs d f=qq (np,call)->Fun K F.name F.name F.st fa fd->FnOk P w K mg base sW d fa fd (F.N.take F.np) (sY K np call)
 | 0,f,F,np,call,fa,fd,eF,e,Fu=>by cases e
 | d+1,f,F,np,call,fa,fd,eF,e,Fu=>by
   have ih:=aHo fs tb hk top hb ht hcn d;have e2:(F.np,gE (xs (aC fs d) F.body) F.N.length)=(np,call):=by
    have e':(fs[f]?).map (λ F=>(F.np,gE (xs (aC fs d) F.body) F.N.length))=qq (np,call):=e
    rw[eF] at e';exact Option.some.inj e'
   cases e2;have hm:F∈fs:=xAl eF;obtain⟨sc,hok,hl⟩:=aNw (hk F hm);refine Fu.ok sc (λ vs H Q E h=>?_) λ cdv A outer s H vs Q E hr h=>?_
   ·obtain⟨F1,L,S,ws,w1,S',hn,R,dl,_⟩:=h;rw[hl,<- hn];exact dl.length.symm
   ·refine⟨_,(ss (T:=tab fs tb) (C:=aC fs d) F.body).2 _ ⟨sc.nd,rfl,rfl,sc.kind,⟨d,hr,λ f' np' call' x' e1 e2=>?_⟩,hb,λ x bA hx=>ht x bA hx,λ x ts hx=>hcn x ts hx⟩ (λ _=>rfl) _ hok,aRD h⟩
    have e2:((fs.map λ F=>(F.name,F.np))[f']?).map (·.1)=qq x':=e2
    rw[xAb] at e2;cases q:fs[f']? with
    | none=>rw[q] at e2;cases e2
    | some F' =>
      rw[q] at e2;have hx:F'.name=x':=Option.some.inj e2;subst hx;obtain⟨fa',fd',Fu',hmg',hbi'⟩:=top F' (xAl q);exact⟨fa',fd',_,hmg',Fu'.kp,hbi',ih f' F' np' call' fa' fd' q e1 Fu'⟩
end
structure TopFn(K:FrG)(F:Fn):Prop where
 ex:∃ (f:qv) (oc:qx) (od an:Option qv) (sl:Array (Option qx)) (kV dc pm cd ct:qx),yFc K xy F.name=qq (qq (.ref f)) /\
  K.lookup f=qq ⟨oc,od,.func (yDh F.name F.name (nN F.st) (kR F.st) (eI F.st) .none kV dc pm an cd ct),sl⟩/\yFu K cd F.name=true/\yCw K (.ref f)=true
theorem top_mk{K:FrG}{F:Fn}{f:qv}{oc:qx}{od an:Option qv}{sl:Array (Option qx)}{kV dc pm cd ct:qx}(a:yFc K xy F.name=qq (qq (.ref f)))
 (l:K.lookup f=qq ⟨oc,od,.func (yDh F.name F.name (nN F.st) (kR F.st) (eI F.st) .none kV dc pm an cd ct),sl⟩) (c:yFu K cd F.name=true) (k:yCw K (.ref f)=true):TopFn K F:=
 ⟨f,oc,od,an,sl,kV,dc,pm,cd,ct,a,l,c,k⟩
structure TabTop(K:FrG)(w:zx)(t:Str×List (Str×Tv)):Prop where
 ex:∃ (a:qv) (es:Array DictEntry) (ep:Nat),yFc K xy t.1=qq (qq (.ref a))/\K.lookup a=qq {cls:=.type "dict",data:=.dict es ep }/\rV w es.toList t.2
theorem tab_mk{K:FrG}{w:zx}{t:Str×List (Str×Tv)}{a:qv}{es:Array DictEntry}{ep:Nat}(a1:yFc K xy t.1=qq (qq (.ref a)))
 (l1:K.lookup a=qq {cls:=.type "dict",data:=.dict es ep }) (c1:rV w es.toList t.2):TabTop K w t:=⟨a,es,ep,a1,l1,c1⟩
structure ConTop(K:FrG)(t:Str×List Tv):Prop where
 ex:∃ a:qv,yFc K xy t.1=qq (qq (.ref a))/\rS K a t.2
theorem con_mk{K:FrG}{t:Str×List Tv}{a:qv}{aG:Array qx}{n:Nat}{od:Option qv}{sl:Array (Option qx)}(a1:yFc K xy t.1=qq (qq (.ref a)))
 (l1:K.lookup a=qq {cls:=.type "tuple",dict:=od,data:=.seq aG n,slots:=sl }) (z1:aG.size<=100) (c1:aAv aG.toList t.2):ConTop K t:=
 ⟨a,a1,_,aG,n,l1,rfl,rfl,xAi z1 (by decide),c1⟩
def aCm(F:Fn):Prop:=∀ (kV doc pm:qx) (an:Option qv) (cdv ct:qx) (us:List qx),us.length=(F.N.take F.np).length->bindArgs (yDh F.name F.name (nN F.st) (kR F.st) (eI F.st) .none kV doc pm an cdv ct) ⟨us,[]⟩=pure ((F.N.take F.np).zip us)
noncomputable def aDv(F:Fn):Bool:=match nN F.st with
 | ⟨[],as,qz,[],_,qz,_⟩=>decide (F.N.take F.np=as.map (·.arg))&&decide (F.N.take F.np).Nodup
 | _=>false
theorem aGT:∀ {ns:List Str}{us:List qx},ns.Nodup->us.length=ns.length->(∀ n∈ns,((ns.zip us).lookup n).isNone=false)/\ns.filterMap (λ n=>((ns.zip us).lookup n).map (n,·))=ns.zip us
 | [],us,_,_=>⟨λ n h=>(nomatch h),by cases us<;>rfl⟩
 | x::ns,[],_,h=>by cases h
 | x::ns,u::us,hn,hl=>by
   obtain⟨h1,h2⟩:=List.nodup_cons.mp hn;obtain⟨i1,i2⟩:=aGT h2 (Nat.succ.inj hl);have e:∀ n∈ns,((x,u)::ns.zip us).lookup n=(ns.zip us).lookup n:=λ n m=>by
    rw[yCd];have:(n==x)=false:=by
     rw[beq_eq_false_iff_ne];rintro rfl;exact h1 m
    rw[this]
   refine⟨λ n m=>?_,?_⟩
   ·rw[List.zip_cons_cons];rcases List.mem_cons.mp m with rfl | m
    ·rw[yCd,beq_self_eq_true];rfl
    ·rw[e n m];exact i1 n m
   ·rw[List.zip_cons_cons,yDa,yCd,beq_self_eq_true];show(x,u)::_=_;congr 1;rw[<- i2];rw[i2];have g:∀ l:List Str,(∀ n∈l,n∈ns)->l.filterMap (λ n=>(((x,u)::ns.zip us).lookup n).map (n,·))=l.filterMap (λ n=>((ns.zip us).lookup n).map (n,·)):=λ l=>by
     induction l with
     | nil=>intro _;rfl
     | cons y l ih=>intro hl;rw[yDa,yDa,e y (hl y xAd),ih λ n m=>hl n (xAg _ m)]
    rw[g ns λ n m=>m,i2]
theorem aOf{F:Fn}(h:aDv F=true):aCm F:=by
 intro kV doc pm an cdv ct us hu;unfold aDv at h
 split at h
 ·rename_i as kd df e;obtain⟨h1,h2⟩:=gR h;have h1:=oqT h1;rw[e];rw[h1] at hu h2 ⊢;obtain⟨i1,i2⟩:=aGT (oqT h2) hu;have m:((as.map (·.arg)).take (as.map (·.arg)).length).filter (λ n=>(((as.map (·.arg)).zip us).lookup n).isNone)=[]:=by
   rw[yAe,List.filter_eq_nil_iff];intro n hn;rw[i1 n hn];decide
  unfold bindArgs;have q:seqItems? Value.none=(pure qz:Sem (Option (Array qx))):=rfl;simp only[yDh,q,pure_bind,yDz,yFk,yDb,yFv,yHa,yCo,List.drop_nil,List.zip_nil_right,yHm,hu,gt_iff_lt,yCc,decide_false,yBi,yAt,if_false,m,List.isEmpty_nil,Bool.not_true,i2,Option.isNone_none]
 ·exact no h
theorem aFe:∀ {ns:List Int}{i:Int},i∈ns->yAi i<=PySem.W.WData.weightAll (ns.map PySem.W.WData.int)
 | [],i,h=>by cases h
 | n::r,i,h=>by
   have e:PySem.W.WData.weightAll ((n::r).map PySem.W.WData.int)=yAi n+1+PySem.W.WData.weightAll (r.map PySem.W.WData.int):=rfl;rw[e];rcases List.mem_cons.mp h with z | z
   ·subst z;omega
   ·have:=aFe z;omega
theorem aNV{ns:List Int}(h:PySem.W.WData.layableAll [PySem.W.WData.list (ns.map PySem.W.WData.int)]=true):∀ i∈ns,yAi i<=1048576:=λ i hi=>by
 have h1:PySem.W.WData.layable (PySem.W.WData.list (ns.map PySem.W.WData.int))=true:=by
  have:=List.all_eq_true.mp h _ xAd;exact this
 have h2:PySem.W.WData.weight (PySem.W.WData.list (ns.map PySem.W.WData.int))<=2^20:=oqT (gR h1).2;exact xAi (aFe hi) h2
theorem aQt{l:yHj}{n:Nat}{q:qu}{loose:List Str}{XP:(Str->Option qx)->Heap->Prop}{YP:zx->Heap->Prop}{d:DefRec}
 (hn:l.most=qq n) (hdf:d.params.defaults=[])
 (go:∀ (w:zx) (s₀ s₁:qj) (mg mb:Str->Option qx) (fa:qv) (a:qv) (vs:List qx) (ns:List Int),
   PySem.W.Ground q loose [] XP w s₀ mg mb s₁.heap->YP w s₁.heap->mg d.name=qq (.ref fa) ->
   s₁.heap.get? a=qq {cls:=.type "list",data:=.seq vs.toArray }->IntsAre vs ns->ns.length<=n->(∀ i∈ns,yAi i<=1048576)->s₁.gens = #[] ->
   vj (model l.prog w) callerA (.call (.ref fa) ⟨[.ref a],[]⟩) (λ r s'=>r=.ok (.ret (.bool true))/\OldK s₁.heap s'.heap/\s'.os=s₁.os/\AllBare s'.gens) s₁) :
 PySem.W.WalkO q loose XP YP l.row.toRowW d [] (λ f vs=>PySem.call f vs):=by
 intro w s₀ s₁ mg mb G Y fa o pm cd doc dV kV ho hd hcd hD hmg hg args vals as hpre hlay hrd hwl hlo;obtain rfl:dV=.none:=PySem.W.Dflts.none hD hdf;obtain rfl:kV=.none:=PySem.W.Dflts.noKw hD;obtain⟨a,vs,ns,rfl,rfl,hobj,hints,bX⟩:=Att.script_of hn hpre hwl;refine PySem.W.enter_call (codeAny_mono (go w s₀ s₁ mg mb fa a vs ns G Y hmg hobj hints bX (aNV hlay) hg) λ r s' hq=>?_)
 obtain⟨rfl,h2,h3,h4⟩:=hq;exact⟨.inl ⟨.bool true,.bool true,[],rfl,λ _=>rfl,.bool true,Att.post_true l _,λ _=>⟨List.Pairwise.nil,λ _ hm=>(nomatch hm)⟩⟩,h2,h3,h4⟩
theorem law_of{l:yHj}{q:qu}{loose:List Str}{XP:(Str->Option qx)->Heap->Prop}{YP:zx->Heap->Prop}{d:DefRec}{K:Params->FrG}(fs:List Fn)(tb:Tbs)(f D:Nat)(L:Fn)(x:Str)
 (hn:l.most=qq 63) (hdf:d.params.defaults=[]) (hr:Room D callerA) (hY:∀ (w:zx) (h:Heap),YP w h->(K w.params).In h)
 (hk:∀ F∈fs,aAO fs tb F=true) (hb:∀ F∈fs,aCm F) (hL:fs[f]? = qq L) (hname:L.name=d.name) (hps:L.N.take L.np=[x])
 (top:∀ w:zx,∀ h:Heap,(K w.params).In h->∀ F∈fs,TopFn (K w.params) F) (tbl:∀ w:zx,∀ h:Heap,(K w.params).In h->∀ t∈tb.tb,TabTop (K w.params) w t) (cnl:∀ w:zx,∀ h:Heap,(K w.params).In h->∀ t∈tb.cn,ConTop (K w.params) t) (tbn:∀ w:zx,∀ h:Heap,(K w.params).In h->∀ x∈bltNames,yFc (K w.params) xy x=qq qz)
 (main:∀ ns:List Int,ns.length<=63->(∀ i∈ns,yAi i<=1048576)->∃ call S',aC fs D f=qq (1,call)/\call [.d (.list (ns.map yAk))] []=qq (.d (.bool true),S')) :
 PySem.W.WalkO q loose XP YP l.row.toRowW d [] (λ f vs=>PySem.call f vs):=by
 obtain⟨call,S0,hcall,_⟩:=main [] (by simp) (by simp)
 refine aQt hn hdf λ w s₀ s₁ mg mb fa a vs ns G Y hmg hobj hints bX hsm hg=>?_
 have KX:=hY w _ Y;have tops:∀ F∈fs,∃ fa fd,Fun (K w.params) F.name F.name F.st fa fd/\mg F.name=qq (.ref fa)/\mH (K w.params) fd (F.N.take F.np) []:=λ F hF=>by
  obtain⟨f,oc,od,an,sl,kV,dc,pm,cd,ct,a,l,c,k⟩:=(top w _ KX F hF).ex;have Fu:=aRB (st:=F.st) l c k;exact⟨f,_,Fu,PySem.W.mg_of KX G.T.g a,Fu.binds (hb F hF)⟩
 have hblt:∀ x∈bltNames,mg x=qz:=λ y hy=>PySem.W.mg_none_of KX G.T.g (tbn w _ KX y hy)
 have htab:∀ x bA,(x,bA)∈tb.tb->∃ a,mg x=qq (.ref a)/\vO (K w.params) w a bA:=λ x bA hx=>by
  obtain⟨a,es,ep,a1,l1,c1⟩:=(tbl w _ KX (x,bA) hx).ex;exact⟨a,PySem.W.mg_of KX G.T.g a1,es,ep,l1,c1⟩
 have hcon:∀ x ts,(x,ts)∈tb.cn->∃ a,mg x=qq (.ref a)/\rS (K w.params) a ts:=λ x ts hx=>by
  obtain⟨a,a1,c1⟩:=(cnl w _ KX (x,ts) hx).ex;exact⟨a,PySem.W.mg_of KX G.T.g a1,c1⟩
 obtain⟨fa1,fd,Fu,hmg1,hbi⟩:=tops L (xAl hL);rw[<- hname,hmg1] at hmg;cases hmg;refine L2.law_call (fd:=fd) (sp:=sY (K w.params) 1 call) (CX:=sW) (x:=x) KX G.T.g G.T.b G.T.builtins G.T.nolimit hg hobj hints (xAi bX (by decide)) hr (λ base kb nb=>?_) (λ s u=>?_) (λ H hO hS=>?_) λ _ _ _ z=>z
 ·have P1:=aHo (P:=l.prog) (w:=w) (base:=base) fs tb hk tops hblt htab hcon D f L 1 call _ _ hL hcall Fu;rw[hps] at P1;exact P1
 ·obtain⟨oc,od,kV,doc,pm,an,cdv,ct,osl,rfl,lk,hcd⟩:=Fu.ex;have:=hb L (xAl hL) kV doc pm an cdv ct [u] (by rw[hps];rfl)
  rw[hps] at this;exact .of_eq this
 ·obtain⟨call',S',hcall',hrun⟩:=main ns bX hsm;rw[hcall] at hcall';cases hcall';refine⟨H,[],[],[.d (.list (ns.map yAk))],.d (.bool true),S',rfl,⟨bZ.refl _,List.nodup_nil,rfl,λ n a ds e=>by simp at e,λ n a e=>by simp at e⟩,.cons (Den.lst hS (DenL.of_ints ns)) .nil,hrun,λ F' L' H' v g R d=>?_⟩
  cases (show Den (K w.params) F' (.bool true) v from d)
  rfl
end EV
namespace EV
open PySem L2
theorem aCp{α:Type}(S:List α)(a b:α):(S++[a]).set S.length b=S++[b]:=by simp
theorem aCl{α:Type}{t:Tg}{fc:FT}{fe:FE}{env:aZ}{S:aE}(enc g:α->D)(p:α->Bool):∀ (l:List α) (aF:List D),aF.length+l.length<=qy ->
 (∀ a∈l,∃ e1,t.put (enc a) env=qq e1/\(∀ S',fc e1 S'=qq (p a,S'))/\(p a=true->∀ S',fe e1 S'=qq (.d (g a),S'))) ->
 hJ t fc fe S.length env (l.map enc) (S++[qq aF])=qq (S++[qq (aF++(l.filter p).map g)])
 | [],aF,_,_=>by simp[hJ]
 | a::l,aF,hz,h=>by
   obtain⟨e1,h1,h2,h3⟩:=h a xAd;have hlt:aF.length<qy:=by simp at hz;omega
   have cZ:=λ x (hx:x∈l)=>h x (xAg _ hx)
   simp only[yAs,hJ,h1,yCk,h2];cases hp:p a with
   | false =>
     simp only[yAt,if_false];rw[aCl enc g p l aF (by simp at hz;omega) cZ]
     simp[yGc,hp]
   | true =>
     have ea:dZ (S++[qq aF]) (.loc S.length) (.d (g a))=qq (.d .none,S++[qq (aF++[g a])]):=by
      unfold dZ;simp only[yAg (yAb S.length),yBn,yBo];rw[if_pos hlt,aCp]
     simp only[if_true,h3 hp,yCk,ea];rw[aCl enc g p l (aF++[g a]) (by simp at hz ⊢;omega) cZ]
     simp[yGc,hp]
theorem aOv{α:Type}{t:Tg}{fi:FL}{fc:FT}{fe:FE}{env:aZ}{S S1:aE}(enc g:α->D)(p:α->Bool)(l:List α)(hi:fi env S=qq (l.map enc,S1))(hz:l.length<=qy)
 (h:∀ a∈l,∃ e1,t.put (enc a) (clr t.slots env)=qq e1/\(∀ S',fc e1 S'=qq (p a,S'))/\(p a=true->∀ S',fe e1 S'=qq (.d (g a),S'))):hU t fi fc fe env S=qq ((l.filter p).map g,S1):=by
 unfold hU;rw[hi];simp only[yCk];rw[aCl enc g p l [] (by simpa using hz) h]
 simp
theorem aBY{α:Type}{t:Tg}{fc:FT}{fe:FE}{env:aZ}{S:aE}(enc g:α->D)(p:α->Bool):∀ (l:List α) (aF:List D),aF.length+l.length<=qy ->
 (∀ a∈l,∃ e1,t.put (enc a) env=qq e1/\(∀ aF,fc e1 (S++[qq aF])=qq (p a,S++[qq aF]))/\(p a=true->∀ aF,fe e1 (S++[qq aF])=qq (.d (g a),S++[qq aF]))) ->
 hJ t fc fe S.length env (l.map enc) (S++[qq aF])=qq (S++[qq (aF++(l.filter p).map g)])
 | [],aF,_,_=>by simp[hJ]
 | a::l,aF,hz,h=>by
   obtain⟨e1,h1,h2,h3⟩:=h a xAd;have hlt:aF.length<qy:=by simp at hz;omega
   have cZ:=λ x (hx:x∈l)=>h x (xAg _ hx)
   simp only[yAs,hJ,h1,yCk,h2];cases hp:p a with
   | false =>
     simp only[yAt,if_false];rw[aBY enc g p l aF (by simp at hz;omega) cZ]
     simp[yGc,hp]
   | true =>
     have ea:dZ (S++[qq aF]) (.loc S.length) (.d (g a))=qq (.d .none,S++[qq (aF++[g a])]):=by
      unfold dZ;simp only[yAg (yAb S.length),yBn,yBo];rw[if_pos hlt,aCp]
     simp only[if_true,h3 hp,yCk,ea];rw[aBY enc g p l (aF++[g a]) (by simp at hz ⊢;omega) cZ]
     simp[yGc,hp]
theorem aCk{α:Type}{t:Tg}{fi:FL}{fc:FT}{fe:FE}{env:aZ}{S S1:aE}(enc g:α->D)(p:α->Bool)(l:List α)(hi:fi env S=qq (l.map enc,S1))(hz:l.length<=qy)
 (h:∀ a∈l,∃ e1,t.put (enc a) (clr t.slots env)=qq e1/\(∀ aF,fc e1 (S1++[qq aF])=qq (p a,S1++[qq aF]))/\(p a=true->∀ aF,fe e1 (S1++[qq aF])=qq (.d (g a),S1++[qq aF]))):hU t fi fc fe env S=qq ((l.filter p).map g,S1):=by
 unfold hU;rw[hi];simp only[yCk];rw[aBY enc g p l [] (by simpa using hz) h]
 simp
theorem kP{α:Type}{t:Tg}{fi:FL}{fe:FE}{env:aZ}{S S1:aE}(enc g:α->D)(l:List α)(hi:fi env S=qq (l.map enc,S1))(hz:l.length<=qy)
 (h:∀ a∈l,∃ e1,t.put (enc a) (clr t.slots env)=qq e1/\∀ S',fe e1 S'=qq (.d (g a),S')):hU t fi oK fe env S=qq (l.map g,S1):=by
 rw[aOv (fc:=oK) enc g (λ _=>true) l hi hz λ a ha=>let ⟨e1,h1,h2⟩:=h a ha;⟨e1,h1,λ _=>rfl,λ _=>h2⟩]
 rw[List.filter_eq_self.mpr (λ _ _=>rfl)]
theorem aGV{t:Tg}{fb:FS}{S:aE}(P:aZ->Prop):∀ (ds:List D) (env:aZ),P env->(∀ d∈ds,∀ env,P env->∃ e1 aI,t.put d env=qq e1/\fb e1 S=qq (.nx aI,S)/\P aI) ->
 ∃ aI,eZ t fb ds env S=qq (.nx aI,S)/\P aI
 | [],env,h0,_=>⟨env,rfl,h0⟩
 | d::ds,env,h0,h=>by
   obtain⟨e1,aI,h1,h2,h3⟩:=h d xAd env h0;obtain⟨env2,h4,h5⟩:=aGV P ds aI h3 λ x hx=>h x (xAg _ hx)
   exact⟨env2,by simp only[eZ,h1,yCk,h2];exact h4,h5⟩
theorem aGs(n:Nat):∀ lo:Int,jZ lo n=(yAx n).map λ k=>yAk (lo+(k:Nat)):=by
 induction n with
 | zero=>intro lo;rfl
 | succ n ih =>
   intro lo;rw[jZ,ih,List.range_succ_eq_map,yAs,yBu];congr 1
   ·simp
   ·apply yCf;intro k _;simp only[Function.comp];congr 1
    push_cast
    omega
theorem aFM:∀ (ds:List D) (k:Int),iN k ds=(ds.zipIdx).map λ p=>yBf [.int (k+(p.2:Nat)),p.1]
 | [],_=>rfl
 | d::r,k=>by
   rw[iN,aFM r (k+1),yHc,yAs];congr 1
   ·simp
   ·rw[List.zipIdx_succ,yBu];apply yCf;intro p _;simp only[Function.comp];congr 3
    push_cast
    omega
end EV
namespace BM
theorem tT(n:Nat):0<2^n:=xAf n
noncomputable def oG(n w:Nat):List Bool:=(yAx w).map n.testBit
theorem aNn(n w i:Nat):(oG n w).getD i false=(decide (i<w)&&n.testBit i):=by
 unfold oG
 by_cases h:i<w
 ·simp[yGv,h]
 ·simp[yGv,h]
theorem cL{n w i:Nat}(h:n<2^w)(hi:w<=i):n.testBit i=false:=yDf (xAc h (yAr (by decide) hi))
noncomputable def bl(n:Nat):Nat:=if n=0 then 0 else n.log2+1
theorem uM{n:Nat}(h:n≠0):bl n=n.log2+1:=if_neg h
theorem pS(n:Nat):n<2^bl n:=by
 by_cases h:n=0
 ·subst h;decide
 ·rw[uM h];exact Nat.lt_log2_self
theorem aCS{n:Nat}(h:n≠0):n.testBit (bl n-1)=true:=by
 rw[uM h,yGn];have h1:2^n.log2<=n:=Nat.log2_self_le h;have h2:n<2^(n.log2+1):=Nat.lt_log2_self;rw[yDp];have:n/2^n.log2=1:=by
  apply Nat.div_eq_of_lt_le
  ·omega
  ·rw[yFd] at h2;omega
 simp[this]
theorem rZ{n w:Nat}(h:n<2^w):bl n<=w:=by
 by_cases h0:n=0
 ·subst h0;simp[bl]
 ·rw[uM h0];exact(Nat.log2_lt h0).mpr h
theorem aBS{n k:Nat}(h1:n<2^k)(h2:k=0\/n.testBit (k-1)=true):bl n=k:=by
 rcases h2 with h2 | h2
 ·subst h2;have:n=0:=by simpa using h1
  subst this;rfl
 ·have h3:=rZ h1;rcases Nat.lt_or_ge (bl n) k with h4 | h4
  ·exfalso;have:=cL (pS n) (show bl n<=k-1 by omega)
   rw[this] at h2;cases h2
  ·omega
theorem cK(w i:Nat):(2^w-1).testBit i=decide (i<w):=Nat.testBit_two_pow_sub_one w i
noncomputable def lG(l:List Bool):Nat:=(l.takeWhile id).length
theorem aGg(r:List Bool):lG (true::r)=lG r+1:=by simp[lG]
theorem aFp(r:List Bool):lG (false::r)=0:=by simp[lG]
theorem aGD:∀ (l:List Bool) (i:Nat),i<lG l->l[i]? = qq true
 | [],i,h=>by simp[lG] at h
 | false::r,i,h=>by simp[aFp] at h
 | true::r,0,h=>rfl
 | true::r,i+1,h=>by rw[aGg] at h;simpa using aGD r i (by omega)
theorem aLy(m:Nat):(2*m+1)^^^(2*m+1+1)=2*(m^^^(m+1))+1:=by
 apply xAm;intro i;cases i with
 | zero=>rw[yAm];simp[yDg];omega
 | succ i =>
   rw[yAm,yCs,yCs,yCs];rw[show(2*m+1)/2=m by omega,show(2*m+1+1)/2=m+1 by omega,show(2*(m^^^(m+1))+1)/2=(m^^^(m+1)) by omega,yAm]
theorem aLs(m:Nat):(2*m)^^^(2*m+1)=1:=by
 apply xAm;intro i;cases i with
 | zero=>rw[yAm];simp[yDg]
 | succ i =>
   rw[yAm,yCs,yCs,yCs];rw[show(2*m)/2=m by omega,show(2*m+1)/2=m by omega]
   simp
theorem aMO(x:Nat):bl (2*x+1)=bl x+1:=by
 apply aBS
 ·have:=pS x;rw[yFd];omega
 ·right
  rw[yGn]
  by_cases h:x=0
  ·subst h;rfl
  ·have h2:=aCS h;have h3:bl x=(bl x-1)+1:=by rw[uM h];omega
   rw[h3,yCs,show(2*x+1)/2=x by omega]
   exact h2
theorem aFi(n:Nat):n^^^(n+1)≠0:=by
 intro h;have:n=n+1:=by
  have:=congrArg (λ z=>z^^^(n+1)) h
  simpa [Nat.xor_assoc] using this
 omega
theorem aBR{n:Nat}(h:n≠0):1<=bl n:=by rw[uM h];omega
theorem aMh(n w:Nat):oG n (w+1)=n.testBit 0::oG (n/2) w:=by
 unfold oG;rw[List.range_succ_eq_map,yAs,yBu];congr 1;apply yCf;intro i _;simp only[Function.comp];exact yCs n i
theorem aFs:∀ (w n:Nat),n<2^w->bl (n^^^(n+1))-1=lG (oG n w)
 | 0,n,h=>by
   have:n=0:=by simpa using h
   subst this;rfl
 | w+1,n,h=>by
   rw[aMh];have hd:n/2<2^w:=by rw[yFd] at h;omega
   have ih:=aFs w (n/2) hd;rcases yAq n with p | p
   ·have e:n=2*(n/2):=by omega
    have e2:n^^^(n+1)=1:=by rw[e];exact aLs _
    rw[e2,yDg,p];rw[show bl 1=1 from by decide];simp[aFp]
   ·have e:n=2*(n/2)+1:=by omega
    have e2:n^^^(n+1)=2*((n/2)^^^(n/2+1))+1:=by
     have:=aLy (n/2);rw[<- e] at this;exact this
    rw[e2,aMO,yDg,p];simp only[decide_true,aGg];have:=aBR (aFi (n/2));omega
noncomputable def hi(l:List Bool):Nat:=l.length-lG (l.reverse.map (!·))
theorem aLL{n w:Nat}(h:n<2^w):n^^^(2^w-1)<2^w:=yBw h (by have:=tT w;omega)
noncomputable def dC(n w v:Nat):Nat:=if n&&&2^(w-1)=0 then n else n|||((2^v-1)^^^(2^w-1))
theorem aER(n k:Nat):(n&&&2^k=0) ↔ n.testBit k=false:=by
 constructor
 ·intro h;have:=congrArg (λ z=>z.testBit k) h
  simpa [yAh,Nat.testBit_two_pow_self] using this
 ·intro h;apply xAm;intro i;rw[yAh,yDd,yBd]
  by_cases e:k=i
  ·subst e;simp[h]
  ·simp[e]
theorem qO{n w v:Nat}(h:n<2^w)(hw:0<w)(hv:w<=v)(i:Nat):(dC n w v).testBit i=if i<w then n.testBit i else (decide (i<v)&&n.testBit (w-1)):=by
 unfold dC;cases e:n.testBit (w-1) with
 | false =>
   rw[if_pos ((aER _ _).mpr e)]
   split
   ·rfl
   ·rw[cL h (by omega)];simp
 | true =>
   rw[if_neg (λ z=>by rw[(aER _ _).mp z] at e;cases e)]
   rw[xAp,yAm,cK,cK]
   split
   ·rename_i hi;have:i<v:=by omega
    simp[hi,this]
   ·rename_i hi;rw[cL h (by omega)]
    simp[hi]
theorem tI{n w v:Nat}(h:n<2^w)(hw:0<w)(hv:w<=v):dC n w v<2^v:=by
 apply yCn;intro i hi;rw[qO h hw hv,if_neg (by omega)]
 have:¬ i<v:=by omega
 simp[this]
noncomputable def aAo(x d:Nat):Nat:=x/2^d*2^d
theorem yN(x d i:Nat):(aAo x d).testBit i=(decide (d<=i)&&x.testBit i):=by
 unfold aAo;rw[Nat.testBit_mul_two_pow]
 by_cases h:d<=i
 ·simp[h,yCv,show i-d+d=i by omega]
 ·simp[h]
noncomputable def oS(x w:Nat):Nat:=2^w-1-x
theorem nJ{x w:Nat}(h:x<2^w)(i:Nat):(oS x w).testBit i=(decide (i<w) && !x.testBit i):=by
 unfold oS;rw[show 2^w-1-x=2^w-(x+1) by omega]
 exact Nat.testBit_two_pow_sub_succ h i
noncomputable def uV(l g w:Nat):Nat:=(2^w-1)^^^(2^bl (l^^^g)-1)
theorem aBC{l g w:Nat}(hl:l<2^w)(hg:g<2^w)(i:Nat):(uV l g w).testBit i=(decide (i<w)&&decide (bl (l^^^g)<=i)):=by
 unfold uV;rw[yAm,cK,cK];have hd:bl (l^^^g)<=w:=rZ (yBw hl hg)
 by_cases h1:i<w<;>by_cases h2:i<bl (l^^^g)
 ·simp[h1,h2,show ¬ bl (l^^^g)<=i by omega]
 ·simp[h1,h2,show bl (l^^^g)<=i by omega]
 ·omega
 ·simp[h1,h2]
noncomputable def oF(l g w:Nat):Nat:=uV l g w&&&l
noncomputable def tY(l g w:Nat):Nat:=uV l g w^^^oF l g w
theorem aNG{l g w:Nat}(hl:l<2^w)(hg:g<2^w):oF l g w=aAo l (bl (l^^^g)):=by
 apply xAm;intro i;rw[oF,yAh,aBC hl hg,yN]
 by_cases h1:i<w
 ·simp[h1]
 ·rw[cL hl (by omega)];simp
theorem aLQ{l g w:Nat}(hl:l<2^w)(hg:g<2^w):tY l g w=aAo (oS l w) (bl (l^^^g)):=by
 apply xAm;intro i;rw[tY,yAm,oF,yAh,aBC hl hg,yN,nJ hl]
 by_cases h1:i<w<;>by_cases h2:bl (l^^^g)<=i<;>cases l.testBit i<;>simp[h1,h2]
theorem aXg{l g i:Nat}(h:bl (l^^^g)<=i):l.testBit i=g.testBit i:=by
 have:=cL (pS (l^^^g)) h;rw[yAm] at this;cases a:l.testBit i<;>cases b:g.testBit i<;>simp[a,b] at this ⊢
theorem aM1{l g d:Nat}(h:l^^^g<2^d):l/2^d=g/2^d:=by
 apply xAm;intro i;rw[yCv,yCv];have:=cL h (show d<=i+d by omega)
 rw[yAm] at this;cases a:l.testBit (i+d)<;>cases b:g.testBit (i+d)<;>simp[a,b] at this ⊢
theorem aLU{l m g:Nat}(h1:l<=m)(h2:m<=g):m/2^bl (l^^^g)=l/2^bl (l^^^g):=by
 have e:=aM1 (pS (l^^^g));have a:=Nat.div_le_div_right (c:=2^bl (l^^^g)) h1;have b:=Nat.div_le_div_right (c:=2^bl (l^^^g)) h2;omega
theorem aE1{l m g i:Nat}(h1:l<=m)(h2:m<=g)(hi:bl (l^^^g)<=i):m.testBit i=l.testBit i:=by
 have:=congrArg (λ z=>z.testBit (i-bl (l^^^g))) (aLU h1 h2)
 simp only[yCv] at this;rwa [show i-bl (l^^^g)+bl (l^^^g)=i by omega] at this
theorem aLf{l m g w:Nat}(hl:l<2^w)(hg:g<2^w)(h1:l<=m)(h2:m<=g):m&&&tY l g w=0:=by
 apply xAm;intro i;rw[yAh,aLQ hl hg,yN,nJ hl,yBd]
 by_cases h:bl (l^^^g)<=i
 ·rw[aE1 h1 h2 h];cases l.testBit i<;>simp
 ·simp[h]
theorem aLF{l m g w:Nat}(hl:l<2^w)(hg:g<2^w)(h1:l<=m)(h2:m<=g):m&&&oF l g w=oF l g w:=by
 apply xAm;intro i;rw[yAh,aNG hl hg,yN]
 by_cases h:bl (l^^^g)<=i
 ·rw[aE1 h1 h2 h];cases l.testBit i<;>simp
 ·simp[h]
end BM
namespace BM
theorem eV(n k i:Nat):(n/2^k).testBit i=n.testBit (k+i):=by rw[yCv,yEa]
theorem jN(n:Nat):n=0 ↔ ∀ i,n.testBit i=false:=by
 constructor
 ·rintro rfl i;simp
 ·intro h;apply xAm;intro i;simp[h i]
theorem aBq(m k:Nat):m/2^k=0 ↔ ∀ i,k<=i->m.testBit i=false:=by
 rw[jN];constructor
 ·intro h i hi;have:=h (i-k);rw[eV,show k+(i-k)=i by omega] at this
  exact this
 ·intro h i;rw[eV];exact h _ (by omega)
noncomputable def dA(a b:Nat):Nat:=a-(a&&&b)
theorem aQA(a b:Nat):dA a b=a^^^(a&&&b):=by
 have h:(a^^^(a&&&b))+(a&&&b)=a:=by
  have key:∀ (n x y:Nat),x<=n->(x^^^(x&&&y))+(x&&&y)=x:=by
   intro n
   induction n with
   | zero =>
     intro x y hx;have:x=0:=by omega
     subst this;simp
   | succ n ih =>
     intro x y hx
     by_cases h0:x=0
     ·subst h0;simp
     ·have ih':=ih (x/2) (y/2) (by omega)
      have e1:(x^^^(x&&&y))/2=(x/2)^^^((x/2)&&&(y/2)):=by
       apply xAm;intro i;simp[Nat.testBit_div_two]
      have e2:(x&&&y)/2=(x/2)&&&(y/2):=by
       apply xAm;intro i;simp[Nat.testBit_div_two]
      have m1:(x^^^(x&&&y))%2=(x%2+(x&&&y)%2)%2:=by
       have a1:=yDv (x^^^(x&&&y)) 0;have a2:=yDv x 0;have a3:=yDv (x&&&y) 0;simp only[Nat.pow_zero,Nat.div_one] at a1 a2 a3;rw[<- a1,<- a2,<- a3,yAm,yAh];cases x.testBit 0<;>cases y.testBit 0<;>rfl
      have m2:(x&&&y)%2<=x%2:=by
       have a2:=yDv x 0;have a3:=yDv (x&&&y) 0;simp only[Nat.pow_zero,Nat.div_one] at a2 a3;rw[<- a2,<- a3,yAh];cases x.testBit 0<;>cases y.testBit 0<;>decide
      rw[<- e1,<- e2] at ih';omega
  exact key a a b (yAb _)
 unfold dA;omega
theorem jM(a b i:Nat):(dA a b).testBit i=(a.testBit i && !b.testBit i):=by
 rw[aQA,yAm,yAh];cases a.testBit i<;>cases b.testBit i<;>rfl
theorem aBH(a b:Nat):dA a b=0 ↔ ∀ i,a.testBit i=true->b.testBit i=true:=by
 rw[jN];constructor
 ·intro h i ha;have:=h i;rw[jM,ha] at this;simpa using this
 ·intro h i;rw[jM];cases ha:a.testBit i with
  | false=>rfl
  | true=>rw[h i ha];rfl
theorem aE5{x k q:Nat}(h:x<2^k)(i:Nat):(x+q*2^k).testBit i=if i<k then x.testBit i else q.testBit (i-k):=by
 rw[yEa,yHk,Nat.testBit_two_pow_mul_add _ h]
theorem aQd{n w:Nat}(h:n<2^w)(hw:0<w):n/2^(w-1)=(n.testBit (w-1)).toNat:=by
 rw[yDv];have:n/2^(w-1)<2:=by
  rw[yEo (xAf _),<- Nat.pow_succ'];rw[show(w-1).succ=w by omega]
  exact h
 exact(Nat.mod_eq_of_lt this).symm
theorem aFk(p:Nat->Bool):∀ K,p K=false->∃ k,k<=K/\(∀ j,j<k->p j=true)/\p k=false:=by
 intro K
 induction K using Nat.strongRecOn with
 | ind K ih =>
   intro h
   by_cases c:∃ j,j<K/\p j=false
   ·obtain⟨j,hj,hp⟩:=c;obtain⟨k,h1,h2,h3⟩:=ih j hj hp;exact⟨k,by omega,h2,h3⟩
   ·refine⟨K,yAb _,λ j hj=>?_,h⟩
    cases q:p j with
    | true=>rfl
    | false=>exact absurd ⟨j,hj,q⟩ c
end BM
namespace BM
open PySem
theorem aKt(a b:Nat):yEg a b=((a&&&b:Nat):Int):=by
 unfold yEg;rw[dqT (yGm a),dqT (yGm b)];simp
theorem bOr(a b:Nat):yGy a b=((a|||b:Nat):Int):=by
 unfold yGy yEg yBr;rw[dqF (show ¬ (0:Int) <= -(a:Int)-1 by omega),dqF (show ¬ (0:Int) <= -(b:Int)-1 by omega)]
 have e1:(-(-(a:Int)-1)-1).toNat=a:=by omega
 have e2:(-(-(b:Int)-1)-1).toNat=b:=by omega
 simp only[e1,e2];omega
theorem aE7:∀ (n a b:Nat),a<=n->(a^^^b)+(a&&&b)=(a|||b)
 | 0,a,b,h=>by
   have:a=0:=by omega
   subst this;simp
 | n+1,a,b,h=>by
   by_cases ha:a=0
   ·subst ha;simp
   have ih:=aE7 n (a/2) (b/2) (by omega)
   have x2:=Nat.xor_div_two (a:=a) (b:=b);have a2:=Nat.and_div_two (a:=a) (b:=b);have o2:=Nat.or_div_two (a:=a) (b:=b);have xm:(a^^^b)%2=(a%2+b%2)%2:=by
    have:=yAm a b 0;simp only[yDg] at this;rcases yAq a with p | p<;>rcases yAq b with q | q<;>rcases yAq (a^^^b) with r | r<;>simp[p,q,r] at this ⊢
   have am:(a&&&b)%2=(a%2)*(b%2):=by
    have:=yAh a b 0;simp only[yDg] at this;rcases yAq a with p | p<;>rcases yAq b with q | q<;>rcases yAq (a&&&b) with r | r<;>simp[p,q,r] at this ⊢
   have om:(a|||b)%2=(a%2+b%2)-(a%2)*(b%2):=by
    have:=xAp a b 0;simp only[yDg] at this;rcases yAq a with p | p<;>rcases yAq b with q | q<;>rcases yAq (a|||b) with r | r<;>simp[p,q,r] at this ⊢
   have h1:=yEp (a^^^b) 2;have h2:=yEp (a&&&b) 2;have h3:=yEp (a|||b) 2
   rcases yAq a with p | p<;>rcases yAq b with q | q<;>rw[p,q] at xm am om<;>omega
theorem aW2(a b:Nat):yGp a b=((a^^^b:Nat):Int):=by
 unfold yGp;rw[aKt,bOr];have:=aE7 a a b (yAb _);omega
theorem aMj(a:Nat):((a:Int)).natAbs=a:=by omega
theorem aE2(a:Nat):yAi a=if a=0 then 0 else a.log2+1:=by
 unfold yAi
 by_cases h:a=0
 ·subst h;rfl
 ·rw[if_neg h,if_neg (by simp;omega),aMj]
theorem aL6{a n:Nat}(h:a<2^n):yAi a<=n:=by
 rw[aE2]
 split
 ·exact yEy _
 ·rename_i h0;exact(Nat.log2_lt h0).mpr h
theorem aCe(n:Nat):((2^n:Nat):Int)=(2:Int)^n:=by simp
theorem aWn{x y:Int}(h:y.natAbs.log2<9000):yCt x y=false:=by
 unfold yCt;dsimp only;have:¬ ((if (y==0)=true then 0 else y.natAbs.log2/30+1)>300):=by
  split
  ·omega
  ·omega
 rw[dqF this];rfl
end BM
namespace EV
open PySem L2 BM
theorem dR(i j:Int):bP .Add (.int i) (.int j)=qq (.int (i+j)):=rfl
theorem cR(i j:Int):bP .Sub (.int i) (.int j)=qq (.int (i-j)):=rfl
theorem dJ(a b:Nat):bP .BitAnd (.int a) (.int b)=qq (.int ((a&&&b:Nat):Int)):=by simp only[bP,kU,aKt]
theorem eX(a b:Nat):bP .BitOr (.int a) (.int b)=qq (.int ((a|||b:Nat):Int)):=by simp only[bP,kU,bOr]
theorem iJ(a b:Nat):bP .BitXor (.int a) (.int b)=qq (.int ((a^^^b:Nat):Int)):=by simp only[bP,kU,aW2]
theorem eT{w:Nat}(h1:w<=100000):bP .LShift (.int 1) (.int w)=qq (.int ((2^w:Nat):Int)):=by
 have c:(0:Int)<=w/\(yAi 1:Int)+w<=2^27:=⟨by omega,by(have:(yAi 1:Int)=1:=(by decide);omega)⟩
 simp only[bP,kU];rw[if_pos c,Int.one_mul,yAo,aCe]
theorem rD{n a k:Nat}(h:n<2^a)(h2:a+k<=100000):bP .LShift (.int n) (.int k)=qq (.int ((n*2^k:Nat):Int)):=by
 have c:(0:Int)<=(k:Nat)/\((yAi (n:Int):Nat):Int)+(k:Nat)<=2^27:=by
  have:=aL6 h;exact⟨by omega,by omega⟩
 simp only[bP,kU];rw[if_pos c,yAo,<- aCe];congr 2
theorem fG{i j:Int}(h:0<j):bP .Mod (.int i) (.int j)=qq (.int (i%j)):=by
 simp only[bP,kU];rw[if_pos (by omega),Int.fmod_eq_emod_of_nonneg _ (by omega)]
theorem nO{i j:Int}(h:0<j)(h2:j<2^64):bP .FloorDiv (.int i) (.int j)=qq (.int (i/j)):=by
 simp only[bP,kU];have h3:j.natAbs.log2<9000:=Nat.lt_trans ((Nat.log2_lt (by omega)).mpr (show j.natAbs<2^64 by omega)) (by decide)
 rw[if_pos ⟨by omega,aWn h3⟩,Int.fdiv_eq_ediv_of_nonneg _ (by omega)]
theorem aLS{i j:Int}(h1 : -(2^64)<j)(h2:j<2^64):oD i j=true:=by
 unfold oD;have:=intBits_le_64 h1 h2;have h:¬ (yAi j>yq):=Nat.not_lt.mpr this;rw[dqF h];simp
theorem aLE{i j:Int}(h1 : -(2^64)<i)(h2:i<2^64):oD i j=true:=by
 unfold oD;have:=intBits_le_64 h1 h2;have h:¬ (yAi i>yq):=Nat.not_lt.mpr this;rw[dqF h];simp
theorem aAa{i j:Int}(h1 : -(2^64)<j)(h2:j<2^64):bP .Mult (.int i) (.int j)=qq (.int (i*j)):=by
 show(if oD i j=true then qq (yAk (i*j)) else qz)=_
 rw[if_pos (aLS h1 h2)]
theorem nH{i j:Int}(h1 : -(2^64)<i)(h2:i<2^64):bP .Mult (.int i) (.int j)=qq (.int (i*j)):=by
 show(if oD i j=true then qq (yAk (i*j)) else qz)=_
 rw[if_pos (aLE h1 h2)]
theorem zN{xs ys:List D}(h:xs.length+ys.length<=1000000):bP .Add (.list xs) (.list ys)=qq (.list (xs++ys)):=by
 show(if xs.length+ys.length<=qy then qq (yEf (xs++ys)) else qz)=_
 rw[if_pos (by rw[zq];omega)]
theorem aHH{xs:List D}{k:Nat}(h:k<=1000000)(h2:xs.length*k<=1000000):bP .Mult (.list xs) (.int k)=qq (.list (eE k xs)):=by
 have c:((k:Nat):Int)<2^63 /\ -(2^63)<=((k:Nat):Int)/\xs.length*((k:Nat):Int).toNat<=qy:=by
  refine⟨by omega,by omega,?_⟩
  rw[yAo,zq];omega
 have e:bP .Mult (.list xs) (.int k)=vX (.list xs) (.int k):=rfl;rw[e];unfold vX;simp only[];rw[if_pos c,yAo]
theorem aB0{α:Type}(k:Nat)(x:α):eE k [x]=yAc k x:=by
 unfold eE
 induction k with
 | zero=>rfl
 | succ k ih=>rw[yAy,yCy,ih,yAy];rfl
theorem bO(i j:Int):aV .Eq (.int i) (.int j)=qq (.bool (i==j)):=rfl
theorem pO(i j:Int):aV .NotEq (.int i) (.int j)=qq (.bool (!(i==j))):=rfl
theorem dY(i j:Int):aV .Lt (.int i) (.int j)=qq (.bool (decide (i<j))):=rfl
theorem aQF(i j:Int):aV .LtE (.int i) (.int j)=qq (.bool (decide (i<=j))):=rfl
theorem kZ(i j:Int):aV .Gt (.int i) (.int j)=qq (.bool (decide (j<i))):=rfl
theorem aIB(i j:Int):aV .GtE (.int i) (.int j)=qq (.bool (decide (j<=i))):=rfl
end EV
namespace EV
open PySem L2 BM
theorem oB{α β:Type}(a:α)(f:α->Option β):(qq a).bind f=f a:=of_eq_true (eq_self (f a))
theorem oM{α β:Type}(a:α)(f:α->β):(qq a).map f=qq (f a):=of_eq_true (eq_self (qq (f a)))
noncomputable def cl(fs:List Fn)(d f:Nat)(ws:List W)(S:aE):Option (W×aE):=match aC fs d f with
 | some (np,call)=>if ws.length=np then call ws S else qz
 | none=>qz
theorem aBM(fs:List Fn)(d f:Nat)(fa:FA)(env:aZ)(S:aE):kT (aC fs d) f fa env S=(fa env S).bind λ p=>cl fs d f p.1 p.2:=by
 unfold kT cl aAC;cases aC fs d f with
 | none=>cases fa env S<;>rfl
 | some q=>rfl
theorem aU{fs:List Fn}{f:Nat}{F:Fn}(h:fs[f]? = qq F)(d:Nat)(ws:List W)(S:aE)(hw:ws.length=F.np):cl fs (d+1) f ws S=gE (xs (aC fs d) F.body) F.N.length ws S:=by
 have e:aC fs (d+1) f=qq (F.np,gE (xs (aC fs d) F.body) F.N.length):=by
  show(fs[f]?).map _=_;rw[h];rfl
 unfold cl;rw[e];exact if_pos hw
theorem aQm{fs:List Fn}{f d:Nat}{F:Fn}{w r:W}{S:aE}(h:fs[f]? = qq F)(hn:F.np=1)(e:cl fs (d+1) f [w] []=qq (r,S)):∃ call S',aC fs (d+1) f=qq (1,call)/\call [w] []=qq (r,S'):=by
 refine⟨gE (xs (aC fs d) F.body) F.N.length,S,?_,?_⟩
 ·show(fs[f]?).map _=_;rw[h,<- hn];rfl
 ·rw[<- aU h d [w] [] (by rw[hn];rfl)]
  exact e
theorem szT{n:Nat}(h:n<=1000):(n<=qy)=True:=by
 rw[zq];exact eq_true (by omega)
end EV
namespace EV
open PySem L2 BM
theorem aBV(w:Nat):((2^w:Nat):Int)-1=((2^w-1:Nat):Int):=by
 have:=tT w;omega
theorem qP{fa:FE}{env:aZ}{S S1:aE}{w:Nat}(h:fa env S=qq (.d (.int w),S1))(hw:w<=1000000):vF fa env S=qq ((yAx w).map (λ k=>yAk (k:Nat)),S1):=by
 have c : -(2^62)<=((w:Nat):Int)/\((w:Nat):Int)<2^62:=⟨by omega,by omega⟩
 unfold vF;rw[h,oB];simp only[];rw[if_pos c,aGs,yAo];congr 2;apply yCf;intro k _;rw[Int.zero_add]
theorem aLA{fa:FE}{env:aZ}{S S1:aE}{ds:List D}(h:fa env S=qq (.d (.tuple ds),S1)):uL fa env S=qq (ds.zipIdx.map (λ p=>yBf [.int (p.2:Nat),p.1]),S1):=by
 simp only[uL,h,oB];rw[aFM];simp
theorem aGM{i:Nat}{env:aZ}{S:aE}{w:W}(h:env[i]? = qq (qq w)):iS i env S=qq (w,S):=by
 unfold iS;rw[h]
theorem nV{xs:List D}{k:Nat}{x:D}(h:xs[k]? = qq x):aH (.list xs) (.int k)=qq x:=by
 have hl:k<xs.length:=(gIm h).1;show(iF xs.length ((k:Nat):Int)).bind (λ j=>xs[j]?)=qq x
 unfold iF;rw[if_pos (by omega),if_pos (by omega),oB,yAo]
 exact h
theorem gX{xs:List D}{k:Nat}{x:D}(h:xs[k]? = qq x):aH (.tuple xs) (.int k)=qq x:=nV (xs:=xs) h
theorem aQG{t:Tg}{fi:FL}{fb:FS}{env:aZ}{S S1:aE}{ds:List D}(P:aZ->Prop)(hi:fi env S=qq (ds,S1))(h0:P env)(h:∀ d∈ds,∀ env,P env->∃ e1 aI,t.put d env=qq e1/\fb e1 S1=qq (.nx aI,S1)/\P aI) :
 ∃ aI,dQ t fi fb env S=qq (.nx aI,S1)/\P aI:=by
 obtain⟨aI,h1,h2⟩:=aGV (t:=t) (fb:=fb) (S:=S1) P ds env h0 h;exact⟨aI,by unfold dQ;rw[hi,oB];exact h1,h2⟩
theorem aHI{t:Tg}{fb:FS}(P:Nat->aZ->aE->Prop):∀ (ds:List D) (i:Nat) (env:aZ) (S:aE),P i env S->(∀ j d env S,ds[j]? = qq d->P (i+j) env S->∃ e1 aI S',t.put d env=qq e1/\fb e1 S=qq (.nx aI,S')/\P (i+j+1) aI S') ->
 ∃ aI S',eZ t fb ds env S=qq (.nx aI,S')/\P (i+ds.length) aI S'
 | [],i,env,S,h0,_=>⟨env,S,rfl,h0⟩
 | d::ds,i,env,S,h0,h=>by
   obtain⟨e1,aI,S',h1,h2,h3⟩:=h 0 d env S rfl h0;obtain⟨env2,S2,h4,h5⟩:=aHI P ds (i+1) aI S' h3 λ j d' env S a b=>by
    have:=h (j+1) d' env S (by simpa using a) (by rw[show i+(j+1)=i+1+j by omega];exact b)
    rw[show i+(j+1)=i+1+j by omega] at this
    exact this
   refine⟨env2,S2,by simp only[eZ,h1,oB,h2];exact h4,?_⟩
   have:i+(d::ds).length=i+1+ds.length:=by simp;omega
   rw[this];exact h5
theorem mE{t:Tg}{fi:FL}{fb:FS}{env:aZ}{S S1:aE}{ds:List D}(P:Nat->aZ->aE->Prop)(hi:fi env S=qq (ds,S1))(h0:P 0 env S1)(h:∀ j d env S,ds[j]? = qq d->P j env S->∃ e1 aI S',t.put d env=qq e1/\fb e1 S=qq (.nx aI,S')/\P (j+1) aI S') :
 ∃ aI S',dQ t fi fb env S=qq (.nx aI,S')/\P ds.length aI S':=by
 obtain⟨aI,S',h1,h2⟩:=aHI (t:=t) (fb:=fb) P ds 0 env S1 h0 λ j d env S a b=>by
  have:=h j d env S a (by simpa using b)
  simpa using this
 exact⟨aI,S',by unfold dQ;rw[hi,oB];exact h1,by simpa using h2⟩
theorem aLH{fa fb:FE}{env:aZ}{S S1 S2:aE}{v w:Nat}(h:fa env S=qq (.d (.int v),S1))(h2:fb env S1=qq (.d (.int w),S2))(hv:v<=1000000)(hw:w<=1000000):vC fa fb env S=qq ((yAx (w-v)).map (λ k=>yAk ((v+k:Nat):Int)),S2):=by
 have c : -(2^62)<=((v:Nat):Int)/\((v:Nat):Int)<2^62 /\ -(2^62)<=((w:Nat):Int)/\((w:Nat):Int)<2^62:=⟨by omega,by omega,by omega,by omega⟩
 have e:(((w:Nat):Int)-((v:Nat):Int)).toNat=w-v:=by omega
 unfold vC;rw[h,oB];simp only[];rw[h2,oB];simp only[];rw[if_pos c,aGs,e];congr 2
theorem dU{xs:List D}:fO [.list xs]=qq (.int xs.length):=rfl
theorem dS{xs:List D}:fO [.tuple xs]=qq (.int xs.length):=rfl
theorem gJ{xs:List D}:uS [.list xs]=qq (.tuple xs):=rfl
theorem gK{xs:List D}:uS [.tuple xs]=qq (.tuple xs):=rfl
theorem aIz{i:Int}:vV [.int i]=qq (.int i):=rfl
theorem aIW{k:Bool}:vV [.bool k]=qq (.int (if k then 1 else 0)):=rfl
theorem eU(n k:Nat):bP .RShift (.int n) (.int k)=qq (.int ((n/2^k:Nat):Int)):=by
 have c:(0:Int)<=(k:Nat):=by omega
 simp only[bP,kU];rw[if_pos c,yAo,<- aCe];congr 2
theorem aOg(a b:Nat):bP .BitAnd (.int a) (.int (yBr (b:Nat)))=qq (.int ((dA a b:Nat):Int)):=by
 have h1:decide ((0:Int)<=(a:Nat))=true:=dqT (by omega)
 have h2:decide ((0:Int)<=yBr (b:Nat))=false:=dqF (by unfold yBr;omega)
 have h3:(yBr (yBr (b:Nat))).toNat=b:=by unfold yBr;omega
 have h4:a&&&b<=a:=yCp;simp only[bP,kU];unfold yEg;rw[h1,h2];simp only[h3,yAo];congr 2;unfold dA;omega
theorem aPc(i:Int):oR .Invert (.int i)=qq (.int (yBr i)):=rfl
theorem aCc{x:D}{k:Nat}(h:k<=1000):bP .Mult (.tuple [x]) (.int k)=qq (.tuple (yAc k x)):=by
 show(if 0<=((k:Nat):Int)/\((k:Nat):Int)<=1000 then qq (yBf (yAc ((k:Nat):Int).toNat x)) else qz)=_
 rw[if_pos ⟨by omega,by omega⟩,yAo]
theorem aGX{α:Type}{t:Tg}{fe:FE}{env:aZ}{n N:Nat}(enc:α->D)(I:Nat->aE->Prop)(Q:α->D->Prop):∀ (l:List α) (aF:List D) (j:Nat) (S:aE),aF.length+l.length<=qy->j+l.length<=N->S.length=n->I j S ->
 (∀ a∈l,∃ e1,t.put (enc a) env=qq e1/\∀ j S aF,j<N->S.length=n->I j S->∃ v S',fe e1 (S++[qq aF])=qq (.d v,S'++[qq aF])/\S'.length=n/\I (j+1) S'/\Q a v) ->
 ∃ vs S',hJ t oK fe n env (l.map enc) (S++[qq aF])=qq (S'++[qq (aF++vs)])/\S'.length=n/\I (j+l.length) S'/\vs.length=l.length/\∀ (i:Nat) (a:α),l[i]? = qq a->∃ v,vs[i]? = qq v/\Q a v
 | [],aF,j,S,_,_,hn,hI,_=>⟨[],S,by simp[hJ],hn,hI,rfl,by simp⟩
 | a::l,aF,j,S,hz,hN,hn,hI,h=>by
   obtain⟨e1,h1,h2⟩:=h a xAd;obtain⟨v,S1,h3,h4,h5,h6⟩:=h2 j S aF (by simp at hN;omega) hn hI
   have hlt:aF.length<qy:=by simp at hz;omega
   have ea:dZ (S1++[qq aF]) (.loc n) (.d v)=qq (.d .none,S1++[qq (aF++[v])]):=by
    unfold dZ;subst h4;simp only[yAg (yAb S1.length),yBn,yBo];rw[if_pos hlt,aCp]
   obtain⟨vs,S2,h7,h8,h9,h10,h11⟩:=aGX enc I Q l (aF++[v]) (j+1) S1 (by simp at hz ⊢;omega) (by simp at hN;omega) h4 h5 λ x hx=>h x (xAg _ hx)
   refine⟨v::vs,S2,?_,h8,by rw[yAw,show j+(l.length+1)=j+1+l.length by omega];exact h9,by simp[h10],λ i b hb=>?_⟩
   ·simp only[yAs,hJ,h1,oK,oB,if_true,h3,ea];rw[h7];simp
   ·cases i with
    | zero=>simp at hb;subst hb;exact⟨v,rfl,h6⟩
    | succ i=>simpa using h11 i b (by simpa using hb)
theorem aGR{α:Type}{t:Tg}{fi:FL}{fe:FE}{env:aZ}{S S1:aE}(enc:α->D)(I:Nat->aE->Prop)(Q:α->D->Prop)(l:List α)(hi:fi env S=qq (l.map enc,S1))(hz:l.length<=qy)(h0:I 0 S1)
 (h:∀ a∈l,∃ e1,t.put (enc a) (clr t.slots env)=qq e1/\∀ j S aF,j<l.length->S.length=S1.length->I j S->∃ v S',fe e1 (S++[qq aF])=qq (.d v,S'++[qq aF])/\S'.length=S1.length/\I (j+1) S'/\Q a v) :
 ∃ vs S',hU t fi oK fe env S=qq (vs,S')/\S'.length=S1.length/\I l.length S'/\vs.length=l.length/\∀ (i:Nat) (a:α),l[i]? = qq a->∃ v,vs[i]? = qq v/\Q a v:=by
 obtain⟨vs,S',h1,h2,h3,h4,h5⟩:=aGX (fe:=fe) (n:=S1.length) (N:=l.length) enc I Q l [] 0 S1 (by simpa using hz) (by simp) rfl h0 h
 refine⟨vs,S',?_,h2,by simpa using h3,h4,h5⟩
 unfold hU;rw[hi];simp only[oB];rw[h1];simp[<- h2]
theorem aC9{α:Type}(a:α):yDj 1 [a]=[a]:=rfl
theorem aCW{α:Type}(a b:α):yDj 1 [a,b]=[a]:=rfl
theorem aC1{α:Type}(a b:α):yDj 2 [a,b]=[a,b]:=rfl
end EV
namespace EV
open PySem L2 BM
section
variable {C : Calls}{env : aZ}{S S1 S2 S3 S4 : aE}{a b c e es r : E}
theorem aUK{i:Nat}{w:W}(h:env[i]? = qq (qq w)):ev C (.var i) env S=qq (w,S):=by rw[aAl];exact aGM h
theorem aTY{i:Int}:ev C (.int i) env S=qq (.d (.int i),S):=rfl
theorem aWD{i:Bool}:ev C (.bl i) env S=qq (.d (.bool i),S):=rfl
theorem aVu:ev C .non env S=qq (.d .none,S):=rfl
theorem aTQ{i:Str}:ev C (.str i) env S=qq (.d (.str i),S):=rfl
theorem aU9{op:ju}{x y z:D}(ha:ev C a env S=qq (.d x,S1))(hb:ev C b env S1=qq (.d y,S2))(hz:bP op x y=qq z):ev C (.bin op a b) env S=qq (.d z,S2):=by
 simp only[aH3,qA,f2,ha,oB,hb,gU,dr,hz]
theorem aW3{op:yx}{x z:D}(ha:ev C a env S=qq (.d x,S1))(hz:oR op x=qq z):ev C (.un op a) env S=qq (.d z,S1):=by
 simp only[aJS,wX,f1,ha,oB,fU,dr,hz]
theorem aJz{op:jq}{x y z:D}(ha:ev C a env S=qq (.d x,S1))(hb:ev C b env S1=qq (.d y,S2))(hz:aV op x y=qq z):ev C (.cmp op a b) env S=qq (.d z,S2):=by
 simp only[aCZ,mQ,f2,ha,oB,hb,gU,dr,hz]
theorem aWN{wa:W}{x y z:D}(ha:ev C a env S=qq (wa,S1))(hb:ev C b env S1=qq (.d y,S2))(hx:dr S2 wa=qq x)(hz:aH x y=qq z):ev C (.ix a b) env S=qq (.d z,S2):=by
 have h2:dr S2 (.d y)=qq y:=rfl;simp only[aDy,oP,f2,ha,oB,hb,gU,hx,h2,hz]
theorem aTM{x:D}:dr S (.d x)=qq x:=rfl
theorem aUP{n:Nat}{l:List D}(h:S[n]? = qq (qq l)):dr S (.loc n)=qq (.list l):=by
 simp only[dr,h]
theorem aRN:nA S []=qq []:=rfl
theorem aTI{w:W}{ws:List W}{x:D}{ds:List D}(h:dr S w=qq x)(k:nA S ws=qq ds):nA S (w::ws)=qq (x::ds):=by
 simp only[nA,h,k,oB]
noncomputable def slD(d:D)(l h:Option Int):Option D:=match d with
 | .list xs=>qq (.list (eC xs l h))
 | .tuple xs=>qq (.tuple (eC xs l h))
 | _=>qz
theorem aV9{lo hi:E}{wa:W}{l h:Option Int}{x z:D}(ha:ev C a env S=qq (wa,S1))(hl:ov C lo env S1=qq (l,S2))(hh:ov C hi env S2=qq (h,S3))(hx:dr S3 wa=qq x)(hz:slD x l h=qq z):ev C (.sl a lo hi) env S=qq (.d z,S3):=by
 simp only[aDx,lJ,ha,oB,hl,hh,hx];cases x<;>first | (cases hz;done) | (cases hz;rfl)
theorem aWo:ov C .no env S=qq (qz,S):=rfl
theorem aRz{i:Int}(h:ev C a env S=qq (.d (.int i),S1)):ov C (.cons a .nil) env S=qq (qq i,S1):=by
 simp only[aHv,lC,h,oB]
theorem aTB{o:E}{wo wa w:W}(ho:ev C o env S=qq (wo,S1))(ha:ev C a env S1=qq (wa,S2))(h:dZ S2 wo wa=qq (w,S3)):ev C (.app o a) env S=qq (w,S3):=by
 simp only[aIV,iA,f2,ho,oB,ha,h]
theorem aTs{p:Bool}{R:Option (W×aE)}(ht:tv C c env S=qq (p,S1))(k:cond p (ev C a env S1) (ev C b env S1)=R):ev C (.ite c a b) env S=R:=by
 rw[<- k];cases p<;>simp only[aIo,vQ,ht,oB,yAt,if_false,if_true,cond_true,cond_false]
theorem aUQ{p:Bool}{R:Option (W×aE)}(ha:ev C a env S=qq (.d (.bool p),S1))(k:cond p (ev C b env S1) (qq (.d (.bool false),S1))=R):ev C (.and a b) env S=R:=by
 rw[<- k];cases p<;>simp only[aH7,vI,ha,oB,cond_true,cond_false]
theorem aV5{p:Bool}{R:Option (W×aE)}(ha:ev C a env S=qq (.d (.bool p),S1))(k:cond p (qq (.d (.bool true),S1)) (ev C b env S1)=R):ev C (.or a b) env S=R:=by
 rw[<- k];cases p<;>simp only[aJH,wG,ha,oB,cond_true,cond_false]
theorem aVp{p:Bool}(ha:ev C a env S=qq (.d (.bool p),S1)):ev C (.not a) env S=qq (.d (.bool (!p)),S1):=by
 simp only[aIl,uW,ha,oB]
theorem aTT{ty:Ty}{wa:W}{x z:D}(ha:ev C a env S=qq (wa,S1))(hx:dr S1 wa=qq x)(hz:iQ ty x=qq z):ev C (.isi a ty) env S=qq (.d z,S1):=by
 simp only[aIH,f1,ha,oB,fU,hx,hz]
theorem aRY{fs:List Fn}{d f:Nat}{ws:List W}{w:W}(ha:av (aC fs d) es env S=qq (ws,S1))(hc:cl fs d f ws S1=qq (w,S2)):ev (aC fs d) (.call f es) env S=qq (w,S2):=by
 rw[aCn,aBM,ha,oB];exact hc
theorem aUe{t:B}{ws:List W}{ds:List D}{z:D}(ha:av C es env S=qq (ws,S1))(hd:nA S1 ws=qq ds)(hz:t.g ds=qq z):ev C (.blt t es) env S=qq (.d z,S1):=by
 simp only[aIr,pW,ha,oB,hd,hz]
theorem aUV{ws:List W}{ds:List D}(ha:av C es env S=qq (ws,S1))(hd:qD ws=qq ds)(hl:ds.length<=1000):ev C (.tup es) env S=qq (.d (.tuple ds),S1):=by
 simp only[aIx,vS,ha,oB,hd,szT hl,if_true]
theorem aV2{ds:List D}(h:lv C a env S=qq (ds,S1)):ev C (.fz a) env S=qq (.d (.list ds),S1):=by
 simp only[aJZ,iD,h,oB]
theorem aU1{ws:List W}{ds:List D}(ha:av C es env S=qq (ws,S1))(hd:qD ws=qq ds)(hl:ds.length<=1000):lv C (.lst es) env S=qq (ds,S1):=by
 simp only[aI7,wC,ha,oB,hd,szT hl,if_true]
theorem aTv{ds:List D}(h:lv C a env S=qq (ds,S1)):ev C (.new a) env S=qq (.loc S1.length,S1++[qq ds]):=by
 simp only[uK,eY,h,oB]
theorem aUc:av C .nil env S=qq ([],S):=rfl
theorem aRO{w:W}{ws:List W}(ha:ev C a env S=qq (w,S1))(hr:av C r env S1=qq (ws,S2)):av C (.cons a r) env S=qq (w::ws,S2):=by
 simp only[aCt,cS,ha,oB,hr]
theorem aR3{op:jq}{x y:D}{p:Bool}(ha:ev C a env S=qq (.d x,S1))(hb:ev C b env S1=qq (.d y,S2))(hz:aV op x y=qq (.bool p)):tv C (.cmp op a b) env S=qq (p,S2):=by
 have:=aJz ha hb hz;rw[aCZ] at this;simp only[aI1,cT,this,oB,dr,pV]
theorem aVL{x:D}{p:Bool}(ht:tv C e=cT (ev C e))(ha:ev C e env S=qq (.d x,S1))(hz:pV x=qq p):tv C e env S=qq (p,S1):=by
 rw[ht];simp only[cT,ha,oB,dr,hz]
theorem aRV{p:Bool}{R:Option (Bool×aE)}(ha:tv C a env S=qq (p,S1))(hb:cond p (tv C b env S1) (qq (false,S1))=R):tv C (.and a b) env S=R:=by
 rw[<- hb];cases p<;>simp only[aIh,vR,ha,oB,yAt,if_false,if_true,cond_true,cond_false]
theorem aVH{p:Bool}{R:Option (Bool×aE)}(ha:tv C a env S=qq (p,S1))(hb:cond p (qq (true,S1)) (tv C b env S1)=R):tv C (.or a b) env S=R:=by
 rw[<- hb];cases p<;>simp only[aJT,xF,ha,oB,yAt,if_false,if_true,cond_true,cond_false]
theorem aQH{p:Bool}(ha:tv C a env S=qq (p,S1)):tv C (.not a) env S=qq (!p,S1):=by
 simp only[aIA,wH,ha,oB]
theorem sP{α:Type}{x y z:α}(h:x=z):cond true x y=z:=h
theorem sC{α:Type}{x y z:α}(h:y=z):cond false x y=z:=h
variable {s t u : Sx}{aI : aZ}{R : Option (Fl×aE)}{w : W}
theorem pR{fl:Fl}(h:xs C s env S=qq (fl,S1))(k:qq (fl,S1)=R):xs C s env S=R:=h.trans k
theorem vL{w:W}{R:Option (W×aE)}(h:ev C e env S=qq (w,S1))(k:qq (w,S1)=R):ev C e env S=R:=h.trans k
theorem uY{p:Bool}{R:Option (Bool×aE)}(h:tv C e env S=qq (p,S1))(k:qq (p,S1)=R):tv C e env S=R:=h.trans k
theorem vA{l:List D}{R:Option (List D×aE)}(h:lv C e env S=qq (l,S1))(k:qq (l,S1)=R):lv C e env S=R:=h.trans k
theorem aTe:xs C .skip env S=qq (.nx env,S):=rfl
noncomputable def sL(C:Calls)(t:Sx)(fl:Fl)(S:aE):Option (Fl×aE):=match fl with
 | .nx e=>xs C t e S
 | fl=>qq (fl,S)
theorem aTF{fl:Fl}(h:xs C s env S=qq (fl,S1))(k:sL C t fl S1=R):xs C (.seq s t) env S=R:=by
 rw[<- k];cases fl<;>simp only[jQ,dL,h,oB,sL]
theorem aWS(k:xs C t aI S=R):sL C t (.nx aI) S=R:=k
theorem aWI(k:qq (.rt w,S)=R):sL C t (.rt w) S=R:=k
theorem aV6(k:qq (.bk aI,S)=R):sL C t (.bk aI) S=R:=k
theorem aWO(k:qq (.ct aI,S)=R):sL C t (.ct aI) S=R:=k
theorem aUd{o i:E}{wo wi we:W}(he:ev C e env S=qq (we,S1))(ho:ev C o env S1=qq (wo,S2))(hi:ev C i env S2=qq (wi,S3))(h:iP S3 wo wi we=qq S4):xs C (.put o i e) env S=qq (.nx env,S4):=by
 simp only[aIY,jE,he,oB,ho,hi,h]
theorem aTE{i:Nat}(h:ev C e env S=qq (w,S1))(he:env.set i (qq w)=aI):xs C (.set i e) env S=qq (.nx aI,S1):=by
 rw[<- he];simp only[rH,fM,h,oB]
theorem aTH(h:ev C e env S=qq (w,S1)):xs C (.ret e) env S=qq (.rt w,S1):=by
 simp only[aC7,oJ,h,oB]
theorem aSj(h:ev C e env S=qq (w,S1)):xs C (.expr e) env S=qq (.nx env,S1):=by
 simp only[aHR,vG,h,oB]
theorem aU3{p:Bool}(ht:tv C a env S=qq (p,S1))(k:cond p (xs C s env S1) (xs C t env S1)=R):xs C (.ifs a s t) env S=R:=by
 rw[<- k];cases p<;>simp only[rL,mX,ht,oB,yAt,if_false,if_true,cond_true,cond_false]
theorem aRw{tg:Tg}(h:dQ tg (lv C a) (xs C s) env S=R):xs C (.loop tg a s) env S=R:=h
theorem aWz{n:Nat}(h:jI (tv C a) (xs C s) n env S=R):xs C (.wh n a s) env S=R:=h
theorem aIi{body:Sx}{n:Nat}{ws:List W}{x:D}(he:ws.map qq++yAc (n-ws.length) qz=env)(k:xs C body env S=qq (.rt (.d x),S1))(hS:S1.take S.length=S2):gE (xs C body) n ws S=qq (.d x,S2):=by
 subst he;simp only[gE,k,oB,jV,hS]
end
end EV
namespace K81
open PySem L2 EV BM
local macro_rules
 | `(tactic| omega)=>`(tactic| first | (with_reducible assumption) | (with_reducible exact yAb _) | (with_reducible exact Nat.le_add_right _ _) | (with_reducible exact xAi ‹_› (by decide)) | (with_reducible exact xAc ‹_› (by decide)) | (with_reducible exact xAj ‹_› (by decide)) | (with_reducible exact yFw ‹_›) | (with_reducible exact xAi (yFw ‹_›) (by decide)) | (with_reducible exact xAi (Nat.add_le_add_right ‹_› _) (by decide)) | (with_reducible exact Nat.add_le_add_left (by decide) _) | (with_reducible exact yGa ‹_›) | (with_reducible exact yHe ‹_›) | (with_reducible exact Nat.not_lt_of_le ‹_›) | (with_reducible exact Nat.not_le_of_lt ‹_›) | (with_reducible exact xAc ‹_› ‹_›) | (with_reducible exact xAi ‹_› ‹_›) | (with_reducible exact xAi ‹_› (Nat.add_le_add_left (by decide) _)) | (with_reducible exact xAi ‹_› (xAi (Nat.add_le_add_right ‹_› _) (by decide))) | omega (config:={}))
 | `(tactic| simp only[evs])=>`(tactic| simp only[evs,True])
 | `(tactic| simp only[evs,$ls,*])=>`(tactic| simp only[aAl,aQV,aVd,aQP,aRk,aH3,aJS,aCZ,aH7,aJH,aIl,aIo,aIx,aDy,aQ8,aQQ,aQ7,aDx,aCn,aIr,aIH,aPJ,aIV,aSr,aJZ,uK,aIh,aJT,aIA,aRn,aI1,aQJ,aUn,aQr,aQ4,aSk,aRx,aVr,aVR,aI0,aCt,aVK,aHv,aI7,aSz,aAc,aQf,oE,lV,nK,nL,aQk,nU,nR,aHS,jQ,aHR,aC7,rL,rH,uE,aOQ,aIY,aUN,aPq,dL,fM,aAH,mX,oJ,aVf,vG,sA,qA,wX,mQ,cT,f2,f1,gU,fU,dr,nA,fC,iS,jV,aBM,cS,gQ,vS,wC,iD,pW,oP,vR,xF,wH,vI,wG,uW,vQ,qD,B.g,aUf,aVa,aVT,aTx,aTC,pV,Tg.put,nW,Tg.slots,yAs,yDz,yAw,yCo,yGd,Nat.reduceSub,yEb,yAy,yGg,yHf,yFk,yBo,yCi,yEi,yFl,oB,oM,yAe,Bool.not_false,Bool.not_true,yAt,if_true,if_false,reduceIte,yHg,Nat.reduceEqDiff,szT,List.take_nil,List.take_zero,mB,qB,wM,aC9,aCW,aC1,$ls,*])
 | `(tactic| simp only[gc,$as,*])=>`(tactic| first | (with_reducible assumption) | (focus (simp only[$as,*]<;>with_reducible rfl)))
 | `(tactic| simp only[gl,$as,*])=>`(tactic| first | (focus (simp only[$as,*]<;>rfl)) | (focus rfl))
 | `(tactic| simp only[go,$as,*])=>`(tactic| first | with_reducible exact aTY | with_reducible exact aTQ | with_reducible exact aWD | with_reducible exact aVu | with_reducible exact aUc | with_reducible exact aTe | with_reducible exact aWo | with_reducible exact aTM | with_reducible exact aRN | ((with_reducible apply aUK);rfl) | ((with_reducible apply aRO);simp only[go,$as,*];simp only[go,$as,*]) | ((with_reducible apply aTF);simp only[go,$as,*];first | ((with_reducible apply aWS);simp only[go,$as,*]) | ((with_reducible apply aWI);rfl) | ((with_reducible apply aV6);rfl) | ((with_reducible apply aWO);rfl)) | ((with_reducible apply aTE);simp only[go,$as,*];(focus (dsimp only[yEi,yFl]<;>rfl))) | ((with_reducible apply aTH);simp only[go,$as,*]) | ((with_reducible apply aSj);simp only[go,$as,*]) | ((with_reducible apply aRY);simp only[go,$as,*];simp only[gc,$as,*]) | ((with_reducible apply aU9);simp only[go,$as,*];simp only[go,$as,*];simp only[gl,$as,*]) | ((with_reducible apply aWN);simp only[go,$as,*];simp only[go,$as,*];simp only[go,$as,*];simp only[gl,$as,*]) | ((with_reducible apply aUP);simp only[gl,$as,*]) | ((with_reducible apply aU3);simp only[go,$as,*];first | ((with_reducible apply sP);simp only[go,$as,*]) | ((with_reducible apply sC);simp only[go,$as,*])) | ((with_reducible apply aR3);simp only[go,$as,*];simp only[go,$as,*];simp only[gl,$as,*]) | ((with_reducible apply aRV);simp only[go,$as,*];first | ((with_reducible apply sP);simp only[go,$as,*]) | ((with_reducible apply sC);rfl)) | ((with_reducible apply aVH);simp only[go,$as,*];first | ((with_reducible apply sP);rfl) | ((with_reducible apply sC);simp only[go,$as,*])) | ((with_reducible apply aQH);simp only[go,$as,*]) | ((with_reducible apply aUe);simp only[go,$as,*];simp only[go,$as,*];simp only[gl,B.g,$as,*]) | ((with_reducible apply aTI);simp only[go,$as,*];simp only[go,$as,*]) | ((with_reducible apply aUV);simp only[go,$as,*];rfl;simp only[gl,yAw,yCo,yGd,yHg,$as,*]) | ((with_reducible apply aV2);simp only[go,$as,*]) | ((with_reducible apply aU1);simp only[go,$as,*];rfl;simp only[gl,yAw,yCo,yGd,yHg,$as,*]) | ((with_reducible apply aTv);simp only[go,$as,*]) | ((with_reducible apply aV9);simp only[go,$as,*];simp only[go,$as,*];simp only[go,$as,*];simp only[go,$as,*];simp only[gl,slD,$as,*]) | ((with_reducible apply aRz);simp only[go,$as,*]) | ((with_reducible apply aW3);simp only[go,$as,*];simp only[gl,$as,*]) | ((with_reducible apply aJz);simp only[go,$as,*];simp only[go,$as,*];simp only[gl,$as,*]) | ((with_reducible apply aTB);simp only[go,$as,*];simp only[go,$as,*];simp only[gl,$as,*]) | ((with_reducible apply aUd);simp only[go,$as,*];simp only[go,$as,*];simp only[go,$as,*];simp only[gl,$as,*]) | ((with_reducible apply aTs);simp only[go,$as,*];first | ((with_reducible apply sP);simp only[go,$as,*]) | ((with_reducible apply sC);simp only[go,$as,*])) | ((with_reducible apply aUQ);simp only[go,$as,*];first | ((with_reducible apply sP);simp only[go,$as,*]) | ((with_reducible apply sC);rfl)) | ((with_reducible apply aV5);simp only[go,$as,*];first | ((with_reducible apply sP);rfl) | ((with_reducible apply sC);simp only[go,$as,*])) | ((with_reducible apply aVp);simp only[go,$as,*]) | ((with_reducible apply aTT);simp only[go,$as,*];simp only[go,$as,*];rfl) | ((with_reducible apply aRw);simp only[gc,$as,*]) | ((with_reducible apply aWz);simp only[gc,$as,*]) | ((with_reducible apply aVL rfl);simp only[go,$as,*];rfl) | simp only[gc,$as,*] | (focus (simp only[evs,$as,*]<;>with_reducible rfl)))
local macro_rules
 | `(tactic| simp only[gR1,$d0:term,$as,*])=>`(tactic| first | (apply aIi rfl;(focus (dsimp only[$d0:term,List.map,yAw,yCo,yGd,Nat.reduceSub,yEb,yAy,yGg,yHf,yFk];apply pR;simp only[go,$as,*];(first | (focus rfl) | (focus (simp only[$as,*]<;>rfl)))));(first | exact yAe | (focus (simp only[aC9,aCW,aC1,$as,*]<;>rfl)) | (focus rfl))) | (simp only[evs,gE,$d0:term,$as,*]<;>rfl))
local macro_rules
 | `(tactic| simp only[gR2,$d0:term,$d1:term,$as,*])=>`(tactic| first | (apply aIi rfl;(focus (dsimp only[$d0:term,$d1:term,List.map,yAw,yCo,yGd,Nat.reduceSub,yEb,yAy,yGg,yHf,yFk];apply pR;simp only[go,$as,*];(first | (focus rfl) | (focus (simp only[$as,*]<;>rfl)))));(first | exact yAe | (focus (simp only[aC9,aCW,aC1,$as,*]<;>rfl)) | (focus rfl))) | (simp only[evs,gE,$d0:term,$d1:term,$as,*]<;>rfl))
local macro_rules
 | `(tactic| simp only[gS0,$as,*])=>`(tactic| first | ((first | apply pR | apply vL | apply uY | apply vA);simp only[go,$as,*];(first | (focus rfl) | (focus (simp only[$as,*]<;>rfl)))) | (simp only[evs,$as,*]<;>rfl))
local macro_rules
 | `(tactic| simp only[gS1,$d0:term,$as,*])=>`(tactic| first | (dsimp only[$d0:term];(first | apply pR | apply vL | apply uY | apply vA);simp only[go,$as,*];(first | (focus rfl) | (focus (simp only[$as,*]<;>rfl)))) | (simp only[evs,$d0:term,$as,*]<;>rfl))
local macro_rules
 | `(tactic| simp only[gS2,$d0:term,$d1:term,$as,*])=>`(tactic| first | (dsimp only[$d0:term,$d1:term];(first | apply pR | apply vL | apply uY | apply vA);simp only[go,$as,*];(first | (focus rfl) | (focus (simp only[$as,*]<;>rfl)))) | (simp only[evs,$d0:term,$d1:term,$as,*]<;>rfl))
local macro_rules
 | `(tactic| simp only[gS3,$d0:term,$d1:term,$d2:term,$as,*])=>`(tactic| first | (dsimp only[$d0:term,$d1:term,$d2:term];(first | apply pR | apply vL | apply uY | apply vA);simp only[go,$as,*];(first | (focus rfl) | (focus (simp only[$as,*]<;>rfl)))) | (simp only[evs,$d0:term,$d1:term,$d2:term,$as,*]<;>rfl))
local macro_rules
 | `(tactic| simp only[gS6,$d0:term,$d1:term,$d2:term,$d3:term,$d4:term,$d5:term,$as,*])=>`(tactic| first | (dsimp only[$d0:term,$d1:term,$d2:term,$d3:term,$d4:term,$d5:term];(first | apply pR | apply vL | apply uY | apply vA);simp only[go,$as,*];(first | (focus rfl) | (focus (simp only[$as,*]<;>rfl)))) | (simp only[evs,$d0:term,$d1:term,$d2:term,$d3:term,$d4:term,$d5:term,$as,*]<;>rfl))
noncomputable def top(i:Nat):xk:=PySem.Challenge.pw_fewbits_k81_a_bit_that_matters.main.body.getD i (.Pass ⟨0,0,0,0⟩)
noncomputable def tD:List (Str×Tv):=[("in",.int 0),("num",.int 0),("not",.int 1),("and",.int 2),("or",.int 2),("xor",.int 2),("add",.int 2),("sub",.int 2),("mul",.int 2),("left",.int 1),("right",.int 1),("slide",.int 1),("cut",.int 1),("wide",.int 1),("sign",.int 1),("same",.int 2),("less",.int 2),("under",.int 2),("pick",.int 3)]
noncomputable def qV:List Tv:=[.str "left",.str "right",.str "slide"]
noncomputable def aC6:List Tv:=[.str "add",.str "sub",.str "mul"]
noncomputable def qS:List Tv:=[.str "same",.str "less",.str "under"]
noncomputable def qU:List Tv:=[.int 0,.int 0,.int 1]
noncomputable def tU:List Tv:=[.int 1,.int 0,.int 1]
noncomputable def vB:List Tv:=[.int 0,.int 1,.int 1]
noncomputable def tbs:Tbs:=⟨[("OPERAND_COUNTS",tD)],[("SHIFTS",qV),("SUMS",aC6),("COMPARES",qS),("NOTHING",qU),("NOUGHT",tU),("ONE",vB)]⟩
abbrev J0:E:=.int 0
abbrev J1:E:=.int 1
abbrev J2:E:=.int 2
abbrev J3:E:=.int 3
abbrev J4:E:=.int 4
abbrev J5:E:=.int 5
abbrev J6:E:=.int 6
abbrev J7:E:=.int 7
abbrev J8:E:=.int 8
abbrev V0:E:=.var 0
abbrev V1:E:=.var 1
abbrev V2:E:=.var 2
abbrev V3:E:=.var 3
abbrev V4:E:=.var 4
abbrev V5:E:=.var 5
abbrev V6:E:=.var 6
abbrev V7:E:=.var 7
abbrev V8:E:=.var 8
abbrev V9:E:=.var 9
abbrev N0:E:=.nil
abbrev K0:Sx:=.skip
section
local macro_rules|`($a :: $b)=>`(.cons $a $b)
local macro_rules|`($a^$b)=>`(.seq $a $b)
noncomputable def aJY:Sx:=.ret (.bin .Sub (.bin .LShift J1 V0) J1)^K0
noncomputable def aI3:Sx:=.ret (.bits V0)^K0
noncomputable def aH2:Sx:=.ret (.call 0 (.call 1 (V0::N0)::N0))^K0
noncomputable def aGB:Sx:=.ret (.bin .Sub (.call 1 (.bin .BitXor V0 (.bin .Add V0 J1)::N0)) J1)^K0
noncomputable def aGp:Sx:=.ret (.bin .Sub V1 (.call 1 (.bin .BitXor V0 (.call 0 (V1::N0))::N0)))^K0
noncomputable def aBB:Sx:=.set 3 (.bin .LShift J1 (.bin .Sub V1 J1))^.ifs (.cmp .Eq (.bin .BitAnd V0 V3) J0) (.ret V0^K0) .skip^.ret (.bin .BitOr V0 (.bin .BitXor (.call 0 (V2::N0)) (.call 0 (V1::N0))))^K0
noncomputable def aE0:Sx:=.set 3 (.bin .BitXor (.call 0 (V2::N0)) (.call 2 (.bin .BitXor V0 V1::N0)))^.set 4 (.bin .BitAnd V3 V0)^.ret (.tup (.bin .BitXor V3 V4::V4::N0))^K0
noncomputable def aM2:Sx:=.ret (.sl V0 (J2::N0) (.bin .Add J2 (.tab "OPERAND_COUNTS" tD (.ix V0 J0))::N0))^K0
noncomputable def aEB:E:=.comp (.ix V1 V2) (.one 2) (.it (.call 7 (V0::N0))) .no
noncomputable def aEY:Sx:=.ret (.blt .tup (.fz aEB::N0))^K0
noncomputable def aFL:Sx:=.set 2 (.ix V0 J0)^.ret (.ix (.ix V2 V1) J1)^K0
noncomputable def aEL:E:=.comp (.ix V1 J1) (.one 1) (.it (.ix V0 J0)) .no
noncomputable def aFv:Sx:=.ret (.blt .tup (.fz aEL::N0))^K0
noncomputable def aEN:Sx:=.ret (.tup (.bin .BitAnd V2 (.un .Invert (.bin .BitAnd V1 (.un .Invert V0)))::.bin .BitAnd V2 (.un .Invert V0)::N0))^K0
noncomputable def aF7:Sx:=.set 3 (.call 1 (V2::N0))^.set 4 (.blt .mn (V3::.call 3 (V1::N0)::N0))^.set 5 (.blt .mn (.bin .Sub V3 V4::.call 3 (V0::N0)::N0))^.ret (.tup (.call 0 (.bin .Sub V3 V4::N0)::.call 0 (.bin .Sub V3 V5::N0)::N0))^K0
noncomputable def aCu:Sx:=.ifs (.cmp .Eq (.bin .RShift V0 V1) J0) (.ret V0^K0) .skip^.ret (.bin .BitOr (.bin .BitAnd V0 (.call 0 (V1::N0))) (.bin .LShift J1 (.bin .Sub V1 J1)))^K0
noncomputable def xW:Sx:=.ifs (.cmp .Eq V0 (.str "left")) (.ret (.bin .RShift V3 V2)^K0) .skip^.ifs (.cmp .Eq V0 (.str "right")) (.ret (.bin .BitAnd (.bin .LShift V3 V2) (.call 0 (V1::N0)))^K0) .skip^.ret (.call 13 (.bin .LShift V3 V2::V1::N0))^K0
noncomputable def yO:Sx:=.ifs (.cmp .Eq (.ix V0 J1) J1) (.ret (.tup (J1::V1::J0::N0))^K0) .skip^.ifs (.cmp .Eq (.ix V0 J0) J1) (.ret (.tup (J1::J0::V1::N0))^K0) .skip^.ret (.tup (J1::V1::V1::N0))^K0
noncomputable def aEV:Sx:=.set 4 (.ix V0 J0)^.ifs (.cmp .Eq V4 (.str "and")) (.ret (.call 11 (.ix (.ix V2 J0) J0::.ix (.ix V2 J1) J0::V3::N0))^K0) .skip^.ifs (.cmp .Eq V4 (.str "or")) (.ret (.call 11 (.ix (.ix V2 J0) J1::.ix (.ix V2 J1) J1::V3::N0))^K0) .skip^.ifs (.cmp .In V4 (.tup (.str "add"::.str "sub"::N0))) (.ret (.tup (.call 2 (V3::N0)::.call 2 (V3::N0)::N0))^K0) .skip^.ifs (.cmp .Eq V4 (.str "mul")) (.ret (.call 12 (.ix (.ix V2 J0) J0::.ix (.ix V2 J1) J0::V3::N0))^K0) .skip^.ifs (.cmp .In V4 (.con "SHIFTS" qV)) (.ret (.tup (.call 14 (V4::.ix V0 J1::.ix V0 J3::V3::N0)::N0))^K0) .skip^.ifs (.cmp .Eq V4 (.str "wide")) (.ret (.tup (.bin .BitAnd V3 (.call 0 (.ix V1 J0::N0))::N0))^K0) .skip^.ifs (.cmp .Eq V4 (.str "sign")) (.ret (.tup (.call 13 (V3::.ix V1 J0::N0)::N0))^K0) .skip^.ifs (.cmp .In V4 (.con "COMPARES" qS)) (.ret (.tup (.call 0 (.ix V1 J0::N0)::.call 0 (.ix V1 J1::N0)::N0))^K0) .skip^.ifs (.cmp .Eq V4 (.str "pick")) (.ret (.call 15 (.ix V2 J0::V3::N0))^K0) .skip^.ret (.bin .Mult (.tup (V3::N0)) (.blt .len (.call 7 (V0::N0)::N0)))^K0
noncomputable def aDu:Sx:=.ifs (.cmp .Eq V3 J0) (.ret (.bin .Mult (.tup (J0::N0)) (.blt .len (.call 7 (V0::N0)::N0)))^K0) .skip^.ret (.call 16 (V0::V1::V2::V3::N0))^K0
noncomputable def aEO:E:=.comp (.call 9 (V0::V7::N0)) (.one 7) (.it (.call 7 (V4::N0))) .no
noncomputable def aFA:Sx:=.set 4 (.ix (.ix V0 J0) V2)^.set 5 (.blt .tup (.fz aEO::N0))^.set 6 (.call 17 (V4::V5::.call 8 (V4::V1::N0)::V3::N0))^.ret (.fz (.lzip (.call 7 (V4::N0)) V6))^K0
noncomputable def yT:E:=.it (.call 18 (V0::V1::V4::.ix V2 V4::N0))
noncomputable def yV:Sx:=.put V2 V7 (.bin .BitOr (.ix V2 V7) V8)^K0
noncomputable def yS:E:=.rng3 (.bin .Sub (.blt .len (V5::N0)) J1) (.un .USub J1) (.un .USub J1)
noncomputable def aBX:Sx:=.loop (.many [7,8]) yT yV^K0
noncomputable def aBG:E:=.it V6
noncomputable def aBT:Sx:=.put V2 V3 (.call 0 (.call 9 (V0::V3::N0)::N0))^K0
noncomputable def fZ:Sx:=.setT (.many [5,6]) V0^.set 2 (.new (.lrep (.fz (.lst (J0::N0))) (.blt .len (V5::N0))))^.loop (.one 3) aBG aBT^.loop (.one 4) yS aBX^.ret (.blt .tup (V2::N0))^K0
noncomputable def aEP:E:=.comp (.and (.cmp .Eq V6 V3) (.cmp .Eq (.bin .BitAnd (.bin .RShift V7 V4) J1) J1)) (.many [6,7]) (.it V5) .no
noncomputable def aFz:Sx:=.set 5 (.call 18 (V0::V1::.ix V2 J0::.bin .LShift J1 (.ix V2 J1)::N0))^.ret (.blt .any (.fz aEP::N0))^K0
noncomputable def oY:E:=.rng1 (.call 9 (V0::V5::N0))
noncomputable def kL:Sx:=.ifs (.and (.cmp .Eq (.bin .BitAnd (.bin .RShift (.ix V2 V5) V6) J1) J1) (.call 20 (V0::V1::.tup (V5::V6::N0)::V3::V4::N0))) (.ret (.tup (V5::V6::N0))^K0) .skip^K0
noncomputable def xR:E:=.rng2 (.bin .Add V3 J1) (.blt .len (V2::N0))
noncomputable def kK:Sx:=.ifs (.cmp .In V3 (.call 7 (.ix (.ix V0 J0) V5::N0))) (.loop (.one 6) oY kL^K0) .skip^K0
noncomputable def qQ:Sx:=.loop (.one 5) xR kK^.ret .non^K0
noncomputable def pH:E:=.cmp .NotIn (.ix V5 J0) (.ix V0 J1)
noncomputable def uG:Sx:=.set 5 (.call 21 (V0::V1::V4::.ix V5 J0::.ix V5 J1::N0))^.expr (.app V6 V5)^K0
noncomputable def aD4:Sx:=.set 4 (.call 19 (V0::V1::N0))^.ifs (.cmp .Eq (.bin .BitAnd (.bin .RShift (.ix V4 V2) V3) J1) J0) (.ret (.tup .nil)^K0) .skip^.set 5 (.tup (V2::V3::N0))^.set 6 (.new (.lst (V5::N0)))^.wh 100000 pH uG^.ret (.blt .tup (V6::N0))^K0
noncomputable def aFH:Sx:=.ret (.bin .BitXor (.call 0 (V1::N0)) (.call 0 (.bin .Sub V1 V0::N0)))^K0
noncomputable def aE6:Sx:=.ret (.bin .BitOr (.ix V0 J0) (.ix V0 J1))^K0
noncomputable def uF:Sx:=.setT (.many [3,4,5]) V0^.set 2 (.call 23 (V5::V1::N0))^.ifs (.cmp .NotEq (.bin .BitAnd V3 V2) J0) (.set 3 (.bin .BitOr V3 V2)^K0) .skip^.ifs (.cmp .NotEq (.bin .BitAnd V4 V2) J0) (.set 4 (.bin .BitOr V4 V2)^K0) .skip^.ret (.tup (V3::V4::.blt .mx (V5::.call 4 (V3::V1::N0)::.call 4 (V4::V1::N0)::N0)::N0))^K0
noncomputable def aIc:Sx:=.ret (.ix V0 J1)^K0
noncomputable def aGe:Sx:=.ret (.bin .BitXor (.call 0 (V1::N0)) (.ix V0 J0))^K0
noncomputable def aN3:Sx:=.ifs (.cmp .Eq V0 (.str "add")) (.ret (.bin .Add V1 V2)^K0) .skip^.ifs (.cmp .Eq V0 (.str "sub")) (.ret (.bin .Sub V1 V2)^K0) .skip^.ret (.bin .Mult V1 V2)^K0
noncomputable def aFt:Sx:=.set 3 (.call 0 (.call 3 (.bin .BitAnd (.call 24 (V1::N0)) (.call 24 (V2::N0))::N0)::N0))^.set 4 (.bin .BitAnd (.call 28 (V0::.call 26 (V1::N0)::.call 26 (V2::N0)::N0)) V3)^.ret (.tup (.bin .BitXor V3 V4::V4::N0))^K0
noncomputable def xT:Sx:=.ifs (.cmp .NotEq V0 (.str "mul")) (.ret J0^K0) .skip^.ret (.call 0 (.blt .mn (V1::.bin .Add (.call 3 (.ix V2 J0::N0)) (.call 3 (.ix V3 J0::N0))::N0)::N0))^K0
noncomputable def aAg:Sx:=.ifs (.cmp .Eq V0 (.str "sub")) (.ret (.tup (.bin .Sub (.call 26 (V2::N0)) (.call 27 (V3::V1::N0))::.bin .Sub (.call 27 (V2::V1::N0)) (.call 26 (V3::N0))::N0))^K0) .skip^.set 4 (.call 28 (V0::.call 26 (V2::N0)::.call 26 (V3::N0)::N0))^.set 5 (.call 28 (V0::.call 27 (V2::V1::N0)::.call 27 (V3::V1::N0)::N0))^.ret (.tup (V4::V5::N0))^K0
noncomputable def xZ:Sx:=.setT (.many [4,5]) (.call 31 (V0::V1::V2::V3::N0))^.ifs (.or (.cmp .Lt V4 J0) (.cmp .Gt V5 (.call 0 (V1::N0)))) (.ret (.tup (J0::J0::N0))^K0) .skip^.ret (.call 6 (V4::V5::V1::N0))^K0
noncomputable def yD:Sx:=.ifs (.cmp .Eq V0 (.str "mul")) (.ret J1^K0) .skip^.ret (.blt .mx (J1::.bin .Sub (.blt .mn (.ix V1 J2::.ix V2 J2::N0)) J1::N0))^K0
noncomputable def aFF:Sx:=.set 4 (.call 29 (V0::V2::V3::N0))^.set 5 (.call 32 (V0::V1::V2::V3::N0))^.set 6 (.bin .BitOr (.bin .BitOr (.ix V4 J0) (.ix V5 J0)) (.call 30 (V0::V1::V2::V3::N0)))^.ret (.tup (V6::.bin .BitOr (.ix V4 J1) (.ix V5 J1)::.call 33 (V0::V2::V3::N0)::N0))^K0
noncomputable def aGa:Sx:=.ret (.tup (.bin .BitXor (.call 0 (V0::N0)) V1::V1::J1::N0))^K0
noncomputable def aEZ:Sx:=.ret (.bin .BitOr (.bin .BitAnd (.ix V0 J0) (.ix V1 J1)) (.bin .BitAnd (.ix V0 J1) (.ix V1 J0)))^K0
noncomputable def xQ:Sx:=.set 3 (.blt .mn (.ix V1 J2::.ix V2 J2::N0))^.ifs (.cmp .Eq V0 (.str "and")) (.ret (.tup (.bin .BitOr (.ix V1 J0) (.ix V2 J0)::.bin .BitAnd (.ix V1 J1) (.ix V2 J1)::V3::N0))^K0) .skip^.ifs (.cmp .Eq V0 (.str "or")) (.ret (.tup (.bin .BitAnd (.ix V1 J0) (.ix V2 J0)::.bin .BitOr (.ix V1 J1) (.ix V2 J1)::V3::N0))^K0) .skip^.set 4 (.bin .BitOr (.bin .BitAnd (.ix V1 J0) (.ix V2 J0)) (.bin .BitAnd (.ix V1 J1) (.ix V2 J1)))^.ret (.tup (V4::.call 36 (V1::V2::N0)::V3::N0))^K0
noncomputable def aFn:Sx:=.set 3 (.bin .BitOr (.bin .LShift (.ix V1 J0) V2) (.call 0 (V2::N0)))^.ret (.tup (.bin .BitAnd V3 (.call 0 (V0::N0))::.bin .BitAnd (.bin .LShift (.ix V1 J1) V2) (.call 0 (V0::N0))::.blt .mx (J1::.bin .Sub (.ix V1 J2) V2::N0)::N0))^K0
noncomputable def aBv:Sx:=.set 3 (.bin .BitOr (.bin .RShift (.ix V1 J0) V2) (.call 23 (.blt .mn (V2::V0::N0)::V0::N0)))^.ret (.tup (V3::.bin .RShift (.ix V1 J1) V2::.ite (.cmp .Eq V2 J0) (.ix V1 J2) J1::N0))^K0
noncomputable def aFh:Sx:=.set 3 (.bin .Add V0 V2)^.ret (.tup (.bin .RShift (.call 5 (.ix V1 J0::V0::V3::N0)) V2::.bin .RShift (.call 5 (.ix V1 J1::V0::V3::N0)) V2::.blt .mn (V0::.bin .Add (.ix V1 J2) V2::N0)::N0))^K0
noncomputable def aLJ:Sx:=.ifs (.cmp .Eq V0 (.str "left")) (.ret (.call 38 (V1::V2::V3::N0))^K0) .skip^.ifs (.cmp .Eq V0 (.str "right")) (.ret (.call 39 (V1::V2::V3::N0))^K0) .skip^.ret (.call 40 (V1::V2::V3::N0))^K0
noncomputable def tO:Sx:=.setT (.many [4,5,6]) V3^.ifs (.cmp .Eq V0 (.str "cut")) (.ret (.tup (.bin .BitAnd V4 (.call 0 (V2::N0))::.bin .BitAnd V5 (.call 0 (V2::N0))::.blt .mx (J1::.bin .Sub V6 (.bin .Sub V1 V2)::N0)::N0))^K0) .skip^.ifs (.cmp .Eq V0 (.str "wide")) (.ret (.tup (.bin .BitOr V4 (.call 23 (.bin .Sub V2 V1::V2::N0))::V5::.ite (.cmp .Eq V2 V1) V6 J1::N0))^K0) .skip^.ret (.tup (.call 5 (V4::V1::V2::N0)::.call 5 (V5::V1::V2::N0)::.bin .Add V6 (.bin .Sub V2 V1)::N0))^K0
noncomputable def yJ:Sx:=.ifs (.cmp .NotEq (.call 36 (V1::V2::N0)) J0) (.ret (.con "NOUGHT" tU)^K0) .skip^.ifs (.cmp .Eq (.bin .BitAnd (.call 24 (V1::N0)) (.call 24 (V2::N0))) (.call 0 (V0::N0))) (.ret (.con "ONE" vB)^K0) .skip^.ret (.con "NOTHING" qU)^K0
noncomputable def yG:Sx:=.ifs (.cmp .Lt (.call 27 (V1::V0::N0)) (.call 26 (V2::N0))) (.ret (.con "ONE" vB)^K0) .skip^.ifs (.cmp .GtE (.call 26 (V1::N0)) (.call 27 (V2::V0::N0))) (.ret (.con "NOUGHT" tU)^K0) .skip^.ret (.con "NOTHING" qU)^K0
noncomputable def aE3:Sx:=.setT (.many [3,4,5]) V0^.set 2 (.bin .BitAnd (.bin .BitXor V3 V4) (.call 23 (J1::V1::N0)))^.ret (.tup (.bin .BitXor V3 V2::.bin .BitXor V4 V2::V5::N0))^K0
noncomputable def aLr:Sx:=.ifs (.cmp .Eq V0 (.str "same")) (.ret (.call 43 (V1::V2::V3::N0))^K0) .skip^.ifs (.cmp .Eq V0 (.str "less")) (.ret (.call 44 (V1::V2::V3::N0))^K0) .skip^.ret (.call 44 (V1::.call 45 (V2::V1::N0)::.call 45 (V3::V1::N0)::N0))^K0
noncomputable def yL:Sx:=.ifs (.cmp .Eq (.ix V0 J1) J1) (.ret V1^K0) .skip^.ifs (.cmp .Eq (.ix V0 J0) J1) (.ret V2^K0) .skip^.ret (.tup (.bin .BitAnd (.ix V1 J0) (.ix V2 J0)::.bin .BitAnd (.ix V1 J1) (.ix V2 J1)::.blt .mn (.ix V1 J2::.ix V2 J2::N0)::N0))^K0
noncomputable def aMu:Sx:=.set 3 (.ix V0 J0)^.set 4 (.ix V0 J1)^.ifs (.cmp .Eq V3 (.str "in")) (.ret (.con "NOTHING" qU)^K0) .skip^.ifs (.cmp .Eq V3 (.str "num")) (.ret (.call 35 (V4::.ix V0 J2::N0))^K0) .skip^.ifs (.cmp .Eq V3 (.str "not")) (.ret (.tup (.ix (.ix V2 J0) J1::.ix (.ix V2 J0) J0::.ix (.ix V2 J0) J2::N0))^K0) .skip^.ifs (.cmp .In V3 (.con "SUMS" aC6)) (.ret (.call 34 (V3::V4::.ix V2 J0::.ix V2 J1::N0))^K0) .skip^.ifs (.cmp .In V3 (.con "SHIFTS" qV)) (.ret (.call 41 (V3::V4::.ix V2 J0::.ix V0 J3::N0))^K0) .skip^.ifs (.cmp .In V3 (.con "COMPARES" qS)) (.ret (.call 46 (V3::.ix V1 J0::.ix V2 J0::.ix V2 J1::N0))^K0) .skip^.ifs (.cmp .Eq V3 (.str "pick")) (.ret (.call 47 (.ix V2 J0::.ix V2 J1::.ix V2 J2::N0))^K0) .skip^.ifs (.cmp .In V3 (.tup (.str "and"::.str "or"::.str "xor"::N0))) (.ret (.call 37 (V3::.ix V2 J0::.ix V2 J1::N0))^K0) .skip^.ret (.call 42 (V3::.ix V1 J0::V4::.ix V2 J0::N0))^K0
noncomputable def aJx:Sx:=.ret (.call 25 (.call 48 (V0::V1::V2::N0)::.ix V0 J1::N0))^K0
noncomputable def xV:E:=.it (.ix V0 J0)
noncomputable def xU:Sx:=.expr (.app V2 (.call 49 (V3::.call 8 (V3::V1::N0)::.call 8 (V3::V2::N0)::N0)))^K0
noncomputable def aF2:Sx:=.set 1 (.call 10 (V0::N0))^.set 2 (.new (.lst .nil))^.loop (.one 3) xV xU^.ret (.blt .tup (V2::N0))^K0
noncomputable def aHP:Sx:=.ret (.bin .BitXor V0 (.bin .LShift J1 (.bin .Sub V1 J1)))^K0
noncomputable def aMI:Sx:=.ifs (.cmp .Eq V0 (.str "same")) (.set 4 (.cmp .Eq V2 V3)^K0) (.ifs (.cmp .Eq V0 (.str "less")) (.set 4 (.cmp .Lt V2 V3)^K0) (.set 4 (.cmp .Lt (.call 51 (V2::V1::N0)) (.call 51 (V3::V1::N0)))^K0)^K0)^.ret (.ite V4 J1 J0)^K0
noncomputable def aN8:Sx:=.ifs (.cmp .Eq V0 (.str "left")) (.ret (.bin .BitAnd (.bin .LShift V2 V3) (.call 0 (V1::N0)))^K0) .skip^.ifs (.cmp .Eq V0 (.str "right")) (.ret (.bin .RShift V2 V3)^K0) .skip^.ret (.bin .RShift (.call 5 (V2::V1::.bin .Add V1 V3::N0)) V3)^K0
noncomputable def aNt:Sx:=.ifs (.cmp .Eq V0 (.str "and")) (.ret (.bin .BitAnd V2 V3)^K0) .skip^.ifs (.cmp .Eq V0 (.str "or")) (.ret (.bin .BitOr V2 V3)^K0) .skip^.ifs (.cmp .Eq V0 (.str "xor")) (.ret (.bin .BitXor V2 V3)^K0) .skip^.ifs (.cmp .Eq V0 (.str "add")) (.ret (.bin .BitAnd (.bin .Add V2 V3) (.call 0 (V1::N0)))^K0) .skip^.ifs (.cmp .Eq V0 (.str "sub")) (.ret (.bin .BitAnd (.bin .Sub V2 V3) (.call 0 (V1::N0)))^K0) .skip^.ret (.bin .BitAnd (.bin .Mult V2 V3) (.call 0 (V1::N0)))^K0
noncomputable def aDn:Sx:=.set 3 (.ix V0 J0)^.set 4 (.ix V0 J1)^.ifs (.cmp .Eq V3 (.str "num")) (.ret (.ix V0 J2)^K0) .skip^.ifs (.cmp .Eq V3 (.str "not")) (.ret (.bin .BitXor (.ix V2 J0) (.call 0 (V4::N0)))^K0) .skip^.ifs (.cmp .In V3 (.con "SHIFTS" qV)) (.ret (.call 53 (V3::V4::.ix V2 J0::.ix V0 J3::N0))^K0) .skip^.ifs (.cmp .Eq V3 (.str "cut")) (.ret (.bin .BitAnd (.ix V2 J0) (.call 0 (V4::N0)))^K0) .skip^.ifs (.cmp .Eq V3 (.str "wide")) (.ret (.ix V2 J0)^K0) .skip^.ifs (.cmp .Eq V3 (.str "sign")) (.ret (.call 5 (.ix V2 J0::.ix V1 J0::V4::N0))^K0) .skip^.ifs (.cmp .In V3 (.con "COMPARES" qS)) (.ret (.call 52 (V3::.ix V1 J0::.ix V2 J0::.ix V2 J1::N0))^K0) .skip^.ifs (.cmp .Eq V3 (.str "pick")) (.ret (.ite (.cmp .Eq (.ix V2 J0) J1) (.ix V2 J1) (.ix V2 J2))^K0) .skip^.ret (.call 54 (V3::V4::.ix V2 J0::.ix V2 J1::N0))^K0
noncomputable def yH:E:=.zip (.ix V0 J0) V2
noncomputable def tL:Sx:=.ifs (.cmp .Eq (.ix V6 J0) (.str "in")) (.set 8 (.ix V1 V5)^.set 5 (.bin .Add V5 J1)^K0) (.set 8 (.call 55 (V6::.call 8 (V6::V3::N0)::.call 8 (V6::V4::N0)::N0))^K0)^.expr (.app V4 (.bin .BitXor V8 V7))^K0
noncomputable def aHx:Sx:=.set 3 (.call 10 (V0::N0))^.set 4 (.new (.lst .nil))^.set 5 J0^.loop (.many [6,7]) yH tL^.ret (.blt .tup (V4::N0))^K0
noncomputable def aKe:Sx:=.ret (.call 56 (V0::V1::.bin .Mult (.tup (J0::N0)) (.blt .len (.ix V0 J0::N0))::N0))^K0
noncomputable def aE8:E:=.comp (.ix V1 V2) (.one 2) (.it (.ix V0 J1)) .no
noncomputable def aGZ:Sx:=.ret (.blt .tup (.fz aE8::N0))^K0
noncomputable def aJy:Sx:=.ret (.call 58 (V0::.call 57 (V0::V1::N0)::N0))^K0
noncomputable def aEM:Sx:=.set 3 (.new (.lrep (.fz (.lst (J0::N0))) (.blt .len (.ix V0 J0::N0))))^.put V3 V1 (.bin .LShift J1 V2)^.ret (.blt .tup (V3::N0))^K0
noncomputable def aGS:Sx:=.set 4 (.call 56 (V0::V3::.call 60 (V0::V1::V2::N0)::N0))^.ret (.cmp .NotEq (.call 58 (V0::V4::N0)) (.call 59 (V0::V3::N0)))^K0
noncomputable def qR:E:=.enm V3
noncomputable def pC:Sx:=.ifs (.call 61 (V0::V1::V2::V6::N0)) (.ret (.tup (.str "try"::V5::N0))^K0) .skip^K0
noncomputable def zO:Sx:=.loop (.many [5,6]) qR pC^.set 4 (.call 22 (V0::.call 50 (V0::N0)::V1::V2::N0))^.ret (.tup (.ite (.cmp .Gt (.blt .len (V4::N0)) J0) (.str "way") (.str "unasked")::V4::N0))^K0
noncomputable def iH:Sx:=.setT (.many [3,4]) (.sl V0 .no (J2::N0))^.put V0 J1 (.bin .Add V4 J1)^.ifs (.and (.cmp .Lt (.bin .Add (.bin .FloorDiv V4 (.int 12)) J1) (.blt .len (V3::N0))) (.cmp .Eq (.bin .Mod (.ix V3 J0) J2) J1)) (.ifs (.cmp .Eq (.bin .Mod V4 (.int 12)) J0) (.put V0 J2 (.ix V3 (.bin .Add (.bin .FloorDiv V4 (.int 12)) J1))^K0) .skip^.set 5 (.bin .Mod (.ix V0 J2) V1)^.put V0 J2 (.bin .FloorDiv (.ix V0 J2) V1)^.ret V5^K0) .skip^.ifs (.cmp .Lt V4 (.blt .len (V3::N0))) (.ret (.bin .Mod (.ix V3 V4) V1)^K0) .skip^.set 2 (.bin .Add (.bin .Mult V4 (.int 7919)) J5)^.ifs (.cmp .Gt (.blt .len (.ix V0 J0::N0)) J0) (.set 2 (.bin .Add V2 (.bin .Mult (.ix (.ix V0 J0) (.bin .Mod (.bin .Mult V4 J7) (.blt .len (.ix V0 J0::N0)))) (.bin .Add (.int 48271) V4)))^K0) .skip^.set 2 (.bin .Mod (.bin .Mult (.bin .Mod V2 (.int 2147483629)) (.bin .Add V4 J3)) (.int 2147483629))^.set 2 (.bin .Mod (.bin .Mult V2 V2) (.int 2147483587))^.ret (.bin .Mod (.bin .Mod (.bin .Mult V2 V2) (.int 1999999973)) V1)^K0
noncomputable def aBp:Sx:=.ifs (.cmp .Lt V1 (.int 31)) (.ret (.call 63 (V0::.bin .LShift J1 V1::N0))^K0) .skip^.ret (.bin .Add (.call 63 (V0::.bin .LShift J1 (.int 30)::N0)) (.bin .LShift (.call 63 (V0::.bin .LShift J1 (.bin .Sub V1 (.int 30))::N0)) (.int 30)))^K0
noncomputable def aE4:Sx:=.ret (.ix (.fz (.lst (J1::.int 64::.bin .Add J1 (.call 63 (V0::J8::N0))::.bin .Add J1 (.call 63 (V0::.int 64::N0))::N0))) (.call 63 (V0::J4::N0)))^K0
noncomputable def aBQ:Sx:=.set 2 (.call 63 (V0::J5::N0))^.set 3 (.fz (.lst (J0::.bin .Sub (.bin .LShift J1 V1) J1::.bin .LShift J1 (.call 63 (V0::V1::N0))::.bin .Sub (.bin .LShift J1 (.call 63 (V0::V1::N0))) J1::N0)))^.ifs (.cmp .Lt V2 J4) (.ret (.ix V3 V2)^K0) .skip^.ret (.call 64 (V0::V1::N0))^K0
noncomputable def tP:Sx:=.ifs (.cmp .Eq (.ix (.ix V1 V2) J1) V3) (.ret V2^K0) .skip^.set 4 (.ix (.fz (.lst (.str "wide"::.str "sign"::N0))) (.call 63 (V0::J2::N0)))^.ifs (.cmp .Gt (.ix (.ix V1 V2) J1) V3) (.set 4 (.str "cut")^K0) .skip^.expr (.app V1 (.tup (V4::V3::V2::N0)))^.ret (.bin .Sub (.blt .len (V1::N0)) J1)^K0
noncomputable def aLc:E:=.comp V4 (.one 4) (.rng1 (.blt .len (V1::N0))) (.cmp .Eq (.ix (.ix V1 V4) J1) V2)
noncomputable def tF:Sx:=.setC false 3 aLc^.ifs (.and (.cmp .NotEq V3 (.fz (.lst .nil))) (.cmp .Gt (.call 63 (V0::J4::N0)) J0)) (.ret (.ix V3 (.bin .Sub (.bin .Sub (.blt .len (V3::N0)) J1) (.call 63 (V0::.blt .len (V3::N0)::N0))))^K0) .skip^.ret (.call 67 (V0::V1::.call 63 (V0::.blt .len (V1::N0)::N0)::V2::N0))^K0
noncomputable def aBl:Sx:=.set 3 (.call 63 (V0::.blt .len (V1::N0)::N0))^.set 4 (.ix (.ix V1 V3) J1)^.ifs (.cmp .Eq V2 (.str "cut")) (.ret (.tup (.str "cut"::.bin .Add J1 (.call 63 (V0::V4::N0))::V3::N0))^K0) .skip^.ret (.tup (V2::.bin .Add V4 (.call 63 (V0::.bin .Sub (.int 65) V4::N0))::V3::N0))^K0
noncomputable def aBu:Sx:=.set 4 (.ix (.fz (.lst (.call 63 (V0::V3::N0)::.call 63 (V0::.int 64::N0)::N0))) (.bin .FloorDiv (.call 63 (V0::J4::N0)) J3))^.ret (.tup (V2::V3::.call 68 (V0::V1::V3::N0)::V4::N0))^K0
noncomputable def aBE:Sx:=.set 4 (.call 68 (V0::V1::V3::N0))^.set 5 (.call 68 (V0::V1::V3::N0))^.ifs (.cmp .In V2 (.tup (.str "same"::.str "less"::.str "under"::N0))) (.set 3 J1^K0) .skip^.ret (.tup (V2::V3::V4::V5::N0))^K0
noncomputable def jL:Sx:=.set 2 (.fz (.lst (.str "in"::.str "num"::.str "num"::.str "not"::.str "and"::.str "or"::.str "xor"::.str "add"::.str "sub"::.str "mul"::.str "left"::.str "right"::.str "slide"::.str "cut"::N0)))^.set 2 (.bin .Add V2 (.fz (.lst (.str "wide"::.str "sign"::.str "same"::.str "less"::.str "under"::.str "pick"::N0))))^.set 3 (.ix V2 (.call 63 (V0::.int 20::N0)))^.set 4 (.ix (.ix V1 (.call 63 (V0::.blt .len (V1::N0)::N0))) J1)^.ifs (.cmp .Eq (.call 63 (V0::J4::N0)) J1) (.set 4 (.call 65 (V0::N0))^K0) .skip^.ifs (.cmp .Eq V3 (.str "in")) (.set 5 (.tup (.str "in"::V4::N0))^K0) (.ifs (.cmp .Eq V3 (.str "num")) (.set 5 (.tup (.str "num"::V4::.call 66 (V0::V4::N0)::N0))^K0) (.ifs (.cmp .Eq V3 (.str "not")) (.set 5 (.tup (.str "not"::V4::.call 68 (V0::V1::V4::N0)::N0))^K0) (.ifs (.cmp .In V3 (.tup (.str "left"::.str "right"::.str "slide"::N0))) (.set 5 (.call 70 (V0::V1::V3::V4::N0))^K0) (.ifs (.cmp .In V3 (.tup (.str "cut"::.str "wide"::.str "sign"::N0))) (.set 5 (.call 69 (V0::V1::V3::N0))^K0) (.ifs (.cmp .Eq V3 (.str "pick")) (.set 6 (.call 68 (V0::V1::J1::N0))^.set 5 (.bin .Add (.tup (.str "pick"::V4::V6::N0)) (.sl (.call 71 (V0::V1::V3::V4::N0)) (J2::N0) .no))^K0) (.set 5 (.call 71 (V0::V1::V3::V4::N0))^K0)^K0)^K0)^K0)^K0)^K0)^.expr (.app V1 V5)^K0
noncomputable def aBm:E:=.rng1 (.ix (.fz (.lst (.call 63 (V0::J3::N0)::J7::N0))) (.blt .int (.cmp .Eq (.call 63 (V0::J8::N0)) J1::N0)))
noncomputable def aBn:Sx:=.expr (.app V5 (.call 63 (V0::.blt .len (V2::N0)::N0)))^K0
noncomputable def xM:E:=.rng1 V1
noncomputable def xN:Sx:=.ifs (.cmp .Lt (.blt .len (V2::N0)) (.int 37)) (.expr (.call 72 (V0::V2::N0))^K0) .skip^K0
noncomputable def lL:Sx:=.set 2 (.new (.lst (.tup (.str "in"::.call 65 (V0::N0)::N0)::N0)))^.loop (.one 3) xM xN^.set 4 (.fz (.lst (.bin .Sub (.blt .len (V2::N0)) J1::.call 63 (V0::.blt .len (V2::N0)::N0)::N0)))^.set 5 (.new (.lst (.ix V4 (.blt .int (.cmp .Eq (.call 63 (V0::J4::N0)) J1::N0))::N0)))^.loop (.one 3) aBm aBn^.ret (.tup (.blt .tup (V2::N0)::.blt .tup (V5::N0)::N0))^K0
noncomputable def xO:E:=.it (.ix V1 J0)
noncomputable def tE:Sx:=.ifs (.cmp .Eq (.ix V3 J0) (.str "in")) (.expr (.app V2 (.call 66 (V0::.ix V3 J1::N0)))^K0) .skip^K0
noncomputable def aEX:Sx:=.set 2 (.new (.lst .nil))^.loop (.one 3) xO tE^.ret (.blt .tup (V2::N0))^K0
noncomputable def aEy:E:=.comp (.and (.cmp .Eq V7 (.ix V2 J0)) (.cmp .Eq (.bin .BitAnd (.bin .RShift V8 (.ix V2 J1)) J1) J1)) (.many [7,8]) (.zip V5 V6) .no
noncomputable def aEx:E:=.comp (.ix V1 V7) (.one 7) (.it V5) .no
noncomputable def aEw:E:=.comp (.call 9 (V0::V7::N0)) (.one 7) (.it V5) .no
noncomputable def aED:Sx:=.set 4 (.ix (.ix V0 J0) (.ix V3 J0))^.set 5 (.call 7 (V4::N0))^.set 6 (.call 17 (V4::.blt .tup (.fz aEw::N0)::.blt .tup (.fz aEx::N0)::.bin .LShift J1 (.ix V3 J1)::N0))^.ret (.blt .any (.fz aEy::N0))^K0
noncomputable def aEz:E:=.comp (.chn .LtE .Lt J0 (.ix V6 J1) (.call 9 (V0::.ix V6 J0::N0))) (.one 6) (.it V2) .no
noncomputable def xL:E:=.rng1 (.bin .Sub (.blt .len (V2::N0)) J1)
noncomputable def xK:Sx:=.ifs (.not (.call 75 (V0::V1::.ix V2 V5::.ix V2 (.bin .Add V5 J1)::N0))) (.ret (.bl false)^K0) .skip^K0
noncomputable def aEE:Sx:=.ifs (.or (.not (.isi V2 .tup)) (.or (.cmp .NotEq (.sl V2 .no (J1::N0)) (.tup (.tup (V3::V4::N0)::N0))) (.cmp .NotIn (.ix (.ix V2 (.un .USub J1)) J0) (.ix V0 J1)))) (.ret (.bl false)^K0) .skip^.loop (.one 5) xL xK^.ret (.blt .all (.fz aEz::N0))^K0
noncomputable def aET:E:=.comp (.ix V5 V6) (.one 6) (.it (.ix V0 J1)) .no
noncomputable def aFV:Sx:=.set 4 (.new (.lrep (.fz (.lst (J0::N0))) (.blt .len (.ix V0 J0::N0))))^.put V4 V1 (.bin .LShift J1 V2)^.set 5 (.call 56 (V0::V3::.blt .tup (V4::N0)::N0))^.ret (.cmp .NotEq (.fz aET) (.fz (.lof (.call 59 (V0::V3::N0)))))^K0
noncomputable def aEH:E:=.comp (.call 74 (V0::V1::N0)) (.one 2) (.rng1 (.call 63 (V0::J6::N0))) .no
noncomputable def aFg:Sx:=.ret (.blt .tup (.fz aEH::N0))^K0
noncomputable def xP:Sx:=.setT (.many [5,6]) V4^.ifs (.or (.not (.isi V0 .tup)) (.cmp .NotEq (.blt .len (V0::N0)) J2)) (.ret (.bl false)^K0) .skip^.ifs (.cmp .In (.bl true) V1) (.ret (.and (.cmp .Eq V0 (.tup (.str "try"::.idx V1 (.bl true)::N0))) (.not (.isi (.ix V0 J1) .bool)))^K0) .skip^.ifs (.cmp .Eq (.bin .BitAnd (.bin .RShift (.ix (.call 19 (V3::V2::N0)) V5) V6) J1) J0) (.ret (.cmp .Eq V0 (.tup (.str "unasked"::.tup .nil::N0)))^K0) .skip^.ret (.and (.cmp .Eq (.ix V0 J0) (.str "way")) (.call 76 (V3::V2::.ix V0 J1::V5::V6::N0)))^K0
noncomputable def aEK:E:=.comp (.var 10) (.many [10,11]) (.zip V2 V3) (.var 11)
noncomputable def aEI:E:=.comp (.var 10) (.many [10,11]) (.zip V2 V3) (.not (.var 11))
noncomputable def aL9:Sx:=.setC false 5 aEI^.setC false 6 aEK^.ifs (.cmp .Eq V5 (.fz (.lst .nil))) (.ret (.bl true)^K0) .skip^.set 7 (.blt .tup (.bin .Add (.sl (.bin .Mult V5 (.int 299)) .no (.int 299::N0)) (.sl (.bin .Add V6 V5) .no (J1::N0))::N0))^.set 8 (.call 62 (V0::.ix V1 J0::.ix V1 J1::V7::N0))^.set 9 (.bin .Add (.bin .Mult (.fz (.lst (.bl false::N0))) (.int 299)) (.fz (.lst (.cmp .NotEq V6 (.fz (.lst .nil))::N0))))^.ret (.call 79 (V8::V9::V4::V0::V1::N0))^K0
noncomputable def zT:E:=.zip V6 V7
noncomputable def aCL:Sx:=.set 13 (.call 61 (V2::V3::V5::.var 11::N0))^.ifs (.or (.not (.isi (.var 13) .bool)) (.cmp .NotEq (.var 13) (.var 12))) (.ret (.bl false)^K0) .skip^K0
noncomputable def aCI:E:=.comp (.call 77 (V2::V3::V5::.var 11::N0)) (.one 11) (.it V6) .no
noncomputable def mO:Sx:=.set 1 (.new (.lst (V0::J0::J0::N0)))^.set 2 (.call 73 (V1::.bin .Add J1 (.blt .mn (.blt .len (V0::N0)::.int 16::N0))::N0))^.set 3 (.call 63 (V1::.blt .len (.ix V2 J0::N0)::N0))^.set 4 (.call 9 (V2::V3::N0))^.set 5 (.ix (.fz (.lst (J0::.bin .Sub V4 J1::.call 63 (V1::V4::N0)::.call 63 (V1::V4::N0)::N0))) (.call 63 (V1::J4::N0)))^.set 6 (.call 78 (V1::V2::N0))^.setC false 7 aCI^.loop (.many [11,12]) zT aCL^.set 8 (.call 50 (V2::N0))^.ifs (.and (.cmp .In (.bl true) V7) (.cmp .Eq (.bin .BitAnd (.bin .RShift (.ix (.call 19 (V2::V8::N0)) V3) V5) J1) J0)) (.ret (.bl false)^K0) .skip^.set 9 (.tup (V3::V5::N0))^.ifs (.not (.call 79 (.call 62 (V2::V3::V5::.tup .nil::N0)::.fz (.lst .nil)::V8::V2::V9::N0))) (.ret (.bl false)^K0) .skip^.set 10 (.cmp .Eq (.call 63 (V1::.int 32::N0)) J5)^.ifs (.and (.var 10) (.not (.call 80 (V2::V9::V6::V7::V8::N0)))) (.ret (.bl false)^K0) .skip^.ret (.call 79 (.call 62 (V2::V3::V5::V6::N0)::V7::V8::V2::V9::N0))^K0
end
noncomputable def fns:List Fn:=[
 {name:="full",np:=1,N:=["width"],body:=aJY,st:=top 1 },
 {name:="reach",np:=1,N:=["number"],body:=aI3,st:=top 2 },
 {name:="below",np:=1,N:=["number"],body:=aH2,st:=top 3 },
 {name:="low_run",np:=1,N:=["number"],body:=aGB,st:=top 4 },
 {name:="top_run",np:=2,N:=["number", "width"],body:=aGp,st:=top 5 },
 {name:="stretched",np:=3,N:=["number", "width", "wider", "top"],body:=aBB,st:=top 6 },
 {name:="shared_top",np:=3,N:=["least", "greatest", "width", "known", "ones"],body:=aE0,st:=top 7 },
 {name:="operands",np:=1,N:=["row"],body:=aM2,st:=top 13 },
 {name:="of_operands",np:=2,N:=["row", "values", "k"],body:=aEY,st:=top 14 },
 {name:="width_of",np:=2,N:=["program", "k", "rows"],body:=aFL,st:=top 15 },
 {name:="widths_of",np:=1,N:=["program", "row"],body:=aFv,st:=top 16 },
 {name:="settled_need",np:=3,N:=["first", "second", "mask"],body:=aEN,st:=top 18 },
 {name:="mul_need",np:=3,N:=["first", "second", "mask", "h", "u", "g"],body:=aF7,st:=top 19 },
 {name:="folded",np:=2,N:=["mask", "width"],body:=aCu,st:=top 20 },
 {name:="shift_need",np:=4,N:=["word", "width", "k", "mask"],body:=xW,st:=top 21 },
 {name:="pick_need",np:=2,N:=["choice", "mask"],body:=yO,st:=top 22 },
 {name:="asking_need",np:=4,N:=["row", "widths", "facts", "mask", "word"],body:=aEV,st:=top 23 },
 {name:="need",np:=4,N:=["row", "widths", "facts", "mask"],body:=aDu,st:=top 24 },
 {name:="row_needs",np:=4,N:=["program", "facts", "k", "mask", "row", "widths", "needs", "operand"],body:=aFA,st:=top 26 },
 {name:="asked",np:=2,N:=["program", "facts", "masks", "out", "k", "rows", "outs", "operand", "mask"],body:=fZ,st:=top 27 },
 {name:="needs_bit",np:=5,N:=["program", "facts", "step", "row", "bit", "needs", "operand", "mask"],body:=aFz,st:=top 28 },
 {name:="next_step",np:=5,N:=["program", "facts", "masks", "row", "bit", "k", "place"],body:=qQ,st:=top 29 },
 {name:="way",np:=4,N:=["program", "facts", "row", "bit", "masks", "step", "steps"],body:=aD4,st:=top 30 },
 {name:="top_mask",np:=2,N:=["count", "width"],body:=aFH,st:=top 32 },
 {name:="known_bits",np:=1,N:=["fact"],body:=aE6,st:=top 33 },
 {name:="closed",np:=2,N:=["fact", "width", "top", "noughts", "ones", "alike"],body:=uF,st:=top 34 },
 {name:="least",np:=1,N:=["fact"],body:=aIc,st:=top 35 },
 {name:="greatest",np:=2,N:=["fact", "width"],body:=aGe,st:=top 36 },
 {name:="outcome",np:=3,N:=["word", "one", "other"],body:=aN3,st:=top 38 },
 {name:="low_masks",np:=3,N:=["word", "one", "other", "low", "ones"],body:=aFt,st:=top 39 },
 {name:="low_noughts",np:=4,N:=["word", "width", "one", "other"],body:=xT,st:=top 40 },
 {name:="bounds",np:=4,N:=["word", "width", "one", "other", "lowest", "highest"],body:=aAg,st:=top 41 },
 {name:="top_masks",np:=4,N:=["word", "width", "one", "other", "lowest", "highest"],body:=xZ,st:=top 42 },
 {name:="sum_alike",np:=3,N:=["word", "one", "other"],body:=yD,st:=top 43 },
 {name:="sum_fact",np:=4,N:=["word", "width", "one", "other", "low", "top", "noughts"],body:=aFF,st:=top 44 },
 {name:="num_fact",np:=2,N:=["width", "number"],body:=aGa,st:=top 49 },
 {name:="unlike_bits",np:=2,N:=["one", "other"],body:=aEZ,st:=top 50 },
 {name:="bitwise_fact",np:=3,N:=["word", "one", "other", "alike", "noughts"],body:=xQ,st:=top 51 },
 {name:="left_fact",np:=3,N:=["width", "fact", "k", "noughts"],body:=aFn,st:=top 52 },
 {name:="right_fact",np:=3,N:=["width", "fact", "k", "noughts"],body:=aBv,st:=top 53 },
 {name:="slide_fact",np:=3,N:=["width", "fact", "k", "wider"],body:=aFh,st:=top 54 },
 {name:="shift_fact",np:=4,N:=["word", "width", "fact", "k"],body:=aLJ,st:=top 55 },
 {name:="fit_fact",np:=4,N:=["word", "v", "w", "fact", "noughts", "ones", "alike"],body:=tO,st:=top 56 },
 {name:="same_fact",np:=3,N:=["width", "one", "other"],body:=yJ,st:=top 57 },
 {name:="less_fact",np:=3,N:=["width", "one", "other"],body:=yG,st:=top 58 },
 {name:="top_turned",np:=2,N:=["fact", "width", "turning", "noughts", "ones", "alike"],body:=aE3,st:=top 59 },
 {name:="compare_fact",np:=4,N:=["word", "width", "one", "other"],body:=aLr,st:=top 60 },
 {name:="pick_fact",np:=3,N:=["choice", "one", "other"],body:=yL,st:=top 61 },
 {name:="open_fact",np:=3,N:=["row", "widths", "facts", "word", "width"],body:=aMu,st:=top 62 },
 {name:="rule",np:=3,N:=["row", "widths", "facts"],body:=aJx,st:=top 63 },
 {name:="facts_of",np:=1,N:=["program", "widths", "facts", "row"],body:=aF2,st:=top 64 },
 {name:="lifted",np:=2,N:=["number", "width"],body:=aHP,st:=top 66 },
 {name:="compared",np:=4,N:=["word", "width", "one", "other", "found"],body:=aMI,st:=top 67 },
 {name:="shifted",np:=4,N:=["word", "width", "number", "k"],body:=aN8,st:=top 68 },
 {name:="combined",np:=4,N:=["word", "width", "one", "other"],body:=aNt,st:=top 69 },
 {name:="work",np:=3,N:=["row", "widths", "numbers", "word", "width"],body:=aDn,st:=top 70 },
 {name:="turned",np:=3,N:=["program", "inputs", "masks", "widths", "numbers", "taken", "row", "mask", "number"],body:=aHx,st:=top 72 },
 {name:="run",np:=2,N:=["program", "inputs"],body:=aKe,st:=top 73 },
 {name:="of_outs",np:=2,N:=["program", "numbers", "out"],body:=aGZ,st:=top 74 },
 {name:="told",np:=2,N:=["program", "inputs"],body:=aJy,st:=top 75 },
 {name:="single_masks",np:=3,N:=["program", "row", "bit", "masks"],body:=aEM,st:=top 77 },
 {name:="matters",np:=4,N:=["program", "row", "bit", "try_", "numbers"],body:=aGS,st:=top 78 },
 {name:="matter",np:=4,N:=["program", "row", "bit", "tries", "steps", "t", "try_"],body:=zO,st:=top 79 },
 {name:="_law_draw",np:=2,N:=["_law_state", "_law_many", "_law_cell", "_law_script", "_law_k", "_law_digit"],body:=iH,st:=top 81 },
 {name:="_law_number",np:=2,N:=["_law_state", "_law_width_here"],body:=aBp,st:=top 82 },
 {name:="_law_width",np:=1,N:=["_law_state"],body:=aE4,st:=top 83 },
 {name:="_law_num",np:=2,N:=["_law_state", "_law_width_here", "_law_sort", "_law_some"],body:=aBQ,st:=top 84 },
 {name:="_law_fit",np:=4,N:=["_law_state", "_law_rows", "_law_a", "_law_width_here", "_law_word"],body:=tP,st:=top 85 },
 {name:="_law_operand",np:=3,N:=["_law_state", "_law_rows", "_law_width_here", "_law_some", "_law_k"],body:=tF,st:=top 86 },
 {name:="_law_turned_width",np:=3,N:=["_law_state", "_law_rows", "_law_word", "_law_a", "_law_width_here"],body:=aBl,st:=top 87 },
 {name:="_law_shift",np:=4,N:=["_law_state", "_law_rows", "_law_word", "_law_width_here", "_law_k"],body:=aBu,st:=top 88 },
 {name:="_law_pair",np:=4,N:=["_law_state", "_law_rows", "_law_word", "_law_width_here", "_law_a", "_law_b"],body:=aBE,st:=top 89 },
 {name:="_law_row",np:=2,N:=["_law_state", "_law_rows", "_law_some", "_law_word", "_law_width_here", "_law_row_here", "_law_c"],body:=jL,st:=top 90 },
 {name:="_law_program",np:=2,N:=["_law_state", "_law_most", "_law_rows", "_law_k", "_law_last", "_law_outs"],body:=lL,st:=top 91 },
 {name:="_law_inputs",np:=2,N:=["_law_state", "_law_program_here", "_law_found", "_law_row_here"],body:=aEX,st:=top 92 },
 {name:="_law_step_good",np:=4,N:=["_law_program_here", "_law_facts", "_law_here", "_law_there", "_law_row_here", "_law_some", "_law_masks", "_law_a", "_law_mask"],body:=aED,st:=top 93 },
 {name:="_law_way_good",np:=5,N:=["_law_program_here", "_law_facts", "_law_found", "_law_row_here", "_law_bit", "_law_k", "_law_one"],body:=aEE,st:=top 94 },
 {name:="_law_due",np:=4,N:=["_law_program_here", "_law_row_here", "_law_bit", "_law_some", "_law_masks", "_law_numbers", "_law_out"],body:=aFV,st:=top 95 },
 {name:="_law_tries",np:=2,N:=["_law_state", "_law_program_here", "_law_k"],body:=aFg,st:=top 96 },
 {name:="_law_answered",np:=5,N:=["_law_found", "_law_due_here", "_law_facts", "_law_program_here", "_law_place", "_law_row_here", "_law_bit"],body:=xP,st:=top 97 },
 {name:="_law_late",np:=5,N:=["_law_program_here", "_law_place", "_law_tries_here", "_law_due_here", "_law_facts", "_law_quiet", "_law_loud", "_law_long", "_law_found", "_law_late_here", "_law_some", "_law_one"],body:=aL9,st:=top 98 },
 {name:="law",np:=1,N:=["_law_script", "_law_state", "_law_program_here", "_law_row_here", "_law_width_here", "_law_bit", "_law_tries_here", "_law_due_here", "_law_facts", "_law_place", "_law_late_here", "_law_some", "_law_one", "_law_found"],body:=mO,st:=top 99 }]
noncomputable def aQ(ns:List Int)(k:Nat)(x:Int):List D:=[.list (ns.map yAk),.int k,.int x]
theorem aPU{α:Type}{S:List α}{n:Nat}{a v:α}(h:S[n]? = qq a):(S.set n v)[n]? = qq v:=yBc (gIm h).1
theorem aBP{α:Type}(S:List α)(n:Nat)(v:α):(S.set n v).take S.length=S.set n v:=by
 rw[yDe];rw[yBh];exact yAb _
theorem aIn(a b c:D):aH (.list [a,b,c]) (.int 0)=qq a:=rfl
theorem aIy(a b c:D):aH (.list [a,b,c]) (.int 2)=qq c:=rfl
theorem aWx(a b c:D):eC [a,b,c] qz (qq 2)=[a,b]:=rfl
theorem rE{ns:List Int}{k:Nat}(h:k<ns.length):aH (.list (ns.map yAk)) (.int k)=qq (.int ns[k]):=nV (by rw[xAb,yAa h];rfl)
theorem uC(i:Int){w:Nat}(hw:0<w):∃ r:Nat,i%(w:Int)=(r:Int)/\r<w:=by
 have h0:=Int.emod_nonneg i (show(w:Int)≠0 by omega)
 have h1:=yGo i (show(0:Int)<(w:Int) by omega)
 exact⟨(i%(w:Int)).toNat,by omega,by omega⟩
theorem aVy:iF 3 1=qq 1:=rfl
theorem aJA:iF 3 2=qq 2:=rfl
theorem pG(ns:List Int):(ns.map yAk).length=ns.length:=yAd ..
noncomputable def qW:Sx:=match iH with
 | .seq _ (.seq _ (.seq _ r))=>r
 | _=>.skip
theorem qT(i p:Int)(hp:0<p)(hp2:p<=2147483647) : -(2^64)<i%p/\i%p<2^64:=by
 have h0:=Int.emod_nonneg i (show p≠0 by omega)
 have h1:=yGo i hp;exact⟨by omega,by omega⟩
theorem aM3(C:Calls)(n k m:Nat)(ns:List Int)(x:Int)(S:aE)(e2 e5:Option W)(hS:S[n]? = qq (qq (aQ ns (k+1) x)))(hm:0<m)(hk:k<=100000) :
 ∃ r:Nat,r<m/\xs C qW [qq (.loc n),qq (.d (.int m)),e2,qq (.d (.list (ns.map yAk))),qq (.d (.int k)),e5] S=qq (.rt (.d (.int r)),S):=by
 unfold aQ at hS;have hm':(0:Int)<(m:Int):=by omega
 by_cases c1:k<ns.length
 ·have d1:decide ((k:Int)<((ns.length:Nat):Int))=true:=dqT (by omega)
  obtain⟨r,er,hr⟩:=uC ns[k] hm;refine⟨r,hr,?_⟩;simp only[gS2,qW,iH,dU,dS,pG,dY,d1,rE c1,fG hm',er]
 ·have d1:decide ((k:Int)<((ns.length:Nat):Int))=false:=dqF (by omega)
  have bI:∀ c:Int,∃ r:Nat,r<m/\c%2147483629*((k:Int)+3)%2147483629*(c%2147483629*((k:Int)+3)%2147483629)%2147483587*(c%2147483629*((k:Int)+3)%2147483629*(c%2147483629*((k:Int)+3)%2147483629)%2147483587)%1999999973%(m:Int)=(r:Int):=λ c=>by
   obtain⟨r,er,hr⟩:=uC (c%2147483629*((k:Int)+3)%2147483629*(c%2147483629*((k:Int)+3)%2147483629)%2147483587*(c%2147483629*((k:Int)+3)%2147483629*(c%2147483629*((k:Int)+3)%2147483629)%2147483587)%1999999973) hm;exact⟨r,hr,er⟩
  by_cases c2:0<ns.length
  ·have d2:decide ((0:Int)<((ns.length:Nat):Int))=true:=dqT (by omega)
   obtain⟨q,eq,hq⟩:=uC ((k:Int)*7) c2;obtain⟨r,hr,er⟩:=bI ((k:Int)*7919+5+ns[q]*(48271+(k:Int)));refine⟨r,hr,?_⟩;have s1:=qT ((k:Int)*7919+5+ns[q]*(48271+(k:Int))) 2147483629 (by decide) (by decide)
   have s2:=qT (((k:Int)*7919+5+ns[q]*(48271+(k:Int)))%2147483629*((k:Int)+3)) 2147483629 (by decide) (by decide)
   have s3:=qT (((k:Int)*7919+5+ns[q]*(48271+(k:Int)))%2147483629*((k:Int)+3)%2147483629*(((k:Int)*7919+5+ns[q]*(48271+(k:Int)))%2147483629*((k:Int)+3)%2147483629)) 2147483587 (by decide) (by decide)
   simp only[evs,qW,iH,dU,dS,pG,dY,d1,aAa (i:=(k:Int)) (j:=7919) (by decide) (by decide),dR,hS,aIn,kZ,d2,aAa (i:=(k:Int)) (j:=7) (by decide) (by decide),fG (i:=(k:Int)*7) (j:=((ns.length:Nat):Int)) (by omega),eq,rE hq,
    aAa (i:=ns[q]) (j:=48271+(k:Int)) (by omega) (by omega),fG (j:=2147483629) (by decide),nH s1.1 s1.2,nH s2.1 s2.2,fG (j:=2147483587) (by decide),nH s3.1 s3.2,fG (j:=1999999973) (by decide),fG hm',er]
  ·have d2:decide ((0:Int)<((ns.length:Nat):Int))=false:=dqF (by omega)
   obtain⟨r,hr,er⟩:=bI ((k:Int)*7919+5);refine⟨r,hr,?_⟩;have s1:=qT ((k:Int)*7919+5) 2147483629 (by decide) (by decide)
   have s2:=qT (((k:Int)*7919+5)%2147483629*((k:Int)+3)) 2147483629 (by decide) (by decide)
   have s3:=qT (((k:Int)*7919+5)%2147483629*((k:Int)+3)%2147483629*(((k:Int)*7919+5)%2147483629*((k:Int)+3)%2147483629)) 2147483587 (by decide) (by decide)
   have hq1:=aAa (i:=(k:Int)) (j:=7919) (by decide) (by decide)
   have hq2:=λ i=>fG (i:=i) (j:=2147483629) (by decide)
   have hq3:=λ i=>fG (i:=i) (j:=2147483587) (by decide)
   have hq4:=λ i=>fG (i:=i) (j:=1999999973) (by decide)
   simp only[gS2,qW,iH,dU,dS,pG,dY,d1,hq1,dR,hS,aIn,kZ,d2,hq2,nH s1.1 s1.2,nH s2.1 s2.2,hq3,nH s3.1 s3.2,hq4,fG hm',er]
noncomputable def pJ:Sx:=match iH with
 | .seq _ (.seq _ (.seq i _))=>i
 | _=>.skip
noncomputable def aCx:Sx:=match iH with
 | .seq _ (.seq p _)=>p
 | _=>.skip
noncomputable def zL:Sx:=match iH with
 | .seq p _=>p
 | _=>.skip
theorem aQx(d n k m:Nat)(ns:List Int)(x:Int)(S:aE)(hS:S[n]? = qq (qq (aQ ns k x)))(hm:0<m)(hm2:m<2^64)(hk:k<=100000) :
 ∃ (r:Nat) (x':Int),r<m/\cl fns (d+1) 63 [.loc n,.d (.int m)] S=qq (.d (.int r),S.set n (qq (aQ ns (k+1) x'))):=by
 have hm':(0:Int)<(m:Int):=by omega
 have hm2':(m:Int)<2^64:=by exact_mod_cast hm2
 have e1:(k:Int)/12+1=((k/12+1:Nat):Int):=by omega
 have e2:(k:Int)+1=((k+1:Nat):Int):=by omega
 have gs:=λ v=>aPU (v:=v) hS
 have start:(dL (xs (aC fns d) zL) (xs (aC fns d) aCx)) [qq (.loc n),qq (.d (.int m)),qz,qz,qz,qz] S=qq (.nx [qq (.loc n),qq (.d (.int m)),qz,qq (.d (.list (ns.map yAk))),qq (.d (.int k)),qz],S.set n (qq (aQ ns (k+1) x))):=by
  unfold aQ at hS ⊢;simp only[gS3,zL,aCx,iH,lJ,lC,qG,hS,aWx,jE,iP,aVy,dR,e2]
 have eS:∀ (R:Option (Fl×aE)),dL (xs (aC fns d) pJ) (xs (aC fns d) qW) [qq (.loc n),qq (.d (.int m)),qz,qq (.d (.list (ns.map yAk))),qq (.d (.int k)),qz] (S.set n (qq (aQ ns (k+1) x)))=R ->
  cl fns (d+1) 63 [.loc n,.d (.int m)] S=R.bind λ p=>match p.1 with
   | .rt w=>jV S.length p.2 w
   | .nx _=>qq (.d .none,p.2.take S.length)
   | _=>qz:=λ R hR=>by
  rw[aU rfl d _ S rfl,<- hR];simp only[dL] at start ⊢;cases q:xs (aC fns d) zL [qq (.loc n),qq (.d (.int m)),qz,qz,qz,qz] S with
  | none=>rw[q] at start;cases start
  | some z =>
    obtain⟨fl,S1⟩:=z;rw[q] at start;simp only[oB] at start;cases fl with
    | nx e =>
      simp only at start;show((dL (xs (aC fns d) zL) (dL (xs (aC fns d) aCx) (dL (xs (aC fns d) pJ) (xs (aC fns d) qW)))) [qq (.loc n),qq (.d (.int m)),qz,qz,qz,qz] S).bind _=_;simp only[dL,q,oB,start]
      all_goals rfl
    | rt w=>cases start
    | bk e=>cases start
    | ct e=>cases start
 have hS2:(S.set n (qq (aQ ns (k+1) x)))[n]? = qq (qq (aQ ns (k+1) x)):=gs _;have skip:xs (aC fns d) pJ [qq (.loc n),qq (.d (.int m)),qz,qq (.d (.list (ns.map yAk))),qq (.d (.int k)),qz] (S.set n (qq (aQ ns (k+1) x)))=qq (.nx [qq (.loc n),qq (.d (.int m)),qz,qq (.d (.list (ns.map yAk))),qq (.d (.int k)),qz],S.set n (qq (aQ ns (k+1) x))) ->
  ∃ (r:Nat) (x':Int),r<m/\cl fns (d+1) 63 [.loc n,.d (.int m)] S=qq (.d (.int r),S.set n (qq (aQ ns (k+1) x'))):=λ h=>by
  obtain⟨r,hr,ht⟩:=aM3 (aC fns d) n k m ns x _ qz qz hS2 hm hk;refine⟨r,x,hr,?_⟩;rw[eS _ rfl];simp only[dL,h,oB,ht,jV,aBP]
 by_cases c1:k/12+1<ns.length
 ·have d1:decide (((k/12+1:Nat):Int)<((ns.length:Nat):Int))=true:=dqT (by omega)
  have i0:aH (.list (ns.map yAk)) (.int 0)=qq (.int ns[0]):=rE (k:=0) (by omega)
  rcases yDw (ns[0]%2==1) with c2 | c2
  ·rcases yDw ((k:Int)%12==0) with c3 | c3
   ·obtain⟨r,er,hr⟩:=uC ns[k/12+1] hm;refine⟨r,ns[k/12+1]/(m:Int),hr,?_⟩;rw[eS _ rfl];unfold aQ at hS2 ⊢;have hq5:=nO (i:=(k:Int)) (j:=12) (by decide) (by decide)
    have hq6:=fG (i:=ns[0]) (j:=2) (by decide)
    have hq7:=fG (i:=(k:Int)) (j:=12) (by decide)
    simp only[gS2,pJ,iH,jE,iP,aJA,dR,hq5,e1,dU,dS,pG,dY,d1,i0,hq6,bO,c2,hq7,c3,hS2,gs,yHn,rE c1,aIy,fG hm',er,nO hm' hm2',aBP]
   ·obtain⟨r,er,hr⟩:=uC x hm;refine⟨r,x/(m:Int),hr,?_⟩;rw[eS _ rfl];unfold aQ at hS2 ⊢;have hq8:=nO (i:=(k:Int)) (j:=12) (by decide) (by decide)
    have hq9:=fG (i:=ns[0]) (j:=2) (by decide)
    have hq10:=fG (i:=(k:Int)) (j:=12) (by decide)
    simp only[gS2,pJ,iH,jE,iP,aJA,dR,hq8,e1,dU,dS,pG,dY,d1,i0,hq9,bO,c2,hq10,c3,hS2,gs,yHn,aIy,fG hm',er,nO hm' hm2',aBP]
  ·apply skip;have hq11:=nO (i:=(k:Int)) (j:=12) (by decide) (by decide)
   have hq12:=fG (i:=ns[0]) (j:=2) (by decide)
   simp only[gS2,pJ,iH,dR,hq11,e1,dU,dS,pG,dY,d1,i0,hq12,bO,c2]
 ·have d1:decide (((k/12+1:Nat):Int)<((ns.length:Nat):Int))=false:=dqF (by omega)
  apply skip;have hq13:=nO (i:=(k:Int)) (j:=12) (by decide) (by decide)
  simp only[gS2,pJ,iH,dR,hq13,e1,dU,dS,pG,dY,d1]
inductive Wd where
 | «in» | num | not | and | or | xor | add | sub | mul | left | right | slide | cut | wide | sign | same | less | under | pick
 deriving DecidableEq
noncomputable def Wd.s:Wd->Str
 | .in => "in" | .num => "num" | .not => "not" | .and => "and" | .or => "or" | .xor => "xor" | .add => "add" | .sub => "sub" | .mul => "mul" | .left => "left" | .right => "right" | .slide => "slide"
 | .cut => "cut" | .wide => "wide" | .sign => "sign" | .same => "same" | .less => "less" | .under => "under" | .pick => "pick"
structure Rw where
 wd:Wd
 w:Nat
 args:List Nat
noncomputable def nD(n:Nat):D:=.int n
noncomputable def Rw.d(r:Rw):D:=.tuple (.str r.wd.s::nD r.w::r.args.map nD)
def gB(ws:List Nat)(r:Rw):Prop:=1<=r.w/\r.w<=64/\match r.wd,r.args with
 | .in,[]=>True
 | .num,[n]=>n<2^r.w
 | .not,[a]=>ws[a]? = qq r.w
 | .and,[a,b] | .or,[a,b] | .xor,[a,b] | .add,[a,b] | .sub,[a,b] | .mul,[a,b]=>ws[a]? = qq r.w/\ws[b]? = qq r.w
 | .left,[a,k] | .right,[a,k] | .slide,[a,k]=>ws[a]? = qq r.w/\k<64
 | .cut,[a]=>∃ v,ws[a]? = qq v/\r.w<=v
 | .wide,[a] | .sign,[a]=>∃ v,ws[a]? = qq v/\v<=r.w
 | .same,[a,b] | .less,[a,b] | .under,[a,b]=>r.w=1/\∃ v,ws[a]? = qq v/\ws[b]? = qq v
 | .pick,[c,a,b]=>ws[c]? = qq 1/\ws[a]? = qq r.w/\ws[b]? = qq r.w
 | _,_=>False
noncomputable def eJ:List Nat->List Rw->Prop
 | _,[]=>True
 | ws,r::rs=>gB ws r/\eJ (ws++[r.w]) rs
theorem aBw:∀ {rs:List Rw}{ws:List Nat}{r:Rw},eJ ws rs->gB (ws++rs.map (·.w)) r->eJ ws (rs++[r])
 | [],ws,r,_,h=>⟨by simpa using h,True.intro⟩
 | q::rs,ws,r,⟨h1,h2⟩,h=>⟨h1,aBw h2 (by simpa using h)⟩
noncomputable def aS(S:aE)(n p:Nat)(ns:List Int)(k:Nat)(x:Int)(rs:List Rw):aE:=(S.set n (qq (aQ ns k x))).set p (qq (rs.map Rw.d))
local macro_rules|`($a<*$b)=>`(PyData.tuple [PyData.tuple (List.map Rw.d $a),$b])
local macro_rules|`(~~~$a)=>`(List.map (·.w) $a)
section
variable {S : aE}{n p : Nat}{ns : List Int}{k : Nat}{x : Int}{rs : List Rw}
structure At0(S:aE)(n p:Nat):Prop where
 hn:n<S.length
 ne:n≠p
structure At(S:aE)(n p:Nat):Prop extends At0 S n p where
 hp:p<S.length
theorem At0.state(h:At0 S n p):(aS S n p ns k x rs)[n]? = qq (qq (aQ ns k x)):=by
 unfold aS;rw[yBg h.ne.symm,yBc h.hn]
theorem At.rows(h:At S n p):(aS S n p ns k x rs)[p]? = qq (qq (rs.map Rw.d)):=by
 unfold aS;rw[yBc (by rw[yBh];exact h.hp)]
theorem At.rowsT(h:At S n p)(T:aE):(aS S n p ns k x rs++T)[p]? = qq (qq (rs.map Rw.d)):=by
 rw[xAn (by simp[aS];exact h.hp)]
 exact h.rows
theorem At0.len(h:At0 S n p):(aS S n p ns k x rs).length=S.length:=by simp[aS]
theorem At0.take(h:At0 S n p)(k':Nat)(x':Int)(bG:List Rw):(aS S n p ns k' x' bG).take (aS S n p ns k x rs).length=aS S n p ns k' x' bG:=by
 rw[h.len,yDe];rw[h.len];exact yAb _
theorem At0.put(h:At0 S n p)(k':Nat)(x':Int):(aS S n p ns k x rs).set n (qq (aQ ns k' x'))=aS S n p ns k' x' rs:=by
 unfold aS;rw[List.set_comm _ _ h.ne.symm,yHn]
theorem At.putR(h:At S n p)(r:Rw):(aS S n p ns k x rs).set p (qq (rs.map Rw.d++[r.d]))=aS S n p ns k x (rs++[r]):=by
 unfold aS;rw[yHn,yCb];rfl
end
section
variable {S : aE}{n p : Nat}{ns : List Int}{k : Nat}{x : Int}{rs : List Rw}
theorem fH(h:At0 S n p)(d m:Nat)(hm:0<m)(hm2:m<2^64)(hk:k<=100000):∃ (r:Nat) (x':Int),r<m/\cl fns (d+1) 63 [.loc n,.d (.int m)] (aS S n p ns k x rs)=qq (.d (.int r),aS S n p ns (k+1) x' rs):=by
 obtain⟨r,x',hr,e⟩:=aQx d n k m ns x _ h.state hm hm2 hk;exact⟨r,x',hr,by rw[e,h.put]⟩
theorem iI(h:At0 S n p)(d m:Nat){i:Int}(hi:i=(m:Nat))(hm:0<m)(hm2:m<2^64)(hk:k<=100000):∃ (r:Nat) (x':Int),r<m/\cl fns (d+1) 63 [.loc n,.d (.int i)] (aS S n p ns k x rs)=qq (.d (.int r),aS S n p ns (k+1) x' rs):=by
 subst hi;exact fH h d m hm hm2 hk
theorem aGx{w:Nat}(h:w<64):2^w<2^64:=yBs (by decide) h
theorem aM4(h:At0 S n p)(d w:Nat)(hw:w<=64)(hk:k<=99000):∃ (r k':Nat) (x':Int),r<2^w/\k'<=k+2/\cl fns (d+2) 64 [.loc n,.d (.int w)] (aS S n p ns k x rs)=qq (.d (.int r),aS S n p ns k' x' rs):=by
 by_cases c:w<31
 ·have d1:decide ((w:Int)<31)=true:=dqT (by omega)
  obtain⟨r,x',hr,e⟩:=fH (ns:=ns) (k:=k) (x:=x) (rs:=rs) h d (2^w) (tT w) (aGx (by omega)) (by omega)
  refine⟨r,k+1,x',hr,by omega,?_⟩
  rw[aU rfl (d+1) _ _ rfl];have hq14:=eT (show w<=100000 by omega)
  simp only[gR1,aBp,dY,d1,hq14,e,h.take]
 ·have d1:decide ((w:Int)<31)=false:=dqF (by omega)
  have e1:(w:Int)-30=((w-30:Nat):Int):=by omega
  have s30:=eT (w:=30) (by decide)
  rw[show((30:Nat):Int)=30 from rfl] at s30
  obtain⟨r,x',hr,e⟩:=fH (ns:=ns) (k:=k) (x:=x) (rs:=rs) h d (2^30) (by decide) (by decide) (by omega)
  obtain⟨q,x2,hq,e'⟩:=fH (ns:=ns) (k:=k+1) (x:=x') (rs:=rs) h d (2^(w-30)) (tT _) (aGx (by omega)) (by omega)
  have hb:r+q*2^30<2^w:=by
   have e3:(2:Nat)^w=2^(w-30)*2^30:=by rw[<- yEz,show w-30+30=w by omega]
   have h3:(q+1)*2^30<=2^(w-30)*2^30:=Nat.mul_le_mul_right _ hq;rw[Nat.add_mul] at h3;omega
  have sh:bP .LShift (.int q) (.int 30)=qq (.int ((q*2^30:Nat):Int)):=rD (n:=q) (a:=w-30) (k:=30) hq (by omega)
  have ad:(r:Int)+((q*2^30:Nat):Int)=((r+q*2^30:Nat):Int):=(Int.natCast_add _ _).symm;refine⟨r+q*2^30,k+2,x2,hb,by omega,?_⟩
  rw[aU rfl (d+1) _ _ rfl];have hq15:=eT (show w-30<=100000 by omega)
  simp only[gR1,aBp,dY,d1,s30,e,cR,e1,hq15,e',sh,dR,ad,h.take]
end
theorem at4(a b c e:D){r:Nat}(h1:r<4):∃ x,(x=a\/x=b\/x=c\/x=e)/\aH (.list [a,b,c,e]) (.int r)=qq x:=by
 have:r=0\/r=1\/r=2\/r=3:=by omega
 rcases this with rfl | rfl | rfl | rfl
 ·exact⟨a,.inl rfl,rfl⟩
 ·exact⟨b,.inr (.inl rfl),rfl⟩
 ·exact⟨c,.inr (.inr (.inl rfl)),rfl⟩
 ·exact⟨e,.inr (.inr (.inr rfl)),rfl⟩
section
variable {S : aE}{n p : Nat}{ns : List Int}{k : Nat}{x : Int}{rs : List Rw}
theorem aGi(h:At0 S n p)(d:Nat)(hk:k<=99000):∃ (w:Nat) (x':Int),1<=w/\w<=64/\cl fns (d+2) 65 [.loc n] (aS S n p ns k x rs)=qq (.d (.int w),aS S n p ns (k+3) x' rs):=by
 obtain⟨r1,x1,h1,e1⟩:=iI (ns:=ns) (k:=k) (x:=x) (rs:=rs) h d 8 (i:=8) rfl (by decide) (by decide) (by omega)
 obtain⟨r2,x2,h2,e2⟩:=iI (ns:=ns) (k:=k+1) (x:=x1) (rs:=rs) h d 64 (i:=64) rfl (by decide) (by decide) (by omega)
 obtain⟨r3,x3,h3,e3⟩:=iI (ns:=ns) (k:=k+2) (x:=x2) (rs:=rs) h d 4 (i:=4) rfl (by decide) (by decide) (by omega)
 have a1:(1:Int)+(r1:Int)=((1+r1:Nat):Int):=by omega
 have a2:(1:Int)+(r2:Int)=((1+r2:Nat):Int):=by omega
 obtain⟨y,hy,e⟩:=at4 (.int 1) (.int 64) (.int ((1+r1:Nat):Int)) (.int ((1+r2:Nat):Int)) h3;obtain⟨w,bT,bW,rfl⟩:∃ w:Nat,1<=w/\w<=64/\y=.int w:=by
  rcases hy with rfl | rfl | rfl | rfl
  ·exact⟨1,by decide,by decide,rfl⟩
  ·exact⟨64,by decide,by decide,rfl⟩
  ·exact⟨_,by omega,by omega,rfl⟩
  ·exact⟨_,by omega,by omega,rfl⟩
 refine⟨w,x3,bT,bW,?_⟩;rw[aU rfl (d+1) _ _ rfl];simp only[gR1,aE4,e1,e2,e3,dR,a1,a2,e,h.take]
end
theorem aDk(a b:D):aH (.list [a,b]) (.int ((0:Nat):Int))=qq a:=rfl
theorem aDl(a b:D):aH (.list [a,b]) (.int ((1:Nat):Int))=qq b:=rfl
theorem aHM{t:Tg}{fb:FS}(P:Nat->aZ->aE->Prop):∀ (ds:List D) (i:Nat) (env:aZ) (S:aE),P i env S->(∀ j d env S,i<=j->j<i+ds.length->P j env S->∃ e1 aI S',t.put d env=qq e1/\fb e1 S=qq (.nx aI,S')/\P (j+1) aI S') ->
 ∃ aI S',eZ t fb ds env S=qq (.nx aI,S')/\P (i+ds.length) aI S'
 | [],i,env,S,h0,_=>⟨env,S,rfl,h0⟩
 | d::ds,i,env,S,h0,h=>by
   obtain⟨e1,aI,S',h1,h2,h3⟩:=h i d env S (yAb _) (by simp) h0
   obtain⟨env2,S2,h4,h5⟩:=aHM P ds (i+1) aI S' h3 λ j d' env S a b=>h j d' env S (by omega) (by simp at b ⊢;omega)
   refine⟨env2,S2,by simp only[eZ,h1,oB,h2];exact h4,?_⟩
   have:i+(d::ds).length=i+1+ds.length:=by simp;omega
   rw[this];exact h5
theorem aI2{t:Tg}{fi:FL}{fb:FS}{env:aZ}{S S1:aE}{ds:List D}(P:Nat->aZ->aE->Prop)(hi:fi env S=qq (ds,S1))(h0:P 0 env S1)(h:∀ j d env S,j<ds.length->P j env S->∃ e1 aI S',t.put d env=qq e1/\fb e1 S=qq (.nx aI,S')/\P (j+1) aI S') :
 ∃ aI S',dQ t fi fb env S=qq (.nx aI,S')/\P ds.length aI S':=by
 obtain⟨aI,S',h1,h2⟩:=aHM (t:=t) (fb:=fb) P ds 0 env S1 h0 λ j d env S _ b=>h j d env S (by omega)
 exact⟨aI,S',by unfold dQ;rw[hi,oB];exact h1,by simpa using h2⟩
theorem b2i(b:Bool):∃ q:Nat,q<2/\(if b then (1:Int) else 0)=(q:Int):=by
 cases b
 ·exact⟨0,by decide,rfl⟩
 ·exact⟨1,by decide,rfl⟩
theorem at2(a b:D){r:Nat}(h1:r<2):∃ x,(x=a\/x=b)/\aH (.list [a,b]) (.int r)=qq x:=by
 have:r=0\/r=1:=by omega
 rcases this with rfl | rfl
 ·exact⟨a,.inl rfl,rfl⟩
 ·exact⟨b,.inr rfl,rfl⟩
theorem gI{C:Calls}{a r:Sx}{env e1:aZ}{S S1:aE}(h:xs C a env S=qq (.nx e1,S1)):xs C (.seq a r) env S=xs C r e1 S1:=by simp only[jQ,dL,h,oB]
theorem aKa(ns:List Int)(k:Nat)(x:Int):aS [qz] 0 1 ns k x []=[qq (aQ ns k x)]:=rfl
theorem at1:At0 [qz] 0 1:=⟨by decide,by decide⟩
noncomputable abbrev s0(ns:List Int)(k:Nat)(x:Int):aE:=[qq (aQ ns k x)]
section
variable {ns : List Int}{k : Nat}{x : Int}
end
theorem kN(a:Nat):bP .BitAnd (.int a) (.int 1)=qq (.int ((a&&&1:Nat):Int)):=dJ a 1
theorem fX(n:Nat):(((n:Nat):Int)==0)=(n==0):=by
 rw[yEn,beq_iff_eq,beq_iff_eq];omega
section
variable {S : aE}{n p : Nat}{ns : List Int}{k : Nat}{x : Int}{rs : List Rw}
theorem aId(h:At0 S n p)(d w:Nat)(hw:1<=w)(bW:w<=64)(hk:k<=98000):∃ (r k':Nat) (x':Int),r<2^w/\k'<=k+5/\cl fns (d+3) 66 [.loc n,.d (.int w)] (aS S n p ns k x rs)=qq (.d (.int r),aS S n p ns k' x' rs):=by
 have hw3:w<2^64:=by omega
 have hp:=tT w;obtain⟨r1,x1,h1,e1⟩:=iI (ns:=ns) (k:=k) (x:=x) (rs:=rs) h (d+1) 5 (i:=5) rfl (by decide) (by decide) (by omega)
 obtain⟨r2,x2,h2,e2⟩:=fH (ns:=ns) (k:=k+1) (x:=x1) (rs:=rs) h (d+1) w (by omega) hw3 (by omega)
 obtain⟨r3,x3,h3,e3⟩:=fH (ns:=ns) (k:=k+2) (x:=x2) (rs:=rs) h (d+1) w (by omega) hw3 (by omega)
 by_cases c:r1<4
 ·have d1:decide ((r1:Int)<4)=true:=dqT (by omega)
  obtain⟨y,hy,e⟩:=at4 (.int 0) (.int ((2^w-1:Nat):Int)) (.int ((2^r2:Nat):Int)) (.int ((2^r3-1:Nat):Int)) c;obtain⟨q,hq,rfl⟩:∃ q:Nat,q<2^w/\y=.int q:=by
   have l2:2^r2<2^w:=yBs (by decide) h2
   have l3:2^r3<2^w:=yBs (by decide) h3
   rcases hy with rfl | rfl | rfl | rfl
   ·exact⟨0,hp,rfl⟩
   ·exact⟨_,by omega,rfl⟩
   ·exact⟨_,l2,rfl⟩
   ·exact⟨_,by omega,rfl⟩
  refine⟨q,k+3,x3,hq,by omega,?_⟩
  rw[aU rfl (d+2) _ _ rfl];have hq16:=eT (show w<=100000 by omega)
  have hq17:=eT (show r2<=100000 by omega)
  have hq18:=eT (show r3<=100000 by omega)
  simp only[gR1,aBQ,e1,hq16,cR,aBV,e2,hq17,e3,hq18,dY,d1,e,h.take]
 ·have d1:decide ((r1:Int)<4)=false:=dqF (by omega)
  obtain⟨r,k',x',hr,hk',e⟩:=aM4 (ns:=ns) (k:=k+3) (x:=x3) (rs:=rs) h d w bW (by omega)
  refine⟨r,k',x',hr,by omega,?_⟩
  rw[aU rfl (d+2) _ _ rfl];have hq19:=eT (show w<=100000 by omega)
  have hq20:=eT (show r2<=100000 by omega)
  have hq21:=eT (show r3<=100000 by omega)
  simp only[gR1,aBQ,e1,hq19,cR,aBV,e2,hq20,e3,hq21,dY,d1,e,h.take]
end
theorem uR:∀ L:List Nat,yCz (L.map nD)=true
 | []=>rfl
 | a::r=>by
   have ih:=uR r;simp only[yAs,yCz,ih,yBt];rfl
theorem tS:∀ L:List Nat,yBp (L.map nD)=0
 | []=>rfl
 | a::r=>by
   have ih:=tS r;simp only[yAs,yBp,ih];rfl
theorem aQW(L:List Nat):aV .NotEq (.list (L.map nD)) (.list [])=qq (.bool (!L.isEmpty)):=by
 have h1:(yEf (L.map nD)).canLay0=true:=uR L;have h2:(yEf (L.map nD)).depth<=60:=by
  show yBp (L.map nD)+1<=60;rw[tS];decide
 unfold aV jW;simp only[];rw[if_pos ⟨h1,rfl,h2⟩];cases L<;>rfl
theorem iO(r:Rw):aH r.d (.int 1)=qq (.int r.w):=gX (xs:=.str r.wd.s::nD r.w::r.args.map nD) (k:=1) rfl
noncomputable def wdE(a b:Wd):Bool:=match aV .Eq (.str a.s) (.str b.s) with
 | some (.bool c)=>c==decide (a=b)
 | _=>false
theorem aR0(a b:Wd):wdE a b=true:=by
 have h:∀ i:Fin 19,∀ j:Fin 19,wdE (Wd.ofNat i) (Wd.ofNat j)=true:=by decide +kernel
 have e:∀ a:Wd,∃ i:Fin 19,Wd.ofNat i=a:=λ a=>⟨⟨a.ctorIdx,by cases a<;>decide⟩,Wd.ofNat_ctorIdx a⟩
 obtain⟨i,rfl⟩:=e a;obtain⟨j,rfl⟩:=e b;exact h i j
theorem bN(a b:Wd):aV .Eq (.str a.s) (.str b.s)=qq (.bool (decide (a=b))):=by
 have h:=aR0 a b;unfold wdE at h
 split at h
 ·rename_i c e;rw[e,eq_of_beq h]
 ·cases h
theorem aB9(a:Wd):aV .In (.str a.s) (.tuple [.str "left",.str "right",.str "slide"])=qq (.bool (decide (a=.left\/a=.right\/a=.slide))):=by cases a<;>rfl
theorem aRl(a:Wd):aV .In (.str a.s) (.tuple [.str "cut",.str "wide",.str "sign"])=qq (.bool (decide (a=.cut\/a=.wide\/a=.sign))):=by cases a<;>rfl
theorem zW(a:Wd):aV .In (.str a.s) (.tuple [.str "same",.str "less",.str "under"])=qq (.bool (decide (a=.same\/a=.less\/a=.under))):=by cases a<;>rfl
theorem aN{C:Calls}{c:E}{t cZ:Sx}{env:aZ}{S S1:aE}{r:Option (Fl×aE)}(h:tv C c env S=qq (false,S1))(k:xs C cZ env S1=r):xs C (.seq (.ifs c t .skip) cZ) env S=r:=by
 rw[<- k];simp only[jQ,rL,aHS,dL,mX,sA,h,oB,yAt,if_false]
theorem bY{C:Calls}{c:E}{t e cZ:Sx}{env:aZ}{S S1 S2:aE}{w:W}(h:tv C c env S=qq (true,S1))(k:xs C t env S1=qq (.rt w,S2)):xs C (.seq (.ifs c t e) cZ) env S=qq (.rt w,S2):=by
 simp only[jQ,rL,dL,mX,h,oB,if_true,k]
theorem bK{C:Calls}{e:E}{cZ:Sx}{env:aZ}{S S1:aE}{w:W}(h:ev C e env S=qq (w,S1)):xs C (.seq (.ret e) cZ) env S=qq (.rt w,S1):=by
 simp only[jQ,aC7,dL,oJ,h,oB]
theorem cG{C:Calls}{i:Nat}{e:E}{cZ:Sx}{env aI:aZ}{S S1:aE}{w:W}{r:Option (Fl×aE)}(h:ev C e env S=qq (w,S1))(he:env.set i (qq w)=aI)(k:xs C cZ aI S1=r):xs C (.seq (.set i e) cZ) env S=r:=by
 subst he;rw[<- k];simp only[jQ,rH,dL,fM,h,oB]
theorem cH{fs:List Fn}{f:Nat}{F:Fn}(h:fs[f]? = qq F)(d:Nat){ws:List W}{env:aZ}{S S1:aE}{x:D}(hw:ws.length=F.np)(he:ws.map qq++yAc (F.N.length-ws.length) qz=env)(hS:S1.take S.length=S1)(k:xs (aC fs d) F.body env S=qq (.rt (.d x),S1)):cl fs (d+1) f ws S=qq (.d x,S1):=by
 subst he;rw[aU h d ws S hw];simp only[gE,k,oB,jV,hS]
theorem cP{C:Calls}{i:Nat}{x:Str}{env:aZ}{S:aE}{a:D}{b:Bool}(h:env[i]? = qq (qq (.d a)))(hc:aV .Eq a (.str x)=qq (.bool b)):tv C (.cmp .Eq (.var i) (.str x)) env S=qq (b,S):=by
 simp only[gS0,h,hc]
theorem jU{C:Calls}{i:Nat}{e:E}{env:aZ}{S:aE}{a t:D}{b:Bool}(h:env[i]? = qq (qq (.d a)))(he:ev C e env S=qq (.d t,S))(hc:aV .In a t=qq (.bool b)):tv C (.cmp .In (.var i) e) env S=qq (b,S):=by
 simp only[gS0,h,he,hc]
noncomputable def cJ:Sx->Sx
 | .seq _ b=>b
 | x=>x
noncomputable def fQ:Sx->Sx
 | .seq a _=>a
 | x=>x
noncomputable def reS:Sx->E
 | .ret e=>e
 | _=>.no
theorem oA{C:Calls}{c:E}{a b:Sx}{env:aZ}{S S1:aE}{r:Option (Fl×aE)}(h:tv C c env S=qq (true,S1))(k:xs C a env S1=r):xs C (.ifs c a b) env S=r:=by
 rw[<- k];simp only[rL,mX,h,oB,if_true]
theorem vM{C:Calls}{c:E}{a b:Sx}{env:aZ}{S S1:aE}{r:Option (Fl×aE)}(h:tv C c env S=qq (false,S1))(k:xs C b env S1=r):xs C (.ifs c a b) env S=r:=by
 rw[<- k];simp only[rL,mX,h,oB,yAt,if_false]
theorem oH{C:Calls}{a b:Sx}{env e1:aZ}{S S1:aE}{r:Option (Fl×aE)}(h:xs C a env S=qq (.nx e1,S1))(k:xs C b e1 S1=r):xs C (.seq a b) env S=r:=by
 rw[gI h];exact k
theorem aDi{C:Calls}{a:Sx}{env e1:aZ}{S S1:aE}(h:xs C a env S=qq (.nx e1,S1)):xs C (.seq a .skip) env S=qq (.nx e1,S1):=oH h rfl
theorem kS{C:Calls}{i:Nat}{e:E}{env:aZ}{S S1:aE}{w:W}(h:ev C e env S=qq (w,S1)):xs C (.seq (.set i e) .skip) env S=qq (.nx (env.set i (qq w)),S1):=cG h rfl rfl
theorem wT{C:Calls}{s:Sx}{c:E}{a b:Sx}{env r:aZ}{S S1:aE}(hs:s=.ifs c a (.seq b .skip))(h:tv C c env S=qq (false,S))(k:xs C b env S=qq (.nx r,S1)):xs C s env S=qq (.nx r,S1):=by
 rw[hs];exact vM h (aDi k)
namespace GP
section
variable {S : aE}{n p : Nat}{ns : List Int}{k : Nat}{x : Int}{rs : List Rw}
theorem aAh{a:Nat}{r:Rw}(h:rs[a]? = qq r):aH (.list (rs.map Rw.d)) (.int a)=qq r.d:=nV (by rw[xAb,h];rfl)
theorem gW(rs:List Rw):(rs.map Rw.d).length=rs.length:=yAd ..
theorem aHw(h:At S n p)(hl:rs.length<=1000)(r:Rw):dZ (aS S n p ns k x rs) (.loc p) (.d r.d)=qq (.d .none,aS S n p ns k x (rs++[r])):=by
 unfold dZ;simp only[h.rows];rw[if_pos (by rw[gW,zq];omega),h.putR]
structure Opd(rs bG:List Rw)(a w:Nat):Prop where
 ext:∃ t,bG=rs++t/\t.length<=1
 ok:eJ [] bG
 wd:(bG.map (·.w))[a]? = qq w
theorem oN{a:Nat}{r:Rw}(h:rs[a]? = qq r):(~~~rs)[a]? = qq r.w:=by rw[xAb,h];rfl
theorem aIp(h:At S n p)(d a w:Nat)(hr:eJ [] rs)(ha:a<rs.length)(hl:rs.length<=100)(hw:1<=w)(bW:w<=64)(hk:k<=99000) :
 ∃ (a' k':Nat) (x':Int) (bG:List Rw),Opd rs bG a' w/\k'<=k+1/\cl fns (d+2) 67 [.loc n,.loc p,.d (.int a),.d (.int w)] (aS S n p ns k x rs)=qq (.d (.int a'),aS S n p ns k' x' bG):=by
 obtain⟨r,hra⟩:∃ r,rs[a]? = qq r:=⟨rs[a],yAa ha⟩;have ga:=aAh hra
 by_cases c:r.w=w
 ·refine⟨a,k,x,rs,⟨⟨[],by simp,by simp⟩,hr,by rw[oN hra,c]⟩,by omega,?_⟩
  rw[aU rfl (d+1) _ _ rfl];simp only[gR1,tP,h.rows,ga,iO,bO,c,beq_self_eq_true,h.take]
 ·have c':(((r.w:Nat):Int)==((w:Nat):Int))=false:=by
   rw[beq_eq_false_iff_ne];intro z;exact c (by exact_mod_cast z)
  obtain⟨q,x',hq,e⟩:=iI (ns:=ns) (k:=k) (x:=x) (rs:=rs) h.toAt0 d 2 (i:=2) rfl (by decide) (by decide) (by omega)
  have bI:∀ wd:Wd,gB ([]++rs.map (·.w)) ⟨wd,w,[a]⟩->Opd rs (rs++[⟨wd,w,[a]⟩]) rs.length w:=λ wd ok=>⟨⟨_,rfl,yAb _⟩,aBw hr ok,by simp⟩
  have sJ:∀ r:Rw,((rs++[r]).length:Int)-1=((rs.length:Nat):Int):=λ r=>by simp
  have ap:∀ wd:Wd,dZ (aS S n p ns (k+1) x' rs) (.loc p) (.d (.tuple [.str wd.s,.int w,.int a]))=qq (.d .none,aS S n p ns (k+1) x' (rs++[⟨wd,w,[a]⟩])):=λ wd=>aHw h (by omega) ⟨wd,w,[a]⟩
  by_cases c2:w<r.w
  ·have d2:decide (((w:Nat):Int)<((r.w:Nat):Int))=true:=dqT (by omega)
   refine⟨rs.length,k+1,x',_,bI .cut ⟨hw,bW,r.w,by simpa using oN hra,yFw c2⟩,by omega,?_⟩
   have ap':=ap .cut;simp only[Wd.s] at ap';have:q=0\/q=1:=by omega
   rw[aU rfl (d+1) _ _ rfl];rcases this with rfl | rfl
   all_goals simp only[evs,gE,tP,h.rows,ga,iO,bO,c',e,aDk,aDl,kZ,d2,iA,ap',dU,dS,gW,cR,sJ,h.take]
  ·have d2:decide (((w:Nat):Int)<((r.w:Nat):Int))=false:=dqF (by omega)
   have:q=0\/q=1:=by omega
   rcases this with rfl | rfl
   ·refine⟨rs.length,k+1,x',_,bI .wide ⟨hw,bW,r.w,by simpa using oN hra,yGa c2⟩,by omega,?_⟩
    have ap':=ap .wide;simp only[Wd.s] at ap';rw[aU rfl (d+1) _ _ rfl];simp only[gR1,tP,h.rows,ga,iO,bO,c',e,aDk,kZ,d2,iA,ap',dU,dS,gW,cR,sJ,h.take]
   ·refine⟨rs.length,k+1,x',_,bI .sign ⟨hw,bW,r.w,by simpa using oN hra,yGa c2⟩,by omega,?_⟩
    have ap':=ap .sign;simp only[Wd.s] at ap';rw[aU rfl (d+1) _ _ rfl];simp only[gR1,tP,h.rows,ga,iO,bO,c',e,aDl,kZ,d2,iA,ap',dU,dS,gW,cR,sJ,h.take]
end
section
variable {S : aE}{n p : Nat}{ns : List Int}{k : Nat}{x : Int}{rs : List Rw}
theorem aBD:∀ {rs:List Rw}{ws:List Nat}{a:Nat}{r:Rw},eJ ws rs->rs[a]? = qq r->1<=r.w/\r.w<=64
 | q::rs,ws,0,r,⟨h1,_⟩,e=>by
   have e':q=r:=by simpa using e
   subst e';exact⟨h1.1,h1.2.1⟩
 | q::rs,ws,a+1,r,⟨_,h2⟩,e=>aBD h2 (by simpa using e)
 | [],_,_,_,_,e=>by simp at e
noncomputable def tZ:Sx:=match tF with
 | .seq _ r=>r
 | _=>.skip
theorem tJ(h:At S n p)(d w:Nat)(hr:eJ [] rs)(h0:0<rs.length)(hl:rs.length<=100)(hw:1<=w)(bW:w<=64)(hk:k<=98000) :
 ∃ (a k':Nat) (x':Int) (bG:List Rw),Opd rs bG a w/\k'<=k+3/\cl fns (d+3) 68 [.loc n,.loc p,.d (.int w)] (aS S n p ns k x rs)=qq (.d (.int a),aS S n p ns k' x' bG):=by
 have hc:hU (.one 4) (lv (aC fns (d+2)) (.rng1 (.blt .len (.cons (.var 1) .nil)))) (tv (aC fns (d+2)) (.cmp .Eq (.ix (.ix (.var 1) (.var 4)) (.int 1)) (.var 2))) (ev (aC fns (d+2)) (.var 4)) [qq (.loc n),qq (.loc p),qq (.d (.int w)),qz,qz] (aS S n p ns k x rs)
  = qq (((yAx rs.length).filter λ j=>(~~~rs)[j]?==qq w).map nD,aS S n p ns k x rs):=by
  refine aCk nD nD (λ j=>(~~~rs)[j]?==qq w) (yAx rs.length) ?_ (by rw[yFs,zq];omega) (λ j hj=>?_)
  ·simp only[oE,lV,nK,nL,nU,nR];refine qP ?_ (by omega)
   simp only[gS0,h.rows,dU,dS,gW]
  ·have hj':j<rs.length:=by simpa using hj
   obtain⟨r,hrj⟩:∃ r,rs[j]? = qq r:=⟨rs[j],yAa hj'⟩;have hb:((~~~rs)[j]?==qq w)=(((r.w:Nat):Int)==((w:Nat):Int)):=by
    rw[oN hrj,yEn];simp;omega
   refine⟨_,rfl,λ aF=>?_,λ _ aF=>?_⟩
   ·rw[hb];simp only[gS0,clr,yBm,yCg,nD,h.rowsT,aAh hrj,iO,bO]
   ·simp only[gS0,clr,yBm,yCg,nD]
 generalize hL:(yAx rs.length).filter (λ j=>(~~~rs)[j]?==qq w)=L at hc
 have hmem:∀ a∈L,(~~~rs)[a]? = qq w:=λ a ha=>by
  rw[<- hL] at ha;simpa using (List.mem_filter.mp ha).2
 have bX:L.length<=rs.length:=by
  rw[<- hL];have:=yFy (λ j=>(~~~rs)[j]?==qq w) (yAx rs.length)
  simpa using this
 have set:xs (aC fns (d+2)) (.setC false 3 (.comp (.var 4) (.one 4) (.rng1 (.blt .len (.cons (.var 1) .nil))) (.cmp .Eq (.ix (.ix (.var 1) (.var 4)) (.int 1)) (.var 2)))) [qq (.loc n),qq (.loc p),qq (.d (.int w)),qz,qz] (aS S n p ns k x rs)=qq (.nx [qq (.loc n),qq (.loc p),qq (.d (.int w)),qq (.d (.list (L.map nD))),qz],aS S n p ns k x rs):=by
  simp only[uE,fM,iD];show((hU _ _ _ _ _ _).bind _).bind _=_;rw[hc];simp only[gS0,True]
 have eS:∀ R,xs (aC fns (d+2)) tZ [qq (.loc n),qq (.loc p),qq (.d (.int w)),qq (.d (.list (L.map nD))),qz] (aS S n p ns k x rs)=R->cl fns (d+3) 68 [.loc n,.loc p,.d (.int w)] (aS S n p ns k x rs)=R.bind λ q=>match q.1 with
  | .rt w=>jV (aS S n p ns k x rs).length q.2 w
  | .nx _=>qq (.d .none,q.2.take (aS S n p ns k x rs).length)
  | _=>qz:=λ R hR=>by
  rw[aU rfl (d+2) _ _ rfl,<- hR];show((dL (xs (aC fns (d+2)) (.setC false 3 (.comp (.var 4) (.one 4) (.rng1 (.blt .len (.cons (.var 1) .nil))) (.cmp .Eq (.ix (.ix (.var 1) (.var 4)) (.int 1)) (.var 2))))) (xs (aC fns (d+2)) tZ)) [qq (.loc n),qq (.loc p),qq (.d (.int w)),qz,qz] (aS S n p ns k x rs)).bind _=_;simp only[dL,set,oB]
  all_goals rfl
 rw[eS _ rfl];clear eS set hc;have hr64:rs.length<2^64:=by omega
 have nn:=aQW L;have ll:(L.map nD).length=L.length:=yAd ..;rcases yDw L.isEmpty with hE | hE
 ·rw[hE] at nn;obtain⟨q,x1,hq,e1⟩:=fH (ns:=ns) (k:=k) (x:=x) (rs:=rs) h.toAt0 (d+1) rs.length h0 hr64 (by omega)
  obtain⟨a,k',x',bG,ho,hk',e2⟩:=aIp (ns:=ns) (k:=k+1) (x:=x1) h d q w hr hq hl hw bW (by omega)
  refine⟨a,k',x',bG,ho,by omega,?_⟩
  simp only[gS2,tZ,tF,nn,h.rows,dU,dS,gW,e1,e2,h.take]
 ·rw[hE] at nn;have hL0:0<L.length:=by
   cases L with
   | nil=>cases hE
   | cons b r=>simp
  obtain⟨q4,x1,hq4,e1⟩:=iI (ns:=ns) (k:=k) (x:=x) (rs:=rs) h.toAt0 (d+1) 4 (i:=4) rfl (by decide) (by decide) (by omega)
  by_cases c:0<q4
  ·have d1:decide ((0:Int)<(q4:Int))=true:=dqT (by omega)
   obtain⟨q,x2,hq,e2⟩:=fH (ns:=ns) (k:=k+1) (x:=x1) (rs:=rs) h.toAt0 (d+1) L.length hL0 (by omega) (by omega)
   have e3:((L.length:Nat):Int)-1-(q:Int)=((L.length-1-q:Nat):Int):=by omega
   obtain⟨a,ha⟩:∃ a,L[L.length-1-q]? = qq a:=⟨L[L.length-1-q],yAa (by omega)⟩
   have ga:aH (.list (L.map nD)) (.int ((L.length-1-q:Nat):Int))=qq (.int a):=nV (by rw[xAb,ha];rfl)
   refine⟨a,k+2,x2,rs,⟨⟨[],by simp,by simp⟩,hr,hmem a (xAl ha)⟩,by omega,?_⟩
   simp only[gS2,tZ,tF,nn,e1,kZ,d1,dU,dS,ll,cR,e2,e3,ga,h.take]
  ·have d1:decide ((0:Int)<(q4:Int))=false:=dqF (by omega)
   obtain⟨q,x2,hq,e2⟩:=fH (ns:=ns) (k:=k+1) (x:=x1) (rs:=rs) h.toAt0 (d+1) rs.length h0 hr64 (by omega)
   obtain⟨a,k',x',bG,ho,hk',e3⟩:=aIp (ns:=ns) (k:=k+2) (x:=x2) h d q w hr hq hl hw bW (by omega)
   refine⟨a,k',x',bG,ho,by omega,?_⟩
   simp only[gS2,tZ,tF,nn,e1,kZ,d1,h.rows,dU,dS,gW,e2,e3,h.take]
end
section
variable {S : aE}{n p : Nat}{ns : List Int}{k : Nat}{x : Int}{rs : List Rw}
theorem yY(h:At S n p)(d:Nat)(wd:Wd)(aJ:wd=.cut\/wd=.wide\/wd=.sign)(hr:eJ [] rs)(h0:0<rs.length)(hl:rs.length<=100)(hk:k<=98000) :
 ∃ (r:Rw) (x':Int),gB (~~~rs) r/\cl fns (d+2) 69 [.loc n,.loc p,.d (.str wd.s)] (aS S n p ns k x rs)=qq (.d r.d,aS S n p ns (k+2) x' rs):=by
 obtain⟨a,x1,ha,e1⟩:=fH (ns:=ns) (k:=k) (x:=x) (rs:=rs) h.toAt0 d rs.length h0 (by omega) (by omega)
 obtain⟨r,hra⟩:∃ r,rs[a]? = qq r:=⟨rs[a],yAa ha⟩;obtain⟨bT,bW⟩:=aBD hr hra;have ga:=aAh hra;have cw:=bN wd .cut;rw[show Wd.cut.s=("cut" : Str) from rfl] at cw
 have e65:(65:Int)-(r.w:Int)=((65-r.w:Nat):Int):=by omega
 by_cases c:wd=.cut
 ·subst c;obtain⟨q,x2,hq,e2⟩:=fH (ns:=ns) (k:=k+1) (x:=x1) (rs:=rs) h.toAt0 d r.w (by omega) (by omega) (by omega)
  have a1:(1:Int)+(q:Int)=((1+q:Nat):Int):=by omega
  refine⟨⟨.cut,1+q,[a]⟩,x2,⟨by show 1<=1+q;omega,by show 1+q<=64;omega,r.w,oN hra,by show 1+q<=r.w;omega⟩,?_⟩
  rw[aU rfl (d+1) _ _ rfl];simp only[gR1,aBl,h.rows,dU,dS,gW,e1,ga,iO,cw,decide_true,e2,dR,a1,h.take]
 ·obtain⟨q,x2,hq,e2⟩:=fH (ns:=ns) (k:=k+1) (x:=x1) (rs:=rs) h.toAt0 d (65-r.w) (by omega) (by omega) (by omega)
  have a1:(r.w:Int)+(q:Int)=((r.w+q:Nat):Int):=by omega
  rw[dqF c] at cw;have ok:gB (~~~rs) ⟨wd,r.w+q,[a]⟩:=by
   refine⟨by show 1<=r.w+q;omega,by show r.w+q<=64;omega,?_⟩
   rcases aJ with rfl | rfl | rfl
   ·exact absurd rfl c
   ·exact⟨r.w,oN hra,by show r.w<=r.w+q;omega⟩
   ·exact⟨r.w,oN hra,by show r.w<=r.w+q;omega⟩
  refine⟨⟨wd,r.w+q,[a]⟩,x2,ok,?_⟩;rw[aU rfl (d+1) _ _ rfl];simp only[gR1,aBl,h.rows,dU,dS,gW,e1,ga,iO,cw,cR,e65,e2,dR,a1,h.take]
theorem Opd.len{rs bG:List Rw}{a w:Nat}(o:Opd rs bG a w):rs.length<=bG.length/\bG.length<=rs.length+1:=by
 obtain⟨t,rfl,h⟩:=o.ext;simp;omega
theorem Opd.keep{rs bG:List Rw}{a w b v:Nat}(o:Opd rs bG a w)(h:(~~~rs)[b]? = qq v):(bG.map (·.w))[b]? = qq v:=by
 obtain⟨t,rfl,_⟩:=o.ext;rw[yCb,xAn (gIm h).1];exact h
theorem aB5(h:At S n p)(d w:Nat)(wd:Wd)(aJ:wd=.left\/wd=.right\/wd=.slide)(hr:eJ [] rs)(h0:0<rs.length)(hl:rs.length<=90)(hw:1<=w)(bW:w<=64)(hk:k<=97000) :
 ∃ (r:Rw) (k':Nat) (x':Int) (bG:List Rw),eJ [] bG/\rs.length<=bG.length/\bG.length<=rs.length+1/\gB (bG.map (·.w)) r/\k'<=k+6/\cl fns (d+4) 70 [.loc n,.loc p,.d (.str wd.s),.d (.int w)] (aS S n p ns k x rs)=qq (.d r.d,aS S n p ns k' x' bG):=by
 obtain⟨q1,x1,h1,e1⟩:=fH (ns:=ns) (k:=k) (x:=x) (rs:=rs) h.toAt0 (d+2) w (by omega) (by omega) (by omega)
 obtain⟨q2,x2,h2,e2⟩:=iI (ns:=ns) (k:=k+1) (x:=x1) (rs:=rs) h.toAt0 (d+2) 64 (i:=64) rfl (by decide) (by decide) (by omega)
 obtain⟨q3,x3,h3,e3⟩:=iI (ns:=ns) (k:=k+2) (x:=x2) (rs:=rs) h.toAt0 (d+2) 4 (i:=4) rfl (by decide) (by decide) (by omega)
 obtain⟨a,k',x',bG,ho,hk',e4⟩:=tJ (ns:=ns) (k:=k+3) (x:=x3) h d w hr h0 (by omega) hw bW (by omega)
 have bI:∀ kk:Nat,kk<64->gB (bG.map (·.w)) ⟨wd,w,[a,kk]⟩:=λ kk hkk=>by
  refine⟨hw,bW,?_⟩;rcases aJ with rfl | rfl | rfl<;>exact⟨ho.wd,hkk⟩
 have hq:(q3:Int)/3=((0:Nat):Int)\/(q3:Int)/3=((1:Nat):Int):=by omega
 rcases hq with hq | hq
 ·refine⟨⟨wd,w,[a,q1]⟩,k',x',bG,ho.ok,ho.len.1,ho.len.2,bI q1 (by omega),by omega,?_⟩
  rw[aU rfl (d+3) _ _ rfl];have hq22:=nO (i:=(q3:Int)) (j:=3) (by decide) (by decide)
  simp only[gR1,aBu,e1,e2,e3,hq22,hq,aDk,e4,h.take]
 ·refine⟨⟨wd,w,[a,q2]⟩,k',x',bG,ho.ok,ho.len.1,ho.len.2,bI q2 (by omega),by omega,?_⟩
  rw[aU rfl (d+3) _ _ rfl];have hq23:=nO (i:=(q3:Int)) (j:=3) (by decide) (by decide)
  simp only[gR1,aBu,e1,e2,e3,hq23,hq,aDl,e4,h.take]
noncomputable def uZ(wd:Wd)(w:Nat):Nat:=if (wd=.same\/wd=.less\/wd=.under) then 1 else w
theorem aHT(h:At S n p)(d w:Nat)(wd:Wd)(hr:eJ [] rs)(h0:0<rs.length)(hl:rs.length<=90)(hw:1<=w)(bW:w<=64)(hk:k<=97000) :
 ∃ (a b k':Nat) (x':Int) (bG:List Rw),eJ [] bG/\(∃ t,bG=rs++t/\t.length<=2)/\(bG.map (·.w))[a]? = qq w/\(bG.map (·.w))[b]? = qq w/\k'<=k+6 /\
  cl fns (d+4) 71 [.loc n,.loc p,.d (.str wd.s),.d (.int w)] (aS S n p ns k x rs)=qq (.d (.tuple [.str wd.s,.int (uZ wd w:Nat),.int a,.int b]),aS S n p ns k' x' bG):=by
 obtain⟨a,k1,x1,rs1,o1,hk1,e1⟩:=tJ (ns:=ns) (k:=k) (x:=x) h d w hr h0 (by omega) hw bW (by omega)
 have l1:=o1.len;obtain⟨b,k2,x2,rs2,o2,hk2,e2⟩:=tJ (ns:=ns) (k:=k1) (x:=x1) h d w o1.ok (by omega) (by omega) hw bW (by omega)
 refine⟨a,b,k2,x2,rs2,o2.ok,?_,o2.keep o1.wd,o2.wd,by omega,?_⟩
 ·obtain⟨t1,rfl,ht1⟩:=o1.ext;obtain⟨t2,rfl,ht2⟩:=o2.ext;exact⟨t1++t2,by simp,by simp;omega⟩
 ·rw[aU rfl (d+3) _ _ rfl]
  by_cases c:wd=.same\/wd=.less\/wd=.under
  ·have is:=zW wd;rw[dqT c] at is;have pw:uZ wd w=1:=if_pos c;simp only[gR1,aBE,e1,e2,is,pw,h.take]
  ·have is:=zW wd;rw[dqF c] at is;have pw:uZ wd w=w:=if_neg c;simp only[gR1,aBE,e1,e2,is,pw,h.take]
end
noncomputable def dW(k:Nat):Sx:=match jL with
 | .seq a1 (.seq a2 (.seq a3 (.seq a4 (.seq a5 (.seq a6 (.seq a7 _))))))=>[a1,a2,a3,a4,a5,a6,a7].getD k .skip
 | _=>.skip
theorem aNd:jL=.seq (dW 0) (.seq (dW 1) (.seq (dW 2) (.seq (dW 3) (.seq (dW 4) (.seq (dW 5) (.seq (dW 6) .skip)))))):=rfl
theorem aUb(a b c e f:D):bP .Add (.tuple [a,b,c]) (.tuple [e,f])=qq (.tuple [a,b,c,e,f]):=by
 show(if [a,b,c].isEmpty=false/\[a,b,c].length+[e,f].length<=qy then qq (yBf ([a,b,c]++[e,f])) else qz)=_
 rw[if_pos ⟨rfl,by rw[zq];show 3+2<=16777216;decide⟩]
 rfl
theorem aUL(a b c e:D):eC [a,b,c,e] (qq 2) qz=[c,e]:=rfl
theorem aVv:(HT.sIx 4 0 (qq 2)=0/\HT.sIx 4 4 qz=4)=False:=by simp[HT.sIx]
section
variable {S : aE}{n p : Nat}{ns : List Int}{k : Nat}{x : Int}{rs : List Rw}
theorem aPt(h:At S n p)(d w:Nat)(wd:Wd)(l2 e5 e6:Option W)(hr:eJ [] rs)(h0:0<rs.length)(hl:rs.length<=80)(hw:1<=w)(bW:w<=64)(hk:k<=96000) :
 ∃ (r:Rw) (k':Nat) (x':Int) (bG:List Rw) (e6':Option W),eJ [] bG/\rs.length<=bG.length/\bG.length<=rs.length+3/\gB (bG.map (·.w)) r/\k'<=k+12 /\
  xs (aC fns (d+4)) (dW 5) [qq (.loc n),qq (.loc p),l2,qq (.d (.str wd.s)),qq (.d (.int w)),e5,e6] (aS S n p ns k x rs)=qq (.nx [qq (.loc n),qq (.loc p),l2,qq (.d (.str wd.s)),qq (.d (.int w)),qq (.d r.d),e6'],aS S n p ns k' x' bG):=by
 have c1:aV .Eq (.str wd.s) (.str "in")=qq (.bool (decide (wd=.in))):=bN wd .in
 by_cases k1:wd=.in
 ·subst k1;refine⟨⟨.in,w,[]⟩,k,x,rs,e6,hr,by omega,by omega,⟨hw,bW,True.intro⟩,by omega,?_⟩
  exact oA (cP rfl c1) (kS rfl)
 rw[dqF k1] at c1;have q1:=λ {r S1}=>wT (C:=aC fns (d+4)) (s:=dW 5) (env:=[qq (.loc n),qq (.loc p),l2,qq (.d (.str wd.s)),qq (.d (.int w)),e5,e6]) (S:=aS S n p ns k x rs) (r:=r) (S1:=S1) rfl (cP rfl c1)
 clear c1;have c2:aV .Eq (.str wd.s) (.str "num")=qq (.bool (decide (wd=.num))):=bN wd .num
 by_cases k2:wd=.num
 ·subst k2;obtain⟨q,k',x',hq,hk',e⟩:=aId (ns:=ns) (k:=k) (x:=x) (rs:=rs) h.toAt0 (d+1) w hw bW (by omega)
  refine⟨⟨.num,w,[q]⟩,k',x',rs,e6,hr,by omega,by omega,⟨hw,bW,hq⟩,by omega,q1 (oA (cP rfl c2) (kS ?_))⟩
  simp only[gS0,e]
 rw[dqF k2] at c2;have q2:=λ {r S1} h=>q1 (wT (r:=r) (S1:=S1) rfl (cP rfl c2) h)
 clear c2;have c3:aV .Eq (.str wd.s) (.str "not")=qq (.bool (decide (wd=.not))):=bN wd .not
 by_cases k3:wd=.not
 ·subst k3;obtain⟨a,k',x',bG,o,hk',e⟩:=tJ (ns:=ns) (k:=k) (x:=x) h (d+1) w hr h0 (by omega) hw bW (by omega)
  have l:=o.len;refine⟨⟨.not,w,[a]⟩,k',x',bG,e6,o.ok,by omega,by omega,⟨hw,bW,o.wd⟩,by omega,q2 (oA (cP rfl c3) (kS ?_))⟩
  simp only[gS0,e]
 rw[dqF k3] at c3;have q3:=λ {r S1} h=>q2 (wT (r:=r) (S1:=S1) rfl (cP rfl c3) h)
 clear c3;have c4:=aB9 wd
 by_cases k4:wd=.left\/wd=.right\/wd=.slide
 ·rw[dqT k4] at c4;obtain⟨r,k',x',bG,ok,l1,l2,okr,hk',e⟩:=aB5 (ns:=ns) (k:=k) (x:=x) h d w wd k4 hr h0 (by omega) hw bW (by omega)
  refine⟨r,k',x',bG,e6,ok,by omega,by omega,okr,by omega,q3 (oA (jU rfl rfl c4) (kS ?_))⟩
  simp only[gS0,e]
 rw[dqF k4] at c4;have q4:=λ {r S1} h=>q3 (wT (r:=r) (S1:=S1) rfl (jU rfl rfl c4) h)
 clear c4;have c5:=aRl wd
 by_cases k5:wd=.cut\/wd=.wide\/wd=.sign
 ·rw[dqT k5] at c5;obtain⟨r,x',okr,e⟩:=yY (ns:=ns) (k:=k) (x:=x) h (d+2) wd k5 hr h0 (by omega) (by omega)
  refine⟨r,k+2,x',rs,e6,hr,by omega,by omega,okr,by omega,q4 (oA (jU rfl rfl c5) (kS ?_))⟩
  simp only[gS0,e]
 rw[dqF k5] at c5;have q5:=λ {r S1} h=>q4 (wT (r:=r) (S1:=S1) rfl (jU rfl rfl c5) h)
 clear c5;have c6:aV .Eq (.str wd.s) (.str "pick")=qq (.bool (decide (wd=.pick))):=bN wd .pick
 by_cases k6:wd=.pick
 ·subst k6;obtain⟨c,k1',x1,rs1,o1,hk1,e1⟩:=tJ (ns:=ns) (k:=k) (x:=x) h (d+1) 1 hr h0 (by omega) (by decide) (by decide) (by omega)
  have l1:=o1.len;obtain⟨a,b,k',x',bG,ok,⟨t,rfl,ht⟩,wa,wb,hk',e2⟩:=aHT (ns:=ns) (k:=k1') (x:=x1) h d w .pick o1.ok (by omega) (by omega) hw bW (by omega)
  have wc:((rs1++t).map (·.w))[c]? = qq 1:=by
   rw[yCb,xAn (gIm o1.wd).1];exact o1.wd
  rw[show((1:Nat):Int)=1 from rfl] at e1
  refine⟨⟨.pick,w,[c,a,b]⟩,k',x',rs1++t,qq (.d (.int c)),ok,by simp;omega,by simp;omega,⟨hw,bW,wc,wa,wb⟩,by omega,q5 (oA (cP rfl c6) (cG (S1:=aS S n p ns k1' x1 rs1) (w:=.d (.int c)) ?_ rfl (kS ?_)))⟩
  ·simp only[gS0,e1]
  ·simp only[gS0,e2,lJ,lC,qG,aVv,aUL,aUb]
 rw[dqF k6] at c6;obtain⟨a,b,k',x',bG,ok,⟨t,rfl,ht⟩,wa,wb,hk',e2⟩:=aHT (ns:=ns) (k:=k) (x:=x) h d w wd hr h0 (by omega) hw bW (by omega)
 have okr:gB ((rs++t).map (·.w)) ⟨wd,uZ wd w,[a,b]⟩:=by
  clear q1 q2 q3 q4 q5 c6 e2;cases wd
  all_goals first | exact⟨hw,bW,wa,wb⟩ | exact⟨yAb 1,oqT rfl,rfl,w,wa,wb⟩ | exact absurd rfl k1 | exact absurd rfl k2 | exact absurd rfl k3 | exact absurd rfl k6 | exact absurd (.inl rfl) k4 | exact absurd (.inr (.inl rfl)) k4 | exact absurd (.inr (.inr rfl)) k4 | exact absurd (.inl rfl) k5 | exact absurd (.inr (.inl rfl)) k5 | exact absurd (.inr (.inr rfl)) k5
 refine⟨⟨wd,uZ wd w,[a,b]⟩,k',x',rs++t,e6,ok,by simp,by simp;omega,okr,by omega,q5 (vM (cP rfl c6) (kS ?_))⟩
 simp only[gS0,e2]
end
noncomputable def wds:List Wd:=[.in,.num,.num,.not,.and,.or,.xor,.add,.sub,.mul,.left,.right,.slide,.cut,.wide,.sign,.same,.less,.under,.pick]
noncomputable def kF:D:=.list (wds.map λ w=>PyData.str w.s)
section
variable {S : aE}{n p : Nat}{ns : List Int}{k : Nat}{x : Int}{rs : List Rw}
theorem aRU(h:At S n p)(d:Nat)(hr:eJ [] rs)(h0:0<rs.length)(hl:rs.length<=80)(hk:k<=95000) :
 ∃ (k':Nat) (x':Int) (bG:List Rw),eJ [] bG/\rs.length<=bG.length/\bG.length<=rs.length+4/\k'<=k+20/\cl fns (d+5) 72 [.loc n,.loc p] (aS S n p ns k x rs)=qq (.d .none,aS S n p ns k' x' bG):=by
 have s01:xs (aC fns (d+4)) (.seq (dW 0) (dW 1)) [qq (.loc n),qq (.loc p),qz,qz,qz,qz,qz] (aS S n p ns k x rs)=qq (.nx [qq (.loc n),qq (.loc p),qq (.d kF),qz,qz,qz,qz],aS S n p ns k x rs):=by
  simp only[evs,dW,jL,yBe,yBa];rw[zN (by simp)]
  simp only[gS0,True]
 obtain⟨q1,x1,h1,e1⟩:=iI (ns:=ns) (k:=k) (x:=x) (rs:=rs) h.toAt0 (d+3) 20 (i:=20) rfl (by decide) (by decide) (by omega)
 obtain⟨wd,aJ⟩:∃ wd,wds[q1]? = qq wd:=⟨wds[q1],yAa (by simpa [wds] using h1)⟩
 have gw:aH kF (.int q1)=qq (.str wd.s):=nV (by rw[xAb,aJ];rfl)
 have s2:xs (aC fns (d+4)) (dW 2) [qq (.loc n),qq (.loc p),qq (.d kF),qz,qz,qz,qz] (aS S n p ns k x rs)=qq (.nx [qq (.loc n),qq (.loc p),qq (.d kF),qq (.d (.str wd.s)),qz,qz,qz],aS S n p ns (k+1) x1 rs):=by
  simp only[gS2,dW,jL,yBe,yBa,e1,gw]
 obtain⟨a,x2,ha,e2⟩:=fH (ns:=ns) (k:=k+1) (x:=x1) (rs:=rs) h.toAt0 (d+3) rs.length h0 (by omega) (by omega)
 obtain⟨r,hra⟩:∃ r,rs[a]? = qq r:=⟨rs[a],yAa ha⟩;obtain⟨bT,bW⟩:=aBD hr hra;have s3:xs (aC fns (d+4)) (dW 3) [qq (.loc n),qq (.loc p),qq (.d kF),qq (.d (.str wd.s)),qz,qz,qz] (aS S n p ns (k+1) x1 rs)=qq (.nx [qq (.loc n),qq (.loc p),qq (.d kF),qq (.d (.str wd.s)),qq (.d (.int r.w)),qz,qz],aS S n p ns (k+2) x2 rs):=by
  simp only[gS2,dW,jL,yBe,yBa,h.rows,dU,dS,gW,e2,aAh hra,iO]
 obtain⟨q3,x3,h3,e3⟩:=iI (ns:=ns) (k:=k+2) (x:=x2) (rs:=rs) h.toAt0 (d+3) 4 (i:=4) rfl (by decide) (by decide) (by omega)
 obtain⟨w,k4,x4,hw3,hw4,hk4,s4⟩:∃ (w k4:Nat) (x4:Int),1<=w/\w<=64/\k4<=k+6/\xs (aC fns (d+4)) (dW 4) [qq (.loc n),qq (.loc p),qq (.d kF),qq (.d (.str wd.s)),qq (.d (.int r.w)),qz,qz] (aS S n p ns (k+2) x2 rs)=qq (.nx [qq (.loc n),qq (.loc p),qq (.d kF),qq (.d (.str wd.s)),qq (.d (.int w)),qz,qz],aS S n p ns k4 x4 rs):=by
  rcases yDw ((q3:Int)==1) with c | c
  ·obtain⟨w,x4,g1,g2,e4⟩:=aGi (ns:=ns) (k:=k+3) (x:=x3) (rs:=rs) h.toAt0 (d+2) (by omega)
   refine⟨w,k+6,x4,g1,g2,by omega,?_⟩
   simp only[gS2,dW,jL,yBe,yBa,e3,bO,c,e4]
  ·refine⟨r.w,k+3,x3,bT,bW,by omega,?_⟩
   simp only[gS2,dW,jL,yBe,yBa,e3,bO,c]
 obtain⟨rr,k',x',bG,e6',ok,l1,l2,okr,hk',s5⟩:=aPt (ns:=ns) (k:=k4) (x:=x4) h d w wd (qq (.d kF)) qz qz hr h0 hl hw3 hw4 (by omega)
 refine⟨k',x',bG++[rr],aBw ok (by simpa using okr),by simp;omega,by simp;omega,by omega,?_⟩
 rw[aU rfl (d+4) _ _ rfl];have full:xs (aC fns (d+4)) jL [qq (.loc n),qq (.loc p),qz,qz,qz,qz,qz] (aS S n p ns k x rs)=qq (.nx [qq (.loc n),qq (.loc p),qq (.d kF),qq (.d (.str wd.s)),qq (.d (.int w)),qq (.d rr.d),e6'],aS S n p ns k' x' (bG++[rr])):=by
  have s01':∀ r:Sx,xs (aC fns (d+4)) (.seq (dW 0) (.seq (dW 1) r)) [qq (.loc n),qq (.loc p),qz,qz,qz,qz,qz] (aS S n p ns k x rs)=xs (aC fns (d+4)) r [qq (.loc n),qq (.loc p),qq (.d kF),qz,qz,qz,qz] (aS S n p ns k x rs):=λ r=>by
   simp only[jQ,dL] at s01 ⊢;cases q:xs (aC fns (d+4)) (dW 0) [qq (.loc n),qq (.loc p),qz,qz,qz,qz,qz] (aS S n p ns k x rs) with
   | none=>rw[q] at s01;cases s01
   | some z =>
     obtain⟨fl,S1⟩:=z;rw[q] at s01;cases fl with
     | nx e =>
       simp only[oB] at s01 ⊢;rw[s01];simp only[oB]
     | rt w=>cases s01
     | bk e=>cases s01
     | ct e=>cases s01
  rw[aNd,s01',gI s2,gI s3,gI s4,gI s5];have hq24:=λ ns k x=>aHw (ns:=ns) (k:=k) (x:=x) h (show bG.length<=1000 by omega)
  simp only[gS2,dW,jL,yBe,yBa,iA,hq24]
 show((xs (aC fns (d+4)) jL [qq (.loc n),qq (.loc p),qz,qz,qz,qz,qz] (aS S n p ns k x rs)).bind _)=_;rw[full];simp only[oB,h.take]
end
noncomputable def gM(k:Nat):Sx:=match lL with
 | .seq a1 (.seq a2 (.seq a3 (.seq a4 (.seq a5 (.seq a6 _)))))=>[a1,a2,a3,a4,a5,a6].getD k .skip
 | _=>.skip
theorem aMe:lL=.seq (gM 0) (.seq (gM 1) (.seq (gM 2) (.seq (gM 3) (.seq (gM 4) (.seq (gM 5) .skip))))):=rfl
theorem aKM(ns:List Int)(k:Nat)(x:Int)(rs:List Rw)(o:List D):aS [qz,qz,qq o] 0 1 ns k x rs=[qq (aQ ns k x),qq (rs.map Rw.d),qq o]:=rfl
theorem sI:At [qz,qz] 0 1:=⟨⟨by decide,by decide⟩,by decide⟩
theorem wV(o:List D):At [qz,qz,qq o] 0 1:=⟨⟨by show 0<3;decide,by decide⟩,by show 1<3;decide⟩
theorem program_ok(d most:Nat)(ns:List Int)(hm:most<=30):∃ (rs:List Rw) (aD:List Nat) (k:Nat) (x:Int),eJ [] rs/\0<rs.length/\rs.length<=40/\(∀ o∈aD,o<rs.length)/\0<aD.length/\aD.length<=8/\k<=1000 /\
 cl fns (d+6) 73 [.loc 0,.d (.int most)] [qq (aQ ns 0 0)]=qq (.d (rs<*(.tuple (aD.map nD))),[qq (aQ ns k x)]):=by
 obtain⟨w,x0,bT,bW,e0⟩:=aGi (ns:=ns) (k:=0) (x:=0) (rs:=[]) at1 (d+3) (by omega)
 rw[aKa,aKa] at e0;have p0:xs (aC fns (d+5)) (gM 0) [qq (.loc 0),qq (.d (.int most)),qz,qz,qz,qz] [qq (aQ ns 0 0)]=qq (.nx [qq (.loc 0),qq (.d (.int most)),qq (.loc 1),qz,qz,qz],aS [qz,qz] 0 1 ns 3 x0 [⟨.in,w,[]⟩]):=by
  simp only[gS2,gM,lL,yBe,yBa,eY,e0]
 obtain⟨env1,S1,p1,a3,rs,k1,x1,ok1,l0,l1,hk1,rfl,rfl⟩:=aI2 (t:=.one 3) (fi:=lv (aC fns (d+5)) xM) (fb:=xs (aC fns (d+5)) xN) (env:=[qq (.loc 0),qq (.d (.int most)),qq (.loc 1),qz,qz,qz]) (S:=aS [qz,qz] 0 1 ns 3 x0 [⟨.in,w,[]⟩])
  (λ j env S=>∃ (a3:Option W) (rs:List Rw) (k:Nat) (x:Int),eJ [] rs/\0<rs.length/\rs.length<=40/\k<=3+20*j/\env=[qq (.loc 0),qq (.d (.int most)),qq (.loc 1),a3,qz,qz]/\S=aS [qz,qz] 0 1 ns k x rs)
  (show lv (aC fns (d+5)) xM _ _=qq ((yAx most).map (λ k=>yAk (k:Nat)),_) by
    simp only[xM,oE,lV,nK,nL,nU,nR];exact qP (by simp only[evs]) (by omega))
  ⟨qz,[⟨.in,w,[]⟩],3,x0,⟨⟨bT,bW,True.intro⟩,True.intro⟩,by simp,by simp,by omega,rfl,rfl⟩ (by
   rintro j dd env S hj ⟨a3,rs,k,x,ok,l0,l1,hk,rfl,rfl⟩;have hj':j<most:=by simpa using hj
   refine⟨[qq (.loc 0),qq (.d (.int most)),qq (.loc 1),qq (.d dd),qz,qz],[qq (.loc 0),qq (.d (.int most)),qq (.loc 1),qq (.d dd),qz,qz],?_⟩
   by_cases c:rs.length<37
   ·have d1:decide (((rs.length:Nat):Int)<37)=true:=dqT (by omega)
    obtain⟨k',x',bG,ok',g1,g2,hk',e⟩:=aRU (ns:=ns) (k:=k) (x:=x) sI d ok l0 (by omega) (by omega)
    refine⟨_,rfl,?_,qq (.d dd),bG,k',x',ok',by omega,by omega,by omega,rfl,rfl⟩
    simp only[gS1,xN,sI.rows,dU,dS,gW,dY,d1,e]
   ·have d1:decide (((rs.length:Nat):Int)<37)=false:=dqF (by omega)
    refine⟨_,rfl,?_,qq (.d dd),rs,k,x,ok,l0,l1,by omega,rfl,rfl⟩
    simp only[evs,xN,sI.rows,dU,dS,gW,dY,d1])
 have hk2:k1<=700:=by simp at hk1;omega
 obtain⟨q,x2,hq,e2⟩:=fH (ns:=ns) (k:=k1) (x:=x1) (rs:=rs) sI.toAt0 (d+4) rs.length l0 (by omega) (by omega)
 have sJ:((rs.length:Nat):Int)-1=((rs.length-1:Nat):Int):=by omega
 have p2:xs (aC fns (d+5)) (gM 2) [qq (.loc 0),qq (.d (.int most)),qq (.loc 1),a3,qz,qz] (aS [qz,qz] 0 1 ns k1 x1 rs)=qq (.nx [qq (.loc 0),qq (.d (.int most)),qq (.loc 1),a3,qq (.d (.list [.int ((rs.length-1:Nat):Int),.int q])),qz],aS [qz,qz] 0 1 ns (k1+1) x2 rs):=by
  simp only[gS2,gM,lL,yBe,yBa,sI.rows,dU,dS,gW,cR,sJ,e2]
 obtain⟨q3,x3,hq3,e3⟩:=iI (ns:=ns) (k:=k1+1) (x:=x2) (rs:=rs) sI.toAt0 (d+4) 4 (i:=4) rfl (by decide) (by decide) (by omega)
 obtain⟨b3,hb3,eb3⟩:=b2i ((q3:Int)==1);obtain⟨y,hy,ey⟩:=at2 (.int ((rs.length-1:Nat):Int)) (.int q) hb3;obtain⟨o1,ho1,rfl⟩:∃ o:Nat,o<rs.length/\y=.int o:=by
  rcases hy with rfl | rfl
  ·exact⟨_,by omega,rfl⟩
  ·exact⟨_,hq,rfl⟩
 have p3:xs (aC fns (d+5)) (gM 3) [qq (.loc 0),qq (.d (.int most)),qq (.loc 1),a3,qq (.d (.list [.int ((rs.length-1:Nat):Int),.int q])),qz] (aS [qz,qz] 0 1 ns (k1+1) x2 rs)=qq (.nx [qq (.loc 0),qq (.d (.int most)),qq (.loc 1),a3,qq (.d (.list [.int ((rs.length-1:Nat):Int),.int q])),qq (.loc 2)],aS [qz,qz,qq ([o1].map nD)] 0 1 ns (k1+2) x3 rs):=by
  simp only[gS2,gM,lL,yBe,yBa,eY,e3,bO,aIz,aIW,eb3,ey]
 obtain⟨q4,x4,hq4,e4⟩:=iI (ns:=ns) (k:=k1+2) (x:=x3) (rs:=rs) (wV ([o1].map nD)).toAt0 (d+4) 3 (i:=3) rfl (by decide) (by decide) (by omega)
 obtain⟨q5,x5,hq5,e5⟩:=iI (ns:=ns) (k:=k1+3) (x:=x4) (rs:=rs) (wV ([o1].map nD)).toAt0 (d+4) 8 (i:=8) rfl (by decide) (by decide) (by omega)
 obtain⟨b5,hb5,eb5⟩:=b2i ((q5:Int)==1);obtain⟨z,hz,ez⟩:=at2 (.int q4) (.int 7) hb5;obtain⟨m,hm7,rfl⟩:∃ m:Nat,m<=7/\z=.int m:=by
  rcases hz with rfl | rfl
  ·exact⟨_,by omega,rfl⟩
  ·exact⟨7,by decide,rfl⟩
 obtain⟨env2,S2,p4,a3',aD,k6,x6,ho,ol,hk6,rfl,rfl⟩:=aI2 (t:=.one 3) (fi:=lv (aC fns (d+5)) aBm) (fb:=xs (aC fns (d+5)) aBn) (env:=[qq (.loc 0),qq (.d (.int most)),qq (.loc 1),a3,qq (.d (.list [.int ((rs.length-1:Nat):Int),.int q])),qq (.loc 2)]) (S:=aS [qz,qz,qq ([o1].map nD)] 0 1 ns (k1+2) x3 rs) (S1:=aS [qz,qz,qq ([o1].map nD)] 0 1 ns (k1+4) x5 rs) (ds:=(yAx m).map (λ k=>yAk (k:Nat)))
  (λ j env S=>∃ (a3:Option W) (aD:List Nat) (k:Nat) (x:Int),(∀ o∈aD,o<rs.length)/\aD.length=j+1/\k<=k1+4+j/\env=[qq (.loc 0),qq (.d (.int most)),qq (.loc 1),a3,qq (.d (.list [.int ((rs.length-1:Nat):Int),.int q])),qq (.loc 2)]/\S=aS [qz,qz,qq (aD.map nD)] 0 1 ns k x rs)
  (by
    simp only[aBm,oE,lV,nK,nL,nU,nR];refine qP ?_ (by omega)
    simp only[yAs,yDz] at e4 e5;simp only[evs,e4,e5,bO,aIz,aIW,eb5,ez])
  ⟨a3,[o1],k1+4,x5,by simpa using ho1,rfl,by omega,rfl,rfl⟩ (by
   rintro j dd env S hj ⟨a3,aD,k,x,ho,ol,hk,rfl,rfl⟩;have hj':j<m:=by simpa using hj
   obtain⟨q6,x6,hq6,e6⟩:=fH (ns:=ns) (k:=k) (x:=x) (rs:=rs) (wV (aD.map nD)).toAt0 (d+4) rs.length l0 (by omega) (by omega)
   refine⟨[qq (.loc 0),qq (.d (.int most)),qq (.loc 1),qq (.d dd),qq (.d (.list [.int ((rs.length-1:Nat):Int),.int q])),qq (.loc 2)],[qq (.loc 0),qq (.d (.int most)),qq (.loc 1),qq (.d dd),qq (.d (.list [.int ((rs.length-1:Nat):Int),.int q])),qq (.loc 2)],aS [qz,qz,qq ((aD++[q6]).map nD)] 0 1 ns (k+1) x6 rs,rfl,?_,qq (.d dd),aD++[q6],k+1,x6,?_,by simp;omega,by omega,rfl,rfl⟩
   ·have ap:dZ (aS [qz,qz,qq (aD.map nD)] 0 1 ns (k+1) x6 rs) (.loc 2) (.d (.int q6))=qq (.d .none,aS [qz,qz,qq ((aD++[q6]).map nD)] 0 1 ns (k+1) x6 rs):=by
     rw[aKM,aKM];unfold dZ;simp only[yCi,yBo];rw[if_pos (by rw[yAd,zq];omega),yCb]
     rfl
    simp only[gS1,aBn,(wV (aD.map nD)).rows,dU,dS,gW,e6,iA,ap]
   ·intro o h;rcases List.mem_append.mp h with z | z
    ·exact ho o z
    ·rw[List.mem_singleton.mp z];exact hq6)
 have ol':aD.length=m+1:=by simpa using ol
 have hk7:k6<=k1+4+m:=by simpa using hk6
 refine⟨rs,aD,k6,x6,ok1,l0,l1,ho,by omega,by omega,by omega,?_⟩
 rw[aU rfl (d+5) _ _ rfl];have full:xs (aC fns (d+5)) lL [qq (.loc 0),qq (.d (.int most)),qz,qz,qz,qz] [qq (aQ ns 0 0)]=qq (.rt (.d (rs<*(.tuple (aD.map nD)))),aS [qz,qz,qq (aD.map nD)] 0 1 ns k6 x6 rs):=by
  have p1':xs (aC fns (d+5)) (gM 1) [qq (.loc 0),qq (.d (.int most)),qq (.loc 1),qz,qz,qz] (aS [qz,qz] 0 1 ns 3 x0 [⟨.in,w,[]⟩])=qq (.nx [qq (.loc 0),qq (.d (.int most)),qq (.loc 1),a3,qz,qz],aS [qz,qz] 0 1 ns k1 x1 rs):=p1;have p4':xs (aC fns (d+5)) (gM 4) [qq (.loc 0),qq (.d (.int most)),qq (.loc 1),a3,qq (.d (.list [.int ((rs.length-1:Nat):Int),.int q])),qq (.loc 2)] (aS [qz,qz,qq ([o1].map nD)] 0 1 ns (k1+2) x3 rs)=qq (.nx [qq (.loc 0),qq (.d (.int most)),qq (.loc 1),a3',qq (.d (.list [.int ((rs.length-1:Nat):Int),.int q])),qq (.loc 2)],aS [qz,qz,qq (aD.map nD)] 0 1 ns k6 x6 rs):=p4;rw[aMe,gI p0,gI p1',gI p2,gI p3,gI p4'];have g2:(aS [qz,qz,qq (aD.map nD)] 0 1 ns k6 x6 rs)[2]? = qq (qq (aD.map nD)):=rfl;simp only[gS2,gM,lL,yBe,yBa,(wV (aD.map nD)).rows,g2,gJ,gK]
 show((xs (aC fns (d+5)) lL [qq (.loc 0),qq (.d (.int most)),qz,qz,qz,qz] [qq (aQ ns 0 0)]).bind _)=_;rw[full];simp only[oB,jV];rfl
end GP
noncomputable def tr(n w:Nat):Nat:=w-bl (n^^^(2^w-1))
theorem aSG(n w i:Nat):(n^^^(2^w-1)).testBit i=(n.testBit i ^^ decide (i<w)):=by rw[yAm,cK]
theorem aJJ(n w:Nat):tr n w<=w:=yGx _ _
theorem aHq{n w i:Nat}(hi:w-tr n w<=i)(hw:i<w):n.testBit i=true:=by
 have h1:bl (n^^^(2^w-1))<=i:=by unfold tr at hi;omega
 have h2:=cL (pS (n^^^(2^w-1))) h1;rw[aSG,dqT hw] at h2;cases q:n.testBit i with
 | true=>rfl
 | false=>rw[q] at h2;cases h2
noncomputable def dE(a w:Nat):Nat:=(2^w-1)^^^(2^(w-a)-1)
theorem nF{a w i:Nat}:(dE a w).testBit i=(decide (w-a<=i)&&decide (i<w)):=by
 unfold dE;rw[yAm,cK,cK]
 by_cases h1:i<w<;>by_cases h2:i<w-a
 ·rw[dqT h1,dqT h2,dqF (by omega)];rfl
 ·rw[dqT h1,dqF h2,dqT (by omega)];rfl
 ·omega
 ·rw[dqF h1,dqF h2,yCx];rfl
theorem aCR{x y:Nat}:x&&&y≠0 ↔ ∃ i,x.testBit i=true/\y.testBit i=true:=by
 constructor
 ·intro h
  by_cases c:∃ i,x.testBit i=true/\y.testBit i=true
  ·exact c
  ·refine absurd ((jN _).mpr λ i=>?_) h
   rw[yAh];cases h1:x.testBit i<;>cases h2:y.testBit i<;>first | rfl | exact absurd ⟨i,h1,h2⟩ c
 ·rintro ⟨i,h1,h2⟩ z;rw[jN] at z;have:=z i;rw[yAh,h1,h2] at this;cases this
noncomputable def dB(x a w:Nat):Nat:=if x&&&dE a w=0 then x else x|||dE a w
theorem aAs{x a w:Nat}(h:x<2^w):dB x a w<2^w:=by
 unfold dB
 split
 ·exact h
 ·exact yBl h (by
   apply yCn;intro i hi;rw[nF,dqF (show ¬ i<w by omega),yCx])
theorem aAp{x a w i:Nat}:(dB x a w).testBit i=true ↔ x.testBit i=true\/((w-a<=i/\i<w)/\∃ j,(w-a<=j/\j<w)/\x.testBit j=true):=by
 unfold dB
 split
 ·rename_i h;constructor
  ·intro z;exact .inl z
  ·rintro (z | ⟨_,j,h1,h2⟩)
   ·exact z
   ·refine absurd h (aCR.mpr ⟨j,h2,?_⟩);rw[nF,dqT h1.1,dqT h1.2];rfl
 ·rename_i h;obtain⟨j,h1,h2⟩:=aCR.mp h;rw[nF,yAl,decide_eq_true_eq,decide_eq_true_eq] at h2;rw[xAp,yDu,nF,yAl,decide_eq_true_eq,decide_eq_true_eq];constructor
  ·rintro (z | z)
   ·exact .inl z
   ·exact .inr ⟨z,j,h2,h1⟩
  ·rintro (z | ⟨z,_⟩)
   ·exact .inl z
   ·exact .inr z
noncomputable def wA(i j k:Nat):Nat:=max (max i j) k
structure Ft where
 N:Nat
 O:Nat
 A:Nat
noncomputable def gG(f:Ft)(w:Nat):Ft:=⟨dB f.N f.A w,dB f.O f.A w,wA f.A (tr (dB f.N f.A w) w) (tr (dB f.O f.A w) w)⟩
def Hd(f:Ft)(n w:Nat):Prop:=(∀ i,f.N.testBit i=true->n.testBit i=false)/\(∀ i,f.O.testBit i=true->n.testBit i=true)/\((∀ i,w-f.A<=i->i<w->n.testBit i=true)\/(∀ i,w-f.A<=i->i<w->n.testBit i=false))
structure FtOk(f:Ft)(w:Nat):Prop where
 lN:f.N<2^w
 lO:f.O<2^w
 a1:1<=f.A
 aw:f.A<=w
theorem aVQ{f:Ft}{w:Nat}(h:FtOk f w):FtOk (gG f w) w:=by
 have h1:=aJJ (dB f.N f.A w) w;have h2:=aJJ (dB f.O f.A w) w;have h3:=h.a1;have h4:=h.aw;exact⟨aAs h.lN,aAs h.lO,by show 1<=max (max _ _) _;omega,by show max (max _ _) _<=w;omega⟩
theorem aNz{f:Ft}{n w:Nat}(h:FtOk f w):Hd (gG f w) n w ↔ Hd f n w:=by
 have aA:f.A<=(gG f w).A:=by show f.A<=max (max _ _) _;omega
 constructor
 ·rintro ⟨h1,h2,h3⟩;refine⟨λ i hi=>h1 i (aAp.mpr (.inl hi)),λ i hi=>h2 i (aAp.mpr (.inl hi)),?_⟩
  rcases h3 with h3 | h3
  ·exact .inl λ i a b=>h3 i (by omega) b
  ·exact .inr λ i a b=>h3 i (by omega) b
 ·rintro ⟨h1,h2,h3⟩;have hN:∀ i,(gG f w).N.testBit i=true->n.testBit i=false:=λ i hi=>by
   rcases aAp.mp hi with z | ⟨⟨a,b⟩,j,⟨c,d⟩,e⟩
   ·exact h1 i z
   ·rcases h3 with h3 | h3
    ·have x1:=h3 j c d;rw[h1 j e] at x1;cases x1
    ·exact h3 i a b
  have hO:∀ i,(gG f w).O.testBit i=true->n.testBit i=true:=λ i hi=>by
   rcases aAp.mp hi with z | ⟨⟨a,b⟩,j,⟨c,d⟩,e⟩
   ·exact h2 i z
   ·rcases h3 with h3 | h3
    ·exact h3 i a b
    ·have x1:=h3 j c d;rw[h2 j e] at x1;cases x1
  refine⟨hN,hO,?_⟩;have cA:(gG f w).A=f.A\/(gG f w).A=tr (gG f w).N w\/(gG f w).A=tr (gG f w).O w:=by
   show max (max _ _) _=_\/max (max _ _) _=tr (dB f.N f.A w) w\/max (max _ _) _=tr (dB f.O f.A w) w;omega
  rcases cA with c | c | c
  ·rw[c];exact h3
  ·rw[c];exact .inr λ i a b=>hN i (aHq a b)
  ·rw[c];exact .inl λ i a b=>hO i (aHq a b)
theorem aWF{f:Ft}{n w:Nat}(h:Hd f n w):f.N&&&f.O=0:=by
 by_cases c:f.N&&&f.O=0
 ·exact c
 ·obtain⟨i,h1,h2⟩:=aCR.mp c;have x:=h.1 i h1;rw[h.2.1 i h2] at x;cases x
theorem aAq{n w i:Nat}(hn:n<2^w)(hi:i<w):(2^w-1-n).testBit i = !n.testBit i:=by
 have:=nJ hn i;unfold oS at this;rw[this,dqT hi,yAn]
theorem aOB{n w a:Nat}(hn:n<2^w)(ha:a<=w):n/2^(w-a)=2^a-1 ↔ ∀ i,w-a<=i->i<w->n.testBit i=true:=by
 constructor
 ·intro h i h1 h2;have:(n/2^(w-a)).testBit (i-(w-a))=(2^a-1).testBit (i-(w-a)):=by rw[h]
  rw[eV,cK,show w-a+(i-(w-a))=i by omega,dqT (by omega)] at this
  exact this
 ·intro h;apply xAm;intro i;rw[eV,cK]
  by_cases c:i<a
  ·rw[h _ (by omega) (by omega),dqT c]
  ·rw[cL hn (by omega),dqF c]
theorem aNL{n w a:Nat}(hn:n<2^w)(ha:a<=w):n/2^(w-a)=0 ↔ ∀ i,w-a<=i->i<w->n.testBit i=false:=by
 rw[aBq];constructor
 ·intro h i h1 _;exact h i h1
 ·intro h i h1
  by_cases c:i<w
  ·exact h i h1 c
  ·exact cL hn (by omega)
theorem aOa{x y:Nat}:(x&&&y=0) ↔ ∀ i,y.testBit i=true->x.testBit i=false:=by
 rw[jN];constructor
 ·intro h i hy;have:=h i;rw[yAh,hy,yBt] at this;exact this
 ·intro h i;rw[yAh];cases hy:y.testBit i with
  | false=>exact yCx _
  | true=>rw[h i hy];rfl
theorem aFQ{x y:Nat}:(x&&&y=y) ↔ ∀ i,y.testBit i=true->x.testBit i=true:=by
 constructor
 ·intro h i hy;have:=congrArg (λ z=>z.testBit i) h
  simp only[yAh,hy,yBt] at this;exact this
 ·intro h;apply xAm;intro i;rw[yAh];cases hy:y.testBit i with
  | false=>exact yCx _
  | true=>rw[h i hy];rfl
theorem cQ(d w:Nat)(h:w<=100000)(S:aE):cl fns (d+1) 0 [.d (.int w)] S=qq (.d (.int ((2^w-1:Nat):Int)),S):=by
 rw[aU rfl d _ S rfl];simp only[gR1,aJY,eT h,cR,aBV]
theorem aP0(n:Nat):yAi (n:Int)=bl n:=aE2 n
theorem zF(d n:Nat)(S:aE):cl fns (d+1) 1 [.d (.int n)] S=qq (.d (.int ((bl n:Nat):Int)),S):=by
 rw[aU rfl d _ S rfl];simp only[gR1,aI3,aDm,aJL,aP0]
noncomputable def lr(n:Nat):Nat:=bl (n^^^(n+1))-1
theorem aQo(n:Nat):lr n=lG (oG n (bl n+1)):=aFs (bl n+1) n (xAc (pS n) (yAr (by decide) (by omega)))
theorem aGP(d n:Nat)(S:aE)(h:n<2^10000):cl fns (d+2) 2 [.d (.int n)] S=qq (.d (.int ((2^bl n-1:Nat):Int)),S):=by
 rw[aU rfl (d+1) _ S rfl];have hq25:=cQ d (bl n) (xAi (rZ h) (by decide))
 simp only[gR1,aH2,zF d n,hq25]
theorem aJa{n w:Nat}(h:n<2^w)(hw:w<=10000):n<2^10000:=xAc h (yAr (by decide) hw)
theorem aC2(d n:Nat)(S:aE):cl fns (d+2) 3 [.d (.int n)] S=qq (.d (.int ((lr n:Nat):Int)),S):=by
 have h1:=aBR (aFi n);have e1:(n:Int)+1=((n+1:Nat):Int):=by omega
 have e2:((bl (n^^^(n+1)):Nat):Int)-1=((lr n:Nat):Int):=by unfold lr;omega
 rw[aU rfl (d+1) _ S rfl];simp only[gR1,aGB,dR,e1,iJ,zF d,cR,e2]
noncomputable def Ft.d(f:Ft):D:=.tuple [.int f.N,.int f.O,.int f.A]
theorem hZ(f:Ft):aH f.d (.int 0)=qq (.int f.N):=rfl
theorem iC(f:Ft):aH f.d (.int 1)=qq (.int f.O):=rfl
theorem kA(f:Ft):aH f.d (.int 2)=qq (.int f.A):=rfl
theorem jO(a b:Nat):(((a:Nat):Int)==((b:Nat):Int))=(a==b):=by
 rw[yEn,beq_iff_eq,beq_iff_eq];omega
theorem aFJ(d n w:Nat)(S:aE)(hn:n<2^w)(hw:w<=64):cl fns (d+2) 4 [.d (.int n),.d (.int w)] S=qq (.d (.int ((tr n w:Nat):Int)),S):=by
 have h1:=rZ (aLL hn);have e2:(w:Int)-((bl (n^^^(2^w-1)):Nat):Int)=((tr n w:Nat):Int):=by unfold tr;omega
 rw[aU rfl (d+1) _ S rfl];have hq26:=cQ d w (by omega)
 simp only[gR1,aGp,hq26,iJ,zF d,cR,e2]
theorem pE(d a w:Nat)(S:aE)(ha:a<=w)(hw:w<=64):cl fns (d+2) 23 [.d (.int a),.d (.int w)] S=qq (.d (.int ((dE a w:Nat):Int)),S):=by
 have e:(w:Int)-(a:Int)=((w-a:Nat):Int):=by omega
 rw[aU rfl (d+1) _ S rfl];have hq27:=cQ d w (by omega)
 have hq28:=cQ d (w-a) (by omega)
 simp only[gR1,aFH,hq27,cR,e,hq28,iJ]
theorem mxI(i j:Nat):(if (j:Int)>(i:Int) then ((j:Nat):Int) else ((i:Nat):Int))=((max i j:Nat):Int):=by
 by_cases h:(j:Int)>(i:Int)
 ·rw[if_pos h];omega
 ·rw[if_neg h];omega
theorem zC(i j k:Nat):pZ [.int i,.int j,.int k]=qq (.int ((wA i j k:Nat):Int)):=by
 show qq (yAk (if (j:Int)>(i:Int) then (if (k:Int)>(j:Int) then ((k:Nat):Int) else ((j:Nat):Int)) else (if (k:Int)>(i:Int) then ((k:Nat):Int) else ((i:Nat):Int))))=_
 rw[mxI,mxI];unfold wA
 by_cases h:(j:Int)>(i:Int)
 ·rw[if_pos h,show max (max i j) k=max j k by omega]
 ·rw[if_neg h,show max (max i j) k=max i k by omega]
theorem aC0{x a w:Nat}(h:(x&&&dE a w==0)=true):dB x a w=x:=by
 unfold dB;rw[if_pos (eq_of_beq h)]
theorem aDb{x a w:Nat}(h:(x&&&dE a w==0)=false):dB x a w=x|||dE a w:=by
 unfold dB;rw[if_neg (by simpa using h)]
theorem aML(d:Nat)(f:Ft)(w:Nat)(k:FtOk f w)(hw:w<=64)(S:aE):cl fns (d+3) 25 [.d f.d,.d (.int w)] S=qq (.d (gG f w).d,S):=by
 have t1:=aFJ d (dB f.N f.A w) w S (aAs k.lN) hw;have t2:=aFJ d (dB f.O f.A w) w S (aAs k.lO) hw;rw[aU rfl (d+2) _ S rfl];show _=qq (W.d (.tuple [.int ((dB f.N f.A w:Nat):Int),.int ((dB f.O f.A w:Nat):Int),.int ((wA f.A (tr (dB f.N f.A w) w) (tr (dB f.O f.A w) w):Nat):Int)]),S);cases c1:(f.N&&&dE f.A w==0) with
 | true =>
   rw[aC0 c1] at t1 ⊢;cases c2:(f.O&&&dE f.A w==0) with
   | true =>
     rw[aC0 c2] at t2 ⊢;simp only[gR1,uF,Ft.d,pE (d:=d) (a:=f.A) (w:=w) (S:=S) k.aw hw,dJ,pO,fX,c1,c2,t1,t2,zC]
   | false =>
     rw[aDb c2] at t2 ⊢;simp only[gR1,uF,Ft.d,pE (d:=d) (a:=f.A) (w:=w) (S:=S) k.aw hw,dJ,pO,fX,c1,c2,eX,t1,t2,zC]
 | false =>
   rw[aDb c1] at t1 ⊢;cases c2:(f.O&&&dE f.A w==0) with
   | true =>
     rw[aC0 c2] at t2 ⊢;simp only[gR1,uF,Ft.d,pE (d:=d) (a:=f.A) (w:=w) (S:=S) k.aw hw,dJ,pO,fX,c1,c2,eX,t1,t2,zC]
   | false =>
     rw[aDb c2] at t2 ⊢;simp only[gR1,uF,Ft.d,pE (d:=d) (a:=f.A) (w:=w) (S:=S) k.aw hw,dJ,pO,fX,c1,c2,eX,t1,t2,zC]
theorem tX(d:Nat)(f:Ft)(S:aE):cl fns (d+1) 26 [.d f.d] S=qq (.d (.int f.O),S):=by
 rw[aU rfl d _ S rfl];simp only[gR1,aIc,iC]
theorem xX(d:Nat)(f:Ft)(w:Nat)(lN:f.N<2^w)(hw:w<=64)(S:aE):cl fns (d+2) 27 [.d f.d,.d (.int w)] S=qq (.d (.int ((2^w-1-f.N:Nat):Int)),S):=by
 have e:(2^w-1)^^^f.N=2^w-1-f.N:=by
  apply xAm;intro i;have:=nJ lN i;unfold oS at this;rw[this,yAm,cK]
  by_cases c:i<w
  ·rw[dqT c];cases f.N.testBit i<;>rfl
  ·rw[dqF c,cL lN (by omega)];rfl
 rw[aU rfl (d+1) _ S rfl];have hq29:=cQ d w (by omega)
 simp only[gR1,aGe,hZ,hq29,iJ,e]
theorem qN(d n w v:Nat)(S:aE)(hw:0<w)(hv:v<=1000)(bW:w<=64):cl fns (d+2) 5 [.d (.int n),.d (.int w),.d (.int v)] S=qq (.d (.int ((dC n w v:Nat):Int)),S):=by
 have e1:(w:Int)-1=((w-1:Nat):Int):=by omega
 rw[aU rfl (d+1) _ S rfl];unfold dC
 by_cases c:n&&&2^(w-1)=0
 ·have d1:(n&&&2^(w-1)==0)=true:=by rw[beq_iff_eq];exact c
  rw[if_pos c];have hq30:=eT (show w-1<=100000 by omega)
  simp only[gR1,aBB,cR,e1,hq30,dJ,bO,fX,d1]
 ·have d1:(n&&&2^(w-1)==0)=false:=by rw[beq_eq_false_iff_ne];exact c
  rw[if_neg c];have hq31:=eT (show w-1<=100000 by omega)
  have hq32:=cQ d v (by omega)
  have hq33:=cQ d w (by omega)
  simp only[gR1,aBB,cR,e1,hq31,dJ,bO,fX,d1,hq32,hq33,iJ,eX]
theorem aB3(a k:Nat):pZ [.int 1,.int ((a:Nat)-(k:Nat):Int)]=qq (.int ((max 1 (a-k):Nat):Int)):=by
 unfold pZ;simp only[];congr 2
 by_cases h1:(a:Int)-(k:Int)>1<;>simp only[h1,if_true,if_false]<;>omega
theorem kM(i j:Nat):pU [.int i,.int j]=qq (.int ((min i j:Nat):Int)):=by
 unfold pU;simp only[];congr 2
 by_cases h1:(j:Int)<(i:Int)<;>simp only[h1,if_true,if_false]<;>omega
noncomputable def vE(w:Nat)(f:Ft)(k:Nat):Ft:=⟨(f.N*2^k|||(2^k-1))&&&(2^w-1),f.O*2^k&&&(2^w-1),max 1 (f.A-k)⟩
theorem aQy(d w:Nat)(f:Ft)(k:Nat)(hf:FtOk f w)(hw:w<=64)(hk:k<=1000)(S:aE):cl fns (d+2) 38 [.d (.int w),.d f.d,.d (.int k)] S=qq (.d (vE w f k).d,S):=by
 rw[aU rfl (d+1) _ S rfl];have hq34:=rD hf.lN (show w+k<=100000 by omega)
 have hq35:=rD hf.lO (show w+k<=100000 by omega)
 have hq36:=cQ d k (by omega)
 have hq37:=cQ d w (by omega)
 simp only[gR1,aFn,hZ,iC,kA,hq34,hq35,hq36,hq37,eX,dJ,cR,aB3]
noncomputable def mD(w:Nat)(f:Ft)(k:Nat):Ft:=⟨f.N/2^k|||dE (min k w) w,f.O/2^k,if k=0 then f.A else 1⟩
theorem aOr(d w:Nat)(f:Ft)(k:Nat)(hw:w<=64)(S:aE):cl fns (d+3) 39 [.d (.int w),.d f.d,.d (.int k)] S=qq (.d (mD w f k).d,S):=by
 have tm:=pE d (min k w) w S (by omega) hw
 rw[aU rfl (d+2) _ S rfl]
 by_cases c:k=0
 ·have d1:(k==0)=true:=by rw[beq_iff_eq];exact c
  have e:(mD w f k).d=.tuple [.int ((f.N/2^k|||dE (min k w) w:Nat):Int),.int ((f.O/2^k:Nat):Int),.int f.A]:=by unfold mD;rw[if_pos c];rfl
  rw[e];simp only[gR1,aBv,hZ,iC,kA,eU,kM,tm,eX,bO,fX,d1]
 ·have d1:(k==0)=false:=by rw[beq_eq_false_iff_ne];exact c
  have e:(mD w f k).d=.tuple [.int ((f.N/2^k|||dE (min k w) w:Nat):Int),.int ((f.O/2^k:Nat):Int),.int 1]:=by unfold mD;rw[if_neg c];rfl
  rw[e];simp only[gR1,aBv,hZ,iC,kA,eU,kM,tm,eX,bO,fX,d1]
noncomputable def uN(w:Nat)(f:Ft)(k:Nat):Ft:=⟨dC f.N w (w+k)/2^k,dC f.O w (w+k)/2^k,min w (f.A+k)⟩
theorem aOp(d w:Nat)(f:Ft)(k:Nat)(bT:1<=w)(hw:w<=64)(hk:k<=900)(S:aE):cl fns (d+3) 40 [.d (.int w),.d f.d,.d (.int k)] S=qq (.d (uN w f k).d,S):=by
 have e1:(w:Int)+(k:Int)=((w+k:Nat):Int):=by omega
 have e2:(f.A:Int)+(k:Int)=((f.A+k:Nat):Int):=by omega
 rw[aU rfl (d+2) _ S rfl];have hq38:=qN d f.N w (w+k) S (by omega) (by omega) hw
 have hq39:=qN d f.O w (w+k) S (by omega) (by omega) hw
 simp only[gR1,aFh,hZ,iC,kA,dR,e1,e2,hq38,hq39,eU,kM]
noncomputable def wQ(v w:Nat)(f:Ft):Ft:=⟨f.N&&&(2^w-1),f.O&&&(2^w-1),max 1 (f.A-(v-w))⟩
noncomputable def mI(v w:Nat)(f:Ft):Ft:=⟨f.N|||dE (w-v) w,f.O,if w=v then f.A else 1⟩
noncomputable def vH(v w:Nat)(f:Ft):Ft:=⟨dC f.N v w,dC f.O v w,f.A+(w-v)⟩
theorem aQO(d v w:Nat)(f:Ft)(hv:w<=v)(hw:w<=64)(S:aE):cl fns (d+2) 42 [.d (.str "cut"),.d (.int v),.d (.int w),.d f.d] S=qq (.d (wQ v w f).d,S):=by
 have c1:aV .Eq (.str "cut") (.str "cut")=qq (.bool true):=bN .cut .cut;have e1:(v:Int)-(w:Int)=((v-w:Nat):Int):=by omega
 rw[aU rfl (d+1) _ S rfl];have hq40:=cQ d w (by omega)
 simp only[gR1,tO,Ft.d,c1,hq40,dJ,cR,e1,aB3]
theorem aQn(d v w:Nat)(f:Ft)(hv:v<=w)(hw:w<=64)(S:aE):cl fns (d+3) 42 [.d (.str "wide"),.d (.int v),.d (.int w),.d f.d] S=qq (.d (mI v w f).d,S):=by
 have c1:aV .Eq (.str "wide") (.str "cut")=qq (.bool false):=bN .wide .cut;have c2:aV .Eq (.str "wide") (.str "wide")=qq (.bool true):=bN .wide .wide;have e1:(w:Int)-(v:Int)=((w-v:Nat):Int):=by omega
 have tm:=pE d (w-v) w S (by omega) hw
 rw[aU rfl (d+2) _ S rfl]
 by_cases c:w=v
 ·have d1:(w==v)=true:=by rw[beq_iff_eq];exact c
  have e:(mI v w f).d=.tuple [.int ((f.N|||dE (w-v) w:Nat):Int),.int f.O,.int f.A]:=by unfold mI;rw[if_pos c];rfl
  rw[e];simp only[gR1,tO,Ft.d,c1,c2,cR,e1,tm,eX,bO,jO,d1]
 ·have d1:(w==v)=false:=by rw[beq_eq_false_iff_ne];exact c
  have e:(mI v w f).d=.tuple [.int ((f.N|||dE (w-v) w:Nat):Int),.int f.O,.int 1]:=by unfold mI;rw[if_neg c];rfl
  rw[e];simp only[gR1,tO,Ft.d,c1,c2,cR,e1,tm,eX,bO,jO,d1]
theorem aPT(d v w:Nat)(f:Ft)(hv1:1<=v)(hv:v<=w)(hw:w<=64)(S:aE):cl fns (d+3) 42 [.d (.str "sign"),.d (.int v),.d (.int w),.d f.d] S=qq (.d (vH v w f).d,S):=by
 have c1:aV .Eq (.str "sign") (.str "cut")=qq (.bool false):=bN .sign .cut;have c2:aV .Eq (.str "sign") (.str "wide")=qq (.bool false):=bN .sign .wide;have e1:(w:Int)-(v:Int)=((w-v:Nat):Int):=by omega
 have e2:(f.A:Int)+((w-v:Nat):Int)=((f.A+(w-v):Nat):Int):=by omega
 rw[aU rfl (d+2) _ S rfl];have hq41:=qN d f.N v w S (by omega) (by omega) (by omega)
 have hq42:=qN d f.O v w S (by omega) (by omega) (by omega)
 simp only[gR1,tO,Ft.d,c1,c2,cR,e1,hq41,hq42,dR,e2]
noncomputable def bwN(wd:Wd)(f g:Ft):Ft:=match wd with
 | .and=>⟨f.N|||g.N,f.O&&&g.O,min f.A g.A⟩
 | .or=>⟨f.N&&&g.N,f.O|||g.O,min f.A g.A⟩
 | _=>⟨f.N&&&g.N|||f.O&&&g.O,f.N&&&g.O|||f.O&&&g.N,min f.A g.A⟩
theorem zA(d:Nat)(f g:Ft)(S:aE):cl fns (d+1) 36 [.d f.d,.d g.d] S=qq (.d (.int ((f.N&&&g.O|||f.O&&&g.N:Nat):Int)),S):=by
 rw[aU rfl d _ S rfl];simp only[gR1,aEZ,hZ,iC,eX,dJ]
theorem aL1(d:Nat)(wd:Wd)(aJ:wd=.and\/wd=.or\/wd=.xor)(f g:Ft)(S:aE):cl fns (d+2) 37 [.d (.str wd.s),.d f.d,.d g.d] S=qq (.d (bwN wd f g).d,S):=by
 have c1:aV .Eq (.str wd.s) (.str "and")=qq (.bool (decide (wd=.and))):=bN wd .and;have c2:aV .Eq (.str wd.s) (.str "or")=qq (.bool (decide (wd=.or))):=bN wd .or;rw[aU rfl (d+1) _ S rfl];rcases aJ with rfl | rfl | rfl
 ·simp only[decide_true] at c1;simp only[gR1,xQ,hZ,iC,kA,kM,c1,eX,dJ]
 ·simp only[reduceCtorEq,decide_false,decide_true] at c1 c2;simp only[gR1,xQ,hZ,iC,kA,kM,c1,c2,eX,dJ]
 ·simp only[reduceCtorEq,decide_false] at c1 c2;simp only[gR1,xQ,hZ,iC,kA,kM,c1,c2,eX,dJ,zA d]
noncomputable def dF(f:Ft)(k:Nat):Nat:=2-2*(f.N.testBit k).toNat-(f.O.testBit k).toNat
theorem gD{f:Ft}(hd:f.N&&&f.O=0)(k:Nat):(dF f k==0)=f.N.testBit k:=by
 have:=(jN _).mp hd k;rw[yAh] at this;unfold dF
 revert this
 cases f.N.testBit k<;>cases f.O.testBit k<;>decide
theorem gC{f:Ft}(hd:f.N&&&f.O=0)(k:Nat):(dF f k==1)=f.O.testBit k:=by
 have:=(jN _).mp hd k;rw[yAh] at this;unfold dF
 revert this
 cases f.N.testBit k<;>cases f.O.testBit k<;>decide
theorem uH(f:Ft)(k:Nat):dF f k<3:=by
 unfold dF;omega
noncomputable def ntN(x:Nat):Nat:=[1,0,2].getD x 2
noncomputable def aAB(f:Ft)(k i:Nat):Nat:=if i<k then 0 else dF f (i-k)
noncomputable def aAn(f:Ft)(w k i:Nat):Nat:=if i+k<w then dF f (i+k) else 0
noncomputable def aKi(f:Ft)(w i:Nat):Nat:=dF f (min i (w-1))
noncomputable def aAw(f:Ft)(w i:Nat):Nat:=if i<w then dF f i else 0
structure Mk(t:Nat->Nat)(n:Nat)(g:Ft):Prop where
 lN:g.N<2^n
 lO:g.O<2^n
 b0:∀ i,i<n->g.N.testBit i=(t i==0)
 b1:∀ i,i<n->g.O.testBit i=(t i==1)
theorem aKN{f:Ft}(hd:f.N&&&f.O=0)(k:Nat):(ntN (dF f k)==0)=f.O.testBit k:=by
 rw[<- gC hd k];have:=uH f k
 revert this
 generalize dF f k=x;intro h;have:x=0\/x=1\/x=2:=by omega
 rcases this with rfl | rfl | rfl<;>rfl
theorem aKf{f:Ft}(hd:f.N&&&f.O=0)(k:Nat):(ntN (dF f k)==1)=f.N.testBit k:=by
 rw[<- gD hd k];have:=uH f k
 revert this
 generalize dF f k=x;intro h;have:x=0\/x=1\/x=2:=by omega
 rcases this with rfl | rfl | rfl<;>rfl
theorem aRL{f:Ft}{w:Nat}(hf:FtOk f w)(hd:f.N&&&f.O=0):Mk (λ i=>ntN (dF f i)) w ⟨f.O,f.N,f.A⟩:=
 ⟨hf.lO,hf.lN,λ i _=>(aKN hd i).symm,λ i _=>(aKf hd i).symm⟩
theorem uB(w:Nat):2^w-1<2^w:=by have:=xAf w;omega
theorem yM(n k i:Nat):(n*2^k).testBit i=(decide (k<=i)&&n.testBit (i-k)):=by
 have:=aE5 (x:=0) (k:=k) (q:=n) (xAf k) i;rw[yEb] at this;rw[this]
 by_cases c:i<k
 ·rw[if_pos c,dqF (by omega),yBd,yBi]
 ·rw[if_neg c,dqT (by omega),yAn]
theorem aHp{f:Ft}{w:Nat}(k:Nat)(hd:f.N&&&f.O=0):Mk (aAB f k) w (vE w f k):=by
 refine⟨xAj yEw (uB w),xAj yEw (uB w),λ i hi=>?_,λ i hi=>?_⟩
 ·show((f.N*2^k|||(2^k-1))&&&(2^w-1)).testBit i=_
  rw[yAh,xAp,cK,cK,yM,dqT hi,yBt];unfold aAB
  by_cases c:i<k
  ·rw[if_pos c,dqT c,yHo];rfl
  ·rw[if_neg c,dqF c,yFg,dqT (by omega),yAn,gD hd]
 ·show(f.O*2^k&&&(2^w-1)).testBit i=_;rw[yAh,cK,yM,dqT hi,yBt];unfold aAB
  by_cases c:i<k
  ·rw[if_pos c,dqF (by omega),yBi];rfl
  ·rw[if_neg c,dqT (by omega),yAn,gC hd]
theorem aDg(a w:Nat):dE a w<2^w:=by
 apply yCn;intro i hi;rw[nF,dqF (show ¬ i<w by omega),yCx]
theorem aFK{n k w:Nat}(h:n<2^w):n/2^k<2^w:=xAj (Nat.div_le_self _ _) h
theorem aGl{f:Ft}{w:Nat}(k:Nat)(hf:FtOk f w)(hd:f.N&&&f.O=0):Mk (aAn f w k) w (mD w f k):=by
 refine⟨yBl (aFK hf.lN) (aDg _ _),aFK hf.lO,λ i hi=>?_,λ i hi=>?_⟩
 ·show(f.N/2^k|||dE (min k w) w).testBit i=_
  rw[xAp,eV,nF,dqT hi,yBt];unfold aAn
  by_cases c:i+k<w
  ·rw[if_pos c,dqF (by omega),yFg,gD hd,yEa]
  ·rw[if_neg c,dqT (by omega),yHo];rfl
 ·show(f.O/2^k).testBit i=_;rw[eV];unfold aAn
  by_cases c:i+k<w
  ·rw[if_pos c,gC hd,yEa]
  ·rw[if_neg c,cL hf.lO (by omega)];rfl
theorem rA{n w v:Nat}(h:n<2^w)(hw:0<w)(hv:w<=v){i:Nat}(hi:i<v):(dC n w v).testBit i=n.testBit (min i (w-1)):=by
 rw[qO h hw hv]
 by_cases c:i<w
 ·rw[if_pos c,yGh (by omega)]
 ·rw[if_neg c,dqT hi,yAn,yHh (by omega)]
theorem aGA{f:Ft}{w:Nat}(k:Nat)(hw:1<=w)(hf:FtOk f w)(hd:f.N&&&f.O=0):Mk (λ i=>aKi f w (i+k)) w (uN w f k):=by
 have hl:∀ n,n<2^w->dC n w (w+k)/2^k<2^w:=λ n hn=>by
  rw[yEo (xAf k),<- yEz];exact tI hn hw (by omega)
 refine⟨hl _ hf.lN,hl _ hf.lO,λ i hi=>?_,λ i hi=>?_⟩
 ·show(dC f.N w (w+k)/2^k).testBit i=(dF f (min (i+k) (w-1))==0);rw[eV,rA hf.lN hw (by omega) (by omega),gD hd,yEa]
 ·show(dC f.O w (w+k)/2^k).testBit i=(dF f (min (i+k) (w-1))==1);rw[eV,rA hf.lO hw (by omega) (by omega),gC hd,yEa]
theorem aI8{f:Ft}(v w:Nat)(hd:f.N&&&f.O=0):Mk (dF f) w (wQ v w f):=by
 refine⟨xAj yEw (uB w),xAj yEw (uB w),λ i hi=>?_,λ i hi=>?_⟩
 ·show(f.N&&&(2^w-1)).testBit i=_;rw[yAh,cK,dqT hi,yBt,gD hd]
 ·show(f.O&&&(2^w-1)).testBit i=_;rw[yAh,cK,dqT hi,yBt,gC hd]
theorem aHW{n v w:Nat}(h:n<2^v)(hv:v<=w):n<2^w:=xAc h (yAr (by decide) hv)
theorem aHb{f:Ft}{v w:Nat}(hv:v<=w)(hf:FtOk f v)(hd:f.N&&&f.O=0):Mk (aAw f v) w (mI v w f):=by
 refine⟨yBl (aHW hf.lN hv) (aDg _ _),aHW hf.lO hv,λ i hi=>?_,λ i hi=>?_⟩
 ·show(f.N|||dE (w-v) w).testBit i=_
  rw[xAp,nF,dqT hi,yBt];unfold aAw
  by_cases c:i<v
  ·rw[if_pos c,dqF (by omega),yFg,gD hd]
  ·rw[if_neg c,dqT (by omega),yHo];rfl
 ·show f.O.testBit i=_;unfold aAw
  by_cases c:i<v
  ·rw[if_pos c,gC hd]
  ·rw[if_neg c,cL hf.lO (by omega)];rfl
theorem aHz{f:Ft}{v w:Nat}(h1:1<=v)(hv:v<=w)(hf:FtOk f v)(hd:f.N&&&f.O=0):Mk (aKi f v) w (vH v w f):=by
 refine⟨tI hf.lN h1 hv,tI hf.lO h1 hv,λ i hi=>?_,λ i hi=>?_⟩
 ·show(dC f.N v w).testBit i=(dF f (min i (v-1))==0);rw[rA hf.lN h1 hv hi,gD hd]
 ·show(dC f.O v w).testBit i=(dF f (min i (v-1))==1);rw[rA hf.lO h1 hv hi,gC hd]
noncomputable def btN(b:Nat)(x y:Nat):Nat:=match b with
 | 0=>if x=0\/y=0 then 0 else if x<2/\y<2 then x*y else 2
 | 1=>if x=1\/y=1 then 1 else if x<2/\y<2 then x+y else 2
 | _=>if x<2/\y<2 then (if x=y then 0 else 1) else 2
theorem jB(f:Ft)(k:Nat):dF f k=0\/dF f k=1\/dF f k=2:=by
 have:=uH f k;omega
noncomputable def sX(b:Nat)(f g:Ft):Ft:=match b with
 | 0=>⟨f.N|||g.N,f.O&&&g.O,min f.A g.A⟩
 | 1=>⟨f.N&&&g.N,f.O|||g.O,min f.A g.A⟩
 | _=>⟨f.N&&&g.N|||f.O&&&g.O,f.N&&&g.O|||f.O&&&g.N,min f.A g.A⟩
theorem aJQ(b:Nat)(hb:b=0\/b=1\/b=2){f g:Ft}{w:Nat}(hf:FtOk f w)(hd:f.N&&&f.O=0)(hg:FtOk g w)(he:g.N&&&g.O=0):Mk (λ i=>btN b (dF f i) (dF g i)) w (sX b f g):=by
 have an:∀ {x y:Nat},x<2^w->x&&&y<2^w:=λ h=>xAj yCp h
 rcases hb with rfl | rfl | rfl
 ·refine⟨yBl hf.lN hg.lN,an hf.lO,λ i _=>?_,λ i _=>?_⟩
  ·show(f.N|||g.N).testBit i=_
   rw[xAp,<- gD hd,<- gD he];rcases jB f i with h | h | h<;>rcases jB g i with h' | h' | h'<;>rw[h,h']<;>rfl
  ·show(f.O&&&g.O).testBit i=_;rw[yAh,<- gC hd,<- gC he];rcases jB f i with h | h | h<;>rcases jB g i with h' | h' | h'<;>rw[h,h']<;>rfl
 ·refine⟨an hf.lN,yBl hf.lO hg.lO,λ i _=>?_,λ i _=>?_⟩
  ·show(f.N&&&g.N).testBit i=_;rw[yAh,<- gD hd,<- gD he];rcases jB f i with h | h | h<;>rcases jB g i with h' | h' | h'<;>rw[h,h']<;>rfl
  ·show(f.O|||g.O).testBit i=_
   rw[xAp,<- gC hd,<- gC he];rcases jB f i with h | h | h<;>rcases jB g i with h' | h' | h'<;>rw[h,h']<;>rfl
 ·refine⟨yBl (an hf.lN) (an hf.lO),yBl (an hf.lN) (an hf.lO),λ i _=>?_,λ i _=>?_⟩
  ·show(f.N&&&g.N|||f.O&&&g.O).testBit i=_
   rw[xAp,yAh,yAh,<- gD hd,<- gD he,<- gC hd,<- gC he];rcases jB f i with h | h | h<;>rcases jB g i with h' | h' | h'<;>rw[h,h']<;>rfl
  ·show(f.N&&&g.O|||f.O&&&g.N).testBit i=_
   rw[xAp,yAh,yAh,<- gD hd,<- gD he,<- gC hd,<- gC he];rcases jB f i with h | h | h<;>rcases jB g i with h' | h' | h'<;>rw[h,h']<;>rfl
noncomputable def rs(x:Int)(w:Nat):Nat:=(x%((2^w:Nat):Int)).toNat
theorem nQ(x:Int)(w:Nat):((rs x w:Nat):Int)=x%((2^w:Nat):Int):=by
 unfold rs;have:(0:Int)<((2^w:Nat):Int):=by have:=xAf w;omega
 have:=Int.emod_nonneg x (b:=((2^w:Nat):Int)) (by omega)
 omega
theorem oI(x:Int)(w:Nat):rs x w<2^w:=by
 have h:=nQ x w;have:(0:Int)<((2^w:Nat):Int):=by have:=xAf w;omega
 have:=yGo x this;omega
theorem aUj{x:Int}{w:Nat}(h0:0<=x)(h1:x<((2^w:Nat):Int)):((rs x w:Nat):Int)=x:=by
 rw[nQ,Int.emod_eq_of_lt h0 h1]
theorem aIw(x:Int){w L:Nat}(h:L<=w):rs x w%2^L=rs x L:=by
 have e:((rs x w%2^L:Nat):Int)=((rs x L:Nat):Int):=by
  rw[yEx,nQ,nQ];exact Int.emod_emod_of_dvd x (by
   have:(2:Nat)^L ∣ 2^w:=Nat.pow_dvd_pow 2 h;exact Int.natCast_dvd_natCast.mpr this)
 omega
theorem aS3(x:Int){w L i:Nat}(h:L<=w)(hi:i<L):(rs x w).testBit i=(rs x L).testBit i:=by
 rw[<- aIw x h,yAp,dqT hi,yAn]
theorem rG{n i:Nat}(h:i<lr n):n.testBit i=true:=by
 rw[aQo] at h;have h1:=aGD _ i h;have h2:(oG n (bl n+1)).getD i false=true:=by rw[xAh,h1];rfl
 rw[aNn,yAl] at h2;exact h2.2
theorem aTD{n w:Nat}(h:n<2^w):lr n<=w:=by
 by_cases c:lr n<=w
 ·exact c
 ·have:=rG (n:=n) (i:=w) (by omega)
  rw[cL h (yAb _)] at this;cases this
theorem aCA{x y:Nat}(h:∀ i,x.testBit i=true->y.testBit i=true):x<=y:=by
 have:y&&&x=x:=by
  rw[aFQ];exact h
 rw[<- this];exact yCp
theorem aIs{x y w:Nat}(hx:x<2^w)(hy:y<2^w)(h:∀ i,x.testBit i=true->y.testBit i=false):y<=2^w-1-x:=by
 refine aCA (y:=oS x w) λ i hi=>?_
 have hiw:i<w:=by
  by_cases c:i<w
  ·exact c
  ·rw[cL hy (by omega)] at hi
   cases hi
 rw[nJ hx,dqT hiw,yAn];cases q:x.testBit i with
 | false=>rfl
 | true=>rw[h i q] at hi;cases hi
theorem aAJ{f:Ft}{n w:Nat}(h:Hd f n w):f.O<=n:=aCA h.2.1
theorem aAG{f:Ft}{n w:Nat}(k:FtOk f w)(hn:n<2^w)(h:Hd f n w):n<=2^w-1-f.N:=aIs k.lN hn h.1
theorem aH8{f:Ft}{n w L:Nat}(h:Hd f n w)(hk:∀ i,i<L->(f.N|||f.O).testBit i=true):n%2^L=f.O%2^L:=by
 apply xAm;intro i;rw[yAp,yAp]
 by_cases c:i<L
 ·rw[dqT c,yAn,yAn];have q:=hk i c;rw[xAp] at q;cases o:f.O.testBit i with
  | true=>exact h.2.1 i o
  | false =>
    rw[o,yFg] at q;exact h.1 i q
 ·rw[dqF c,yBi,yBi]
inductive Sw where | add | sub | mul
noncomputable def Sw.oc:Sw->Int->Int->Int
 | .add,a,b=>a+b
 | .sub,a,b=>a-b
 | .mul,a,b=>a*b
theorem aFr{a b:Nat}{L:Nat}(h:a%2^L=b%2^L):((a:Nat):Int)%((2^L:Nat):Int)=((b:Nat):Int)%((2^L:Nat):Int):=by
 rw[<- yEx,<- yEx,h]
theorem aRj(s:Sw){a b c e:Nat}{L:Nat}(h1:a%2^L=c%2^L)(h2:b%2^L=e%2^L):rs (s.oc a b) L=rs (s.oc c e) L:=by
 have g1:=aFr h1;have g2:=aFr h2;have:s.oc a b%((2^L:Nat):Int)=s.oc c e%((2^L:Nat):Int):=by
  cases s with
  | add=>show((a:Nat)+(b:Nat):Int)%_=((c:Nat)+(e:Nat):Int)%_;rw[Int.add_emod,g1,g2,<- Int.add_emod]
  | sub=>show((a:Nat)-(b:Nat):Int)%_=((c:Nat)-(e:Nat):Int)%_;rw[Int.sub_emod,g1,g2,<- Int.sub_emod]
  | mul=>show((a:Nat)*(b:Nat):Int)%_=((c:Nat)*(e:Nat):Int)%_;rw[Int.mul_emod,g1,g2,<- Int.mul_emod]
 unfold rs;rw[this]
noncomputable def fL(f g:Ft):Nat:=lr ((f.N|||f.O)&&&(g.N|||g.O))
theorem aCv{f g:Ft}{w:Nat}(k:FtOk f w):fL f g<=w:=aTD (xAj yCp (yBl k.lN k.lO))
noncomputable def jX(s:Sw)(f g:Ft):Nat:=rs (s.oc (f.O:Nat) (g.O:Nat)) (fL f g)
noncomputable def sN(s:Sw)(f g:Ft):Nat:=(2^fL f g-1)^^^jX s f g
theorem aGG(s:Sw){f g:Ft}{a b w:Nat}(k:FtOk f w)(h1:Hd f a w)(h2:Hd g b w){i:Nat}(hi:i<fL f g):(rs (s.oc (a:Nat) (b:Nat)) w).testBit i=(jX s f g).testBit i:=by
 have hk:∀ i,i<fL f g->(f.N|||f.O).testBit i=true/\(g.N|||g.O).testBit i=true:=λ i hi=>by
  have:=rG hi;rw[yAh,yAl] at this;exact this
 rw[aS3 _ (aCv k) hi,aRj s (aH8 h1 λ i hi=>(hk i hi).1) (aH8 h2 λ i hi=>(hk i hi).2)]
 rfl
theorem aN1{s:Sw}{f g:Ft}{i:Nat}(h:(jX s f g).testBit i=true):i<fL f g:=by
 by_cases c:i<fL f g
 ·exact c
 ·have hl:jX s f g<2^fL f g:=oI _ _;rw[cL hl (by omega)] at h
  cases h
theorem aNx{s:Sw}{f g:Ft}{i:Nat}(h:(sN s f g).testBit i=true):i<fL f g/\(jX s f g).testBit i=false:=by
 unfold sN at h;rw[yAm,cK] at h;have hl:jX s f g<2^fL f g:=oI _ _
 by_cases c:i<fL f g
 ·rw[dqT c] at h;refine⟨c,?_⟩;cases q:(jX s f g).testBit i with
  | false=>rfl
  | true=>rw[q] at h;cases h
 ·rw[dqF c,cL hl (by omega)] at h
  cases h
noncomputable def fR(s:Sw)(w:Nat)(f g:Ft):Int:=match s with
 | .sub=>(f.O:Nat)-((2^w-1-g.N:Nat):Int)
 | s=>s.oc (f.O:Nat) (g.O:Nat)
noncomputable def fS(s:Sw)(w:Nat)(f g:Ft):Int:=match s with
 | .sub=>((2^w-1-f.N:Nat):Int)-(g.O:Nat)
 | s=>s.oc ((2^w-1-f.N:Nat):Int) ((2^w-1-g.N:Nat):Int)
theorem aJM(s:Sw){f g:Ft}{a b w:Nat}(kf:FtOk f w)(kg:FtOk g w)(ha:a<2^w)(hb:b<2^w)(h1:Hd f a w)(h2:Hd g b w):fR s w f g<=s.oc (a:Nat) (b:Nat)/\s.oc (a:Nat) (b:Nat)<=fS s w f g:=by
 have l1:=aAJ h1;have l2:=aAJ h2;have m1:=aAG kf ha h1;have m2:=aAG kg hb h2;cases s with
 | add =>
   show((f.O:Nat)+(g.O:Nat):Int)<=(a:Nat)+(b:Nat)/\((a:Nat)+(b:Nat):Int)<=((2^w-1-f.N:Nat):Int)+((2^w-1-g.N:Nat):Int);generalize 2^w-1-f.N=F at *;generalize 2^w-1-g.N=G at *;omega
 | sub =>
   show((f.O:Nat)-((2^w-1-g.N:Nat):Int))<=(a:Nat)-(b:Nat)/\((a:Nat)-(b:Nat):Int)<=((2^w-1-f.N:Nat):Int)-(g.O:Nat);generalize 2^w-1-f.N=F at *;generalize 2^w-1-g.N=G at *;omega
 | mul =>
   show((f.O:Nat)*(g.O:Nat):Int)<=(a:Nat)*(b:Nat)/\((a:Nat)*(b:Nat):Int)<=((2^w-1-f.N:Nat):Int)*((2^w-1-g.N:Nat):Int);rw[<- yCj,<- yCj,<- yCj];exact⟨Int.ofNat_le.mpr (Nat.mul_le_mul l1 l2),Int.ofNat_le.mpr (Nat.mul_le_mul m1 m2)⟩
noncomputable def qL(s:Sw)(w:Nat)(f g:Ft):Nat:=if fR s w f g<0\/fS s w f g>((2^w-1:Nat):Int) then 0 else tY (fR s w f g).toNat (fS s w f g).toNat w
noncomputable def qK(s:Sw)(w:Nat)(f g:Ft):Nat:=if fR s w f g<0\/fS s w f g>((2^w-1:Nat):Int) then 0 else oF (fR s w f g).toNat (fS s w f g).toNat w
theorem aOz{l g w:Nat}(hl:l<2^w)(hg:g<2^w):uV l g w<2^w:=by
 apply yCn;intro i hi;rw[aBC hl hg,dqF (by omega),yBi]
theorem aGk(s:Sw){f g:Ft}{a b w:Nat}(kf:FtOk f w)(kg:FtOk g w)(ha:a<2^w)(hb:b<2^w)(h1:Hd f a w)(h2:Hd g b w) :
 (∀ i,(qL s w f g).testBit i=true->(rs (s.oc (a:Nat) (b:Nat)) w).testBit i=false)/\(∀ i,(qK s w f g).testBit i=true->(rs (s.oc (a:Nat) (b:Nat)) w).testBit i=true)/\qL s w f g<2^w/\qK s w f g<2^w:=by
 have hb':=aJM s kf kg ha hb h1 h2;have hp:=xAf w;unfold qL qK
 by_cases c:fR s w f g<0\/fS s w f g>((2^w-1:Nat):Int)
 ·rw[if_pos c,if_pos c];refine⟨λ i hi=>?_,λ i hi=>?_,hp,hp⟩
  ·rw[yBd] at hi;cases hi
  ·rw[yBd] at hi;cases hi
 ·rw[if_neg c,if_neg c];have e:=aUj (x:=s.oc (a:Nat) (b:Nat)) (w:=w) (by omega) (by omega)
  have q1:(fR s w f g).toNat<=rs (s.oc (a:Nat) (b:Nat)) w:=by omega
  have q2:rs (s.oc (a:Nat) (b:Nat)) w<=(fS s w f g).toNat:=by omega
  have q3:(fR s w f g).toNat<2^w:=by omega
  have q4:(fS s w f g).toNat<2^w:=by omega
  have n1:=aLf q3 q4 q1 q2;have n2:=aLF q3 q4 q1 q2;rw[aOa] at n1;rw[aFQ] at n2;have kl:=aOz q3 q4;exact⟨n1,n2,yBw kl (xAj yCp kl),xAj yCp kl⟩
noncomputable def qF(s:Sw)(w:Nat)(f g:Ft):Nat:=match s with
 | .mul=>2^min w (lr f.N+lr g.N)-1
 | _=>0
theorem aHm{n L:Nat}(h:∀ i,i<L->n.testBit i=false):2^L ∣ n:=by
 have:n%2^L=0:=by
  rw[jN];intro i;rw[yAp]
  by_cases c:i<L
  ·rw[h i c,yCx]
  ·rw[dqF c,yBi]
 exact Nat.dvd_of_mod_eq_zero this
theorem aO6(s:Sw){f g:Ft}{a b w:Nat}(h1:Hd f a w)(h2:Hd g b w):∀ i,(qF s w f g).testBit i=true->(rs (s.oc (a:Nat) (b:Nat)) w).testBit i=false:=by
 intro i hi;cases s with
 | add=>rw[show qF .add w f g=0 from rfl,yBd] at hi;cases hi
 | sub=>rw[show qF .sub w f g=0 from rfl,yBd] at hi;cases hi
 | mul =>
   have hi':(2^min w (lr f.N+lr g.N)-1).testBit i=true:=hi;rw[cK,decide_eq_true_eq] at hi';obtain⟨c,hc⟩:=aHm (L:=lr f.N) (n:=a) λ i hi=>h1.1 i (rG hi)
   obtain⟨e,he⟩:=aHm (L:=lr g.N) (n:=b) λ i hi=>h2.1 i (rG hi)
   have ex:rs (Sw.mul.oc (a:Nat) (b:Nat)) w=a*b%2^w:=by
    have:=nQ (Sw.mul.oc (a:Nat) (b:Nat)) w;have e2:Sw.mul.oc (a:Nat) (b:Nat)=((a*b:Nat):Int):=(yCj a b).symm;rw[e2,<- yEx] at this;rw[e2];omega
   rw[ex,yAp,dqT (by omega),yAn]
   have:a*b=c*e*2^(lr f.N+lr g.N):=by
    rw[hc,he,yEz];simp only[yHk,Nat.mul_left_comm,Nat.mul_assoc]
   rw[this,yM,dqF (by omega),yBi]
theorem aCX{n w a:Nat}(hn:n<2^w)(ha:a<=w):((∀ i,w-a<=i->i<w->n.testBit i=true)\/(∀ i,w-a<=i->i<w->n.testBit i=false)) ↔ 2^w-2^(w-a)<=n\/n<2^(w-a):=by
 have hp:=xAf (w-a);have e1:(2:Nat)^w=2^a*2^(w-a):=by rw[<- yEz,show a+(w-a)=w by omega]
 have hpa:=xAf a;rw[<- aOB hn ha,<- aNL hn ha];have q0:n/2^(w-a)=0 ↔ n<2^(w-a):=by
  rw[Nat.div_eq_zero_iff];omega
 have q1:n/2^(w-a)=2^a-1 ↔ 2^w-2^(w-a)<=n:=by
  have es:(2^a-1)*2^(w-a)=2^w-2^(w-a):=by rw[Nat.sub_mul,Nat.one_mul,<- e1]
  constructor
  ·intro h;have:=Nat.div_mul_le_self n (2^(w-a));rw[h,es] at this;exact this
  ·intro h;have g1:2^a-1<=n/2^(w-a):=by
    rw[Nat.le_div_iff_mul_le hp,es];exact h
   have g2:n/2^(w-a)<2^a:=by
    rw[yEo hp,<- e1];exact hn
   omega
 rw[q0,q1]
noncomputable def kG(s:Sw)(f g:Ft):Nat:=match s with
 | .mul=>1
 | _=>max 1 (min f.A g.A-1)
theorem rF{n w a m:Nat}(ha:m<=a)(h:(∀ i,w-a<=i->i<w->n.testBit i=true)\/(∀ i,w-a<=i->i<w->n.testBit i=false)):(∀ i,w-m<=i->i<w->n.testBit i=true)\/(∀ i,w-m<=i->i<w->n.testBit i=false):=by
 rcases h with h | h
 ·exact .inl λ i a b=>h i (by omega) b
 ·exact .inr λ i a b=>h i (by omega) b
theorem kY(n w:Nat):(∀ i,w-1<=i->i<w->n.testBit i=true)\/(∀ i,w-1<=i->i<w->n.testBit i=false):=by
 cases c:n.testBit (w-1) with
 | true=>exact .inl λ i h1 h2=>by rw[show i=w-1 by omega];exact c
 | false=>exact .inr λ i h1 h2=>by rw[show i=w-1 by omega];exact c
theorem aIe{a T W:Nat}(ha:a<W)(h:W-T<=a\/a<T)(hT:T<=W):∃ x k:Int,((a:Nat):Int)=x+k*((W:Nat):Int) /\ -((T:Nat):Int)<=x/\x<((T:Nat):Int):=by
 rcases h with h | h
 ·exact⟨(a:Int)-W,1,by omega,by omega,by omega⟩
 ·exact⟨(a:Int),0,by omega,by omega,by omega⟩
theorem aOH{x W T r k:Int}(h:r=x+k*W)(h1 : -(2*T)<=x)(h2:x<2*T)(hT:2*T<=W)(r0:0<=r)(rW:r<W):W-2*T<=r\/r<2*T:=by
 rcases (show k <= -1\/k=0\/k=1\/2<=k by omega) with c | rfl | rfl | c
 ·have:k*W<=(-1)*W:=yFz c (by omega)
  omega
 ·exact .inr (by omega)
 ·exact .inl (by omega)
 ·have:2*W<=k*W:=yFz c (by omega)
  omega
theorem aSR{x y k l W z:Int}:(x+k*W+(y+l*W))-W*z=x+y+(k+l-z)*W:=by
 rw[Int.sub_mul,Int.add_mul,Int.mul_comm W z];omega
theorem aSD{x y k l W z:Int}:(x+k*W-(y+l*W))-W*z=x-y+(k-l-z)*W:=by
 rw[Int.sub_mul,Int.sub_mul,Int.mul_comm W z];omega
theorem aW5{s:Sw}{f g:Ft}(c:kG s f g≠1):(kG s f g=min f.A g.A-1/\2<=min f.A g.A-1)/\s≠.mul:=by
 cases s with
 | mul=>exact absurd rfl c
 | add =>
   have e:kG .add f g=max 1 (min f.A g.A-1):=rfl;exact⟨by omega,λ h=>nomatch h⟩
 | sub =>
   have e:kG .sub f g=max 1 (min f.A g.A-1):=rfl;exact⟨by omega,λ h=>nomatch h⟩
theorem aOD(s:Sw){f g:Ft}{a b w:Nat}(kf:FtOk f w)(kg:FtOk g w)(ha:a<2^w)(hb:b<2^w)(h1:Hd f a w)(h2:Hd g b w) :
 (∀ i,w-kG s f g<=i->i<w->(rs (s.oc (a:Nat) (b:Nat)) w).testBit i=true)\/(∀ i,w-kG s f g<=i->i<w->(rs (s.oc (a:Nat) (b:Nat)) w).testBit i=false):=by
 by_cases c:kG s f g=1
 ·rw[c];exact kY _ _
 ·have hw:=kf.aw;obtain⟨⟨hA,hm⟩,hs⟩:=aW5 c;have g1:min f.A g.A<=f.A:=Nat.min_le_left ..;have g2:min f.A g.A<=g.A:=Nat.min_le_right ..;rw[hA];generalize min f.A g.A=m at *;have hmw:m<=w:=xAi g1 hw;rw[aCX (oI _ _) (xAi (yGx m 1) hmw)];have a1:=(aCX ha hmw).mp (rF g1 h1.2.2);have a2:=(aCX hb hmw).mp (rF g2 h2.2.2);have e:(2:Nat)^(w-(m-1))=2*2^(w-m):=by
   rw[show w-(m-1)=w-m+1 by omega,yFd,yHk]
  have hT:2*2^(w-m)<=2^w:=by
   rw[<- e];exact yAr (by decide) (yGx ..)
  rw[e];have hT1:2^(w-m)<=2^w:=yAr (by decide) (yGx ..)
  obtain⟨x,k,e1,x1,x2⟩:=aIe ha a1 hT1;obtain⟨y,l,e2,y1,y2⟩:=aIe hb a2 hT1;have hr:=nQ (s.oc (a:Nat) (b:Nat)) w;have hl:=oI (s.oc (a:Nat) (b:Nat)) w;rw[Int.emod_def] at hr;generalize rs (s.oc (a:Nat) (b:Nat)) w=r at *;generalize s.oc (a:Nat) (b:Nat)/((2^w:Nat):Int)=z at *;generalize (2:Nat)^w=W at *;generalize (2:Nat)^(w-m)=T at *;clear a1 a2 h1 h2 e g1 g2 hmw hw hm hA c;have bI:∀ {x k:Int},((r:Nat):Int)=x+k*((W:Nat):Int) -> -(2*((T:Nat):Int))<=x->x<2*((T:Nat):Int)->W-2*T<=r\/r<2*T:=λ q1 q2 q3=>by
   rcases aOH q1 q2 q3 (by omega) (by omega) (by omega) with q | q
   ·exact .inl (by omega)
   ·exact .inr (by omega)
  cases s with
  | mul=>exact absurd rfl hs
  | add =>
    have hk:((r:Nat):Int)=((a:Nat):Int)+((b:Nat):Int)-((W:Nat):Int)*z:=hr;rw[e1,e2,aSR] at hk;exact bI hk (by omega) (by omega)
  | sub =>
    have hk:((r:Nat):Int)=((a:Nat):Int)-((b:Nat):Int)-((W:Nat):Int)*z:=hr;rw[e1,e2,aSD] at hk;exact bI hk (by omega) (by omega)
noncomputable def wR(s:Sw)(w:Nat)(f g:Ft):Ft:=⟨sN s f g|||qL s w f g|||qF s w f g,jX s f g|||qK s w f g,kG s f g⟩
theorem aNC(s:Sw){f g:Ft}{a b w:Nat}(kf:FtOk f w)(kg:FtOk g w)(ha:a<2^w)(hb:b<2^w)(h1:Hd f a w)(h2:Hd g b w):Hd (wR s w f g) (rs (s.oc (a:Nat) (b:Nat)) w) w:=by
 obtain⟨t1,t2,_,_⟩:=aGk s kf kg ha hb h1 h2;refine⟨λ i hi=>?_,λ i hi=>?_,aOD s kf kg ha hb h1 h2⟩
 ·have hi':(sN s f g|||qL s w f g|||qF s w f g).testBit i=true:=hi
  rw[xAp,xAp,yDu,yDu] at hi';rcases hi' with (q | q) | q
  ·obtain⟨q1,q2⟩:=aNx q;rw[aGG s kf h1 h2 q1,q2]
  ·exact t1 i q
  ·exact aO6 s h1 h2 i q
 ·have hi':(jX s f g|||qK s w f g).testBit i=true:=hi
  rw[xAp,yDu] at hi';rcases hi' with q | q
  ·rw[aGG s kf h1 h2 (aN1 q),q]
  ·exact t2 i q
theorem aBN{n v w:Nat}(h:n<2^v)(hv:v<=w):n<2^w:=xAc h (yAr (by decide) hv)
theorem aQS(s:Sw){f g:Ft}{a b w:Nat}(kf:FtOk f w)(kg:FtOk g w)(ha:a<2^w)(hb:b<2^w)(h1:Hd f a w)(h2:Hd g b w):FtOk (wR s w f g) w:=by
 obtain⟨_,_,t3,t4⟩:=aGk s kf kg ha hb h1 h2;have hL:=aCv (g:=g) kf;have hO:jX s f g<2^fL f g:=oI _ _;have hN:sN s f g<2^fL f g:=yBw (by have:=xAf (fL f g);omega) hO
 have hl:qF s w f g<2^w:=by
  have:=xAf w;cases s with
  | add=>exact this
  | sub=>exact this
  | mul=>exact aBN (v:=min w (lr f.N+lr g.N)) (by show 2^min w (lr f.N+lr g.N)-1<_;have:=xAf (min w (lr f.N+lr g.N));omega) (by omega)
 have q1:=kf.aw;have q2:=kf.a1;refine⟨yBl (yBl (aBN hN hL) t3) hl,yBl (aBN hO hL) t4,?_,?_⟩
 ·show 1<=kG s f g;cases s with
  | mul=>exact yAb 1
  | add=>show 1<=max 1 (min f.A g.A-1);omega
  | sub=>show 1<=max 1 (min f.A g.A-1);omega
 ·show kG s f g<=w;cases s with
  | mul=>show 1<=w;omega
  | add=>show max 1 (min f.A g.A-1)<=w;omega
  | sub=>show max 1 (min f.A g.A-1)<=w;omega
noncomputable def F1:Ft:=⟨0,1,1⟩
noncomputable def F0:Ft:=⟨1,0,1⟩
noncomputable def jK:Ft:=⟨0,0,1⟩
noncomputable def l3(a b c e:Int):Ft:=if b<c then F1 else if e<=a then F0 else jK
theorem aKQ(a b c e:Int):l3 a b c e=F1\/l3 a b c e=F0\/l3 a b c e=jK:=by
 unfold l3
 split
 ·exact .inl rfl
 ·split
  ·exact .inr (.inl rfl)
  ·exact .inr (.inr rfl)
theorem zZ{r k:Nat}(h:r<2^k):r^^^2^k=r+2^k:=by
 apply xAm;intro i;have e:r+2^k=r+1*2^k:=by omega
 rw[e,aE5 h,yAm,yDd]
 by_cases c:i<k
 ·rw[if_pos c,dqF (by omega),Bool.xor_false]
 ·rw[if_neg c,cL h (by omega),Bool.false_xor]
  by_cases c2:k=i
  ·subst c2;rw[dqT rfl,yBn];rfl
  ·rw[dqF c2];have:1<2^(i-k):=Nat.one_lt_two_pow (by omega)
   rw[cL this (yAb _)]
theorem aCb{n k:Nat}(h1:2^k<=n)(h2:n<2^(k+1)):n^^^2^k=n-2^k:=by
 have hr:n-2^k<2^k:=by rw[yFd] at h2;omega
 have e:(n-2^k)^^^2^k=n:=by rw[zZ hr];omega
 calc n^^^2^k=((n-2^k)^^^2^k)^^^2^k:=by rw[e]
  _=n-2^k:=by rw[Nat.xor_assoc,Nat.xor_self,yFe]
theorem aJV{n w:Nat}(h:n<2^w)(hw:0<w):n.testBit (w-1)=decide (2^(w-1)<=n):=by
 have hb:=aQd h hw;have hp:=xAf (w-1);cases c:n.testBit (w-1) with
 | true =>
   rw[c] at hb;have:2^(w-1)<=n:=by
    by_cases q:n<2^(w-1)
    ·rw[Nat.div_eq_of_lt q] at hb;exact absurd hb (by decide)
    ·omega
   rw[dqT this]
 | false =>
   rw[c] at hb;have:¬ 2^(w-1)<=n:=λ q=>by
    have h3:=Nat.div_pos q hp;rw[hb] at h3;exact absurd h3 (by decide)
   rw[dqF this]
noncomputable def tt(f:Ft)(w:Nat):Ft:=⟨f.N^^^((f.N^^^f.O)&&&dE 1 w),f.O^^^((f.N^^^f.O)&&&dE 1 w),f.A⟩
theorem aGK{w i:Nat}(hw:1<=w):(dE 1 w).testBit i=decide (w-1=i):=by
 rw[nF]
 by_cases c:w-1=i
 ·rw[dqT c,dqT (by omega),dqT (by omega)];rfl
 ·rw[dqF c]
  by_cases c2:w-1<=i
  ·rw[dqF (show ¬ i<w by omega),yCx]
  ·rw[dqF c2,yBi]
theorem aNY{f:Ft}{w:Nat}(k:FtOk f w)(hd:f.N&&&f.O=0)(hw:1<=w) :
 (f.N<2^(w-1)/\f.O<2^(w-1)/\(tt f w).N=f.N/\(tt f w).O=f.O)\/(f.N<2^(w-1)/\2^(w-1)<=f.O/\(tt f w).N=f.N+2^(w-1)/\(tt f w).O=f.O-2^(w-1))\/(2^(w-1)<=f.N/\f.O<2^(w-1)/\(tt f w).N=f.N-2^(w-1)/\(tt f w).O=f.O+2^(w-1)):=by
 have hN:=aJV k.lN (show 0<w by omega)
 have hO:=aJV k.lO (show 0<w by omega)
 have lN:=k.lN;have lO:=k.lO;have e:w-1+1=w:=by omega
 have tb:∀ b:Bool,(f.N.testBit (w-1) ^^ f.O.testBit (w-1))=b->(f.N^^^f.O)&&&dE 1 w=if b=true then 2^(w-1) else 0:=λ b hb=>by
  apply xAm;intro i;rw[yAh,aGK hw,yAm]
  by_cases c:w-1=i
  ·subst c;rw[hb,dqT rfl,yBt];cases b
   ·simp
   ·simp
  ·rw[dqF c,yCx];cases b
   ·simp
   ·rw[if_pos rfl,yDd,dqF c]
 by_cases c1:2^(w-1)<=f.N
 ·by_cases c2:2^(w-1)<=f.O
  ·exfalso;have:=(jN _).mp hd (w-1);rw[yAh,hN,hO,dqT c1,dqT c2] at this;cases this
  ·refine .inr (.inr ⟨c1,by omega,?_,?_⟩)
   ·show f.N^^^_=_;rw[tb true (by rw[hN,hO,dqT c1,dqF c2];rfl),if_pos rfl,aCb c1 (by rw[e];exact lN)]
   ·show f.O^^^_=_;rw[tb true (by rw[hN,hO,dqT c1,dqF c2];rfl),if_pos rfl,zZ (by omega)]
 ·by_cases c2:2^(w-1)<=f.O
  ·refine .inr (.inl ⟨by omega,c2,?_,?_⟩)
   ·show f.N^^^_=_;rw[tb true (by rw[hN,hO,dqT c2,dqF c1];rfl),if_pos rfl,zZ (by omega)]
   ·show f.O^^^_=_;rw[tb true (by rw[hN,hO,dqT c2,dqF c1];rfl),if_pos rfl,aCb c2 (by rw[e];exact lO)]
  ·refine .inl ⟨by omega,by omega,?_,?_⟩
   ·show f.N^^^_=_;rw[tb false (by rw[hN,hO,dqF c2,dqF c1];rfl),if_neg (by decide),yFe]
   ·show f.O^^^_=_;rw[tb false (by rw[hN,hO,dqF c2,dqF c1];rfl),if_neg (by decide),yFe]
theorem aJg{f:Ft}{w:Nat}(k:FtOk f w)(hd:f.N&&&f.O=0)(hw:1<=w):(tt f w).N<2^w:=by
 have h2:(2:Nat)^w=2^(w-1)+2^(w-1):=by
  have:(2:Nat)^(w-1+1)=2^(w-1)*2:=yFd ..;rw[show w-1+1=w by omega] at this
  omega
 have lN:=k.lN;rcases aNY k hd hw with ⟨_,_,h,_⟩ | ⟨_,_,h,_⟩ | ⟨_,_,h,_⟩<;>rw[h]<;>omega
noncomputable def nB(w:Nat)(f g:Ft):Ft:=if f.N&&&g.O|||f.O&&&g.N≠0 then F0 else if (f.N|||f.O)&&&(g.N|||g.O)=2^w-1 then F1 else jK
theorem aUY(w:Nat)(f g:Ft):nB w f g=F1\/nB w f g=F0\/nB w f g=jK:=by
 unfold nB
 split
 ·exact .inr (.inl rfl)
 ·split
  ·exact .inl rfl
  ·exact .inr (.inr rfl)
noncomputable def oW(t f g:Ft):Ft:=if t.O=1 then f else if t.N=1 then g else ⟨f.N&&&g.N,f.O&&&g.O,min f.A g.A⟩
theorem aUg{t f g:Ft}{w:Nat}(hf:FtOk f w)(hg:FtOk g w):FtOk (oW t f g) w:=by
 unfold oW
 split
 ·exact hf
 ·split
  ·exact hg
  ·have h1:=hf.a1;have h2:=hg.a1;have h3:=hf.aw;exact⟨xAj yCp hf.lN,xAj yCp hf.lO,by show 1<=min f.A g.A;omega,by show min f.A g.A<=w;omega⟩
def Al(n w a:Nat):Prop:=(∀ i,w-a<=i->i<w->n.testBit i=true)\/(∀ i,w-a<=i->i<w->n.testBit i=false)
theorem oC{f:Ft}{a w:Nat}(hd:f.N&&&f.O=0)(h:Hd f a w)(j:Nat):(dF f j=0->a.testBit j=false)/\(dF f j=1->a.testBit j=true):=by
 refine⟨λ e=>h.1 j ?_,λ e=>h.2.1 j ?_⟩
 ·rw[<- gD hd j,beq_iff_eq];exact e
 ·rw[<- gC hd j,beq_iff_eq];exact e
theorem nM{t:Nat->Nat}{n:Nat}{g:Ft}{z:Nat}(m:Mk t n g)(hz:∀ i,i<n->(t i=0->z.testBit i=false)/\(t i=1->z.testBit i=true))(ha:Al z n g.A):Hd g z n:=by
 have hl:∀ {x:Nat},x<2^n->∀ i,x.testBit i=true->i<n:=λ {x} hx i hi=>by
  by_cases c:i<n
  ·exact c
  ·rw[cL hx (by omega)] at hi;cases hi
 refine⟨λ i hi=>?_,λ i hi=>?_,ha⟩
 ·have c:=hl m.lN i hi;rw[m.b0 i c,beq_iff_eq] at hi;exact(hz i c).1 hi
 ·have c:=hl m.lO i hi;rw[m.b1 i c,beq_iff_eq] at hi;exact(hz i c).2 hi
theorem aRs(n w:Nat):rs ((n:Nat):Int) w=n%2^w:=by
 have:=nQ ((n:Nat):Int) w;rw[<- yEx] at this;omega
section
variable {f : Ft}{a w : Nat}(hf : FtOk f w)(hd : f.N&&&f.O = 0)(ha : a<2 ^ w)(h : Hd f a w)
include hf hd ha h
theorem aNE:Hd ⟨f.O,f.N,f.A⟩ (2^w-1-a) w:=by
 refine nM (aRL hf hd) (λ i hi=>?_) ?_
 ·rw[aAq ha hi];refine⟨λ e=>?_,λ e=>?_⟩
  ·have:f.O.testBit i=true:=by rw[<- aKN hd i,beq_iff_eq];exact e
   rw[h.2.1 i this];rfl
  ·have:f.N.testBit i=true:=by rw[<- aKf hd i,beq_iff_eq];exact e
   rw[h.1 i this];rfl
 ·rcases h.2.2 with q | q
  ·exact .inr λ i h1 h2=>by rw[aAq ha h2,q i h1 h2];rfl
  ·exact .inl λ i h1 h2=>by rw[aAq ha h2,q i h1 h2];rfl
theorem aNc(k:Nat):Hd (vE w f k) (a*2^k%2^w) w:=by
 have hb:∀ i,i<w->(a*2^k%2^w).testBit i=(decide (k<=i)&&a.testBit (i-k)):=λ i hi=>by
  rw[yAp,dqT hi,yAn,yM]
 refine nM (aHp k hd) (λ i hi=>?_) ?_
 ·rw[hb i hi];unfold aAB
  by_cases c:i<k
  ·rw[if_pos c,dqF (by omega),yBi]
   exact⟨λ _=>rfl,λ e=>nomatch e⟩
  ·rw[if_neg c,dqT (by omega),yAn]
   exact oC hd h (i-k)
 ·show Al _ w (max 1 (f.A-k))
  by_cases c:f.A-k<=1
  ·rw[Nat.max_eq_left c];exact kY _ _
  ·rw[Nat.max_eq_right (by omega)]
   have:=hf.aw;rcases h.2.2 with q | q
   ·exact .inl λ i h1 h2=>by rw[hb i h2,dqT (by omega),yAn];exact q _ (by omega) (by omega)
   ·exact .inr λ i h1 h2=>by rw[hb i h2,dqT (by omega),yAn];exact q _ (by omega) (by omega)
theorem aMd(k:Nat):Hd (mD w f k) (a/2^k) w:=by
 refine nM (aGl k hf hd) (λ i hi=>?_) ?_
 ·rw[eV];unfold aAn
  by_cases c:i+k<w
  ·rw[if_pos c,yEa k i];exact oC hd h (i+k)
  ·rw[if_neg c,cL ha (by omega)]
   exact⟨λ _=>rfl,λ e=>nomatch e⟩
 ·show Al _ w (if k=0 then f.A else 1)
  by_cases c:k=0
  ·subst c;rw[if_pos rfl,Nat.pow_zero,Nat.div_one];exact h.2.2
  ·rw[if_neg c];exact kY _ _
theorem aLY(hw:1<=w)(k:Nat):Hd (uN w f k) (dC a w (w+k)/2^k) w:=by
 have hb:∀ i,i<w->(dC a w (w+k)/2^k).testBit i=a.testBit (min (i+k) (w-1)):=λ i hi=>by
  rw[eV,rA ha hw (by omega) (by omega),yEa]
 refine nM (aGA k hw hf hd) (λ i hi=>?_) ?_
 ·rw[hb i hi];exact oC hd h _
 ·have h1:=hf.a1;show Al _ w (min w (f.A+k));rcases h.2.2 with q | q
  ·exact .inl λ i h1 h2=>by rw[hb i h2];exact q _ (by omega) (by omega)
  ·exact .inr λ i h1 h2=>by rw[hb i h2];exact q _ (by omega) (by omega)
theorem aNJ{v:Nat}(hv:v<=w):Hd (wQ w v f) (a%2^v) v:=by
 have hb:∀ i,i<v->(a%2^v).testBit i=a.testBit i:=λ i hi=>by rw[yAp,dqT hi,yAn]
 refine nM (aI8 w v hd) (λ i hi=>?_) ?_
 ·rw[hb i hi];exact oC hd h _
 ·have h1:=hf.aw;show Al _ v (max 1 (f.A-(w-v)))
  by_cases c:f.A-(w-v)<=1
  ·rw[Nat.max_eq_left c];exact kY _ _
  ·rw[Nat.max_eq_right (by omega)]
   rcases h.2.2 with q | q
   ·exact .inl λ i h1 h2=>by rw[hb i h2];exact q _ (by omega) (by omega)
   ·exact .inr λ i h1 h2=>by rw[hb i h2];exact q _ (by omega) (by omega)
theorem aNl{v:Nat}(hv:w<=v):Hd (mI w v f) a v:=by
 refine nM (aHb hv hf hd) (λ i hi=>?_) ?_
 ·unfold aAw
  by_cases c:i<w
  ·rw[if_pos c];exact oC hd h i
  ·rw[if_neg c,cL ha (by omega)]
   exact⟨λ _=>rfl,λ e=>nomatch e⟩
 ·show Al _ v (if v=w then f.A else 1)
  by_cases c:v=w
  ·subst c;rw[if_pos rfl];exact h.2.2
  ·rw[if_neg c];exact kY _ _
theorem aM6(hw:1<=w){v:Nat}(hv:w<=v):Hd (vH w v f) (dC a w v) v:=by
 have hb:∀ i,i<v->(dC a w v).testBit i=a.testBit (min i (w-1)):=λ i hi=>rA ha hw hv hi
 refine nM (aHz hw hv hf hd) (λ i hi=>?_) ?_
 ·rw[hb i hi];exact oC hd h _
 ·have h1:=hf.a1;show Al _ v (f.A+(v-w));rcases h.2.2 with q | q
  ·exact .inl λ i h1 h2=>by rw[hb i h2];exact q _ (by omega) (by omega)
  ·exact .inr λ i h1 h2=>by rw[hb i h2];exact q _ (by omega) (by omega)
end
noncomputable def bwv(b:Nat)(x y:Nat):Nat:=match b with
 | 0=>x&&&y
 | 1=>x|||y
 | _=>x^^^y
noncomputable def bwB(b:Nat)(x y:Bool):Bool:=match b with
 | 0=>x&&y
 | 1=>x||y
 | _=>x ^^ y
theorem aCE{b:Nat}(hb:b=0\/b=1\/b=2)(x y i:Nat):(bwv b x y).testBit i=bwB b (x.testBit i) (y.testBit i):=by
 rcases hb with rfl | rfl | rfl
 ·exact yAh ..
 ·exact xAp ..
 ·exact yAm ..
theorem aQC:∀ (b p q:Fin 3) (x y:Bool),(p.1=0->x=false)/\(p.1=1->x=true)->(q.1=0->y=false)/\(q.1=1->y=true)->(btN b.1 p.1 q.1=0->bwB b.1 x y=false)/\(btN b.1 p.1 q.1=1->bwB b.1 x y=true):=by decide
theorem aO7{b:Nat}(hb:b=0\/b=1\/b=2){f g:Ft}{x y w:Nat}(hf:FtOk f w)(hd:f.N&&&f.O=0)(h:Hd f x w)(hg:FtOk g w)(he:g.N&&&g.O=0)(h':Hd g y w):Hd (sX b f g) (bwv b x y) w:=by
 refine nM (aJQ b hb hf hd hg he) (λ i hi=>?_) ?_
 ·rw[aCE hb];exact aQC ⟨b,by omega⟩ ⟨_,uH f i⟩ ⟨_,uH g i⟩ _ _ (oC hd h i) (oC he h' i)
 ·have hA:(sX b f g).A=min f.A g.A:=by rcases hb with rfl | rfl | rfl<;>rfl
  rw[hA];have q1:Al x w (min f.A g.A):=rF (by omega) h.2.2
  have q2:Al y w (min f.A g.A):=rF (by omega) h'.2.2
  have go:∀ (p q:Bool),(∀ i,w-min f.A g.A<=i->i<w->x.testBit i=p)->(∀ i,w-min f.A g.A<=i->i<w->y.testBit i=q)->Al (bwv b x y) w (min f.A g.A):=λ p q hp hq=>by
   cases c:bwB b p q with
   | true=>exact .inl λ i h1 h2=>by rw[aCE hb,hp i h1 h2,hq i h1 h2,c]
   | false=>exact .inr λ i h1 h2=>by rw[aCE hb,hp i h1 h2,hq i h1 h2,c]
  rcases q1 with q1 | q1<;>rcases q2 with q2 | q2
  ·exact go _ _ q1 q2
  ·exact go _ _ q1 q2
  ·exact go _ _ q1 q2
  ·exact go _ _ q1 q2
noncomputable def jJ(a w:Nat):Int:=if 2^(w-1)<=a then (a:Nat)-((2^w:Nat):Int) else (a:Nat)
theorem aQR(x:Int)(w:Nat)(q:Int):rs (x+((2^w:Nat):Int)*q) w=rs x w:=by
 unfold rs;rw[Int.add_mul_emod_self_left]
theorem rC{i:Nat}{p:Prop}(h:(0:Nat).testBit i=true):p:=by
 rw[yBd] at h;cases h
theorem aH0:Hd F1 1 1:=⟨λ i h=>rC h,λ i h=>h,kY _ _⟩
theorem aHN:Hd F0 0 1:=⟨λ i h=>yBd i,λ i h=>rC h,kY _ _⟩
theorem aG8(z:Nat):Hd jK z 1:=⟨λ i h=>rC h,λ i h=>rC h,kY _ _⟩
theorem aHs{a b c e x y:Int}(h1:a<=x)(h2:x<=b)(h3:c<=y)(h4:y<=e):Hd (l3 a b c e) (decide (x<y)).toNat 1:=by
 unfold l3
 by_cases c1:b<c
 ·rw[if_pos c1,dqT (by omega)]
  exact aH0
 ·rw[if_neg c1]
  by_cases c2:e<=a
  ·rw[if_pos c2,dqF (by omega)]
   exact aHN
  ·rw[if_neg c2];exact aG8 _
theorem aMZ{f g:Ft}{a b w:Nat}(kf:FtOk f w)(kg:FtOk g w)(ha:a<2^w)(hb:b<2^w)(h1:Hd f a w)(h2:Hd g b w):Hd (l3 (f.O:Nat) ((2^w-1-f.N:Nat):Int) (g.O:Nat) ((2^w-1-g.N:Nat):Int)) (decide ((a:Int)<(b:Int))).toNat 1:=
 aHs (Int.ofNat_le.mpr (aAJ h1)) (Int.ofNat_le.mpr (aAG kf ha h1)) (Int.ofNat_le.mpr (aAJ h2)) (Int.ofNat_le.mpr (aAG kg hb h2))
theorem aME{f g:Ft}{a b w:Nat}(kf:FtOk f w)(ha:a<2^w)(hb:b<2^w)(h1:Hd f a w)(h2:Hd g b w):Hd (nB w f g) (decide (a=b)).toNat 1:=by
 unfold nB
 by_cases c1:f.N&&&g.O|||f.O&&&g.N=0
 ·rw[if_neg (by simp[c1])]
  by_cases c2:(f.N|||f.O)&&&(g.N|||g.O)=2^w-1
  ·rw[if_pos c2];have:a=b:=by
    apply xAm;intro i
    by_cases c:i<w
    ·have q:((f.N|||f.O)&&&(g.N|||g.O)).testBit i=true:=by rw[c2,cK,dqT c]
     have z:=(jN _).mp c1 i;rw[yAh,xAp,xAp] at q;rw[xAp,yAh,yAh] at z;have p1:=h1.1 i;have p2:=h1.2.1 i;have p3:=h2.1 i;have p4:=h2.2.1 i
     revert q z p1 p2 p3 p4
     generalize f.N.testBit i=y0;generalize f.O.testBit i=y1;generalize g.N.testBit i=y2;generalize g.O.testBit i=y3;generalize a.testBit i=y4;generalize b.testBit i=y5
     revert y0 y1 y2 y3 y4 y5
     decide
    ·rw[cL ha (by omega),cL hb (by omega)]
   rw[dqT this];exact aH0
  ·rw[if_neg c2];exact aG8 _
 ·rw[if_pos c1];have:a≠b:=by
   rintro rfl;apply c1;rw[jN];intro i;rw[xAp,yAh,yAh];have p1:=h1.1 i;have p2:=h1.2.1 i;have p3:=h2.1 i;have p4:=h2.2.1 i
   revert p1 p2 p3 p4
   generalize f.N.testBit i=y0;generalize f.O.testBit i=y1;generalize g.N.testBit i=y2;generalize g.O.testBit i=y3;generalize a.testBit i=y4
   revert y0 y1 y2 y3 y4
   decide
  rw[dqF this];exact aHN
noncomputable def tw(a w:Nat):Int:=jJ a w+((2^(w-1):Nat):Int)
theorem aVN{w:Nat}(hw:1<=w):(2:Nat)^w=2^(w-1)+2^(w-1):=by
 have:(2:Nat)^(w-1+1)=2^(w-1)*2:=yFd ..;rw[show w-1+1=w by omega] at this
 omega
theorem aCV{a w:Nat}(ha:a<2^w)(hw:1<=w):((a^^^2^(w-1):Nat):Int)=tw a w:=by
 have h2:=aVN hw;unfold tw jJ
 by_cases c:2^(w-1)<=a
 ·rw[if_pos c,aCb c (by rw[show w-1+1=w by omega];exact ha)]
  omega
 ·rw[if_neg c,zZ (by omega)]
  omega
theorem aHn{f:Ft}{a w:Nat}(hw:1<=w)(h:Hd f a w)(i:Nat):((tt f w).N.testBit i=true->(a^^^2^(w-1)).testBit i=false)/\((tt f w).O.testBit i=true->(a^^^2^(w-1)).testBit i=true):=by
 have h1:=h.1 i;have h2:=h.2.1 i;show((f.N^^^((f.N^^^f.O)&&&dE 1 w)).testBit i=true->_)/\((f.O^^^((f.N^^^f.O)&&&dE 1 w)).testBit i=true->_);simp only[yAm,yAh,aGK hw,yDd];have key:∀ b n o x:Bool,(n=true->x=false)->(o=true->x=true)->((n ^^ ((n ^^ o)&&b))=true->(x ^^ b)=false)/\((o ^^ ((n ^^ o)&&b))=true->(x ^^ b)=true):=by decide
 exact key _ _ _ _ h1 h2
theorem aJ2{f:Ft}{a w:Nat}(kf:FtOk f w)(hd:f.N&&&f.O=0)(hw:1<=w)(ha:a<2^w)(h:Hd f a w):(((tt f w).O:Nat):Int)<=tw a w/\tw a w<=((2^w-1-(tt f w).N:Nat):Int):=by
 have hp:2^(w-1)<2^w:=yBs (by decide) (by omega)
 have lN:(tt f w).N<2^w:=yBw kf.lN (xAj yEw (aDg 1 w));rw[<- aCV ha hw];exact⟨Int.ofNat_le.mpr (aCA λ i=>(aHn hw h i).2),Int.ofNat_le.mpr (aIs lN (yBw ha hp) λ i=>(aHn hw h i).1)⟩
theorem aLZ{f g:Ft}{a b w:Nat}(kf:FtOk f w)(kg:FtOk g w)(fd:f.N&&&f.O=0)(gd:g.N&&&g.O=0)(hw:1<=w)(ha:a<2^w)(hb:b<2^w)(h1:Hd f a w)(h2:Hd g b w):Hd (l3 ((tt f w).O:Nat) ((2^w-1-(tt f w).N:Nat):Int) ((tt g w).O:Nat) ((2^w-1-(tt g w).N:Nat):Int)) (decide (jJ a w<jJ b w)).toNat 1:=by
 have i1:=aJ2 kf fd hw ha h1;have i2:=aJ2 kg gd hw hb h2;have e:decide (jJ a w<jJ b w)=decide (tw a w<tw b w):=by
  rw[decide_eq_decide];unfold tw;omega
 rw[e];exact aHs i1.1 i1.2 i2.1 i2.2
theorem aMX{t f g:Ft}{c a b w:Nat}(ht:Hd t c 1)(hc:c<2)(h1:Hd f a w)(h2:Hd g b w):Hd (oW t f g) (if c=1 then a else b) w:=by
 unfold oW
 by_cases c1:t.O=1
 ·have:c=1:=by
   have:=ht.2.1 0 (by rw[c1];rfl)
   rcases (show c=0\/c=1 by omega) with rfl | rfl
   ·cases this
   ·rfl
  rw[if_pos c1,if_pos this];exact h1
 ·rw[if_neg c1]
  by_cases c2:t.N=1
  ·have:c=0:=by
    have:=ht.1 0 (by rw[c2];rfl)
    rcases (show c=0\/c=1 by omega) with rfl | rfl
    ·rfl
    ·cases this
   rw[if_pos c2,if_neg (by omega)]
   exact h2
  ·rw[if_neg c2];have go:∀ {z:Nat}{h:Ft},Hd h z w->(∀ i,(f.N&&&g.N).testBit i=true->h.N.testBit i=true)->(∀ i,(f.O&&&g.O).testBit i=true->h.O.testBit i=true)->min f.A g.A<=h.A->Hd ⟨f.N&&&g.N,f.O&&&g.O,min f.A g.A⟩ z w:=λ {z h} q q1 q2 q3 =>
    ⟨λ i hi=>q.1 i (q1 i hi),λ i hi=>q.2.1 i (q2 i hi),rF q3 q.2.2⟩
   have an:∀ {x y:Nat} i,(x&&&y).testBit i=true->x.testBit i=true/\y.testBit i=true:=λ i hi=>by
    rw[yAh,yAl] at hi;exact hi
   split
   ·exact go h1 (λ i hi=>(an i hi).1) (λ i hi=>(an i hi).1) (by omega)
   ·exact go h2 (λ i hi=>(an i hi).2) (λ i hi=>(an i hi).2) (by omega)
theorem aT6(a b:D):aH (.tuple [a,b]) (.int 0)=qq a:=rfl
theorem aUU(a b:D):aH (.tuple [a,b]) (.int 1)=qq b:=rfl
theorem aPC(a:Wd):aV .In (.str a.s) (.tuple [.str "add",.str "sub",.str "mul"])=qq (.bool (decide (a=.add\/a=.sub\/a=.mul))):=by cases a<;>rfl
theorem aTG(a:Wd):aV .In (.str a.s) (.tuple [.str "and",.str "or",.str "xor"])=qq (.bool (decide (a=.and\/a=.or\/a=.xor))):=by cases a<;>rfl
theorem eB{C:Calls}{i:Nat}{j:Int}{env:aZ}{R x:D}{S:aE}(h:env[i]? = qq (qq (.d R)))(e:aH R (.int j)=qq x):ev C (.ix (.var i) (.int j)) env S=qq (.d x,S):=by
 simp only[gS0,h,e]
noncomputable abbrev oe(R Wi Fs:D)(wd:Wd)(v:Int):aZ:=[qq (.d R),qq (.d Wi),qq (.d Fs),qq (.d (.str wd.s)),qq (.d (.int v))]
section
variable (C : Calls)(R Wi Fs : D)(v : Int)(S : aE)(wd : Wd)
theorem mR:tv C (.cmp .Eq (.var 3) (.str "in")) (oe R Wi Fs wd v) S=qq (decide (wd=.in),S):=cP rfl (bN wd .in)
theorem fJ:tv C (.cmp .Eq (.var 3) (.str "num")) (oe R Wi Fs wd v) S=qq (decide (wd=.num),S):=cP rfl (bN wd .num)
theorem gO:tv C (.cmp .Eq (.var 3) (.str "not")) (oe R Wi Fs wd v) S=qq (decide (wd=.not),S):=cP rfl (bN wd .not)
theorem uJ:tv C (.cmp .Eq (.var 3) (.str "pick")) (oe R Wi Fs wd v) S=qq (decide (wd=.pick),S):=cP rfl (bN wd .pick)
theorem rN:tv C (.cmp .In (.var 3) (.con "SUMS" aC6)) (oe R Wi Fs wd v) S=qq (decide (wd=.add\/wd=.sub\/wd=.mul),S):=jU rfl rfl (aPC wd)
theorem iY:tv C (.cmp .In (.var 3) (.con "SHIFTS" qV)) (oe R Wi Fs wd v) S=qq (decide (wd=.left\/wd=.right\/wd=.slide),S):=jU rfl rfl (aB9 wd)
theorem pM:tv C (.cmp .In (.var 3) (.con "COMPARES" qS)) (oe R Wi Fs wd v) S=qq (decide (wd=.same\/wd=.less\/wd=.under),S):=jU rfl rfl (zW wd)
theorem aJ7:tv C (.cmp .In (.var 3) (.tup (.cons (.str "and") (.cons (.str "or") (.cons (.str "xor") .nil))))) (oe R Wi Fs wd v) S=qq (decide (wd=.and\/wd=.or\/wd=.xor),S):=jU rfl rfl (aTG wd)
end
theorem aRJ{wd:Wd}(h:wd=.cut\/wd=.wide\/wd=.sign):¬ wd=.in/\¬ wd=.num/\¬ wd=.not/\¬ (wd=.add\/wd=.sub\/wd=.mul)/\¬ (wd=.left\/wd=.right\/wd=.slide)/\¬ (wd=.same\/wd=.less\/wd=.under)/\¬ wd=.pick/\¬ (wd=.and\/wd=.or\/wd=.xor):=by
 rcases h with rfl | rfl | rfl<;>decide
theorem aVS{wd:Wd}(h:wd=.and\/wd=.or\/wd=.xor):¬ wd=.in/\¬ wd=.num/\¬ wd=.not/\¬ (wd=.add\/wd=.sub\/wd=.mul)/\¬ (wd=.left\/wd=.right\/wd=.slide)/\¬ (wd=.same\/wd=.less\/wd=.under)/\¬ wd=.pick:=by
 rcases h with rfl | rfl | rfl<;>decide
theorem aUt{wd:Wd}(h:wd=.left\/wd=.right\/wd=.slide):¬ wd=.in/\¬ wd=.num/\¬ wd=.not/\¬ (wd=.add\/wd=.sub\/wd=.mul):=by
 rcases h with rfl | rfl | rfl<;>decide
section
variable (d : Nat)(R Wi Fs : D)(v : Int)(S : aE)
theorem aNK(f:Ft)(e0:aH R (.int 0)=qq (.str "not"))(e1:aH R (.int 1)=qq (.int v))(ef:aH Fs (.int 0)=qq f.d):cl fns (d+1) 48 [.d R,.d Wi,.d Fs] S=qq (.d (Ft.mk f.O f.N f.A).d,S):=by
 have t1:=mR (aC fns d) R Wi Fs v S .not;have t2:=fJ (aC fns d) R Wi Fs v S .not;have t3:=gO (aC fns d) R Wi Fs v S .not;refine cH (S1:=S) rfl d rfl rfl yAe (cG (S1:=S) (w:=.d (.str Wd.not.s)) (eB rfl e0) rfl (cG (S1:=S) (w:=.d (.int v)) (eB rfl e1) rfl (aN t1 (aN t2 (bY t3 (bK ?_))))));simp only[gS0,ef,hZ,iC,kA]
theorem aMs(wd:Wd)(aJ:wd=.left\/wd=.right\/wd=.slide)(f:Ft)(k:Nat)(g:D)(e0:aH R (.int 0)=qq (.str wd.s))(e1:aH R (.int 1)=qq (.int v))(e3:aH R (.int 3)=qq (.int k))(ef:aH Fs (.int 0)=qq f.d)(hk:cl fns d 41 [.d (.str wd.s),.d (.int v),.d f.d,.d (.int k)] S=qq (.d g,S)):cl fns (d+1) 48 [.d R,.d Wi,.d Fs] S=qq (.d g,S):=by
 have t1:=mR (aC fns d) R Wi Fs v S wd;have t2:=fJ (aC fns d) R Wi Fs v S wd;have t3:=gO (aC fns d) R Wi Fs v S wd;have t4:=rN (aC fns d) R Wi Fs v S wd;have t5:=iY (aC fns d) R Wi Fs v S wd;rw[dqT aJ] at t5;obtain⟨n1,n2,n3,n4⟩:=aUt aJ;rw[dqF n1] at t1;rw[dqF n2] at t2;rw[dqF n3] at t3;rw[dqF n4] at t4;refine cH (S1:=S) rfl d rfl rfl yAe (cG (S1:=S) (w:=.d (.str wd.s)) (eB rfl e0) rfl (cG (S1:=S) (w:=.d (.int v)) (eB rfl e1) rfl (aN t1 (aN t2 (aN t3 (aN t4 (bY t5 (bK ?_))))))));simp only[gS0,ef,e3,hk]
theorem aOP(wd:Wd)(aJ:wd=.and\/wd=.or\/wd=.xor)(f g:Ft)(e0:aH R (.int 0)=qq (.str wd.s))(e1:aH R (.int 1)=qq (.int v))(ef:aH Fs (.int 0)=qq f.d)(eg:aH Fs (.int 1)=qq g.d):cl fns (d+3) 48 [.d R,.d Wi,.d Fs] S=qq (.d (bwN wd f g).d,S):=by
 have t1:=mR (aC fns (d+2)) R Wi Fs v S wd;have t2:=fJ (aC fns (d+2)) R Wi Fs v S wd;have t3:=gO (aC fns (d+2)) R Wi Fs v S wd;have t4:=rN (aC fns (d+2)) R Wi Fs v S wd;have t5:=iY (aC fns (d+2)) R Wi Fs v S wd;have t6:=pM (aC fns (d+2)) R Wi Fs v S wd;have t7:=uJ (aC fns (d+2)) R Wi Fs v S wd;have t8:=aJ7 (aC fns (d+2)) R Wi Fs v S wd;rw[dqT aJ] at t8;obtain⟨n1,n2,n3,n4,n5,n6,n7⟩:=aVS aJ;rw[dqF n1] at t1;rw[dqF n2] at t2;rw[dqF n3] at t3;rw[dqF n4] at t4;rw[dqF n5] at t5;rw[dqF n6] at t6;rw[dqF n7] at t7;refine cH (S1:=S) rfl (d+2) rfl rfl yAe (cG (S1:=S) (w:=.d (.str wd.s)) (eB rfl e0) rfl (cG (S1:=S) (w:=.d (.int v)) (eB rfl e1) rfl (aN t1 (aN t2 (aN t3 (aN t4 (aN t5 (aN t6 (aN t7 (bY t8 (bK ?_)))))))))));simp only[gS0,ef,eg,aL1 d wd aJ f g]
theorem aB2(wd:Wd)(aJ:wd=.cut\/wd=.wide\/wd=.sign)(f:Ft)(w:Int)(g:D)(e0:aH R (.int 0)=qq (.str wd.s))(e1:aH R (.int 1)=qq (.int v))(ew:aH Wi (.int 0)=qq (.int w))(ef:aH Fs (.int 0)=qq f.d)(hk:cl fns d 42 [.d (.str wd.s),.d (.int w),.d (.int v),.d f.d] S=qq (.d g,S)):cl fns (d+1) 48 [.d R,.d Wi,.d Fs] S=qq (.d g,S):=by
 have t1:=mR (aC fns d) R Wi Fs v S wd;have t2:=fJ (aC fns d) R Wi Fs v S wd;have t3:=gO (aC fns d) R Wi Fs v S wd;have t4:=rN (aC fns d) R Wi Fs v S wd;have t5:=iY (aC fns d) R Wi Fs v S wd;have t6:=pM (aC fns d) R Wi Fs v S wd;have t7:=uJ (aC fns d) R Wi Fs v S wd;have t8:=aJ7 (aC fns d) R Wi Fs v S wd;obtain⟨n1,n2,n3,n4,n5,n6,n7,n8⟩:=aRJ aJ;rw[dqF n1] at t1;rw[dqF n2] at t2;rw[dqF n3] at t3;rw[dqF n4] at t4;rw[dqF n5] at t5;rw[dqF n6] at t6;rw[dqF n7] at t7;rw[dqF n8] at t8;refine cH (S1:=S) rfl d rfl rfl yAe (cG (S1:=S) (w:=.d (.str wd.s)) (eB rfl e0) rfl (cG (S1:=S) (w:=.d (.int v)) (eB rfl e1) rfl (aN t1 (aN t2 (aN t3 (aN t4 (aN t5 (aN t6 (aN t7 (aN t8 (bK ?_)))))))))));simp only[gS0,ew,ef,hk]
theorem aCw(n:Nat)(g:Ft)(e1:aH R (.int 1)=qq (.int n))(ho:cl fns (d+3) 48 [.d R,.d Wi,.d Fs] S=qq (.d g.d,S))(hg:FtOk g n)(hn:n<=64):cl fns (d+4) 49 [.d R,.d Wi,.d Fs] S=qq (.d (gG g n).d,S):=by
 rw[aU rfl (d+3) _ S rfl];simp only[gR1,aJx,ho,e1,aML d g n hg hn]
end
noncomputable def shN(wd:Wd)(w:Nat)(f:Ft)(k:Nat):Ft:=match wd with
 | .left=>vE w f k
 | .right=>mD w f k
 | _=>uN w f k
theorem aB5(d:Nat)(wd:Wd)(aJ:wd=.left\/wd=.right\/wd=.slide)(w:Nat)(f:Ft)(k:Nat)(hf:FtOk f w)(bT:1<=w)(hw:w<=64)(hk:k<=900)(S:aE):cl fns (d+4) 41 [.d (.str wd.s),.d (.int w),.d f.d,.d (.int k)] S=qq (.d (shN wd w f k).d,S):=by
 have t1:=cP (C:=aC fns (d+3)) (i:=0) (S:=S) (x:="left") (env:=[qq (.d (.str wd.s)),qq (.d (.int w)),qq (.d f.d),qq (.d (.int k))]) rfl (bN wd .left);have t2:=cP (C:=aC fns (d+3)) (i:=0) (S:=S) (x:="right") (env:=[qq (.d (.str wd.s)),qq (.d (.int w)),qq (.d f.d),qq (.d (.int k))]) rfl (bN wd .right);rcases aJ with rfl | rfl | rfl
 ·refine cH (S1:=S) rfl (d+3) rfl rfl yAe (bY t1 (bK ?_));have hq43:=aQy (d+1) w f k hf hw (by omega)
  simp only[gS0,hq43]
 ·refine cH (S1:=S) rfl (d+3) rfl rfl yAe (aN t1 (bY t2 (bK ?_)));simp only[gS0,aOr d w f k hw]
 ·refine cH (S1:=S) rfl (d+3) rfl rfl yAe (aN t1 (aN t2 (bK ?_)));simp only[gS0,aOp d w f k bT hw hk]
theorem aBZ(d:Nat)(f:Ft)(S:aE):cl fns (d+1) 24 [.d f.d] S=qq (.d (.int ((f.N|||f.O:Nat):Int)),S):=by
 rw[aU rfl d _ S rfl];simp only[gR1,aE6,hZ,iC,eX]
theorem lP(n:Nat):(((n:Nat):Int)==1)=(n==1):=by
 rw[yEn,beq_iff_eq,beq_iff_eq];omega
theorem aG0(d w:Nat)(f g:Ft)(hf:f.N<2^w)(hg:g.N<2^w)(hw:w<=64)(S:aE):cl fns (d+3) 44 [.d (.int w),.d f.d,.d g.d] S=qq (.d (l3 (f.O:Nat) ((2^w-1-f.N:Nat):Int) (g.O:Nat) ((2^w-1-g.N:Nat):Int)).d,S):=by
 have g1:=xX d f w hf hw S;have g2:=xX d g w hg hw S;have l1:=tX (d+1) f S;have l2:=tX (d+1) g S;rw[aU rfl (d+2) _ S rfl];unfold l3
 by_cases c1:((2^w-1-f.N:Nat):Int)<((g.O:Nat):Int)
 ·rw[if_pos c1];simp only[gR1,yG,g1,l2,dY,dqT c1,vB,Tv.d]
 ·rw[if_neg c1]
  by_cases c2:((2^w-1-g.N:Nat):Int)<=((f.O:Nat):Int)
  ·rw[if_pos c2];simp only[gR1,yG,g1,l2,dY,dqF c1,l1,g2,aIB,dqT c2,tU,Tv.d]
  ·rw[if_neg c2];simp only[gR1,yG,g1,l2,dY,dqF c1,l1,g2,aIB,dqF c2,qU,Tv.d]
theorem yY(d w:Nat)(f:Ft)(bT:1<=w)(hw:w<=64)(S:aE):cl fns (d+3) 45 [.d f.d,.d (.int w)] S=qq (.d (tt f w).d,S):=by
 have t:cl fns (d+2) 23 [.d (.int 1),.d (.int w)] S=qq (.d (.int ((dE 1 w:Nat):Int)),S):=pE d 1 w S bT hw;rw[aU rfl (d+2) _ S rfl];simp only[gR1,aE3,Ft.d,t,iJ,dJ]
theorem aOX(d w:Nat)(f g:Ft)(hw:w<=64)(S:aE):cl fns (d+3) 43 [.d (.int w),.d f.d,.d g.d] S=qq (.d (nB w f g).d,S):=by
 rw[aU rfl (d+2) _ S rfl];unfold nB
 by_cases c1:f.N&&&g.O|||f.O&&&g.N=0
 ·have d1:(f.N&&&g.O|||f.O&&&g.N==0)=true:=by rw[beq_iff_eq];exact c1
  rw[if_neg (by simp[c1])]
  by_cases c2:(f.N|||f.O)&&&(g.N|||g.O)=2^w-1
  ·have d2:((f.N|||f.O)&&&(g.N|||g.O)==2^w-1)=true:=by rw[beq_iff_eq];exact c2
   rw[if_pos c2];have hq44:=cQ (d+1) w (by omega)
   simp only[gR1,yJ,zA (d+1),pO,fX,d1,aBZ (d+1),dJ,hq44,bO,jO,d2,vB,Tv.d]
  ·have d2:((f.N|||f.O)&&&(g.N|||g.O)==2^w-1)=false:=by rw[beq_eq_false_iff_ne];exact c2
   rw[if_neg c2];have hq45:=cQ (d+1) w (by omega)
   simp only[gR1,yJ,zA (d+1),pO,fX,d1,aBZ (d+1),dJ,hq45,bO,jO,d2,qU,Tv.d]
 ·have d1:(f.N&&&g.O|||f.O&&&g.N==0)=false:=by rw[beq_eq_false_iff_ne];exact c1
  rw[if_pos c1];simp only[gR1,yJ,zA (d+1),pO,fX,d1,tU,Tv.d]
theorem aOI(d:Nat)(t f g:Ft)(S:aE):cl fns (d+1) 47 [.d t.d,.d f.d,.d g.d] S=qq (.d (oW t f g).d,S):=by
 rw[aU rfl d _ S rfl];unfold oW
 by_cases c1:t.O=1
 ·have d1:(t.O==1)=true:=by rw[beq_iff_eq];exact c1
  rw[if_pos c1];simp only[gR1,yL,iC,bO,lP,d1]
 ·have d1:(t.O==1)=false:=by rw[beq_eq_false_iff_ne];exact c1
  rw[if_neg c1]
  by_cases c2:t.N=1
  ·have d2:(t.N==1)=true:=by rw[beq_iff_eq];exact c2
   rw[if_pos c2];simp only[gR1,yL,iC,hZ,bO,lP,d1,d2]
  ·have d2:(t.N==1)=false:=by rw[beq_eq_false_iff_ne];exact c2
   rw[if_neg c2];simp only[gR1,yL,iC,hZ,kA,bO,lP,d1,d2,dJ,kM]
noncomputable def oX(wd:Wd)(w:Nat)(f g:Ft):Ft:=match wd with
 | .same=>nB w f g
 | .less=>l3 (f.O:Nat) ((2^w-1-f.N:Nat):Int) (g.O:Nat) ((2^w-1-g.N:Nat):Int)
 | _=>l3 ((tt f w).O:Nat) ((2^w-1-(tt f w).N:Nat):Int) ((tt g w).O:Nat) ((2^w-1-(tt g w).N:Nat):Int)
theorem aUF(wd:Wd)(w:Nat)(f g:Ft):oX wd w f g=F1\/oX wd w f g=F0\/oX wd w f g=jK:=by
 unfold oX
 split
 ·exact aUY ..
 ·exact aKQ ..
 ·exact aKQ ..
structure Ftd(f:Ft)(w:Nat):Prop where
 ok:FtOk f w
 dj:f.N&&&f.O=0
theorem aL3(d:Nat)(wd:Wd)(aJ:wd=.same\/wd=.less\/wd=.under)(w:Nat)(f g:Ft)(hf:Ftd f w)(hg:Ftd g w)(bT:1<=w)(hw:w<=64)(S:aE):cl fns (d+4) 46 [.d (.str wd.s),.d (.int w),.d f.d,.d g.d] S=qq (.d (oX wd w f g).d,S):=by
 have t1:=cP (C:=aC fns (d+3)) (i:=0) (S:=S) (x:="same") (env:=[qq (.d (.str wd.s)),qq (.d (.int w)),qq (.d f.d),qq (.d g.d)]) rfl (bN wd .same);have t2:=cP (C:=aC fns (d+3)) (i:=0) (S:=S) (x:="less") (env:=[qq (.d (.str wd.s)),qq (.d (.int w)),qq (.d f.d),qq (.d g.d)]) rfl (bN wd .less);rcases aJ with rfl | rfl | rfl
 ·refine cH (S1:=S) rfl (d+3) rfl rfl yAe (bY t1 (bK ?_));simp only[gS0,aOX d w f g hw]
 ·refine cH (S1:=S) rfl (d+3) rfl rfl yAe (aN t1 (bY t2 (bK ?_)));simp only[gS0,aG0 d w f g hf.ok.lN hg.ok.lN hw]
 ·refine cH (S1:=S) rfl (d+3) rfl rfl yAe (aN t1 (aN t2 (bK ?_)));simp only[gS0,yY d w f bT hw,yY d w g bT hw,aG0 d w (tt f w) (tt g w) (aJg hf.ok hf.dj bT) (aJg hg.ok hg.dj bT) hw]
noncomputable def Sw.wd:Sw->Wd
 | .add=>.add
 | .sub=>.sub
 | .mul=>.mul
theorem xS(x:Int)(L:Nat):bP .BitAnd (.int x) (.int ((2^L-1:Nat):Int))=qq (.int ((rs x L:Nat):Int)):=by
 have hp:=xAf L
 by_cases c:0<=x
 ·obtain⟨n,rfl⟩:∃ n:Nat,x=(n:Nat):=⟨x.toNat,by omega⟩
  rw[dJ,aRs,yEc]
 ·have h1:decide ((0:Int)<=x)=false:=dqF c;have h2:decide ((0:Int)<=((2^L-1:Nat):Int))=true:=dqT (by omega)
  obtain⟨b,hb⟩:∃ b:Nat,yBr x=(b:Nat):=⟨(yBr x).toNat,by unfold yBr;omega⟩
  have hx:x = -((b:Nat):Int)-1:=by unfold yBr at hb;omega
  have e:(2^L-1)&&&b=b%2^L:=by rw[Nat.and_comm,yEc]
  have hm:=Nat.mod_lt b hp;have hr:=nQ x L;have e2:x%((2^L:Nat):Int)=((2^L:Nat):Int)-1-((b%2^L:Nat):Int):=by
   have hd:((b:Nat):Int)=((2^L:Nat):Int)*((b/2^L:Nat):Int)+((b%2^L:Nat):Int):=by
    rw[<- yCj,<- Int.natCast_add,yEp]
   have hx2:x=(((2^L:Nat):Int)-1-((b%2^L:Nat):Int))+((2^L:Nat):Int)*(-((b/2^L:Nat):Int)-1):=by
    rw[hx,hd,Int.mul_sub,Int.mul_neg,Int.mul_one];omega
   rw[hx2,Int.add_mul_emod_self_left,Int.emod_eq_of_lt (by omega) (by omega)]
  simp only[bP,kU];unfold yEg;rw[h1,h2];simp only[hb,yAo,e];congr 2;omega
theorem aBF(d:Nat)(s:Sw)(x y:Nat)(hx:x<2^64)(S:aE):cl fns (d+1) 28 [.d (.str s.wd.s),.d (.int x),.d (.int y)] S=qq (.d (.int (s.oc (x:Nat) (y:Nat))),S):=by
 have t1:=cP (C:=aC fns d) (i:=0) (S:=S) (x:="add") (env:=[qq (.d (.str s.wd.s)),qq (.d (.int x)),qq (.d (.int y))]) rfl (bN s.wd .add);have t2:=cP (C:=aC fns d) (i:=0) (S:=S) (x:="sub") (env:=[qq (.d (.str s.wd.s)),qq (.d (.int x)),qq (.d (.int y))]) rfl (bN s.wd .sub);cases s with
 | add =>
   refine cH (S1:=S) rfl d rfl rfl yAe (bY t1 (bK ?_));simp only[gS0,dR]
 | sub =>
   refine cH (S1:=S) rfl d rfl rfl yAe (aN t1 (bY t2 (bK ?_)));simp only[gS0,cR]
 | mul =>
   refine cH (S1:=S) rfl d rfl rfl yAe (aN t1 (aN t2 (bK ?_)));have hq46:=nH (i:=((x:Nat):Int)) (j:=((y:Nat):Int)) (by omega) (by omega)
   simp only[gS0,hq46]
theorem p64{n w:Nat}(h:n<2^w)(hw:w<=64):n<2^64:=xAc h (yAr (by decide) hw)
theorem aPA(d:Nat)(s:Sw)(w:Nat)(f g:Ft)(hf:FtOk f w)(hw:w<=64)(S:aE):cl fns (d+3) 29 [.d (.str s.wd.s),.d f.d,.d g.d] S=qq (.d (.tuple [.int ((sN s f g:Nat):Int),.int ((jX s f g:Nat):Int)]),S):=by
 have hL:=aCv (g:=g) hf;have e1:=aC2 d ((f.N|||f.O)&&&(g.N|||g.O)) S
 have e2:=cQ (d+1) (fL f g) (show fL f g<=100000 by omega) S
 rw[aU rfl (d+2) _ S rfl];simp only[evs,gE,aFt,aBZ (d+1),dJ];rw[e1];simp only[evs,show lr ((f.N|||f.O)&&&(g.N|||g.O))=fL f g from rfl]
 rw[e2];simp only[gS0,tX (d+1),aBF (d+1) s f.O g.O (p64 hf.lO hw),xS,iJ]
theorem aM8(d:Nat)(s:Sw)(w:Nat)(f g:Ft)(hf:FtOk f w)(hg:FtOk g w)(hw:w<=64)(S:aE):cl fns (d+3) 31 [.d (.str s.wd.s),.d (.int w),.d f.d,.d g.d] S=qq (.d (.tuple [.int (fR s w f g),.int (fS s w f g)]),S):=by
 have g1:=xX d f w hf.lN hw S;have g2:=xX d g w hg.lN hw S;have l1:=tX (d+1) f S;have l2:=tX (d+1) g S;have hp:=xAf w;have o1:=aBF (d+1) s f.O g.O (p64 hf.lO hw) S;have o2:=aBF (d+1) s (2^w-1-f.N) (2^w-1-g.N) (p64 (w:=w) (by omega) hw) S
 have t1:aV .Eq (.str s.wd.s) (.str "sub")=qq (.bool (decide (s.wd=.sub))):=bN s.wd .sub;rw[aU rfl (d+2) _ S rfl];cases s with
 | sub =>
   have t:aV .Eq (.str Sw.sub.wd.s) (.str "sub")=qq (.bool true):=t1;simp only[gR1,aAg,t,g1,g2,l1,l2,cR]
 | add =>
   have t:aV .Eq (.str Sw.add.wd.s) (.str "sub")=qq (.bool false):=t1;simp only[gR1,aAg,t,g1,g2,l1,l2,o1,o2]
 | mul =>
   have t:aV .Eq (.str Sw.mul.wd.s) (.str "sub")=qq (.bool false):=t1;simp only[gR1,aAg,t,g1,g2,l1,l2,o1,o2]
theorem aNk(d l g w:Nat)(S:aE)(hl:l<2^w)(hg:g<2^w)(hw:w<=64):cl fns (d+3) 6 [.d (.int l),.d (.int g),.d (.int w)] S=qq (.d (.tuple [.int (tY l g w:Nat),.int (oF l g w:Nat)]),S):=by
 have hx:l^^^g<2^10000:=aJa (yBw hl hg) (by omega)
 rw[aU rfl (d+2) _ S rfl];have hq47:=cQ (d+1) w (by omega)
 simp only[gR1,aE0,hq47,iJ,aGP d (l^^^g) _ hx,dJ]
theorem aVg(s:Sw)(w:Nat)(f g:Ft){a b:Nat}(hf:FtOk f w)(hg:FtOk g w)(ha:a<2^w)(hb:b<2^w)(h1:Hd f a w)(h2:Hd g b w):fR s w f g<=fS s w f g:=by
 have:=aJM s hf hg ha hb h1 h2;omega
theorem aPD(d:Nat)(s:Sw)(w:Nat)(f g:Ft)(hf:FtOk f w)(hg:FtOk g w)(hb:fR s w f g<=fS s w f g)(hw:w<=64)(S:aE):cl fns (d+4) 32 [.d (.str s.wd.s),.d (.int w),.d f.d,.d g.d] S=qq (.d (.tuple [.int ((qL s w f g:Nat):Int),.int ((qK s w f g:Nat):Int)]),S):=by
 have b1:=aM8 d s w f g hf hg hw S;have hp:=xAf w;rw[aU rfl (d+3) _ S rfl];unfold qL qK
 by_cases c1:fR s w f g<0
 ·rw[if_pos (.inl c1),if_pos (.inl c1)];simp only[gR1,xZ,b1,dY,dqT c1]
 ·by_cases c2:((2^w-1:Nat):Int)<fS s w f g
  ·rw[if_pos (.inr c2),if_pos (.inr c2)];have hq48:=cQ (d+2) w (by omega)
   simp only[gR1,xZ,b1,dY,dqF c1,hq48,kZ,dqT c2]
  ·have c:¬ (fR s w f g<0\/fS s w f g>((2^w-1:Nat):Int)):=λ h=>h.elim c1 c2
   rw[if_neg c,if_neg c];obtain⟨l,hl⟩:∃ l:Nat,fR s w f g=(l:Nat):=⟨(fR s w f g).toNat,by omega⟩
   obtain⟨u,hu⟩:∃ u:Nat,fS s w f g=(u:Nat):=⟨(fS s w f g).toNat,by omega⟩
   rw[hl] at c1;rw[hu] at c2;rw[hl,hu] at b1 hb;rw[hl,hu,yAo,yAo];have hq49:=cQ (d+2) w (by omega)
   have hq50:=aNk d l u w S (by omega) (by omega) hw
   simp only[gR1,xZ,b1,dY,dqF c1,hq49,kZ,dqF c2,hq50]
theorem aQv(d:Nat)(s:Sw)(w:Nat)(f g:Ft)(hw:w<=64)(S:aE):cl fns (d+3) 30 [.d (.str s.wd.s),.d (.int w),.d f.d,.d g.d] S=qq (.d (.int ((qF s w f g:Nat):Int)),S):=by
 rw[aU rfl (d+2) _ S rfl];cases s with
 | add =>
   have t:aV .NotEq (.str Sw.add.wd.s) (.str "mul")=qq (.bool true):=by kernel_rfl
   simp only[gR1,xT,t]
 | sub =>
   have t:aV .NotEq (.str Sw.sub.wd.s) (.str "mul")=qq (.bool true):=by kernel_rfl
   simp only[gR1,xT,t]
 | mul =>
   have t:aV .NotEq (.str Sw.mul.wd.s) (.str "mul")=qq (.bool false):=by kernel_rfl
   have e:((lr f.N:Nat):Int)+((lr g.N:Nat):Int)=((lr f.N+lr g.N:Nat):Int):=by omega
   have hq51:=cQ (d+1) (min w (lr f.N+lr g.N)) (by omega)
   simp only[gR1,xT,t,hZ,aC2 d,dR,e,kM,hq51]
theorem aNe(d:Nat)(s:Sw)(f g:Ft)(S:aE):cl fns (d+1) 33 [.d (.str s.wd.s),.d f.d,.d g.d] S=qq (.d (.int ((kG s f g:Nat):Int)),S):=by
 have e:∀ m:Nat,pZ [.int 1,.int (((m:Nat):Int)-1)]=qq (.int ((max 1 (m-1):Nat):Int)):=λ m=>aB3 m 1
 rw[aU rfl d _ S rfl];cases s with
 | add =>
   have t:aV .Eq (.str Sw.add.wd.s) (.str "mul")=qq (.bool false):=bN .add .mul;simp only[gR1,yD,t,kA,kM,cR,e]
 | sub =>
   have t:aV .Eq (.str Sw.sub.wd.s) (.str "mul")=qq (.bool false):=bN .sub .mul;simp only[gR1,yD,t,kA,kM,cR,e]
 | mul =>
   have t:aV .Eq (.str Sw.mul.wd.s) (.str "mul")=qq (.bool true):=bN .mul .mul;simp only[gR1,yD,t]
theorem aTi(d:Nat)(s:Sw)(w:Nat)(f g:Ft)(hf:FtOk f w)(hg:FtOk g w)(hb:fR s w f g<=fS s w f g)(hw:w<=64)(S:aE):cl fns (d+5) 34 [.d (.str s.wd.s),.d (.int w),.d f.d,.d g.d] S=qq (.d (wR s w f g).d,S):=by
 rw[aU rfl (d+4) _ S rfl];simp only[gR1,aFF,aPA (d+1) s w f g hf hw,aPD d s w f g hf hg hb hw,aT6,aUU,eX,aQv (d+1) s w f g hw,aNe (d+3) s f g]
section
variable (d : Nat)(R Wi Fs : D)(v : Nat)(S : aE)
theorem aOx(s:Sw)(f g:Ft)(e0:aH R (.int 0)=qq (.str s.wd.s))(e1:aH R (.int 1)=qq (.int v))(ef:aH Fs (.int 0)=qq f.d)(eg:aH Fs (.int 1)=qq g.d)(hf:FtOk f v)(hg:FtOk g v)(hb:fR s v f g<=fS s v f g)(hv:v<=64):cl fns (d+6) 48 [.d R,.d Wi,.d Fs] S=qq (.d (wR s v f g).d,S):=by
 have aJ:s.wd=.add\/s.wd=.sub\/s.wd=.mul:=by
  cases s
  ·exact .inl rfl
  ·exact .inr (.inl rfl)
  ·exact .inr (.inr rfl)
 have t1:=mR (aC fns (d+5)) R Wi Fs (v:Nat) S s.wd;have t2:=fJ (aC fns (d+5)) R Wi Fs (v:Nat) S s.wd;have t3:=gO (aC fns (d+5)) R Wi Fs (v:Nat) S s.wd;have t4:=rN (aC fns (d+5)) R Wi Fs (v:Nat) S s.wd;rw[dqT aJ] at t4;rw[dqF (by rcases aJ with h | h | h<;>rw[h]<;>decide)] at t1 t2 t3
 refine cH (S1:=S) rfl (d+5) rfl rfl yAe (cG (S1:=S) (w:=.d (.str s.wd.s)) (eB rfl e0) rfl (cG (S1:=S) (w:=.d (.int v)) (eB rfl e1) rfl (aN t1 (aN t2 (aN t3 (bY t4 (bK ?_)))))));simp only[gS0,ef,eg,aTi d s v f g hf hg hb hv]
end
section
variable {f : Ft}{w : Nat}(hf : FtOk f w)(hd : f.N&&&f.O = 0)(bT : 1 <= w)
include hf hd bT
theorem aQp(k:Nat):FtOk (vE w f k) w:=by
 have m:=aHp (w:=w) k hd;have:=hf.aw;exact⟨m.lN,m.lO,by show 1<=max 1 (f.A-k);omega,by show max 1 (f.A-k)<=w;omega⟩
theorem aNy(k:Nat):FtOk (mD w f k) w:=by
 have m:=aGl k hf hd;have h1:=hf.aw;have h2:=hf.a1;refine⟨m.lN,m.lO,?_,?_⟩
 ·show 1<=if k=0 then f.A else 1
  split<;>omega
 ·show(if k=0 then f.A else 1)<=w
  split<;>omega
theorem aN4(k:Nat):FtOk (uN w f k) w:=by
 have m:=aGA k bT hf hd;have h1:=hf.a1;exact⟨m.lN,m.lO,by show 1<=min w (f.A+k);omega,by show min w (f.A+k)<=w;omega⟩
theorem aSd{v:Nat}(hv1:1<=v)(hv:v<=w):FtOk (wQ w v f) v:=by
 have m:=aI8 w v hd;have h1:=hf.aw;exact⟨m.lN,m.lO,by show 1<=max 1 (f.A-(w-v));omega,by show max 1 (f.A-(w-v))<=v;omega⟩
theorem aQq{v:Nat}(hv:w<=v):FtOk (mI w v f) v:=by
 have m:=aHb hv hf hd;have h1:=hf.aw;have h2:=hf.a1;refine⟨m.lN,m.lO,?_,?_⟩
 ·show 1<=if v=w then f.A else 1
  split<;>omega
 ·show(if v=w then f.A else 1)<=v
  split<;>omega
theorem aQs{v:Nat}(hv:w<=v):FtOk (vH w v f) v:=by
 have m:=aHz bT hv hf hd;have h1:=hf.aw;have h2:=hf.a1;exact⟨m.lN,m.lO,by show 1<=f.A+(v-w);omega,by show f.A+(v-w)<=v;omega⟩
end
theorem aVG{b:Nat}{f g:Ft}{w:Nat}(hb:b=0\/b=1\/b=2)(hf:FtOk f w)(hd:f.N&&&f.O=0)(hg:FtOk g w)(he:g.N&&&g.O=0):FtOk (sX b f g) w:=by
 have m:=aJQ b hb hf hd hg he;have h1:=hf.a1;have h2:=hg.a1;have h3:=hf.aw;rcases hb with rfl | rfl | rfl<;>exact⟨m.lN,m.lO,by show 1<=min f.A g.A;omega,by show min f.A g.A<=w;omega⟩
section
variable (d : Nat)(R Wi Fs : D)(v : Int)(S : aE)
theorem aNp(wd:Wd)(aJ:wd=.same\/wd=.less\/wd=.under)(w:Nat)(f g:Ft)(e0:aH R (.int 0)=qq (.str wd.s))(e1:aH R (.int 1)=qq (.int v))(ew:aH Wi (.int 0)=qq (.int w))(ef:aH Fs (.int 0)=qq f.d)(eg:aH Fs (.int 1)=qq g.d)(hf:Ftd f w)(hg:Ftd g w)(bT:1<=w)(hw:w<=64):cl fns (d+5) 48 [.d R,.d Wi,.d Fs] S=qq (.d (oX wd w f g).d,S):=by
 have t1:=mR (aC fns (d+4)) R Wi Fs v S wd;have t2:=fJ (aC fns (d+4)) R Wi Fs v S wd;have t3:=gO (aC fns (d+4)) R Wi Fs v S wd;have t4:=rN (aC fns (d+4)) R Wi Fs v S wd;have t5:=iY (aC fns (d+4)) R Wi Fs v S wd;have t6:=pM (aC fns (d+4)) R Wi Fs v S wd;rw[dqT aJ] at t6;rw[dqF (by rcases aJ with rfl | rfl | rfl<;>decide)] at t1 t2 t3 t4 t5
 refine cH (S1:=S) rfl (d+4) rfl rfl yAe (cG (S1:=S) (w:=.d (.str wd.s)) (eB rfl e0) rfl (cG (S1:=S) (w:=.d (.int v)) (eB rfl e1) rfl (aN t1 (aN t2 (aN t3 (aN t4 (aN t5 (bY t6 (bK ?_)))))))));simp only[gS0,ew,ef,eg,aL3 d wd aJ w f g hf hg bT hw]
theorem aMa(t f g:Ft)(e0:aH R (.int 0)=qq (.str "pick"))(e1:aH R (.int 1)=qq (.int v))(et:aH Fs (.int 0)=qq t.d)(ef:aH Fs (.int 1)=qq f.d)(eg:aH Fs (.int 2)=qq g.d):cl fns (d+2) 48 [.d R,.d Wi,.d Fs] S=qq (.d (oW t f g).d,S):=by
 have t1:=mR (aC fns (d+1)) R Wi Fs v S .pick;have t2:=fJ (aC fns (d+1)) R Wi Fs v S .pick;have t3:=gO (aC fns (d+1)) R Wi Fs v S .pick;have t4:=rN (aC fns (d+1)) R Wi Fs v S .pick;have t5:=iY (aC fns (d+1)) R Wi Fs v S .pick;have t6:=pM (aC fns (d+1)) R Wi Fs v S .pick;have t7:=uJ (aC fns (d+1)) R Wi Fs v S .pick;refine cH (S1:=S) rfl (d+1) rfl rfl yAe (cG (S1:=S) (w:=.d (.str Wd.pick.s)) (eB rfl e0) rfl (cG (S1:=S) (w:=.d (.int v)) (eB rfl e1) rfl (aN t1 (aN t2 (aN t3 (aN t4 (aN t5 (aN t6 (bY t7 (bK ?_))))))))));simp only[gS0,et,ef,eg,aOI d t f g]
end
structure Op(f:Ft)(w:Nat):Prop where
 ok:FtOk f w
 ho:∃ a,a<2^w/\Hd f a w
 w1:1<=w
 w2:w<=64
theorem Op.dj{f:Ft}{w:Nat}(o:Op f w):f.N&&&f.O=0:=by
 obtain⟨a,_,h⟩:=o.ho;exact aWF h
noncomputable def bD:Wd->Nat
 | .in | .num=>0
 | .not | .left | .right | .slide | .cut | .wide | .sign=>1
 | .pick=>3
 | _=>2
theorem aO2(wd:Wd):aA3 tD (.str wd.s)=qq (.int (bD wd:Nat)):=by cases wd<;>kernel_rfl
theorem rY(r:Rw):aH r.d (.int 0)=qq (.str r.wd.s):=gX (xs:=.str r.wd.s::nD r.w::r.args.map nD) (k:=0) rfl
theorem aPQ{fa:FE}{fl fh:FO}{env:aZ}{S:aE}(r:Rw)(c:Nat)(h1:fa env S=qq (.d r.d,S))(h2:fl env S=qq (qq 2,S))(h3:fh env S=qq (qq ((2+c:Nat):Int),S)):lJ fa fl fh env S=qq (.d (.tuple ((r.args.take c).map nD)),S):=by
 have i2:HT.sIx (PyData.str r.wd.s::nD r.w::r.args.map nD).length 0 (qq 2)=2:=by
  rw[show(2:Int)=((2:Nat):Int) from rfl,HT.sIx_nat]
  simp
 have e:eC (PyData.str r.wd.s::nD r.w::r.args.map nD) (qq 2) (qq ((2+c:Nat):Int))=(r.args.take c).map nD:=by
  unfold eC;rw[i2,HT.sIx_nat];simp only[List.drop_succ_cons,yEh,yAw,yAd];rw[List.map_take];rcases Nat.le_total c r.args.length with z | z
  ·rw[yGh (by omega),show 2+c-2=c by omega]
  ·rw[yHh (by omega),yDe (by simp),yDe (by simpa using z)]
 unfold lJ;rw[h1,oB];simp only[];rw[h2,oB];simp only[];rw[h3,oB];simp only[dr,oB,Rw.d];rw[e]
theorem pB(d:Nat)(r:Rw)(S:aE):cl fns (d+1) 7 [.d r.d] S=qq (.d (.tuple ((r.args.take (bD r.wd)).map nD)),S):=by
 have e2:(2:Int)+((bD r.wd:Nat):Int)=((2+bD r.wd:Nat):Int):=by omega
 have sl:ev (aC fns d) (.sl (.var 0) (.cons (.int 2) .nil) (.cons (.bin .Add (.int 2) (.tab "OPERAND_COUNTS" tD (.ix (.var 0) (.int 0)))) .nil)) [qq (.d r.d)] S=qq (.d (.tuple ((r.args.take (bD r.wd)).map nD)),S):=by
  simp only[aDx];refine aPQ r (bD r.wd) (by simp only[evs]) (by simp only[evs,lC]) ?_
  simp only[gS0,lC,rY,aO2,dR,e2]
 rw[aU rfl d _ S rfl];show((dL (oJ (ev (aC fns d) (.sl (.var 0) (.cons (.int 2) .nil) (.cons (.bin .Add (.int 2) (.tab "OPERAND_COUNTS" tD (.ix (.var 0) (.int 0)))) .nil)))) sA) [qq (.d r.d)] S).bind _=_;simp only[dL,oJ,sl,oB,jV,yAe]
inductive RwOk:Rw->List Nat->Prop
 | inp {w:Nat} (h1:1<=w) (h2:w<=64):RwOk ⟨.in,w,[]⟩ []
 | num {w n:Nat} (h1:1<=w) (h2:w<=64) (hn:n<2^w):RwOk ⟨.num,w,[n]⟩ []
 | nt {w a:Nat} (h1:1<=w) (h2:w<=64):RwOk ⟨.not,w,[a]⟩ [w]
 | sh {wd:Wd}{w a k:Nat} (h1:1<=w) (h2:w<=64) (aJ:wd=.left\/wd=.right\/wd=.slide) (hk:k<64):RwOk ⟨wd,w,[a,k]⟩ [w]
 | cut {w v a:Nat} (h1:1<=w) (hv:w<=v) (h2:v<=64):RwOk ⟨.cut,w,[a]⟩ [v]
 | wide {w v a:Nat} (h1:1<=v) (hv:v<=w) (h2:w<=64):RwOk ⟨.wide,w,[a]⟩ [v]
 | sign {w v a:Nat} (h1:1<=v) (hv:v<=w) (h2:w<=64):RwOk ⟨.sign,w,[a]⟩ [v]
 | bw {wd:Wd}{w a b:Nat} (h1:1<=w) (h2:w<=64) (aJ:wd=.and\/wd=.or\/wd=.xor):RwOk ⟨wd,w,[a,b]⟩ [w,w]
 | sm {s:Sw}{w a b:Nat} (h1:1<=w) (h2:w<=64):RwOk ⟨s.wd,w,[a,b]⟩ [w,w]
 | cmp {wd:Wd}{v a b:Nat} (h1:1<=v) (h2:v<=64) (aJ:wd=.same\/wd=.less\/wd=.under):RwOk ⟨wd,1,[a,b]⟩ [v,v]
 | pick {w c a b:Nat} (h1:1<=w) (h2:w<=64):RwOk ⟨.pick,w,[c,a,b]⟩ [1,w,w]
noncomputable def mW:List Nat->List Nat->Prop
 | w::ws,n::ns=>n<2^w/\mW ws ns
 | [],[]=>True
 | _,_=>False
theorem eP{w:Nat}{ns:List Nat}(h:mW [w] ns):∃ a,ns=[a]/\a<2^w:=by
 rcases ns with _ | ⟨a,_ | ⟨b,r⟩⟩
 ·exact h.elim
 ·exact⟨a,rfl,h.1⟩
 ·exact h.2.elim
theorem kB{w v:Nat}{ns:List Nat}(h:mW [w,v] ns):∃ a b,ns=[a,b]/\a<2^w/\b<2^v:=by
 rcases ns with _ | ⟨a,_ | ⟨b,_ | ⟨c,r⟩⟩⟩
 ·exact h.elim
 ·exact h.2.elim
 ·exact⟨a,b,rfl,h.1,h.2.1⟩
 ·exact h.2.2.elim
theorem aA2{w v u:Nat}{ns:List Nat}(h:mW [w,v,u] ns):∃ a b c,ns=[a,b,c]/\a<2^w/\b<2^v/\c<2^u:=by
 rcases ns with _ | ⟨a,_ | ⟨b,_ | ⟨c,_ | ⟨e,r⟩⟩⟩⟩
 ·exact h.elim
 ·exact h.2.elim
 ·exact h.2.2.elim
 ·exact⟨a,b,c,rfl,h.1,h.2.1,h.2.2.1⟩
 ·exact h.2.2.2.elim
noncomputable def shV(wd:Wd)(w a k:Nat):Nat:=match wd with
 | .left=>a*2^k%2^w
 | .right=>a/2^k
 | _=>dC a w (w+k)/2^k
noncomputable def cmV(wd:Wd)(w a b:Nat):Bool:=match wd with
 | .same=>decide (a=b)
 | .less=>decide ((a:Int)<(b:Int))
 | _=>decide (jJ a w<jJ b w)
noncomputable def wY(wd:Wd)(w a b:Nat):Nat:=match wd with
 | .and=>a&&&b
 | .or=>a|||b
 | .xor=>a^^^b
 | .add=>rs ((a:Nat)+(b:Nat):Int) w
 | .sub=>rs ((a:Nat)-(b:Nat):Int) w
 | _=>rs ((a:Nat)*(b:Nat):Int) w
noncomputable def g0(l:List Nat)(i:Nat):Nat:=l.getD i 0
noncomputable def cM(r:Rw)(ws ns:List Nat):Nat:=match r.wd with
 | .in=>0
 | .num=>g0 r.args 0
 | .not=>2^r.w-1-g0 ns 0
 | .left | .right | .slide=>shV r.wd r.w (g0 ns 0) (g0 r.args 1)
 | .cut=>g0 ns 0%2^r.w
 | .wide=>g0 ns 0
 | .sign=>dC (g0 ns 0) (g0 ws 0) r.w
 | .same | .less | .under=>(cmV r.wd (g0 ws 0) (g0 ns 0) (g0 ns 1)).toNat
 | .pick=>if g0 ns 0=1 then g0 ns 1 else g0 ns 2
 | wd=>wY wd r.w (g0 ns 0) (g0 ns 1)
theorem aHc{n w:Nat}(hn:n<2^w):n^^^(2^w-1)=2^w-1-n:=by
 apply xAm;intro i;rw[yAm,cK];have:=nJ hn i;unfold oS at this;rw[this]
 by_cases c:i<w
 ·rw[dqT c,yAn];cases n.testBit i<;>rfl
 ·rw[dqF c,cL hn (by omega)]
  rfl
theorem aFO(d a w:Nat)(bT:1<=w)(hw:w<=64)(S:aE):cl fns (d+1) 51 [.d (.int a),.d (.int w)] S=qq (.d (.int ((a^^^2^(w-1):Nat):Int)),S):=by
 have e1:(w:Int)-1=((w-1:Nat):Int):=by omega
 rw[aU rfl d _ S rfl];have hq52:=eT (show w-1<=100000 by omega)
 simp only[gR1,aHP,cR,e1,hq52,iJ]
theorem aCj{C:Calls}{env:aZ}{S:aE}{i:Nat}{b:Bool}(h:env[i]? = qq (qq (.d (.bool b)))):ev C (.ite (.var i) (.int 1) (.int 0)) env S=qq (.d (.int ((b.toNat:Nat):Int)),S):=by
 cases b
 ·simp only[gS0,h]
 ·simp only[gS0,h]
theorem aLT(d:Nat)(wd:Wd)(aJ:wd=.same\/wd=.less\/wd=.under)(w a b:Nat)(bT:1<=w)(hw:w<=64)(ha:a<2^w)(hb:b<2^w)(S:aE):cl fns (d+2) 52 [.d (.str wd.s),.d (.int w),.d (.int a),.d (.int b)] S=qq (.d (.int (((cmV wd w a b).toNat:Nat):Int)),S):=by
 have t1:=cP (C:=aC fns (d+1)) (i:=0) (S:=S) (x:="same") (env:=[qq (.d (.str wd.s)),qq (.d (.int w)),qq (.d (.int a)),qq (.d (.int b)),qz]) rfl (bN wd .same);have t2:=cP (C:=aC fns (d+1)) (i:=0) (S:=S) (x:="less") (env:=[qq (.d (.str wd.s)),qq (.d (.int w)),qq (.d (.int a)),qq (.d (.int b)),qz]) rfl (bN wd .less);have e:(a==b)=decide (a=b):=by rw[yEn,beq_iff_eq,decide_eq_true_eq]
 rcases aJ with rfl | rfl | rfl
 ·refine cH (S1:=S) rfl (d+1) rfl rfl yAe (oH (oA t1 (kS (w:=.d (.bool (decide (a=b)))) ?_)) (bK (aCj rfl)));simp only[gS0,bO,jO,e]
 ·refine cH (S1:=S) rfl (d+1) rfl rfl yAe (oH (vM t1 (aDi (oA t2 (kS (w:=.d (.bool (decide ((a:Int)<(b:Int))))) ?_)))) (bK (aCj rfl)));simp only[gS0,dY]
 ·refine cH (S1:=S) rfl (d+1) rfl rfl yAe (oH (vM t1 (aDi (vM t2 (kS (w:=.d (.bool (decide (jJ a w<jJ b w)))) ?_)))) (bK (aCj rfl)));have e2:decide (tw a w<tw b w)=decide (jJ a w<jJ b w):=by
   rw[decide_eq_decide];unfold tw;omega
  simp only[gS0,aFO d a w bT hw,aFO d b w bT hw,dY,aCV ha bT,aCV hb bT,e2]
theorem aFW(n w:Nat):n&&&(2^w-1)=n%2^w:=yEc n w
theorem aLX(d:Nat)(wd:Wd)(aJ:wd=.left\/wd=.right\/wd=.slide)(w a k:Nat)(bT:1<=w)(hw:w<=64)(ha:a<2^w)(hk:k<=900)(S:aE):cl fns (d+3) 53 [.d (.str wd.s),.d (.int w),.d (.int a),.d (.int k)] S=qq (.d (.int ((shV wd w a k:Nat):Int)),S):=by
 have t1:=cP (C:=aC fns (d+2)) (i:=0) (S:=S) (x:="left") (env:=[qq (.d (.str wd.s)),qq (.d (.int w)),qq (.d (.int a)),qq (.d (.int k))]) rfl (bN wd .left);have t2:=cP (C:=aC fns (d+2)) (i:=0) (S:=S) (x:="right") (env:=[qq (.d (.str wd.s)),qq (.d (.int w)),qq (.d (.int a)),qq (.d (.int k))]) rfl (bN wd .right);have e1:(w:Int)+(k:Int)=((w+k:Nat):Int):=by omega
 rcases aJ with rfl | rfl | rfl
 ·refine cH (S1:=S) rfl (d+2) rfl rfl yAe (bY t1 (bK ?_));have hq53:=rD ha (show w+k<=100000 by omega)
  have hq54:=cQ (d+1) w (by omega)
  simp only[gS0,hq53,hq54,dJ,aFW]
 ·refine cH (S1:=S) rfl (d+2) rfl rfl yAe (aN t1 (bY t2 (bK ?_)));simp only[gS0,eU]
 ·refine cH (S1:=S) rfl (d+2) rfl rfl yAe (aN t1 (aN t2 (bK ?_)));have hq55:=qN d a w (w+k) S (by omega) (by omega) hw
  simp only[gS0,dR,e1,hq55,eU]
theorem aLO(d:Nat)(wd:Wd)(aJ:(wd=.and\/wd=.or\/wd=.xor)\/wd=.add\/wd=.sub\/wd=.mul)(w a b:Nat)(hw:w<=64)(ha:a<2^w)(S:aE):cl fns (d+2) 54 [.d (.str wd.s),.d (.int w),.d (.int a),.d (.int b)] S=qq (.d (.int ((wY wd w a b:Nat):Int)),S):=by
 have t:∀ (x:Str) (v:Wd),x=v.s->tv (aC fns (d+1)) (.cmp .Eq (.var 0) (.str x)) [qq (.d (.str wd.s)),qq (.d (.int w)),qq (.d (.int a)),qq (.d (.int b))] S=qq (decide (wd=v),S):=λ x v hx=>by
  subst hx;exact cP rfl (bN wd v)
 have t1:=t "and" .and rfl;have t2:=t "or" .or rfl;have t3:=t "xor" .xor rfl;have t4:=t "add" .add rfl;have t5:=t "sub" .sub rfl;have h64:=p64 ha hw;rcases aJ with (rfl | rfl | rfl) | rfl | rfl | rfl
 ·refine cH (S1:=S) rfl (d+1) rfl rfl yAe (bY t1 (bK ?_));simp only[gS0,dJ]
 ·refine cH (S1:=S) rfl (d+1) rfl rfl yAe (aN t1 (bY t2 (bK ?_)));simp only[gS0,eX]
 ·refine cH (S1:=S) rfl (d+1) rfl rfl yAe (aN t1 (aN t2 (bY t3 (bK ?_))));simp only[gS0,iJ]
 ·refine cH (S1:=S) rfl (d+1) rfl rfl yAe (aN t1 (aN t2 (aN t3 (bY t4 (bK ?_)))));have hq56:=cQ d w (by omega)
  simp only[gS0,dR,hq56,xS]
 ·refine cH (S1:=S) rfl (d+1) rfl rfl yAe (aN t1 (aN t2 (aN t3 (aN t4 (bY t5 (bK ?_))))));have hq57:=cQ d w (by omega)
  simp only[gS0,cR,hq57,xS]
 ·refine cH (S1:=S) rfl (d+1) rfl rfl yAe (aN t1 (aN t2 (aN t3 (aN t4 (aN t5 (bK ?_))))));have hq58:=nH (i:=((a:Nat):Int)) (j:=((b:Nat):Int)) (by omega) (by omega)
  have hq59:=cQ d w (by omega)
  simp only[gS0,hq58,hq59,xS]
section
variable (C : Calls)(R Wi Fs : D)(v : Int)(S : aE)(wd : Wd)
theorem sB:tv C (.cmp .Eq (.var 3) (.str "cut")) (oe R Wi Fs wd v) S=qq (decide (wd=.cut),S):=cP rfl (bN wd .cut)
theorem uQ:tv C (.cmp .Eq (.var 3) (.str "wide")) (oe R Wi Fs wd v) S=qq (decide (wd=.wide),S):=cP rfl (bN wd .wide)
theorem aAk:tv C (.cmp .Eq (.var 3) (.str "sign")) (oe R Wi Fs wd v) S=qq (decide (wd=.sign),S):=cP rfl (bN wd .sign)
end
noncomputable def aAM:Sx:=cJ (cJ aDn)
noncomputable def aJd:E:=reS (fQ (cJ (cJ (cJ (cJ (cJ (cJ (cJ (cJ aAM)))))))))
theorem aPM{wd:Wd}(aJ:(wd=.and\/wd=.or\/wd=.xor)\/wd=.add\/wd=.sub\/wd=.mul):¬ wd=.num/\¬ wd=.not/\¬ (wd=.left\/wd=.right\/wd=.slide)/\¬ wd=.cut/\¬ wd=.wide/\¬ wd=.sign/\¬ (wd=.same\/wd=.less\/wd=.under)/\¬ wd=.pick:=by
 rcases aJ with (rfl | rfl | rfl) | rfl | rfl | rfl<;>decide
theorem aMY{C:Calls}{R Wi Ns:D}{v:Int}{S:aE}{x:D}(wd:Wd)(aJ:(wd=.and\/wd=.or\/wd=.xor)\/wd=.add\/wd=.sub\/wd=.mul)(h:ev C aJd (oe R Wi Ns wd v) S=qq (.d x,S)):xs C aAM (oe R Wi Ns wd v) S=qq (.rt (.d x),S):=by
 have t1:=fJ C R Wi Ns v S wd;have t2:=gO C R Wi Ns v S wd;have t3:=iY C R Wi Ns v S wd;have t4:=sB C R Wi Ns v S wd;have t5:=uQ C R Wi Ns v S wd;have t6:=aAk C R Wi Ns v S wd;have t7:=pM C R Wi Ns v S wd;have t8:=uJ C R Wi Ns v S wd;obtain⟨n1,n2,n3,n4,n5,n6,n7,n8⟩:=aPM aJ;rw[dqF n1] at t1;rw[dqF n2] at t2;rw[dqF n3] at t3;rw[dqF n4] at t4;rw[dqF n5] at t5;rw[dqF n6] at t6;rw[dqF n7] at t7;rw[dqF n8] at t8;exact aN t1 (aN t2 (aN t3 (aN t4 (aN t5 (aN t6 (aN t7 (aN t8 (bK h))))))))
theorem aQL{wd:Wd}(aJ:wd=.same\/wd=.less\/wd=.under):¬ wd=.num/\¬ wd=.not/\¬ (wd=.left\/wd=.right\/wd=.slide)/\¬ wd=.cut/\¬ wd=.wide/\¬ wd=.sign:=by
 rcases aJ with rfl | rfl | rfl<;>decide
theorem lZ(d:Nat){x R Wi Ns:D}{wd:Wd}{v:Nat}(S:aE)(e0:aH R (.int 0)=qq (.str wd.s))(e1:aH R (.int 1)=qq (.int v))(k:xs (aC fns (d+3)) aAM (oe R Wi Ns wd (v:Nat)) S=qq (.rt (.d x),S)):cl fns (d+4) 55 [.d R,.d Wi,.d Ns] S=qq (.d x,S):=
 cH (S1:=S) rfl (d+3) rfl rfl yAe (cG (S1:=S) (eB rfl e0) rfl (cG (S1:=S) (eB rfl e1) rfl k))
section
variable (d : Nat)(S : aE)(R Wi Ns : D)(w : Nat)(e1 : aH R (.int 1) = qq (.int (w : Nat)))
include e1
theorem aSZ(n:Nat)(e0:aH R (.int 0)=qq (.str "num"))(e2:aH R (.int 2)=qq (.int n)):cl fns (d+4) 55 [.d R,.d Wi,.d Ns] S=qq (.d (.int n),S):=
 lZ d (wd:=.num) S e0 e1 (bY (fJ (aC fns (d+3)) R Wi Ns (w:Nat) S .num) (bK (eB rfl e2)))
theorem aTd(x:Nat)(hw:w<=64)(hx:x<2^w)(e0:aH R (.int 0)=qq (.str "not"))(i0:aH Ns (.int 0)=qq (.int x)):cl fns (d+4) 55 [.d R,.d Wi,.d Ns] S=qq (.d (.int ((2^w-1-x:Nat):Int)),S):=by
 refine lZ d (wd:=.not) S e0 e1 (aN (fJ (aC fns (d+3)) R Wi Ns (w:Nat) S .not) (bY (gO (aC fns (d+3)) R Wi Ns (w:Nat) S .not) (bK ?_)));have hq60:=cQ (d+2) w (by omega)
 simp only[gS0,i0,hq60,iJ,aHc hx]
theorem aVJ(wd:Wd)(aJ:wd=.left\/wd=.right\/wd=.slide)(x k:Nat)(bT:1<=w)(hw:w<=64)(hx:x<2^w)(hk:k<64)(e0:aH R (.int 0)=qq (.str wd.s))(e3:aH R (.int 3)=qq (.int k))(i0:aH Ns (.int 0)=qq (.int x)):cl fns (d+4) 55 [.d R,.d Wi,.d Ns] S=qq (.d (.int ((shV wd w x k:Nat):Int)),S):=by
 have t1:=fJ (aC fns (d+3)) R Wi Ns (w:Nat) S wd;have t2:=gO (aC fns (d+3)) R Wi Ns (w:Nat) S wd;have t3:=iY (aC fns (d+3)) R Wi Ns (w:Nat) S wd;rw[dqT aJ] at t3;rw[dqF (by rcases aJ with rfl | rfl | rfl<;>decide)] at t1 t2
 refine lZ d (wd:=wd) S e0 e1 (aN t1 (aN t2 (bY t3 (bK ?_))));have hq61:=aLX d wd aJ w x k bT hw hx (by omega)
 simp only[gS0,i0,e3,hq61]
theorem aSI(x:Nat)(hw:w<=64)(e0:aH R (.int 0)=qq (.str "cut"))(i0:aH Ns (.int 0)=qq (.int x)):cl fns (d+4) 55 [.d R,.d Wi,.d Ns] S=qq (.d (.int ((x%2^w:Nat):Int)),S):=by
 refine lZ d (wd:=.cut) S e0 e1 (aN (fJ (aC fns (d+3)) R Wi Ns (w:Nat) S .cut) (aN (gO (aC fns (d+3)) R Wi Ns (w:Nat) S .cut) (aN (iY (aC fns (d+3)) R Wi Ns (w:Nat) S .cut) (bY (sB (aC fns (d+3)) R Wi Ns (w:Nat) S .cut) (bK ?_)))));have hq62:=cQ (d+2) w (by omega)
 simp only[gS0,i0,hq62,dJ,aFW]
theorem aQj(x:Nat)(e0:aH R (.int 0)=qq (.str "wide"))(i0:aH Ns (.int 0)=qq (.int x)):cl fns (d+4) 55 [.d R,.d Wi,.d Ns] S=qq (.d (.int x),S):=
 lZ d (wd:=.wide) S e0 e1 (aN (fJ (aC fns (d+3)) R Wi Ns (w:Nat) S .wide) (aN (gO (aC fns (d+3)) R Wi Ns (w:Nat) S .wide) (aN (iY (aC fns (d+3)) R Wi Ns (w:Nat) S .wide) (aN (sB (aC fns (d+3)) R Wi Ns (w:Nat) S .wide) (bY (uQ (aC fns (d+3)) R Wi Ns (w:Nat) S .wide) (bK (eB rfl i0)))))))
theorem aP6(x v:Nat)(hv:1<=v)(hvw:v<=w)(hw:w<=64)(e0:aH R (.int 0)=qq (.str "sign"))(i0:aH Ns (.int 0)=qq (.int x))(j0:aH Wi (.int 0)=qq (.int v)):cl fns (d+4) 55 [.d R,.d Wi,.d Ns] S=qq (.d (.int ((dC x v w:Nat):Int)),S):=by
 refine lZ d (wd:=.sign) S e0 e1 (aN (fJ (aC fns (d+3)) R Wi Ns (w:Nat) S .sign) (aN (gO (aC fns (d+3)) R Wi Ns (w:Nat) S .sign) (aN (iY (aC fns (d+3)) R Wi Ns (w:Nat) S .sign) (aN (sB (aC fns (d+3)) R Wi Ns (w:Nat) S .sign) (aN (uQ (aC fns (d+3)) R Wi Ns (w:Nat) S .sign) (bY (aAk (aC fns (d+3)) R Wi Ns (w:Nat) S .sign) (bK ?_)))))));have hq63:=qN (d+1) x v w S (by omega) (by omega) (by omega)
 simp only[gS0,i0,j0,hq63]
theorem aHQ(wd:Wd)(aJ:(wd=.and\/wd=.or\/wd=.xor)\/wd=.add\/wd=.sub\/wd=.mul)(x y:Nat)(hw:w<=64)(hx:x<2^w)(e0:aH R (.int 0)=qq (.str wd.s))(i0:aH Ns (.int 0)=qq (.int x))(i1:aH Ns (.int 1)=qq (.int y)):cl fns (d+4) 55 [.d R,.d Wi,.d Ns] S=qq (.d (.int ((wY wd w x y:Nat):Int)),S):=by
 refine lZ d (wd:=wd) S e0 e1 (aMY wd aJ ?_);simp only[gS6,aJd,aAM,cJ,fQ,reS,aDn,i0,i1,aLO (d+1) wd aJ w x y hw hx]
theorem aRg(wd:Wd)(aJ:wd=.same\/wd=.less\/wd=.under)(x y v:Nat)(hv1:1<=v)(hv:v<=64)(hx:x<2^v)(hy:y<2^v)(e0:aH R (.int 0)=qq (.str wd.s))(i0:aH Ns (.int 0)=qq (.int x))(i1:aH Ns (.int 1)=qq (.int y))(j0:aH Wi (.int 0)=qq (.int v)):cl fns (d+4) 55 [.d R,.d Wi,.d Ns] S=qq (.d (.int (((cmV wd v x y).toNat:Nat):Int)),S):=by
 have t1:=fJ (aC fns (d+3)) R Wi Ns (w:Nat) S wd;have t2:=gO (aC fns (d+3)) R Wi Ns (w:Nat) S wd;have t3:=iY (aC fns (d+3)) R Wi Ns (w:Nat) S wd;have t4:=sB (aC fns (d+3)) R Wi Ns (w:Nat) S wd;have t5:=uQ (aC fns (d+3)) R Wi Ns (w:Nat) S wd;have t6:=aAk (aC fns (d+3)) R Wi Ns (w:Nat) S wd;have t7:=pM (aC fns (d+3)) R Wi Ns (w:Nat) S wd;obtain⟨n1,n2,n3,n4,n5,n6⟩:=aQL aJ;rw[dqT aJ] at t7;rw[dqF n1] at t1;rw[dqF n2] at t2;rw[dqF n3] at t3;rw[dqF n4] at t4;rw[dqF n5] at t5;rw[dqF n6] at t6;refine lZ d (wd:=wd) S e0 e1 (aN t1 (aN t2 (aN t3 (aN t4 (aN t5 (aN t6 (bY t7 (bK ?_))))))));simp only[gS0,i0,i1,j0,aLT (d+1) wd aJ v x y hv1 hv hx hy]
theorem aPN(z x y:Nat)(e0:aH R (.int 0)=qq (.str "pick"))(i0:aH Ns (.int 0)=qq (.int z))(i1:aH Ns (.int 1)=qq (.int x))(i2:aH Ns (.int 2)=qq (.int y)):cl fns (d+4) 55 [.d R,.d Wi,.d Ns] S=qq (.d (.int (((if z=1 then x else y):Nat):Int)),S):=by
 refine lZ d (wd:=.pick) S e0 e1 (aN (fJ (aC fns (d+3)) R Wi Ns (w:Nat) S .pick) (aN (gO (aC fns (d+3)) R Wi Ns (w:Nat) S .pick) (aN (iY (aC fns (d+3)) R Wi Ns (w:Nat) S .pick) (aN (sB (aC fns (d+3)) R Wi Ns (w:Nat) S .pick) (aN (uQ (aC fns (d+3)) R Wi Ns (w:Nat) S .pick) (aN (aAk (aC fns (d+3)) R Wi Ns (w:Nat) S .pick) (aN (pM (aC fns (d+3)) R Wi Ns (w:Nat) S .pick) (bY (uJ (aC fns (d+3)) R Wi Ns (w:Nat) S .pick) (bK ?_)))))))))
 by_cases q:z=1
 ·have d1:(z==1)=true:=by rw[beq_iff_eq];exact q
  rw[if_pos q];simp only[gS0,i0,i1,bO,lP,d1]
 ·have d1:(z==1)=false:=by rw[beq_eq_false_iff_ne];exact q
  rw[if_neg q];simp only[gS0,i0,i2,bO,lP,d1]
end
theorem aP4{r:Rw}{ws ns:List Nat}(h:RwOk r ws)(hi:r.wd≠.in)(hl:mW ws ns)(d:Nat)(S:aE):cl fns (d+4) 55 [.d r.d,.d (.tuple (ws.map nD)),.d (.tuple (ns.map nD))] S=qq (.d (.int ((cM r ws ns:Nat):Int)),S):=by
 cases h with
 | inp=>exact absurd rfl hi
 | num h1 h2 hn=>exact aSZ d S _ _ _ _ rfl _ rfl rfl
 | nt h1 h2 =>
   obtain⟨x,rfl,hx⟩:=eP hl;exact aTd d S _ _ _ _ rfl x h2 hx rfl rfl
 | sh h1 h2 aJ hk =>
   rename_i wd w a k;obtain⟨x,rfl,hx⟩:=eP hl;have ev':cM ⟨wd,w,[a,k]⟩ [w] [x]=shV wd w x k:=by rcases aJ with rfl | rfl | rfl<;>rfl
   rw[ev'];exact aVJ d S _ _ _ w rfl wd aJ x k h1 h2 hx hk rfl rfl rfl
 | cut h1 hv h2 =>
   obtain⟨x,rfl,hx⟩:=eP hl;exact aSI d S _ _ _ _ rfl x (xAi hv h2) rfl rfl
 | wide h1 hv h2 =>
   obtain⟨x,rfl,hx⟩:=eP hl;exact aQj d S _ _ _ _ rfl x rfl rfl
 | sign h1 hv h2 =>
   obtain⟨x,rfl,hx⟩:=eP hl;exact aP6 d S _ _ _ _ rfl x _ h1 hv h2 rfl rfl rfl
 | bw h1 h2 aJ =>
   rename_i wd w a b;obtain⟨x,y,rfl,hx,hy⟩:=kB hl;have ev':cM ⟨wd,w,[a,b]⟩ [w,w] [x,y]=wY wd w x y:=by rcases aJ with rfl | rfl | rfl<;>rfl
   rw[ev'];exact aHQ d S _ _ _ w rfl wd (.inl aJ) x y h2 hx rfl rfl rfl
 | sm h1 h2 =>
   rename_i s w a b;obtain⟨x,y,rfl,hx,hy⟩:=kB hl;have aJ:s.wd=.add\/s.wd=.sub\/s.wd=.mul:=by
    cases s
    ·exact .inl rfl
    ·exact .inr (.inl rfl)
    ·exact .inr (.inr rfl)
   have ev':cM ⟨s.wd,w,[a,b]⟩ [w,w] [x,y]=wY s.wd w x y:=by cases s<;>rfl
   rw[ev'];exact aHQ d S _ _ _ w rfl s.wd (.inr aJ) x y h2 hx rfl rfl rfl
 | cmp h1 h2 aJ =>
   rename_i wd v a b;obtain⟨x,y,rfl,hx,hy⟩:=kB hl;have ev':cM ⟨wd,1,[a,b]⟩ [v,v] [x,y]=(cmV wd v x y).toNat:=by rcases aJ with rfl | rfl | rfl<;>rfl
   rw[ev'];exact aRg d S _ _ _ 1 rfl wd aJ x y v h1 h2 hx hy rfl rfl rfl rfl
 | pick h1 h2 =>
   obtain⟨z,x,y,rfl,hz,hx,hy⟩:=aA2 hl;exact aPN d S _ _ _ _ rfl z x y rfl rfl rfl rfl
theorem aIC(wd:Wd):bD wd<=3:=by cases wd<;>decide
theorem zH(S0:aE)(l:List D)(x:D)(h:l.length<=1000):dZ (S0++[qq l]) (.loc S0.length) (.d x)=qq (.d .none,S0++[qq (l++[x])]):=by
 unfold dZ;simp only[yAg (yAb S0.length),yBn,yBo];rw[if_pos (by rw[zq];omega)]
 rw[List.set_append_right _ _ (yAb _),yBn];rfl
theorem lS(S0:aE)(l:List D):(S0++[qq l])[S0.length]? = qq (qq l):=by
 rw[yAg (yAb _),yBn];rfl
noncomputable def aY(r:Rw)(l:List Nat):List Nat:=(r.args.take (bD r.wd)).map (g0 l)
theorem aL0{α:Type}{l:List α}{vs:List D}{f:α->D}(h1:vs.length=l.length)(h2:∀ (i:Nat) (a:α),l[i]? = qq a->∃ v,vs[i]? = qq v/\v=f a):vs=l.map f:=by
 apply List.ext_getElem?;intro i;rw[xAb]
 by_cases c:i<l.length
 ·obtain⟨v,h3,rfl⟩:=h2 i l[i] (yAa c);rw[h3,yAa c];rfl
 ·rw[yEk (by omega),yEk (by omega)]
  rfl
theorem zK(d:Nat)(r:Rw)(w:W)(x:D)(f:Nat->D)(S:aE)(hv:∀ aF,dr (S++[qq aF]) w=qq x)(hx:∀ a∈r.args.take (bD r.wd),aH x (nD a)=qq (f a)):cl fns (d+2) 8 [.d r.d,w] S=qq (.d (.tuple ((r.args.take (bD r.wd)).map f)),S):=by
 have bX:(r.args.take (bD r.wd)).length<=3:=by have:=aIC r.wd;rw[yBv];omega
 obtain⟨vs,S',e1,hS',hI,hvl,hq⟩:=aGR (t:=.one 2) (fi:=lv (aC fns (d+1)) (.it (.call 7 (.cons (.var 0) .nil)))) (fe:=ev (aC fns (d+1)) (.ix (.var 1) (.var 2))) (env:=[qq (.d r.d),qq w,qz]) (S:=S) (S1:=S) nD (λ _ S'=>S'=S) (λ a v=>v=f a) (r.args.take (bD r.wd)) (by
  simp only[evs,pB d,fV]) (by rw[zq];omega) rfl (by
  intro a ha;refine⟨_,rfl,?_⟩;rintro j S' aF hj hS rfl;refine⟨f a,S',?_,rfl,rfl,rfl⟩;have hd:∀ {k:D->Option (W×aE)},(dr (S'++[qq aF]) w).bind k=k x:=λ {k}=>by rw[hv aF];rfl
  simp only[aDy,aAl,oP,f2,iS,gU,clr,Tg.slots,yBm,yCg,yFl,yEi,yCi,yBo,oB,hd];show((aH x (nD a)).bind λ z=>qq (W.d z,S'++[qq aF]))=_
  rw[hx a ha];rfl)
 subst hI;have e2:vs=(r.args.take (bD r.wd)).map f:=aL0 hvl hq;subst e2;have e1':lv (aC fns (d+1)) aEB [qq (.d r.d),qq w,qz] S'=qq ((r.args.take (bD r.wd)).map f,S'):=e1;rw[aU rfl (d+1) _ S' rfl];simp only[gR1,aEY,e1',gJ,gK]
theorem aAy{l:List Nat}{a:Nat}(h:a<l.length):(l.map nD)[a]? = qq (nD (g0 l a)):=by
 rw[xAb,yAa h];show qq (nD l[a])=qq (nD (l.getD a 0));rw[xAh,yAa h];rfl
theorem aHu(d:Nat)(r:Rw)(l:List Nat)(S:aE)(h:∀ a∈r.args.take (bD r.wd),a<l.length):cl fns (d+2) 8 [.d r.d,.d (.tuple (l.map nD))] S=qq (.d (.tuple ((aY r l).map nD)),S):=by
 have:=zK d r (.d (.tuple (l.map nD))) (.tuple (l.map nD)) (λ a=>nD (g0 l a)) S (λ _=>rfl) λ a ha=>gX (aAy (h a ha))
 rw[this,aY,yBu];rfl
theorem aPl(d:Nat)(r:Rw)(l:List Nat)(S0:aE)(h:∀ a∈r.args.take (bD r.wd),a<l.length):cl fns (d+2) 8 [.d r.d,.loc S0.length] (S0++[qq (l.map nD)])=qq (.d (.tuple ((aY r l).map nD)),S0++[qq (l.map nD)]):=by
 have:=zK d r (.loc S0.length) (.list (l.map nD)) (λ a=>nD (g0 l a)) (S0++[qq (l.map nD)]) (λ aF=>by
  show(match (S0++[qq (l.map nD)]++[qq aF])[S0.length]? with | some (qq ds)=>qq (yEf ds) | _=>qz)=_
  rw[yAz,yAg (yAb _),yBn];rfl) λ a ha=>nV (aAy (h a ha))
 rw[this,aY,yBu];rfl
theorem aEU(d:Nat)(rs:List Rw)(o:D)(hl:rs.length<=1000)(S:aE):cl fns (d+1) 10 [.d (rs<*o)] S=qq (.d (.tuple ((~~~rs).map nD)),S):=by
 have i0:aH (rs<*o) (.int 0)=qq (.tuple (rs.map Rw.d)):=rfl;have hc:lv (aC fns d) aEL [qq (.d (rs<*o)),qz] S=qq ((~~~rs).map nD,S):=by
  rw[yBu];refine kP (fi:=lv (aC fns d) (.it (.ix (.var 0) (.int 0)))) (fe:=ev (aC fns d) (.ix (.var 1) (.int 1))) Rw.d (nD ∘ λ r=>r.w) rs ?_ (by rw[zq];omega) λ r hr=>?_
  ·simp only[gS0,i0,fV]
  ·refine⟨_,rfl,λ S'=>?_⟩
   simp only[gS0,clr,yBm,yCg,iO]
 rw[aU rfl d _ S rfl];simp only[gR1,aFv,hc,gJ,gK]
noncomputable def bR:List Rw->List Nat->Prop
 | [],is=>is=[]
 | r::rs,is=>if r.wd=.in then ∃ n is',is=n::is'/\n<2^r.w/\bR rs is' else bR rs is
def vU(rs:List Rw):Prop:=∀ (j:Nat) (r:Rw),rs[j]? = qq r->RwOk r (aY r (~~~rs))/\∀ a∈r.args.take (bD r.wd),a<j
theorem uD{W aF:List Nat}(h:∀ (i a w:Nat),aF[i]? = qq a->W[i]? = qq w->a<2^w):∀ (l:List Nat),(∀ a∈l,a<aF.length/\a<W.length)->mW (l.map (g0 W)) (l.map (g0 aF))
 | [],_=>True.intro
 | a::l,hl=>by
   obtain⟨h1,h2⟩:=hl a xAd;refine⟨h a _ _ ?_ ?_,uD h l λ b hb=>hl b (xAg _ hb)⟩
   ·show aF[a]? = qq (aF.getD a 0);rw[xAh,yAa h1];rfl
   ·show W[a]? = qq (W.getD a 0);rw[xAh,yAa h2];rfl
theorem aIZ{r:Rw}{ws ns:List Nat}(h:RwOk r ws)(hl:mW ws ns):cM r ws ns<2^r.w:=by
 have hp:=xAf r.w;cases h with
 | inp=>exact hp
 | num h1 h2 hn=>exact hn
 | nt =>
   obtain⟨x,rfl,hx⟩:=eP hl;exact xAj (yGx _ _) (by omega)
 | sh h1 h2 aJ hk =>
   obtain⟨x,rfl,hx⟩:=eP hl;rcases aJ with rfl | rfl | rfl
   ·exact Nat.mod_lt _ hp
   ·exact xAj (Nat.div_le_self _ _) hx
   ·rename_i w a k;show dC x w (w+k)/2^k<2^w;rw[yEo (xAf k),<- yEz];exact tI hx h1 (by omega)
 | cut=>exact Nat.mod_lt _ hp
 | wide h1 hv h2 =>
   obtain⟨x,rfl,hx⟩:=eP hl;exact xAc hx (yAr (by decide) hv)
 | sign h1 hv h2 =>
   obtain⟨x,rfl,hx⟩:=eP hl;exact tI hx h1 hv
 | bw h1 h2 aJ =>
   obtain⟨x,y,rfl,hx,hy⟩:=kB hl;rcases aJ with rfl | rfl | rfl
   ·exact xAj yCp hx
   ·exact yBl hx hy
   ·exact yBw hx hy
 | sm h1 h2 =>
   obtain⟨x,y,rfl,hx,hy⟩:=kB hl;rename_i s w a b;cases s
   ·exact oI (((x:Nat):Int)+((y:Nat):Int)) w
   ·exact oI (((x:Nat):Int)-((y:Nat):Int)) w
   ·exact oI (((x:Nat):Int)*((y:Nat):Int)) w
 | cmp h1 h2 aJ =>
   have q:∀ b:Bool,b.toNat<2^1:=λ b=>by cases b<;>decide
   rcases aJ with rfl | rfl | rfl<;>exact q _
 | pick h1 h2 =>
   obtain⟨z,x,y,rfl,hz,hx,hy⟩:=aA2 hl;show(if z=1 then x else y)<_
   split
   ·exact hx
   ·exact hy
theorem zB{α:Type}{l:List α}{j:Nat}{a:α}(h:l[j]? = qq a):l.drop j=a::l.drop (j+1):=by
 obtain⟨hl,rfl⟩:=gIm h;exact yCa hl
noncomputable def cI:List Rw->List Nat->List Nat->List Nat->List Nat
 | [],_,_,aF=>aF
 | r::rs,W,is,aF=>if r.wd=.in then cI rs W is.tail (aF++[g0 is 0]) else cI rs W is (aF++[cM r (aY r W) (aY r aF)])
structure Prg(rs:List Rw):Prop where
 l:rs.length<=100
 fit:vU rs
 ins:∃ is,bR rs is
 ws:∀ (j:Nat) (r:Rw),rs[j]? = qq r->1<=r.w/\r.w<=64
theorem lY{l:List Nat}{a:Nat}(h:a<l.length):l[a]? = qq (g0 l a):=by
 show l[a]? = qq (l.getD a 0);rw[xAh,yAa h];rfl
theorem aCg:∀ (rs:List Rw) (W is aF:List Nat),∃ t,cI rs W is aF=aF++t
 | [],W,is,aF=>⟨[],by simp[cI]⟩
 | r::rs,W,is,aF=>by
   unfold cI
   split
   ·obtain⟨t,h⟩:=aCg rs W is.tail (aF++[g0 is 0]);exact⟨[g0 is 0]++t,by rw[h,yAz]⟩
   ·obtain⟨t,h⟩:=aCg rs W is (aF++[cM r (aY r W) (aY r aF)]);exact⟨[cM r (aY r W) (aY r aF)]++t,by rw[h,yAz]⟩
theorem aCJ:∀ (rs:List Rw) (W is aF:List Nat) (j:Nat) (r:Rw),rs[j]? = qq r->r.wd≠.in->(cI rs W is aF)[aF.length+j]? = qq (cM r (aY r W) (aY r ((cI rs W is aF).take (aF.length+j))))
 | [],W,is,aF,j,r,h,_=>by simp at h
 | q::rs,W,is,aF,0,r,h,hw=>by
   cases h;unfold cI;rw[if_neg hw];obtain⟨t,ht⟩:=aCg rs W is (aF++[cM q (aY q W) (aY q aF)]);rw[ht,Nat.add_zero,yAz,yDo,yAg (yAb _),yBn];rfl
 | q::rs,W,is,aF,j+1,r,h,hw=>by
   have h':rs[j]? = qq r:=by simpa using h
   unfold cI
   split
   ·have:=aCJ rs W is.tail (aF++[g0 is 0]) j r h' hw;rw[xAo,show aF.length+[g0 is 0].length+j=aF.length+(j+1) by simp;omega] at this
    exact this
   ·have:=aCJ rs W is (aF++[cM q (aY q W) (aY q aF)]) j r h' hw;rw[xAo,show aF.length+[cM q (aY q W) (aY q aF)].length+j=aF.length+(j+1) by simp;omega] at this
    exact this
theorem aGC{r:Rw}{l:List Nat}{m:Nat}(h:∀ a∈r.args.take (bD r.wd),a<m):aY r (l.take m)=aY r l:=by
 unfold aY;refine yCf λ a ha=>?_
 show(l.take m).getD a 0=l.getD a 0;rw[xAh,xAh,yDr (h a ha)]
theorem aSB{rs:List Rw}(hf:vU rs)(is:List Nat){j:Nat}{r:Rw}(hr:rs[j]? = qq r)(hw:r.wd≠.in):(cI rs (~~~rs) is [])[j]? = qq (cM r (aY r (~~~rs)) (aY r (cI rs (~~~rs) is []))):=by
 have:=aCJ rs (~~~rs) is [] j r hr hw;rw[yCo,yEb,aGC (hf j r hr).2] at this;exact this
theorem aB7:∀ (rs:List Rw) (W is aF:List Nat),(cI rs W is aF).length=aF.length+rs.length
 | [],_,_,_=>rfl
 | r::rs,W,is,aF=>by
   unfold cI
   split
   ·rw[aB7 rs,xAo];simp;omega
   ·rw[aB7 rs,xAo];simp;omega
theorem aHi{W aF:List Nat}{z w:Nat}(h:∀ (i a w:Nat),aF[i]? = qq a->W[i]? = qq w->a<2^w)(hw:W[aF.length]? = qq w)(hz:z<2^w):∀ (i a w:Nat),(aF++[z])[i]? = qq a->W[i]? = qq w->a<2^w:=λ i a v h1 h2=>by
 by_cases c:i<aF.length
 ·rw[xAn c] at h1;exact h i a v h1 h2
 ·have ci:i=aF.length:=by
   have:=(gIm h1).1;simp at this;omega
  subst ci;rw[yAg (yAb _),yBn] at h1;cases h1;rw[hw] at h2;cases h2;exact hz
theorem aCH{rs0:List Rw}(hf:vU rs0):∀ (rs:List Rw) (is aF:List Nat),rs=rs0.drop aF.length->bR rs is->(∀ (i a w:Nat),aF[i]? = qq a->(rs0.map (·.w))[i]? = qq w->a<2^w)->∀ (i a w:Nat),(cI rs (rs0.map (·.w)) is aF)[i]? = qq a->(rs0.map (·.w))[i]? = qq w->a<2^w
 | [],is,aF,_,_,hb=>hb
 | r::rs,is,aF,hd,hi,hb=>by
   have hr:rs0[aF.length]? = qq r:=by
    have:=congrArg (λ l=>l[0]?) hd
    simp only[yBo,List.getElem?_drop,Nat.add_zero] at this;exact this.symm
   have hd':∀ z:Nat,rs=rs0.drop (aF++[z]).length:=λ z=>by
    rw[xAo,yEj];have:=congrArg List.tail hd;rw[List.tail_drop] at this;exact this
   have hw:(rs0.map (·.w))[aF.length]? = qq r.w:=by rw[xAb,hr];rfl
   have hj:aF.length<rs0.length:=(gIm hr).1;unfold cI
   split
   ·rename_i c;rw[bR,if_pos c] at hi;obtain⟨n,is',rfl,hn,hi'⟩:=hi;exact aCH hf rs is' (aF++[n]) (hd' n) hi' (aHi hb hw hn)
   ·rename_i c;rw[bR,if_neg c] at hi;obtain⟨f1,f2⟩:=hf _ r hr;have lt:=uD hb (r.args.take (bD r.wd)) λ a ha=>⟨f2 a ha,by have:=f2 a ha;rw[yAd];omega⟩
    exact aCH hf rs is _ (hd' _) hi (aHi hb hw (aIZ f1 lt))
theorem qZ{rs:List Rw}(p:Prg rs){is:List Nat}(hi:bR rs is):(cI rs (~~~rs) is []).length=rs.length:=by
 rw[aB7];simp
theorem aAj{rs:List Rw}(p:Prg rs){is:List Nat}(hi:bR rs is){i a w:Nat}(h1:(cI rs (~~~rs) is [])[i]? = qq a)(h2:(~~~rs)[i]? = qq w):a<2^w:=aCH p.fit rs is [] rfl hi (λ i a w h=>by simp at h) i a w h1 h2
noncomputable def cB:List Rw->List Nat->List Nat->List Nat->List Nat->List Nat
 | r::rs,W,is,m::ms,aF=>if r.wd=.in then cB rs W is.tail ms (aF++[g0 is 0^^^m]) else cB rs W is ms (aF++[cM r (aY r W) (aY r aF)^^^m])
 | _,_,_,_,aF=>aF
structure MsOk(rs:List Rw)(ms:List Nat):Prop where
 l:ms.length=rs.length
 lt:∀ (j:Nat) (r:Rw) (m:Nat),rs[j]? = qq r->ms[j]? = qq m->m<2^r.w
theorem yI(d:Nat)(rs:List Rw)(o:D)(is ms:List Nat)(hl:rs.length<=100)(hf:vU rs)(hi:bR rs is)(hm:MsOk rs ms)(S:aE):cl fns (d+6) 56 [.d (rs<*o),.d (.tuple (is.map nD)),.d (.tuple (ms.map nD))] S=qq (.d (.tuple ((cB rs (~~~rs) is ms []).map nD)),S)/\(cB rs (~~~rs) is ms []).length=rs.length/\∀ (i a w:Nat),(cB rs (~~~rs) is ms [])[i]? = qq a->(~~~rs)[i]? = qq w->a<2^w:=by
 have i0:aH (rs<*o) (.int 0)=qq (.tuple (rs.map Rw.d)):=rfl;obtain⟨P,hP⟩:∃ P:D,P=(rs<*o):=⟨_,rfl⟩;have wo:=aEU (d+4) rs o (by omega)
 rw[<- hP] at i0 wo ⊢;obtain⟨aI,S',p1,aF,tk,c6,c7,c8,rfl,rfl,al,ar,ai,ab⟩:=mE (t:=.many [6,7]) (fi:=lv (aC fns (d+5)) yH) (fb:=xs (aC fns (d+5)) tL) (env:=[qq (.d P),qq (.d (.tuple (is.map nD))),qq (.d (.tuple (ms.map nD))),qq (.d (.tuple ((~~~rs).map nD))),qq (.loc S.length),qq (.d (.int 0)),qz,qz,qz]) (S:=S++[qq []]) (S1:=S++[qq []]) (ds:=cV (rs.map Rw.d) (ms.map nD))
  (λ j env S'=>∃ (aF:List Nat) (tk:Nat) (c6 c7 c8:Option W),env=[qq (.d P),qq (.d (.tuple (is.map nD))),qq (.d (.tuple (ms.map nD))),qq (.d (.tuple ((~~~rs).map nD))),qq (.loc S.length),qq (.d (.int tk)),c6,c7,c8]/\S'=S++[qq (aF.map nD)]/\aF.length=j/\cB (rs.drop j) (~~~rs) (is.drop tk) (ms.drop j) aF=cB rs (~~~rs) is ms []/\bR (rs.drop j) (is.drop tk)/\∀ (i a w:Nat),aF[i]? = qq a->(~~~rs)[i]? = qq w->a<2^w)
  (by simp only[evs,yH,i0]) ⟨[],0,qz,qz,qz,rfl,rfl,rfl,rfl,hi,by simp⟩ (by
    rintro j dd env S' hd ⟨aF,tk,c6,c7,c8,rfl,rfl,al,ar,ai,ab⟩;obtain⟨a0,b0,ha,hb,rfl⟩:=zE _ _ j dd hd;rw[xAb] at ha hb;obtain⟨r,hr,rfl⟩:=Option.map_eq_some_iff.mp ha;obtain⟨m,hmj,rfl⟩:=Option.map_eq_some_iff.mp hb;have hmlt:=hm.lt j r m hr hmj;obtain⟨f1,f2⟩:=hf j r hr;have hj:j<rs.length:=(gIm hr).1;have hw:(~~~rs)[j]? = qq r.w:=by rw[xAb,hr];rfl
    have hWl:(~~~rs).length=rs.length:=yAd ..;rw[zB hr] at ar ai;rw[zB hmj] at ar;have more:∀ z:Nat,z<2^r.w->∀ (i a w:Nat),(aF++[z^^^m])[i]? = qq a->(~~~rs)[i]? = qq w->a<2^w:=λ z hz i a w h1 h2=>by
     by_cases c:i<aF.length
     ·rw[xAn c] at h1;exact ab i a w h1 h2
     ·have ci:i=j:=by
       have:=(gIm h1).1;simp at this;omega
      subst ci;rw[yAg (by omega),show i-aF.length=0 by omega] at h1
      cases h1;rw[hw] at h2;cases h2;exact yBw hz hmlt
    have ap:∀ z:Nat,dZ (S++[qq (aF.map nD)]) (.loc S.length) (.d (.int z))=qq (.d .none,S++[qq ((aF++[z]).map nD)]):=λ z=>by
     rw[zH S (aF.map nD) _ (by rw[yAd];omega),yCb]
     rfl
    have xo:∀ z:Nat,bP .BitXor (.int z) (nD m)=qq (.int ((z^^^m:Nat):Int)):=λ z=>iJ z m
    by_cases c:r.wd=.in
    ·have t:aV .Eq (.str r.wd.s) (.str "in")=qq (.bool true):=by rw[c];exact bN .in .in
     rw[bR,if_pos c] at ai;obtain⟨n,is',e1,hn,hi'⟩:=ai;rw[cB,if_pos c,e1] at ar;have e2:is'=is.drop (tk+1):=by rw[<- List.tail_drop,e1];rfl
     have e3:aH (.tuple (is.map nD)) (.int tk)=qq (.int n):=gX (by
      have:(is.drop tk)[0]? = qq n:=by rw[e1];rfl
      rw[List.getElem?_drop,Nat.add_zero] at this;rw[xAb,this];rfl)
     have e4:((tk:Nat):Int)+1=((tk+1:Nat):Int):=by omega
     refine⟨_,[qq (.d P),qq (.d (.tuple (is.map nD))),qq (.d (.tuple (ms.map nD))),qq (.d (.tuple ((~~~rs).map nD))),qq (.loc S.length),qq (.d (.int ((tk+1:Nat):Int))),qq (.d r.d),qq (.d (nD m)),qq (.d (.int n))],S++[qq ((aF++[n^^^m]).map nD)],rfl,?_,aF++[n^^^m],tk+1,_,_,_,rfl,rfl,by simp[al],?_,?_,more n hn⟩
     ·simp only[gS1,tL,rY,t,e3,dR,e4,xo,iA,ap]
     ·rw[<- e2,<- ar];rfl
     ·rw[<- e2];exact hi'
    ·have t:aV .Eq (.str r.wd.s) (.str "in")=qq (.bool false):=by
      have:=bN r.wd .in;rw[dqF c] at this;exact this
     rw[bR,if_neg c] at ai;rw[cB,if_neg c] at ar;have lt:=uD ab (r.args.take (bD r.wd)) λ a ha=>⟨by have:=f2 a ha;omega,by have:=f2 a ha;omega⟩
     have o1:=aHu (d+3) r (~~~rs) (S++[qq (aF.map nD)]) λ a ha=>by have:=f2 a ha;omega
     have o2:=aPl (d+3) r aF S λ a ha=>by have:=f2 a ha;omega
     have wk:=aP4 f1 c lt (d+1) (S++[qq (aF.map nD)]);have wl:=aIZ f1 lt;refine⟨_,[qq (.d P),qq (.d (.tuple (is.map nD))),qq (.d (.tuple (ms.map nD))),qq (.d (.tuple ((~~~rs).map nD))),qq (.loc S.length),qq (.d (.int tk)),qq (.d r.d),qq (.d (nD m)),qq (.d (.int ((cM r (aY r (~~~rs)) (aY r aF):Nat):Int)))],S++[qq ((aF++[cM r (aY r (~~~rs)) (aY r aF)^^^m]).map nD)],rfl,?_,_,tk,_,_,_,rfl,rfl,by simp[al],ar,ai,more _ wl⟩
     have wk':cl fns (d+5) 55 [.d r.d,.d (.tuple ((aY r (~~~rs)).map nD)),.d (.tuple ((aY r aF).map nD))] (S++[qq (aF.map nD)])=qq (.d (.int ((cM r (aY r (~~~rs)) (aY r aF):Nat):Int)),S++[qq (aF.map nD)]):=wk;simp only[evs,tL,rY,t,o1,o2,wk',xo,iA,ap])
 have zl:(cV (rs.map Rw.d) (ms.map nD)).length=rs.length:=by
  rw[tH,yAd,yAd,hm.l,Nat.min_self]
 rw[zl] at al ar;rw[yGb] at ar;have ar':aF=cB rs (~~~rs) is ms []:=by
  have e:cB [] (~~~rs) (is.drop tk) (ms.drop rs.length) aF=aF:=by unfold cB;rfl
  rw[<- e];exact ar
 subst ar';refine⟨?_,al,ab⟩;have p1':dQ (.many [6,7]) (lv (aC fns (d+5)) yH) (xs (aC fns (d+5)) tL) [qq (.d P),qq (.d (.tuple (is.map nD))),qq (.d (.tuple (ms.map nD))),qq (.d (.tuple ((~~~rs).map nD))),qq (.loc S.length),qq (.d (.int 0)),qz,qz,qz] (S++[qq []])=qq (.nx [qq (.d P),qq (.d (.tuple (is.map nD))),qq (.d (.tuple (ms.map nD))),qq (.d (.tuple ((~~~rs).map nD))),qq (.loc S.length),qq (.d (.int tk)),c6,c7,c8],S++[qq ((cB rs (~~~rs) is ms []).map nD)]):=p1;have tk1:∀ x,yDj S.length (S++[x])=S:=λ x=>yDo
 rw[aU rfl (d+5) _ S rfl];simp only[gR1,aHx,wo,eY,p1',lS,gJ,gK,tk1]
theorem aPm(rs:List Rw):MsOk rs (yAc rs.length 0):=⟨yBb,λ j r m h1 h2=>by
 rw[yBq] at h2
 split at h2
 ·cases h2;exact xAf _
 ·cases h2⟩
theorem aQz(d:Nat)(rs:List Rw)(o:D)(is:List Nat)(hl:rs.length<=100)(hf:vU rs)(hi:bR rs is)(S:aE):cl fns (d+7) 57 [.d (rs<*o),.d (.tuple (is.map nD))] S=qq (.d (.tuple ((cB rs (~~~rs) is (yAc rs.length 0) []).map nD)),S):=by
 have i0:aH (rs<*o) (.int 0)=qq (.tuple (rs.map Rw.d)):=rfl;have ln:fO [.tuple (rs.map Rw.d)]=qq (.int rs.length):=by
  show qq (yAk (((rs.map Rw.d).length:Nat):Int))=_;rw[yAd]
 have e:=(yI d rs o is _ hl hf hi (aPm rs) S).1;rw[yDl] at e;have e':cl fns (d+6) 56 [.d (rs<*o),.d (.tuple (is.map nD)),.d (.tuple (yAc rs.length (.int 0)))] S=qq (.d (.tuple ((cB rs (~~~rs) is (yAc rs.length 0) []).map nD)),S):=e;rw[aU rfl (d+6) _ S rfl];have hq64:=aCc (x:=.int 0) (show rs.length<=1000 by omega)
 simp only[gR1,aKe,i0,ln,hq64,e']
theorem zJ:∀ (rs:List Rw) (W is ms aF:List Nat),∃ t,cB rs W is ms aF=aF++t
 | [],W,is,ms,aF=>⟨[],by simp[cB]⟩
 | _::_,W,is,[],aF=>⟨[],by simp[cB]⟩
 | r::rs,W,is,m::ms,aF=>by
   rw[cB]
   split
   ·obtain⟨t,h⟩:=zJ rs W is.tail ms (aF++[g0 is 0^^^m]);exact⟨[g0 is 0^^^m]++t,by rw[h,yAz]⟩
   ·obtain⟨t,h⟩:=zJ rs W is ms (aF++[cM r (aY r W) (aY r aF)^^^m]);exact⟨[cM r (aY r W) (aY r aF)^^^m]++t,by rw[h,yAz]⟩
theorem aHF{r:Rw}{rs:List Rw}{W is ms aF R:List Nat}{m:Nat}(h:cB (r::rs) W is (m::ms) aF=R)(hr:r.wd=.in)(hi:bR (r::rs) is):∃ n is',is=n::is'/\bR rs is'/\R[aF.length]? = qq (n^^^m)/\cB rs W is' ms (aF++[n^^^m])=R:=by
 rw[bR,if_pos hr] at hi;obtain⟨n,is',rfl,hn,hi'⟩:=hi;rw[cB,if_pos hr] at h;have h':cB rs W is' ms (aF++[n^^^m])=R:=h;obtain⟨t,ht⟩:=zJ rs W is' ms (aF++[n^^^m]);refine⟨n,is',rfl,hi',?_,h'⟩;rw[<- h',ht,yAz,yAg (yAb _),yBn];rfl
theorem aHD{r:Rw}{rs:List Rw}{W is ms aF R:List Nat}{m:Nat}(h:cB (r::rs) W is (m::ms) aF=R)(hr:r.wd≠.in)(hi:bR (r::rs) is)(hf:∀ a∈r.args.take (bD r.wd),a<aF.length):bR rs is/\R[aF.length]? = qq (cM r (aY r W) (aY r R)^^^m)/\∃ z,cB rs W is ms (aF++[z])=R:=by
 rw[bR,if_neg hr] at hi;rw[cB,if_neg hr] at h;obtain⟨t,ht⟩:=zJ rs W is ms (aF++[cM r (aY r W) (aY r aF)^^^m]);have e:aY r aF=aY r R:=by
  rw[<- h,ht,<- aGC (l:=aF++[cM r (aY r W) (aY r aF)^^^m]++t) hf,yAz,yDo]
 refine⟨hi,?_,_,h⟩;rw[<- e,<- h,ht,yAz,yAg (yAb _),yBn];rfl
theorem aNu{n w:Nat}(hn:n<2^w):(2^w-1)^^^n=2^w-1-n:=by
 rw[Nat.xor_comm];exact aHc hn
noncomputable def sZ(n w:Nat):Ft:=⟨2^w-1-n,n,1⟩
theorem aJC{n w:Nat}(hn:n<2^w)(hw:1<=w):FtOk (sZ n w) w:=⟨by show 2^w-1-n<2^w;have:=xAf w;omega,hn,yAb 1,hw⟩
theorem aPo{n w:Nat}(hn:n<2^w):Hd (sZ n w) n w:=by
 refine⟨λ i hi=>?_,λ i hi=>hi,kY _ _⟩
 have hi':(2^w-1-n).testBit i=true:=hi
 by_cases c:i<w
 ·rw[aAq hn c] at hi';simpa using hi'
 ·exact cL hn (by omega)
theorem aHd{w:Nat}(hw:1<=w):gG jK w=jK:=by
 have u:dB 0 1 w=0:=by
  unfold dB;rw[Nat.zero_and,if_pos rfl]
 have t:tr 0 w=0:=by
  unfold tr;rw[Nat.zero_xor];have:bl (2^w-1)=w:=aBS (uB w) (.inr (by rw[cK,dqT (by omega)]))
  omega
 show Ft.mk (dB 0 1 w) (dB 0 1 w) (wA 1 (tr (dB 0 1 w) w) (tr (dB 0 1 w) w))=⟨0,0,1⟩;rw[u,t];rfl
theorem aNI(d n w:Nat)(hn:n<2^w)(bT:1<=w)(hw:w<=64)(S:aE):cl fns (d+4) 49 [.d (.tuple [.str "num",.int w,.int n]),.d (.tuple []),.d (.tuple [])] S=qq (.d (gG (sZ n w) w).d,S):=by
 have nf:cl fns (d+2) 35 [.d (.int w),.d (.int n)] S=qq (.d (sZ n w).d,S):=by
  rw[aU rfl (d+1) _ S rfl];have hq65:=cQ d w (by omega)
  simp only[gR1,aGa,hq65,iJ,aNu hn]
 have i2:aH (.tuple [.str "num",.int w,.int n]) (.int 2)=qq (.int n):=rfl;refine aCw d _ _ _ S w (sZ n w) rfl ?_ (aJC hn bT) hw;have t1:=mR (aC fns (d+2)) (.tuple [.str "num",.int w,.int n]) (.tuple []) (.tuple []) (w:Nat) S .num;have t2:=fJ (aC fns (d+2)) (.tuple [.str "num",.int w,.int n]) (.tuple []) (.tuple []) (w:Nat) S .num;refine cH (S1:=S) rfl (d+2) rfl rfl yAe (cG (S1:=S) (w:=.d (.str Wd.num.s)) (eB rfl rfl) rfl (cG (S1:=S) (w:=.d (.int w)) (eB rfl rfl) rfl (aN t1 (bY t2 (bK ?_)))));simp only[gS0,i2,nf]
theorem aP1(d w:Nat)(bT:1<=w)(hw:w<=64)(S:aE):cl fns (d+4) 49 [.d (.tuple [.str "in",.int w]),.d (.tuple []),.d (.tuple [])] S=qq (.d jK.d,S):=by
 have t1:=mR (aC fns (d+2)) (.tuple [.str "in",.int w]) (.tuple []) (.tuple []) (w:Nat) S .in;have hk:FtOk jK w:=⟨xAf w,xAf w,yAb 1,bT⟩;have r:=aCw d (.tuple [.str "in",.int w]) (.tuple []) (.tuple []) S w jK rfl (cH (S1:=S) rfl (d+2) rfl rfl yAe (cG (S1:=S) (w:=.d (.str Wd.in.s)) (eB rfl rfl) rfl (cG (S1:=S) (w:=.d (.int w)) (eB rfl rfl) rfl (bY t1 (bK rfl))))) hk hw;rw[aHd bT] at r;exact r
noncomputable def qJ:List Ft->List Nat->List Nat->Prop
 | f::Fs,w::ws,n::ns=>(n<2^w/\Hd f n w)/\qJ Fs ws ns
 | [],[],[]=>True
 | _,_,_=>False
noncomputable def sE:List Ft->List Nat->Prop
 | f::Fs,w::ws=>Op f w/\sE Fs ws
 | [],[]=>True
 | _,_=>False
structure RG(r:Rw)(ws:List Nat)(Fs:List Ft):Prop where
 g:∃ g:Ft,FtOk g r.w/\(∀ d S,cl fns (d+7) 49 [.d r.d,.d (.tuple (ws.map nD)),.d (.tuple (Fs.map Ft.d))] S=qq (.d (gG g r.w).d,S))/\(∀ ns,qJ Fs ws ns->r.wd≠.in->Hd g (cM r ws ns) r.w)/\(r.wd=.in->∀ z,Hd g z r.w)
theorem wD{w:Nat}{Fs:List Ft}(h:sE Fs [w]):∃ f,Fs=[f]/\Op f w:=by
 rcases Fs with _ | ⟨a,_ | ⟨b,r⟩⟩
 ·exact h.elim
 ·exact⟨a,rfl,h.1⟩
 ·exact h.2.elim
theorem aDN{w v:Nat}{Fs:List Ft}(h:sE Fs [w,v]):∃ f g,Fs=[f,g]/\Op f w/\Op g v:=by
 rcases Fs with _ | ⟨a,_ | ⟨b,_ | ⟨c,r⟩⟩⟩
 ·exact h.elim
 ·exact h.2.elim
 ·exact⟨a,b,rfl,h.1,h.2.1⟩
 ·exact h.2.2.elim
theorem aWG{w v u:Nat}{Fs:List Ft}(h:sE Fs [w,v,u]):∃ f g k,Fs=[f,g,k]/\Op f w/\Op g v/\Op k u:=by
 rcases Fs with _ | ⟨a,_ | ⟨b,_ | ⟨c,_ | ⟨e,r⟩⟩⟩⟩
 ·exact h.elim
 ·exact h.2.elim
 ·exact h.2.2.elim
 ·exact⟨a,b,c,rfl,h.1,h.2.1,h.2.2.1⟩
 ·exact h.2.2.2.elim
theorem vW{f:Ft}{w:Nat}{ns:List Nat}(h:qJ [f] [w] ns):∃ a,ns=[a]/\a<2^w/\Hd f a w:=by
 rcases ns with _ | ⟨a,_ | ⟨b,r⟩⟩
 ·exact h.elim
 ·exact⟨a,rfl,h.1⟩
 ·exact h.2.elim
theorem aDJ{f g:Ft}{w v:Nat}{ns:List Nat}(h:qJ [f,g] [w,v] ns):∃ a b,ns=[a,b]/\(a<2^w/\Hd f a w)/\b<2^v/\Hd g b v:=by
 rcases ns with _ | ⟨a,_ | ⟨b,_ | ⟨c,r⟩⟩⟩
 ·exact h.elim
 ·exact h.2.elim
 ·exact⟨a,b,rfl,h.1,h.2.1⟩
 ·exact h.2.2.elim
theorem aWl{f g k:Ft}{w v u:Nat}{ns:List Nat}(h:qJ [f,g,k] [w,v,u] ns):∃ a b c,ns=[a,b,c]/\(a<2^w/\Hd f a w)/\(b<2^v/\Hd g b v)/\c<2^u/\Hd k c u:=by
 rcases ns with _ | ⟨a,_ | ⟨b,_ | ⟨c,_ | ⟨e,r⟩⟩⟩⟩
 ·exact h.elim
 ·exact h.2.elim
 ·exact h.2.2.elim
 ·exact⟨a,b,c,rfl,h.1,h.2.1,h.2.2.1⟩
 ·exact h.2.2.2.elim
theorem mJ{r:Rw}{ws:List Nat}{Fs:List Ft}(hi:r.wd≠.in)(h2:r.w<=64)(g:Ft)(hg:FtOk g r.w)(ho:∀ d S,cl fns (d+6) 48 [.d r.d,.d (.tuple (ws.map nD)),.d (.tuple (Fs.map Ft.d))] S=qq (.d g.d,S))(hh:∀ ns,qJ Fs ws ns->Hd g (cM r ws ns) r.w):RG r ws Fs:=
 ⟨g,hg,λ d S=>aCw (d+3) _ _ _ S r.w g (iO r) (ho d S) hg h2,λ ns h _=>hh ns h,λ h=>absurd h hi⟩
theorem aQZ{f:Ft}{w a:Nat}(o:Op f w):RG ⟨.not,w,[a]⟩ [w] [f]:=
 mJ (λ h=>nomatch h) o.w2 ⟨f.O,f.N,f.A⟩ ⟨o.ok.lO,o.ok.lN,o.ok.a1,o.ok.aw⟩ (λ d S=>aNK (d+5) _ _ _ (w:Nat) S f rfl rfl rfl) λ ns h=>by
  obtain⟨x,rfl,hx,hf⟩:=vW h;exact aNE o.ok o.dj hx hf
theorem aUl{wd:Wd}(h:wd=.left\/wd=.right\/wd=.slide):wd≠.in:=by rcases h with rfl | rfl | rfl<;>decide
theorem aVq{wd:Wd}(h:wd=.and\/wd=.or\/wd=.xor):wd≠.in:=by rcases h with rfl | rfl | rfl<;>decide
theorem aUX{wd:Wd}(h:wd=.same\/wd=.less\/wd=.under):wd≠.in:=by rcases h with rfl | rfl | rfl<;>decide
theorem aVh(s:Sw):s.wd≠.in:=by cases s<;>decide
theorem aTr{f:Ft}{w a k:Nat}(wd:Wd)(aJ:wd=.left\/wd=.right\/wd=.slide)(hk:k<64)(o:Op f w):RG ⟨wd,w,[a,k]⟩ [w] [f]:=by
 refine mJ (aUl aJ) o.w2 (shN wd w f k) ?_ (λ d S=>aMs (d+5) _ _ _ (w:Nat) S wd aJ f k _ rfl rfl rfl rfl (aB5 (d+1) wd aJ w f k o.ok o.w1 o.w2 (by omega) S)) λ ns h=>?_
 ·rcases aJ with rfl | rfl | rfl
  ·exact aQp o.ok o.dj o.w1 k
  ·exact aNy o.ok o.dj o.w1 k
  ·exact aN4 o.ok o.dj o.w1 k
 ·obtain⟨x,rfl,hx,hf⟩:=vW h;rcases aJ with rfl | rfl | rfl
  ·exact aNc o.ok o.dj hx hf k
  ·exact aMd o.ok o.dj hx hf k
  ·exact aLY o.ok o.dj hx hf o.w1 k
theorem aTb{f:Ft}{w v a:Nat}(h1:1<=w)(hv:w<=v)(o:Op f v):RG ⟨.cut,w,[a]⟩ [v] [f]:=
 mJ (λ h=>nomatch h) (xAi hv o.w2) (wQ v w f) (aSd o.ok o.dj o.w1 h1 hv) (λ d S=>aB2 (d+5) _ _ _ (w:Nat) S .cut (.inl rfl) f (v:Nat) _ rfl rfl rfl rfl (aQO (d+3) v w f hv (xAi hv o.w2) S)) λ ns h=>by
  obtain⟨x,rfl,hx,hf⟩:=vW h;exact aNJ o.ok o.dj hx hf hv
theorem aPP{f:Ft}{w v a:Nat}(hv:v<=w)(h2:w<=64)(o:Op f v):RG ⟨.wide,w,[a]⟩ [v] [f]:=
 mJ (λ h=>nomatch h) h2 (mI v w f) (aQq o.ok o.dj o.w1 hv) (λ d S=>aB2 (d+5) _ _ _ (w:Nat) S .wide (.inr (.inl rfl)) f (v:Nat) _ rfl rfl rfl rfl (aQn (d+2) v w f hv h2 S)) λ ns h=>by
  obtain⟨x,rfl,hx,hf⟩:=vW h;exact aNl o.ok o.dj hx hf hv
theorem aP7{f:Ft}{w v a:Nat}(hv:v<=w)(h2:w<=64)(o:Op f v):RG ⟨.sign,w,[a]⟩ [v] [f]:=
 mJ (λ h=>nomatch h) h2 (vH v w f) (aQs o.ok o.dj o.w1 hv) (λ d S=>aB2 (d+5) _ _ _ (w:Nat) S .sign (.inr (.inr rfl)) f (v:Nat) _ rfl rfl rfl rfl (aPT (d+2) v w f o.w1 hv h2 S)) λ ns h=>by
  obtain⟨x,rfl,hx,hf⟩:=vW h;exact aM6 o.ok o.dj hx hf o.w1 hv
theorem aTL{f g:Ft}{w a b:Nat}(wd:Wd)(aJ:wd=.and\/wd=.or\/wd=.xor)(o:Op f w)(o':Op g w):RG ⟨wd,w,[a,b]⟩ [w,w] [f,g]:=by
 obtain⟨n,hb',eb,ej⟩:∃ n,(n=0\/n=1\/n=2)/\bwN wd f g=sX n f g/\∀ x y:Nat,cM ⟨wd,w,[a,b]⟩ [w,w] [x,y]=bwv n x y:=by
  rcases aJ with rfl | rfl | rfl
  ·exact⟨0,.inl rfl,rfl,λ x y=>rfl⟩
  ·exact⟨1,.inr (.inl rfl),rfl,λ x y=>rfl⟩
  ·exact⟨2,.inr (.inr rfl),rfl,λ x y=>rfl⟩
 refine mJ (aVq aJ) o.w2 (sX n f g) (aVG hb' o.ok o.dj o'.ok o'.dj) (λ d S=>?_) λ ns h=>?_
 ·have q:=aOP (d+3) (Rw.mk wd w [a,b]).d (.tuple [nD w,nD w]) (.tuple [f.d,g.d]) (w:Nat) S wd aJ f g rfl rfl rfl rfl;rw[eb] at q;exact q
 ·obtain⟨x,y,rfl,⟨hx,h1⟩,hy,h2⟩:=aDJ h;rw[ej];exact aO7 hb' o.ok o.dj h1 o'.ok o'.dj h2
theorem aVz{f g:Ft}{w a b:Nat}(s:Sw)(o:Op f w)(o':Op g w):RG ⟨s.wd,w,[a,b]⟩ [w,w] [f,g]:=by
 obtain⟨p,hp,h⟩:=o.ho;obtain⟨q,hq,h'⟩:=o'.ho;refine mJ (aVh s) o.w2 (wR s w f g) (aQS s o.ok o'.ok hp hq h h') (λ d S=>aOx d _ _ _ w S s f g rfl rfl rfl rfl o.ok o'.ok (aVg s w f g o.ok o'.ok hp hq h h') o.w2) λ ns hn=>?_
 obtain⟨x,y,rfl,⟨hx,h1⟩,hy,h2⟩:=aDJ hn;have e:cM ⟨s.wd,w,[a,b]⟩ [w,w] [x,y]=rs (s.oc (x:Nat) (y:Nat)) w:=by cases s<;>rfl
 rw[e];exact aNC s o.ok o'.ok hx hy h1 h2
theorem aQK{f g:Ft}{v a b:Nat}(wd:Wd)(aJ:wd=.same\/wd=.less\/wd=.under)(o:Op f v)(o':Op g v):RG ⟨wd,1,[a,b]⟩ [v,v] [f,g]:=by
 have hk:FtOk (oX wd v f g) 1:=by rcases aUF wd v f g with h | h | h<;>rw[h]<;>exact⟨by decide,by decide,by decide,by decide⟩
 refine mJ (aUX aJ) (show 1<=64 by omega) (oX wd v f g) hk (λ d S=>aNp (d+1) _ _ _ ((1:Nat):Int) S wd aJ v f g rfl rfl rfl rfl rfl ⟨o.ok,o.dj⟩ ⟨o'.ok,o'.dj⟩ o.w1 o.w2) λ ns hn=>?_
 obtain⟨x,y,rfl,⟨hx,h1⟩,hy,h2⟩:=aDJ hn;rcases aJ with rfl | rfl | rfl
 ·exact aME o.ok hx hy h1 h2
 ·exact aMZ o.ok o'.ok hx hy h1 h2
 ·exact aLZ o.ok o'.ok o.dj o'.dj o.w1 hx hy h1 h2
theorem aO5{t f g:Ft}{w c a b:Nat}(ot:Op t 1)(o:Op f w)(o':Op g w):RG ⟨.pick,w,[c,a,b]⟩ [1,w,w] [t,f,g]:=
 mJ (λ h=>nomatch h) o.w2 (oW t f g) (aUg o.ok o'.ok) (λ d S=>aMa (d+4) _ _ _ (w:Nat) S t f g rfl rfl rfl rfl rfl) λ ns hn=>by
  obtain⟨z,x,y,rfl,⟨hz,h0⟩,⟨hx,h1⟩,hy,h2⟩:=aWl hn;exact aMX h0 hz h1 h2
theorem aRX{w n:Nat}(h1:1<=w)(h2:w<=64)(hn:n<2^w):RG ⟨.num,w,[n]⟩ [] []:=
 ⟨sZ n w,aJC hn h1,λ d S=>aNI (d+3) n w hn h1 h2 S,λ ns _ _=>aPo hn,λ h=>nomatch h⟩
theorem aUI{w:Nat}(h1:1<=w)(h2:w<=64):RG ⟨.in,w,[]⟩ [] []:=by
 refine⟨jK,⟨xAf w,xAf w,yAb 1,h1⟩,λ d S=>?_,λ ns _ h=>absurd rfl h,λ _ z=>⟨λ i h=>rC h,λ i h=>rC h,kY _ _⟩⟩
 have:=aP1 (d+3) w h1 h2 S;rw[aHd h1];exact this
theorem rg{r:Rw}{ws:List Nat}(h:RwOk r ws){Fs:List Ft}(o:sE Fs ws):RG r ws Fs:=by
 cases h with
 | inp h1 h2 =>
   rcases Fs with _ | ⟨f,Fs⟩
   ·exact aUI h1 h2
   ·exact o.elim
 | num h1 h2 hn =>
   rcases Fs with _ | ⟨f,Fs⟩
   ·exact aRX h1 h2 hn
   ·exact o.elim
 | nt h1 h2 =>
   obtain⟨f,rfl,o1⟩:=wD o;exact aQZ o1
 | sh h1 h2 aJ hk =>
   obtain⟨f,rfl,o1⟩:=wD o;exact aTr _ aJ hk o1
 | cut h1 hv h2 =>
   obtain⟨f,rfl,o1⟩:=wD o;exact aTb h1 hv o1
 | wide h1 hv h2 =>
   obtain⟨f,rfl,o1⟩:=wD o;exact aPP hv h2 o1
 | sign h1 hv h2 =>
   obtain⟨f,rfl,o1⟩:=wD o;exact aP7 hv h2 o1
 | bw h1 h2 aJ =>
   obtain⟨f,g,rfl,o1,o2⟩:=aDN o;exact aTL _ aJ o1 o2
 | sm h1 h2 =>
   obtain⟨f,g,rfl,o1,o2⟩:=aDN o;exact aVz _ o1 o2
 | cmp h1 h2 aJ =>
   obtain⟨f,g,rfl,o1,o2⟩:=aDN o;exact aQK _ aJ o1 o2
 | pick h1 h2 =>
   obtain⟨t,f,g,rfl,ot,o1,o2⟩:=aWG o;exact aO5 ot o1 o2
noncomputable def f0(F:List Ft)(a:Nat):Ft:=F.getD a ⟨0,0,1⟩
noncomputable def gS(r:Rw)(F:List Ft):List Ft:=(r.args.take (bD r.wd)).map (f0 F)
structure Snd(rs:List Rw)(F:List Ft):Prop where
 ok:∀ (i:Nat) (f:Ft) (w:Nat),F[i]? = qq f->(~~~rs)[i]? = qq w->FtOk f w
 hold:∀ is,bR rs is->∀ (i:Nat) (f:Ft) (w n:Nat),F[i]? = qq f->(~~~rs)[i]? = qq w->(cI rs (~~~rs) is [])[i]? = qq n->Hd f n w
theorem nT{F:List Ft}{a:Nat}(h:a<F.length):F[a]? = qq (f0 F a):=by
 show F[a]? = qq (F.getD a ⟨0,0,1⟩);rw[xAh,yAa h];rfl
theorem aPB{rs:List Rw}(p:Prg rs){a w:Nat}(h:(~~~rs)[a]? = qq w):1<=w/\w<=64:=by
 rw[xAb] at h;obtain⟨r,hr,rfl⟩:=Option.map_eq_some_iff.mp h;exact p.ws a r hr
theorem aHC{rs:List Rw}(p:Prg rs){F:List Ft}(s:Snd rs F):∀ (l:List Nat),(∀ a∈l,a<F.length/\a<rs.length)->sE (l.map (f0 F)) (l.map (g0 (~~~rs)))
 | [],_=>True.intro
 | a::l,h=>by
   obtain⟨h1,h2⟩:=h a xAd;have hw:=lY (l:=rs.map (·.w)) (a:=a) (by rw[yAd];exact h2)
   have hf:=nT h1;obtain⟨is,hi⟩:=p.ins;have hn:=lY (l:=cI rs (~~~rs) is []) (a:=a) (by rw[qZ p hi];exact h2)
   obtain⟨w1,w2⟩:=aPB p hw;exact⟨⟨s.ok a _ _ hf hw,⟨_,aAj p hi hn hw,s.hold is hi a _ _ _ hf hw hn⟩,w1,w2⟩,aHC p s l λ b hb=>h b (xAg _ hb)⟩
theorem aIj{rs:List Rw}(p:Prg rs){F:List Ft}(s:Snd rs F){is:List Nat}(hi:bR rs is):∀ (l:List Nat),(∀ a∈l,a<F.length/\a<rs.length)->qJ (l.map (f0 F)) (l.map (g0 (~~~rs))) (l.map (g0 (cI rs (~~~rs) is [])))
 | [],_=>True.intro
 | a::l,h=>by
   obtain⟨h1,h2⟩:=h a xAd;have hw:=lY (l:=rs.map (·.w)) (a:=a) (by rw[yAd];exact h2)
   have hf:=nT h1;have hn:=lY (l:=cI rs (~~~rs) is []) (a:=a) (by rw[qZ p hi];exact h2)
   exact⟨⟨aAj p hi hn hw,s.hold is hi a _ _ _ hf hw hn⟩,aIj p s hi l λ b hb=>h b (xAg _ hb)⟩
structure Nx(rs:List Rw)(F:List Ft)(j:Nat)(r:Rw)(g:Ft):Prop where
 ok:FtOk g r.w
 rule:∀ d S,cl fns (d+7) 49 [.d r.d,.d (.tuple ((aY r (~~~rs)).map nD)),.d (.tuple ((gS r F).map Ft.d))] S=qq (.d g.d,S)
 hold:∀ is,bR rs is->∀ n,(cI rs (~~~rs) is [])[j]? = qq n->Hd g n r.w
theorem aNi{rs:List Rw}(p:Prg rs){F:List Ft}(s:Snd rs F){j:Nat}{r:Rw}(hr:rs[j]? = qq r)(hF:j<=F.length):∃ g,Nx rs F j r g:=by
 obtain⟨f1,f2⟩:=p.fit j r hr;have hj:j<rs.length:=(gIm hr).1;have hb:∀ a∈r.args.take (bD r.wd),a<F.length/\a<rs.length:=λ a ha=>by have:=f2 a ha;omega
 obtain⟨g,gk,rl,h1,h2⟩:=(rg f1 (aHC p s _ hb)).g;refine⟨gG g r.w,aVQ gk,rl,λ is hi n hn=>(aNz gk).mpr ?_⟩
 by_cases c:r.wd=.in
 ·exact h2 c n
 ·have e:=aSB p.fit is hr c;rw[hn] at e;cases e;exact h1 _ (aIj p s hi _ hb) c
theorem aNS{rs:List Rw}{F:List Ft}(s:Snd rs F){r:Rw}{g f:Ft}(hr:rs[F.length]? = qq r)(nx:Nx rs F F.length r g)(fk:FtOk f r.w)(hN:∀ i,f.N.testBit i=true->g.N.testBit i=true)(hO:∀ i,f.O.testBit i=true->g.O.testBit i=true)(hA:f.A<=g.A):Snd rs (F++[f]):=by
 have last:∀ {i:Nat}{x:Ft},(F++[f])[i]? = qq x->F[i]? = qq x\/(i=F.length/\x=f):=λ {i x} h=>by
  by_cases c:i<F.length
  ·rw[xAn c] at h;exact .inl h
  ·have hl:=(gIm h).1;simp at hl;have:i=F.length:=by omega
   subst this;rw[yAg (yAb _),yBn] at h;cases h;exact .inr ⟨rfl,rfl⟩
 have hw:(~~~rs)[F.length]? = qq r.w:=by rw[xAb,hr];rfl
 refine⟨λ i x w h1 h2=>?_,λ is hi i x w n h1 h2 h3=>?_⟩
 ·rcases last h1 with h | ⟨rfl,rfl⟩
  ·exact s.ok i x w h h2
  ·rw[hw] at h2;cases h2;exact fk
 ·rcases last h1 with h | ⟨rfl,rfl⟩
  ·exact s.hold is hi i x w n h h2 h3
  ·rw[hw] at h2;cases h2;have q:=nx.hold is hi n h3;exact⟨λ i hi=>q.1 i (hN i hi),λ i hi=>q.2.1 i (hO i hi),rF hA q.2.2⟩
theorem aPG(rs:List Rw):Snd rs []:=⟨λ i f w h=>by simp at h,λ is hi i f w n h=>by simp at h⟩
theorem aPL(d:Nat)(r:Rw)(F:List Ft)(S0:aE)(h:∀ a∈r.args.take (bD r.wd),a<F.length):cl fns (d+2) 8 [.d r.d,.loc S0.length] (S0++[qq (F.map Ft.d)])=qq (.d (.tuple ((gS r F).map Ft.d)),S0++[qq (F.map Ft.d)]):=by
 have:=zK d r (.loc S0.length) (.list (F.map Ft.d)) (λ a=>(f0 F a).d) (S0++[qq (F.map Ft.d)]) (λ aF=>by
  show(match (S0++[qq (F.map Ft.d)]++[qq aF])[S0.length]? with | some (qq ds)=>qq (yEf ds) | _=>qz)=_
  rw[yAz,yAg (yAb _),yBn];rfl) λ a ha=>nV (by rw[xAb,nT (h a ha)];rfl)
 rw[this,gS,yBu];rfl
theorem aN6{r:Rw}{F:List Ft}{f:Ft}(h:∀ a∈r.args.take (bD r.wd),a<F.length):gS r (F++[f])=gS r F:=by
 unfold gS;refine yCf λ a ha=>?_
 show(F++[f]).getD a ⟨0,0,1⟩=F.getD a ⟨0,0,1⟩;rw[xAh,xAh,xAn (h a ha)]
theorem aR4{F:List Ft}{f:Ft}{a:Nat}(h:a<F.length):f0 (F++[f]) a=f0 F a:=by
 show(F++[f]).getD a ⟨0,0,1⟩=F.getD a ⟨0,0,1⟩;rw[xAh,xAh,xAn h]
theorem aRi(F:List Ft)(f:Ft):f0 (F++[f]) F.length=f:=by
 show(F++[f]).getD F.length ⟨0,0,1⟩=f;rw[xAh,yAg (yAb _),yBn];rfl
def sU(rs:List Rw)(F:List Ft):Prop:=∀ (i:Nat) (r:Rw),i<F.length->rs[i]? = qq r->∃ g,g=f0 F i/\Nx rs F i r g
theorem aHl{rs:List Rw}(p:Prg rs){F:List Ft}{f:Ft}{i:Nat}{r:Rw}{g:Ft}(hi:i<=F.length)(hr:rs[i]? = qq r)(nx:Nx rs F i r g):Nx rs (F++[f]) i r g:=by
 refine⟨nx.ok,?_,nx.hold⟩;rw[aN6 λ a ha=>by have:=(p.fit i r hr).2 a ha;omega]
 exact nx.rule
theorem aOj{rs:List Rw}(p:Prg rs){F:List Ft}(h:sU rs F){r:Rw}{g:Ft}(hr:rs[F.length]? = qq r)(nx:Nx rs F F.length r g):sU rs (F++[g]):=λ i q hi hq=>by
 by_cases c:i<F.length
 ·obtain⟨g',rfl,h1⟩:=h i q c hq;exact⟨_,(aR4 c).symm,aHl p (by omega) hq h1⟩
 ·have ci:i=F.length:=by simp at hi;omega
  subst ci;rw[hr] at hq;cases hq;exact⟨g,(aRi F g).symm,aHl p (yAb _) hr nx⟩
theorem aFf(d:Nat)(rs:List Rw)(o:D)(p:Prg rs)(S:aE):∃ F:List Ft,F.length=rs.length/\Snd rs F/\sU rs F/\cl fns (d+9) 50 [.d (rs<*o)] S=qq (.d (.tuple (F.map Ft.d)),S):=by
 have i0:aH (rs<*o) (.int 0)=qq (.tuple (rs.map Rw.d)):=rfl;have pl:=p.l;obtain⟨aI,S',p1,F,c3,rfl,rfl,fl,fs,fo⟩:=mE (t:=.one 3) (fi:=lv (aC fns (d+8)) xV) (fb:=xs (aC fns (d+8)) xU) (env:=[qq (.d (rs<*o)),qq (.d (.tuple ((~~~rs).map nD))),qq (.loc S.length),qz]) (S:=S++[qq []]) (S1:=S++[qq []]) (ds:=rs.map Rw.d)
  (λ j env S'=>∃ (F:List Ft) (c3:Option W),env=[qq (.d (rs<*o)),qq (.d (.tuple ((~~~rs).map nD))),qq (.loc S.length),c3]/\S'=S++[qq (F.map Ft.d)]/\F.length=j/\Snd rs F/\sU rs F)
  (by
    simp only[evs,xV,i0,fV]) ⟨[],qz,rfl,rfl,rfl,aPG rs,λ i r hi=>absurd hi (yDt i)⟩ (by
    rintro j dd env S' hd ⟨F,c3,rfl,rfl,fl,fs,fo⟩;rw[xAb] at hd;obtain⟨r,hr,rfl⟩:=Option.map_eq_some_iff.mp hd;subst fl;obtain⟨f1,f2⟩:=p.fit _ r hr;have hj:F.length<rs.length:=(gIm hr).1;have hWl:(~~~rs).length=rs.length:=yAd ..;obtain⟨g,nx⟩:=aNi p fs hr (yAb _);have o1:=aHu (d+6) r (~~~rs) (S++[qq (F.map Ft.d)]) λ a ha=>by have:=f2 a ha;omega
    have o2:=aPL (d+6) r F S λ a ha=>f2 a ha
    have rl:=nx.rule (d+1) (S++[qq (F.map Ft.d)]);have ap:dZ (S++[qq (F.map Ft.d)]) (.loc S.length) (.d g.d)=qq (.d .none,S++[qq ((F++[g]).map Ft.d)]):=by
     rw[zH S (F.map Ft.d) _ (by rw[yAd];omega),yCb]
     rfl
    refine⟨_,[qq (.d (rs<*o)),qq (.d (.tuple ((~~~rs).map nD))),qq (.loc S.length),qq (.d r.d)],S++[qq ((F++[g]).map Ft.d)],rfl,?_,F++[g],_,rfl,rfl,by simp,aNS fs hr nx nx.ok (λ i h=>h) (λ i h=>h) (yAb _),aOj p fo hr nx⟩
    simp only[evs,xU,o1,o2,rl,iA,ap])
 rw[yAd] at fl;refine⟨F,fl,fs,fo,?_⟩;have p1':dQ (.one 3) (lv (aC fns (d+8)) xV) (xs (aC fns (d+8)) xU) [qq (.d (rs<*o)),qq (.d (.tuple ((~~~rs).map nD))),qq (.loc S.length),qz] (S++[qq []])=qq (.nx [qq (.d (rs<*o)),qq (.d (.tuple ((~~~rs).map nD))),qq (.loc S.length),c3],S++[qq (F.map Ft.d)]):=p1;have tk1:∀ x,yDj S.length (S++[x])=S:=λ x=>yDo
 rw[aU rfl (d+8) _ S rfl];have hq66:=aEU (d+7) rs o (by omega)
 simp only[gR1,aF2,hq66,eY,p1',lS,gJ,gK,tk1]
theorem aBL:∀ (rs:List Rw) (ws:List Nat),eJ ws rs->∀ (j:Nat) (r:Rw),rs[j]? = qq r->gB (ws++(rs.take j).map (·.w)) r
 | [],_,_,j,r,h=>by simp at h
 | q::rs,ws,⟨h1,h2⟩,0,r,h=>by
   cases h;simpa using h1
 | q::rs,ws,⟨h1,h2⟩,j+1,r,h=>by
   have:=aBL rs (ws++[q.w]) h2 j r (by simpa using h)
   simpa using this
theorem aKD{a n:Nat}(h:a<n):∀ x∈[a],x<n:=λ x hx=>by
 rw[List.mem_singleton.mp hx];exact h
theorem aKL{a b n:Nat}(h:a<n)(h':b<n):∀ x∈[a,b],x<n:=λ x hx=>by
 rcases List.mem_cons.mp hx with rfl | hx
 ·exact h
 ·exact aKD h' x hx
theorem aWZ{a b c n:Nat}(h:a<n)(h':b<n)(h'':c<n):∀ x∈[a,b,c],x<n:=λ x hx=>by
 rcases List.mem_cons.mp hx with rfl | hx
 ·exact h
 ·exact aKL h' h'' x hx
theorem aKR{n:Nat}:∀ x∈([]:List Nat),x<n:=λ x hx=>by simp at hx
section
variable {ws W : List Nat}{n : Nat}(hw : ∀ a v, ws[a]? = qq v -> g0 W a = v /\ 1 <= v /\ v <= 64 /\ a<n)
include hw
theorem pN{wd:Wd}{w a v:Nat}{args:List Nat}(e:(args.take (bD wd))=[a])(h:ws[a]? = qq v)(k:RwOk ⟨wd,w,args⟩ [v]):RwOk ⟨wd,w,args⟩ (aY ⟨wd,w,args⟩ W)/\∀ x∈args.take (bD wd),x<n:=by
 obtain⟨e1,_,_,e4⟩:=hw a v h;have:aY ⟨wd,w,args⟩ W=[v]:=by
  show(args.take (bD wd)).map (g0 W)=[v];rw[e,yAs,yDz,e1]
 rw[this,e];exact⟨k,aKD e4⟩
theorem pP{wd:Wd}{w a b v u:Nat}{args:List Nat}(e:(args.take (bD wd))=[a,b])(h:ws[a]? = qq v)(h':ws[b]? = qq u)(k:RwOk ⟨wd,w,args⟩ [v,u]):RwOk ⟨wd,w,args⟩ (aY ⟨wd,w,args⟩ W)/\∀ x∈args.take (bD wd),x<n:=by
 obtain⟨e1,_,_,e4⟩:=hw a v h;obtain⟨d1,_,_,d4⟩:=hw b u h';have:aY ⟨wd,w,args⟩ W=[v,u]:=by
  show(args.take (bD wd)).map (g0 W)=[v,u];rw[e,yAs,yAs,yDz,e1,d1]
 rw[this,e];exact⟨k,aKL e4 d4⟩
omit hw in
theorem aTU{wd:Wd}{w:Nat}(h:gB ws ⟨wd,w,[]⟩):RwOk ⟨wd,w,[]⟩ (aY ⟨wd,w,[]⟩ W)/\∀ x∈yDj (bD wd) [],x<n:=by
 cases wd
 case «in» => exact⟨.inp h.1 h.2.1,aKR⟩
 all_goals exact h.2.2.elim
theorem aTu{wd:Wd}{w a:Nat}(h:gB ws ⟨wd,w,[a]⟩):RwOk ⟨wd,w,[a]⟩ (aY ⟨wd,w,[a]⟩ W)/\∀ x∈yDj (bD wd) [a],x<n:=by
 cases wd
 case num=>exact⟨.num h.1 h.2.1 h.2.2,aKR⟩
 case not=>exact pN hw rfl h.2.2 (.nt h.1 h.2.1)
 case cut =>
  obtain⟨v,q1,q2⟩:=h.2.2;exact pN hw rfl q1 (.cut h.1 q2 (hw a v q1).2.2.1)
 case wide =>
  obtain⟨v,q1,q2⟩:=h.2.2;exact pN hw rfl q1 (.wide (hw a v q1).2.1 q2 h.2.1)
 case sign =>
  obtain⟨v,q1,q2⟩:=h.2.2;exact pN hw rfl q1 (.sign (hw a v q1).2.1 q2 h.2.1)
 all_goals exact h.2.2.elim
theorem aC3{wd:Wd}(aJ:wd=.same\/wd=.less\/wd=.under){w a b:Nat}(q:w=1/\∃ v,ws[a]? = qq v/\ws[b]? = qq v)(e:bD wd=2):RwOk ⟨wd,w,[a,b]⟩ (aY ⟨wd,w,[a,b]⟩ W)/\∀ x∈yDj (bD wd) [a,b],x<n:=by
 obtain⟨rfl,v,q1,q2⟩:=q;exact pP hw (by rw[e];rfl) q1 q2 (.cmp (hw a v q1).2.1 (hw a v q1).2.2.1 aJ)
theorem aT5{wd:Wd}{w a b:Nat}(h:gB ws ⟨wd,w,[a,b]⟩):RwOk ⟨wd,w,[a,b]⟩ (aY ⟨wd,w,[a,b]⟩ W)/\∀ x∈yDj (bD wd) [a,b],x<n:=by
 cases wd
 case left=>exact pN hw rfl h.2.2.1 (.sh h.1 h.2.1 (.inl rfl) h.2.2.2)
 case right=>exact pN hw rfl h.2.2.1 (.sh h.1 h.2.1 (.inr (.inl rfl)) h.2.2.2)
 case slide=>exact pN hw rfl h.2.2.1 (.sh h.1 h.2.1 (.inr (.inr rfl)) h.2.2.2)
 case and=>exact pP hw rfl h.2.2.1 h.2.2.2 (.bw h.1 h.2.1 (.inl rfl))
 case or=>exact pP hw rfl h.2.2.1 h.2.2.2 (.bw h.1 h.2.1 (.inr (.inl rfl)))
 case xor=>exact pP hw rfl h.2.2.1 h.2.2.2 (.bw h.1 h.2.1 (.inr (.inr rfl)))
 case add=>exact pP hw rfl h.2.2.1 h.2.2.2 (.sm (s:=.add) h.1 h.2.1)
 case sub=>exact pP hw rfl h.2.2.1 h.2.2.2 (.sm (s:=.sub) h.1 h.2.1)
 case mul=>exact pP hw rfl h.2.2.1 h.2.2.2 (.sm (s:=.mul) h.1 h.2.1)
 case same=>exact aC3 hw (.inl rfl) h.2.2 rfl
 case less=>exact aC3 hw (.inr (.inl rfl)) h.2.2 rfl
 case under=>exact aC3 hw (.inr (.inr rfl)) h.2.2 rfl
 all_goals exact h.2.2.elim
theorem aUJ{wd:Wd}{w a b c:Nat}(h:gB ws ⟨wd,w,[a,b,c]⟩):RwOk ⟨wd,w,[a,b,c]⟩ (aY ⟨wd,w,[a,b,c]⟩ W)/\∀ x∈yDj (bD wd) [a,b,c],x<n:=by
 cases wd
 case pick =>
  obtain⟨q1,q2,q3⟩:=h.2.2;obtain⟨e1,_,_,e4⟩:=hw a _ q1;obtain⟨d1,_,_,d4⟩:=hw b _ q2;obtain⟨c1,_,_,c4⟩:=hw c _ q3;have:aY ⟨.pick,w,[a,b,c]⟩ W=[1,w,w]:=by
   show [g0 W a,g0 W b,g0 W c]=[1,w,w];rw[e1,d1,c1]
  rw[this];exact⟨.pick h.1 h.2.1,aWZ e4 d4 c4⟩
 all_goals exact h.2.2.elim
omit hw in
theorem aTA{wd:Wd}{w a b c e:Nat}{t:List Nat}(h:gB ws ⟨wd,w,a::b::c::e::t⟩):False:=by
 cases wd
 all_goals exact h.2.2
theorem aO3{r:Rw}(h:gB ws r):RwOk r (aY r W)/\∀ x∈r.args.take (bD r.wd),x<n:=by
 obtain⟨wd,w,args⟩:=r
 match args,h with
 | [],h=>exact aTU h
 | [a],h=>exact aTu hw h
 | [a,b],h=>exact aT5 hw h
 | [a,b,c],h=>exact aUJ hw h
 | _::_::_::_::_,h=>exact(aTA h).elim
end
theorem aGU:∀ rs:List Rw,∃ is,bR rs is
 | []=>⟨[],rfl⟩
 | r::rs=>by
   obtain⟨is,h⟩:=aGU rs
   by_cases c:r.wd=.in
   ·refine⟨0::is,?_⟩;rw[bR,if_pos c];exact⟨0,is,rfl,xAf _,h⟩
   ·refine⟨is,?_⟩;rw[bR,if_neg c];exact h
theorem aSn{rs:List Rw}(h:eJ [] rs)(hl:rs.length<=100):Prg rs:=by
 have ws:∀ (j:Nat) (r:Rw),rs[j]? = qq r->1<=r.w/\r.w<=64:=λ j r hr=>by
  have:=aBL rs [] h j r hr;exact⟨this.1,this.2.1⟩
 refine⟨hl,λ j r hr=>?_,aGU rs,ws⟩
 have ok:=aBL rs [] h j r hr;rw[yFk] at ok;refine aO3 (n:=j) (λ a v ha=>?_) ok
 have hj:j<rs.length:=(gIm hr).1;have haj:a<j:=by
  have:=(gIm ha).1;rw[yAd,yBv] at this;omega
 rw[xAb,yDr haj] at ha;obtain⟨q,hq,rfl⟩:=Option.map_eq_some_iff.mp ha;obtain⟨w1,w2⟩:=ws a q hq;refine⟨?_,w1,w2,haj⟩;show(~~~rs).getD a 0=q.w;rw[xAh,xAb,hq];rfl
noncomputable abbrev sT(T:aE)(ns:List Int)(k:Nat)(x:Int):aE:=qq (aQ ns k x)::T
theorem aAz(T:aE)(ns:List Int)(k:Nat)(x:Int)(h:T.length<=40):aS (qz::T) 0 50 ns k x []=sT T ns k x:=by
 unfold aS;rw[yEi,yDs];simp;omega
theorem aKd(T:aE)(h:T.length<=40):At0 (qz::T) 0 50:=⟨by simp,by decide⟩
section
variable {ns : List Int}{k : Nat}{x : Int}
theorem aVt(T:aE)(hT:T.length<=40)(d w:Nat)(hw:1<=w)(bW:w<=64)(hk:k<=98000):∃ (r k':Nat) (x':Int),r<2^w/\k'<=k+5/\cl fns (d+3) 66 [.loc 0,.d (.int w)] (sT T ns k x)=qq (.d (.int r),sT T ns k' x'):=by
 obtain⟨r,k',x',hr,hk',e⟩:=aId (rs:=[]) (ns:=ns) (k:=k) (x:=x) (aKd T hT) d w hw bW hk;rw[aAz T _ _ _ hT,aAz T _ _ _ hT] at e;exact⟨r,k',x',hr,hk',e⟩
theorem rO(T:aE)(hT:T.length<=40)(d m:Nat)(hm:0<m)(hm2:m<2^64)(hk:k<=100000):∃ (r:Nat) (x':Int),r<m/\cl fns (d+1) 63 [.loc 0,.d (.int m)] (sT T ns k x)=qq (.d (.int r),sT T ns (k+1) x'):=by
 obtain⟨r,x',hr,e⟩:=fH (rs:=[]) (ns:=ns) (k:=k) (x:=x) (aKd T hT) d m hm hm2 hk;rw[aAz T _ _ _ hT,aAz T _ _ _ hT] at e;exact⟨r,x',hr,e⟩
end
theorem aAu{m i:Nat}(h:m.testBit i=true):i<bl m:=by
 by_cases c:i<bl m
 ·exact c
 ·rw[cL (pS m) (by omega)] at h
  cases h
theorem aIk(i:Nat):bl (2^i)=i+1:=aBS (yBs (by decide) (by omega)) (.inr (by simp))
theorem aRp(i:Nat):(2:Nat)^i≠0:=yDy (xAf i)
theorem lT(i t:Nat):(2^i).testBit t=decide (i=t):=yDd
noncomputable def gN(x w:Nat):Nat:=if x/2^w=0 then x else (x&&&(2^w-1))|||2^(w-1)
theorem pF{x w t:Nat}(hw:1<=w):(gN x w).testBit t=true ↔ (t<w/\x.testBit t=true)\/(t=w-1/\∃ j,w<=j/\x.testBit j=true):=by
 unfold gN
 split
 ·rename_i h;rw[aBq] at h;constructor
  ·intro z;refine .inl ⟨?_,z⟩
   by_cases c:t<w
   ·exact c
   ·rw[h t (by omega)] at z;cases z
  ·rintro (⟨_,z⟩ | ⟨_,j,h1,h2⟩)
   ·exact z
   ·rw[h j h1] at h2;cases h2
 ·rename_i h;rw[xAp,yAh,cK,lT];have h':∃ j,w<=j/\x.testBit j=true:=by
   rw[aBq] at h
   by_cases c:∃ j,w<=j/\x.testBit j=true
   ·exact c
   ·refine absurd (λ i hi=>?_) h
    cases q:x.testBit i with
    | false=>rfl
    | true=>exact absurd ⟨i,hi,q⟩ c
  constructor
  ·intro z;simp only[yDu,yAl,decide_eq_true_eq] at z;rcases z with ⟨z1,z2⟩ | z
   ·exact .inl ⟨z2,z1⟩
   ·exact .inr ⟨z.symm,h'⟩
  ·rintro (⟨z1,z2⟩ | ⟨z,_⟩)
   ·simp[z1,z2]
   ·simp[z]
theorem aHj{x w:Nat}(hw:1<=w):gN x w<2^w:=by
 apply yCn;intro i hi;cases q:(gN x w).testBit i with
 | false=>rfl
 | true =>
   rcases (pF hw).mp q with ⟨h,_⟩ | ⟨h,_⟩<;>omega
structure Fc where
 N:Nat
 O:Nat
 A:Nat
noncomputable instance:Inhabited Fc:=⟨⟨0,0,0⟩⟩
noncomputable def aW(wd:Wd)(w kk:Nat)(ws:List Nat)(fs:List Fc)(m:Nat):List Nat:=
 if m=0 then yAc (bD wd) 0 else
 match wd with
 | .in | .num=>[]
 | .not | .cut=>[m]
 | .xor=>[m,m]
 | .and=>[dA m (dA (fs.getD 1 default).N (fs.getD 0 default).N),dA m (fs.getD 0 default).N]
 | .or=>[dA m (dA (fs.getD 1 default).O (fs.getD 0 default).O),dA m (fs.getD 0 default).O]
 | .add | .sub=>[2^bl m-1,2^bl m-1]
 | .mul=>[2^(bl m-min (bl m) (lr (fs.getD 1 default).N))-1,2^(bl m-min (bl m-min (bl m) (lr (fs.getD 1 default).N)) (lr (fs.getD 0 default).N))-1]
 | .left=>[m/2^kk]
 | .right=>[(m*2^kk)&&&(2^w-1)]
 | .slide=>[gN (m*2^kk) w]
 | .wide=>[m&&&(2^ws.getD 0 0-1)]
 | .sign=>[gN m (ws.getD 0 0)]
 | .same | .less | .under=>[2^ws.getD 0 0-1,2^ws.getD 1 0-1]
 | .pick=>if (fs.getD 0 default).O=1 then [1,m,0] else if (fs.getD 0 default).N=1 then [1,0,m] else [1,m,m]
def wN(wd:Wd)(w:Nat)(ws:List Nat):Prop:=1<=w/\w<=64/\match wd with
 | .in | .num=>ws=[]
 | .not | .left | .right | .slide=>ws=[w]
 | .and | .or | .xor | .add | .sub | .mul=>ws=[w,w]
 | .cut=>∃ v,ws=[v]/\w<=v/\v<=64
 | .wide | .sign=>∃ v,ws=[v]/\v<=w/\1<=v
 | .same | .less | .under=>w=1/\∃ v,ws=[v,v]/\1<=v/\v<=64
 | .pick=>ws=[1,w,w]
theorem aOw{wd:Wd}{w kk m:Nat}{ws:List Nat}{fs:List Fc}:(aW wd w kk ws fs m).length=bD wd:=by
 unfold aW
 split
 ·simp
 ·cases wd<;>first | rfl | (simp only;split<;>first | rfl | (split<;>rfl))
theorem rP{P:Nat->Prop}{m:Nat}(f:Nat->Nat)(hf:∀ i j,i<=j->f i<=f j)(h0:m≠0)(t:Nat):(2^f (bl m)-1).testBit t=true ↔ ∃ i,m.testBit i=true/\(2^f (bl (2^i))-1).testBit t=true:=by
 rw[cK,decide_eq_true_eq];constructor
 ·intro h;refine⟨bl m-1,aCS h0,?_⟩;rw[cK,decide_eq_true_eq,aIk];have:=aBR h0;rw[show bl m-1+1=bl m by omega]
  exact h
 ·rintro ⟨i,h1,h2⟩;rw[cK,decide_eq_true_eq,aIk] at h2;exact xAc h2 (hf _ _ (aAu h1))
theorem mC{m x t:Nat}(h:m≠0):x.testBit t=true ↔ ∃ i,m.testBit i=true/\x.testBit t=true:=by
 constructor
 ·intro z;exact⟨bl m-1,aCS h,z⟩
 ·rintro ⟨_,_,z⟩;exact z
theorem kO{m t:Nat}:m.testBit t=true ↔ ∃ i,m.testBit i=true/\(2^i).testBit t=true:=by
 constructor
 ·intro z;exact⟨t,z,by rw[lT];simp⟩
 ·rintro ⟨i,h1,h2⟩;rw[lT,decide_eq_true_eq] at h2;rw[<- h2];exact h1
theorem zY{m y t:Nat}:(dA m y).testBit t=true ↔ ∃ i,m.testBit i=true/\(dA (2^i) y).testBit t=true:=by
 rw[jM];constructor
 ·intro z;rw[yAl] at z;exact⟨t,z.1,by rw[jM,lT];simp[z.2]⟩
 ·rintro ⟨i,h1,h2⟩;rw[jM,lT,yAl,decide_eq_true_eq] at h2;obtain⟨rfl,h3⟩:=h2;rw[h1,h3];rfl
theorem oZ(x k t:Nat):(x*2^k).testBit t=(decide (k<=t)&&x.testBit (t-k)):=by rw[Nat.testBit_mul_two_pow]
theorem aH1{f:Nat->Nat}{m w t:Nat}(hw:1<=w)(hf:∀ t,(f m).testBit t=true ↔ ∃ i,m.testBit i=true/\(f (2^i)).testBit t=true):(gN (f m) w).testBit t=true ↔ ∃ i,m.testBit i=true/\(gN (f (2^i)) w).testBit t=true:=by
 rw[pF hw];constructor
 ·rintro (⟨h1,h2⟩ | ⟨h1,j,h2,h3⟩)
  ·obtain⟨i,h3,h4⟩:=(hf t).mp h2;exact⟨i,h3,(pF hw).mpr (.inl ⟨h1,h4⟩)⟩
  ·obtain⟨i,h4,h5⟩:=(hf j).mp h3;exact⟨i,h4,(pF hw).mpr (.inr ⟨h1,j,h2,h5⟩)⟩
 ·rintro ⟨i,h1,h2⟩;rcases (pF hw).mp h2 with ⟨h3,h4⟩ | ⟨h3,j,h4,h5⟩
  ·exact .inl ⟨h3,(hf t).mpr ⟨i,h1,h4⟩⟩
  ·exact .inr ⟨h3,j,h4,(hf j).mpr ⟨i,h1,h5⟩⟩
theorem aIu{m k t:Nat}:(m*2^k).testBit t=true ↔ ∃ i,m.testBit i=true/\(2^i*2^k).testBit t=true:=by
 rw[oZ,yAl,decide_eq_true_eq];constructor
 ·rintro ⟨h1,h2⟩;exact⟨t-k,h2,by rw[oZ,lT];simp[h1]⟩
 ·rintro ⟨i,h1,h2⟩;rw[oZ,lT,yAl,decide_eq_true_eq,decide_eq_true_eq] at h2;exact⟨h2.1,by rw[<- h2.2];exact h1⟩
theorem aIS{f:Nat->Nat}{m y t:Nat}(hf:∀ t,(f m).testBit t=true ↔ ∃ i,m.testBit i=true/\(f (2^i)).testBit t=true):(f m&&&y).testBit t=true ↔ ∃ i,m.testBit i=true/\(f (2^i)&&&y).testBit t=true:=by
 rw[yAh,yAl];constructor
 ·rintro ⟨h1,h2⟩;obtain⟨i,h3,h4⟩:=(hf t).mp h1;exact⟨i,h3,by rw[yAh,h4,h2];rfl⟩
 ·rintro ⟨i,h1,h2⟩;rw[yAh,yAl] at h2;exact⟨(hf t).mpr ⟨i,h1,h2.1⟩,h2.2⟩
theorem aR7{m k t:Nat}:(m/2^k).testBit t=true ↔ ∃ i,m.testBit i=true/\(2^i/2^k).testBit t=true:=by
 rw[eV];constructor
 ·intro h;exact⟨k+t,h,by rw[eV,lT];simp⟩
 ·rintro ⟨i,h1,h2⟩;rw[eV,lT,decide_eq_true_eq] at h2;rw[<- h2];exact h1
theorem pI{m t:Nat}:(0:Nat).testBit t=true ↔ ∃ i,m.testBit i=true/\(0:Nat).testBit t=true:=by simp
theorem aQi(wd:Wd)(w kk:Nat)(ws:List Nat)(fs:List Fc)(m c t:Nat)(hk:wN wd w ws):((aW wd w kk ws fs m).getD c 0).testBit t=true ↔ ∃ i,m.testBit i=true/\((aW wd w kk ws fs (2^i)).getD c 0).testBit t=true:=by
 by_cases h0:m=0
 ·subst h0;have e:(aW wd w kk ws fs 0).getD c 0=0:=by
   unfold aW;rw[if_pos rfl,xAh,yBq]
   split<;>rfl
  rw[e];simp
 ·have two:∀ {a b:Nat}{f g:Nat->Nat},(a.testBit t=true ↔ ∃ i,m.testBit i=true/\(f i).testBit t=true)->(b.testBit t=true ↔ ∃ i,m.testBit i=true/\(g i).testBit t=true)->(([a,b].getD c 0).testBit t=true ↔ ∃ i,m.testBit i=true/\([f i,g i].getD c 0).testBit t=true):=λ {a b f g} h1 h2=>by
   match c with
   | 0=>exact h1
   | 1=>exact h2
   | c+2=>exact pI
  have one:∀ {a:Nat}{f:Nat->Nat},(a.testBit t=true ↔ ∃ i,m.testBit i=true/\(f i).testBit t=true)->(([a].getD c 0).testBit t=true ↔ ∃ i,m.testBit i=true/\([f i].getD c 0).testBit t=true):=λ {a f} h1=>by
   match c with
   | 0=>exact h1
   | c+1=>exact pI
  have three:∀ {a b e:Nat}{f g h:Nat->Nat},(a.testBit t=true ↔ ∃ i,m.testBit i=true/\(f i).testBit t=true)->(b.testBit t=true ↔ ∃ i,m.testBit i=true/\(g i).testBit t=true)->(e.testBit t=true ↔ ∃ i,m.testBit i=true/\(h i).testBit t=true)->(([a,b,e].getD c 0).testBit t=true ↔ ∃ i,m.testBit i=true/\([f i,g i,h i].getD c 0).testBit t=true):=λ {a b e f g h} h1 h2 h3=>by
   match c with
   | 0=>exact h1
   | 1=>exact h2
   | 2=>exact h3
   | c+3=>exact pI
  have e1:∀ i,aW wd w kk ws fs (2^i)=_:=λ i=>if_neg (aRp i)
  have e0:aW wd w kk ws fs m=_:=if_neg h0;simp only[e1];rw[e0];obtain⟨bT,bW,hk⟩:=hk;cases wd with
  | «in» => exact pI
  | num=>exact pI
  | not=>exact one kO
  | cut=>exact one kO
  | xor=>exact two kO kO
  | and=>exact two zY zY
  | or=>exact two zY zY
  | add=>exact two (rP (P:=λ _=>True) id (λ _ _ h=>h) h0 t) (rP (P:=λ _=>True) id (λ _ _ h=>h) h0 t)
  | sub=>exact two (rP (P:=λ _=>True) id (λ _ _ h=>h) h0 t) (rP (P:=λ _=>True) id (λ _ _ h=>h) h0 t)
  | mul=>exact two (rP (P:=λ _=>True) (λ h=>h-min h (lr (fs.getD 1 default).N)) (λ _ _ h=>by omega) h0 t) (rP (P:=λ _=>True) (λ h=>h-min (h-min h (lr (fs.getD 1 default).N)) (lr (fs.getD 0 default).N)) (λ _ _ h=>by omega) h0 t)
  | left=>exact one aR7
  | right=>exact one (aIS (f:=λ m=>m*2^kk) λ t=>aIu)
  | slide=>exact one (aH1 (f:=λ m=>m*2^kk) bT λ t=>aIu)
  | wide=>exact one (aIS (f:=λ m=>m) λ t=>kO)
  | sign =>
    obtain⟨v,rfl,h1,h2⟩:=hk;exact one (aH1 (f:=λ m=>m) h2 λ t=>kO)
  | same=>exact two (mC h0) (mC h0)
  | less=>exact two (mC h0) (mC h0)
  | under=>exact two (mC h0) (mC h0)
  | pick =>
    simp only
    split
    ·exact three (mC h0) kO pI
    ·split
     ·exact three (mC h0) pI kO
     ·exact three (mC h0) kO kO
theorem hB{k v:Nat}(h:k<=v):2^k-1<2^v:=by
 have h1:=xAf k;have h2:(2:Nat)^k<=2^v:=yAr (by decide) h
 omega
theorem aAf{m y v:Nat}(h:m<2^v):dA m y<2^v:=xAj (yGx _ _) h
theorem aPu(wd:Wd)(w kk:Nat)(ws:List Nat)(fs:List Fc)(m c v:Nat)(hk:wN wd w ws)(hm:m<2^w)(hv:ws[c]? = qq v):(aW wd w kk ws fs m).getD c 0<2^v:=by
 by_cases h0:m=0
 ·subst h0;have e:(aW wd w kk ws fs 0).getD c 0=0:=by
   unfold aW;rw[if_pos rfl,xAh,yBq]
   split<;>rfl
  rw[e];exact xAf _
 have hb:bl m<=w:=rZ hm;have e0:aW wd w kk ws fs m=_:=if_neg h0;rw[e0];have one:∀ {a u:Nat},ws=[u]->a<2^u->[a].getD c 0<2^v:=λ {a u} e h=>by
  subst e
  match c,hv with
  | 0,hv=>cases hv;exact h
  | c+1,hv=>simp at hv
 have two:∀ {a b u x:Nat},ws=[u,x]->a<2^u->b<2^x->[a,b].getD c 0<2^v:=λ {a b u x} e h h2=>by
  subst e
  match c,hv with
  | 0,hv=>cases hv;exact h
  | 1,hv=>cases hv;exact h2
  | c+2,hv=>simp at hv
 have three:∀ {a b e u x y:Nat},ws=[u,x,y]->a<2^u->b<2^x->e<2^y->[a,b,e].getD c 0<2^v:=λ {a b e u x y} e' h h2 h3=>by
  subst e'
  match c,hv with
  | 0,hv=>cases hv;exact h
  | 1,hv=>cases hv;exact h2
  | 2,hv=>cases hv;exact h3
  | c+3,hv=>simp at hv
 obtain⟨bT,bW,hk⟩:=hk;cases wd with
 | «in» => rw[hk] at hv;simp at hv
 | num=>rw[hk] at hv;simp at hv
 | not=>exact one hk hm
 | cut =>
   obtain⟨u,e,h1,h2⟩:=hk;exact one e (xAc hm (yAr (by decide) h1))
 | xor=>exact two hk hm hm
 | and=>exact two hk (aAf hm) (aAf hm)
 | or=>exact two hk (aAf hm) (aAf hm)
 | add=>exact two hk (hB hb) (hB hb)
 | sub=>exact two hk (hB hb) (hB hb)
 | mul=>exact two hk (hB (by omega)) (hB (by omega))
 | left=>exact one hk (xAj (Nat.div_le_self _ _) hm)
 | right=>exact one hk (Nat.and_lt_two_pow _ (hB (yAb _)))
 | slide=>exact one hk (aHj bT)
 | wide =>
   obtain⟨u,e,h1,h2⟩:=hk;subst e;exact one rfl (Nat.and_lt_two_pow _ (hB (yAb _)))
 | sign =>
   obtain⟨u,e,h1,h2⟩:=hk;subst e;exact one rfl (aHj h2)
 | same =>
   obtain⟨_,u,e,h1,h2⟩:=hk;subst e;exact two rfl (hB (yAb _)) (hB (yAb _))
 | less =>
   obtain⟨_,u,e,h1,h2⟩:=hk;subst e;exact two rfl (hB (yAb _)) (hB (yAb _))
 | under =>
   obtain⟨_,u,e,h1,h2⟩:=hk;subst e;exact two rfl (hB (yAb _)) (hB (yAb _))
 | pick =>
   simp only
   split
   ·exact three hk (by decide) hm (xAf _)
   ·split
    ·exact three hk (by decide) (xAf _) hm
    ·exact three hk (by decide) hm hm
noncomputable def Fc.d(f:Fc):D:=.tuple [.int f.N,.int f.O,.int f.A]
theorem aA0(f:Fc):aH f.d (.int 0)=qq (.int f.N):=rfl
theorem aAQ(f:Fc):aH f.d (.int 1)=qq (.int f.O):=rfl
theorem aJh(a:D):aH (.tuple [a]) (.int 0)=qq a:=rfl
theorem aAx(a b:D):aH (.tuple [a,b]) (.int 0)=qq a:=rfl
theorem aAD(a b:D):aH (.tuple [a,b]) (.int 1)=qq b:=rfl
theorem aUB(a b c:D):aH (.tuple [a,b,c]) (.int 0)=qq a:=rfl
theorem aFm(d a b m:Nat)(S:aE):cl fns (d+1) 11 [.d (.int a),.d (.int b),.d (.int m)] S=qq (.d (.tuple [.int ((dA m (dA b a):Nat):Int),.int ((dA m a:Nat):Int)]),S):=by
 rw[aU rfl d _ S rfl];simp only[gR1,aEN,aPc,aOg]
theorem aNP(i j:Nat):(if ((j:Nat):Int)<((i:Nat):Int) then ((j:Nat):Int) else ((i:Nat):Int))=((min i j:Nat):Int):=by
 by_cases c:j<i
 ·rw[if_pos (by omega),yHh (by omega)]
 ·rw[if_neg (by omega),yGh (by omega)]
theorem aLV(d a b m:Nat)(hm:m<2^64)(S:aE):cl fns (d+3) 12 [.d (.int a),.d (.int b),.d (.int m)] S=qq (.d (.tuple [.int ((2^(bl m-min (bl m) (lr b))-1:Nat):Int),.int ((2^(bl m-min (bl m-min (bl m) (lr b)) (lr a))-1:Nat):Int)]),S):=by
 have hb:=rZ hm;have e1:((bl m:Nat):Int)-((min (bl m) (lr b):Nat):Int)=((bl m-min (bl m) (lr b):Nat):Int):=by omega
 have e2:((bl m:Nat):Int)-((min (bl m-min (bl m) (lr b)) (lr a):Nat):Int)=((bl m-min (bl m-min (bl m) (lr b)) (lr a):Nat):Int):=by omega
 rw[aU rfl (d+2) _ S rfl];simp only[evs,gE,aF7,zF (d+1),aC2 d,pU,aNP,cR,e1,e2,cQ (d+1) (bl m-min (bl m) (lr b)) (by omega),cQ (d+1) (bl m-min (bl m-min (bl m) (lr b)) (lr a)) (by omega)]
theorem aFD(d y w:Nat)(hw:1<=w)(bW:w<=1000)(S:aE):cl fns (d+2) 13 [.d (.int y),.d (.int w)] S=qq (.d (.int ((gN y w:Nat):Int)),S):=by
 have e1:(w:Int)-1=((w-1:Nat):Int):=by omega
 rw[aU rfl (d+1) _ S rfl];unfold gN
 by_cases c:y/2^w=0
 ·have d1:(y/2^w==0)=true:=by rw[beq_iff_eq];exact c
  rw[if_pos c];simp only[gR1,aCu,eU,bO,fX,d1]
 ·have d1:(y/2^w==0)=false:=by rw[beq_eq_false_iff_ne];exact c
  rw[if_neg c];have hq67:=cQ d w (by omega)
  have hq68:=eT (show w-1<=100000 by omega)
  simp only[gR1,aCu,eU,bO,fX,d1,hq67,dJ,cR,e1,hq68,eX]
theorem aPr(d w kk m:Nat)(S:aE):cl fns (d+3) 14 [.d (.str "left"),.d (.int w),.d (.int kk),.d (.int m)] S=qq (.d (.int ((m/2^kk:Nat):Int)),S):=by
 have c1:aV .Eq (.str "left") (.str "left")=qq (.bool true):=bN .left .left;rw[aU rfl (d+2) _ S rfl];simp only[gR1,xW,c1,eU]
theorem aN7(d w kk m:Nat)(hw:w<=64)(hk:kk<=64)(hm:m<2^64)(S:aE):cl fns (d+3) 14 [.d (.str "right"),.d (.int w),.d (.int kk),.d (.int m)] S=qq (.d (.int (((m*2^kk)&&&(2^w-1):Nat):Int)),S):=by
 have c1:aV .Eq (.str "right") (.str "left")=qq (.bool false):=bN .right .left;have c2:aV .Eq (.str "right") (.str "right")=qq (.bool true):=bN .right .right;rw[aU rfl (d+2) _ S rfl];have hq69:=rD hm (show 64+kk<=100000 by omega)
 have hq70:=cQ (d+1) w (by omega)
 simp only[gR1,xW,c1,c2,hq69,hq70,dJ]
theorem aN5(d w kk m:Nat)(bT:1<=w)(hw:w<=64)(hk:kk<=64)(hm:m<2^64)(S:aE):cl fns (d+3) 14 [.d (.str "slide"),.d (.int w),.d (.int kk),.d (.int m)] S=qq (.d (.int ((gN (m*2^kk) w:Nat):Int)),S):=by
 have c1:aV .Eq (.str "slide") (.str "left")=qq (.bool false):=bN .slide .left;have c2:aV .Eq (.str "slide") (.str "right")=qq (.bool false):=bN .slide .right;rw[aU rfl (d+2) _ S rfl];have hq71:=rD hm (show 64+kk<=100000 by omega)
 simp only[gR1,xW,c1,c2,hq71,aFD d _ w bT (by omega)]
theorem aLC(d:Nat)(f:Fc)(m:Nat)(S:aE):cl fns (d+1) 15 [.d f.d,.d (.int m)] S=qq (.d (.tuple ((if f.O=1 then [1,m,0] else if f.N=1 then [1,0,m] else [1,m,m]).map nD)),S):=by
 rw[aU rfl d _ S rfl]
 by_cases c1:f.O=1
 ·have d1:(f.O==1)=true:=by rw[beq_iff_eq];exact c1
  rw[if_pos c1];simp only[gR1,yO,aAQ,bO,lP,d1]
 ·have d1:(f.O==1)=false:=by rw[beq_eq_false_iff_ne];exact c1
  rw[if_neg c1]
  by_cases c2:f.N=1
  ·have d2:(f.N==1)=true:=by rw[beq_iff_eq];exact c2
   rw[if_pos c2];simp only[gR1,yO,aAQ,aA0,bO,lP,d1,d2]
  ·have d2:(f.N==1)=false:=by rw[beq_eq_false_iff_ne];exact c2
   rw[if_neg c2];simp only[gR1,yO,aAQ,aA0,bO,lP,d1,d2]
def rQ(wd:Wd)(args:List Nat)(kk:Nat):Prop:=match wd with
 | .in=>args=[]
 | .num=>∃ n,args=[n]
 | .not | .cut | .wide | .sign=>∃ a,args=[a]
 | .left | .right | .slide=>∃ a,args=[a,kk]/\kk<64
 | .pick=>∃ a b c,args=[a,b,c]
 | _=>∃ a b,args=[a,b]
theorem aCh{wd:Wd}{args:List Nat}{kk:Nat}(h:rQ wd args kk):(args.take (bD wd)).length=bD wd:=by
 cases wd<;>first
  | (obtain rfl:=h;rfl)
  | (obtain⟨a,b,c,rfl⟩:=h;rfl)
  | (obtain⟨a,b,rfl⟩:=h;rfl)
  | (obtain⟨a,rfl,_⟩:=h;rfl)
  | (obtain⟨a,rfl⟩:=h;rfl)
theorem aVF(a:Wd):aV .In (.str a.s) (.tuple [.str "add",.str "sub"])=qq (.bool (decide (a=.add\/a=.sub))):=by cases a<;>rfl
theorem aT2{wd:Wd}{w a k:Nat}:aH (Rw.mk wd w [a,k]).d (.int 3)=qq (.int k):=rfl
theorem sJ{α:Type}{l:List α}(h:l.length=1):∃ a,l=[a]:=List.length_eq_one_iff.mp h
theorem aDB{α:Type}{l:List α}(h:l.length=2):∃ a b,l=[a,b]:=by
 match l,h with
 | [a,b],_=>exact⟨a,b,rfl⟩
theorem aWr{α:Type}{l:List α}(h:l.length=3):∃ a b c,l=[a,b,c]:=by
 match l,h with
 | [a,b,c],_=>exact⟨a,b,c,rfl⟩
noncomputable abbrev eA(R W G:D)(m:Nat)(x:Wd):aZ:=[qq (.d R),qq (.d W),qq (.d G),qq (.d (.int m)),qq (.d (.str x.s))]
noncomputable def aK:Nat->Sx
 | 0=>cJ aEV
 | k+1=>cJ (aK k)
section
variable (C : Calls)(R W G : D)(m : Nat)(S : aE)(x : Wd)
theorem aDG:tv C (.cmp .Eq (.var 4) (.str "and")) (eA R W G m x) S=qq (decide (x=.and),S):=cP rfl (bN x .and)
theorem aKy:tv C (.cmp .Eq (.var 4) (.str "or")) (eA R W G m x) S=qq (decide (x=.or),S):=cP rfl (bN x .or)
theorem aJ4:tv C (.cmp .In (.var 4) (.tup (.cons (.str "add") (.cons (.str "sub") .nil)))) (eA R W G m x) S=qq (decide (x=.add\/x=.sub),S):=jU rfl rfl (aVF x)
theorem aKH:tv C (.cmp .Eq (.var 4) (.str "mul")) (eA R W G m x) S=qq (decide (x=.mul),S):=cP rfl (bN x .mul)
theorem aKG:tv C (.cmp .In (.var 4) (.con "SHIFTS" qV)) (eA R W G m x) S=qq (decide (x=.left\/x=.right\/x=.slide),S):=jU rfl rfl (aB9 x)
theorem aDX:tv C (.cmp .Eq (.var 4) (.str "wide")) (eA R W G m x) S=qq (decide (x=.wide),S):=cP rfl (bN x .wide)
theorem aKC:tv C (.cmp .Eq (.var 4) (.str "sign")) (eA R W G m x) S=qq (decide (x=.sign),S):=cP rfl (bN x .sign)
theorem aDF:tv C (.cmp .In (.var 4) (.con "COMPARES" qS)) (eA R W G m x) S=qq (decide (x=.same\/x=.less\/x=.under),S):=jU rfl rfl (zW x)
theorem aJ8:tv C (.cmp .Eq (.var 4) (.str "pick")) (eA R W G m x) S=qq (decide (x=.pick),S):=cP rfl (bN x .pick)
variable {C R W G m S}{r : Option (Fl×aE)}
theorem jF{k:Nat}{c:E}{t:Sx}{b:Bool}(e:aK k=.seq (.ifs c t .skip) (aK (k+1)))(h:tv C c (eA R W G m x) S=qq (b,S))(hb:b=false)(g:xs C (aK (k+1)) (eA R W G m x) S=r):xs C (aK k) (eA R W G m x) S=r:=by
 subst hb;rw[e];exact aN h g
theorem aKr(h:(decide (x=.and)||decide (x=.or))=false)(g:xs C (aK 2) (eA R W G m x) S=r):xs C (aK 0) (eA R W G m x) S=r:=by
 obtain⟨h1,h2⟩:=Bool.or_eq_false_iff.mp h;exact jF x rfl (aDG C R W G m S x) h1 (jF x rfl (aKy C R W G m S x) h2 g)
theorem aJ5(h:(decide (x=.and)||decide (x=.or))=false)(h2:decide (x=.add\/x=.sub)=false)(g:xs C (aK 3) (eA R W G m x) S=r):xs C (aK 0) (eA R W G m x) S=r:=aKr x h (jF x rfl (aJ4 C R W G m S x) h2 g)
theorem aKI(h:(decide (x=.and)||decide (x=.or))=false)(h2:(decide (x=.add\/x=.sub)||decide (x=.mul))=false)(g:xs C (aK 4) (eA R W G m x) S=r):xs C (aK 0) (eA R W G m x) S=r:=by
 obtain⟨h3,h4⟩:=Bool.or_eq_false_iff.mp h2;exact aJ5 x h h3 (jF x rfl (aKH C R W G m S x) h4 g)
theorem aDH(h:(decide (x=.and)||decide (x=.or))=false)(h2:(decide (x=.add\/x=.sub)||decide (x=.mul))=false)(h5:decide (x=.left\/x=.right\/x=.slide)=false)(g:xs C (aK 5) (eA R W G m x) S=r):xs C (aK 0) (eA R W G m x) S=r:=aKI x h h2 (jF x rfl (aKG C R W G m S x) h5 g)
theorem aDP(h:(decide (x=.and)||decide (x=.or))=false)(h2:(decide (x=.add\/x=.sub)||decide (x=.mul))=false)(h5:decide (x=.left\/x=.right\/x=.slide)=false)(h6:(decide (x=.wide)||decide (x=.sign))=false)(g:xs C (aK 7) (eA R W G m x) S=r):xs C (aK 0) (eA R W G m x) S=r:=by
 obtain⟨h3,h4⟩:=Bool.or_eq_false_iff.mp h6;exact aDH x h h2 h5 (jF x rfl (aDX C R W G m S x) h3 (jF x rfl (aKC C R W G m S x) h4 g))
theorem aWB(h:(decide (x=.and)||decide (x=.or))=false)(h2:(decide (x=.add\/x=.sub)||decide (x=.mul))=false)(h5:decide (x=.left\/x=.right\/x=.slide)=false)(h6:(decide (x=.wide)||decide (x=.sign))=false)(h8:(decide (x=.same\/x=.less\/x=.under)||decide (x=.pick))=false)(g:xs C (aK 9) (eA R W G m x) S=r):xs C (aK 0) (eA R W G m x) S=r:=by
 obtain⟨h3,h4⟩:=Bool.or_eq_false_iff.mp h8;exact aDP x h h2 h5 h6 (jF x rfl (aDF C R W G m S x) h3 (jF x rfl (aJ8 C R W G m S x) h4 g))
end
section
variable (d w kk m : Nat)(ws : List Nat)(R W : D)(S : aE)(h0 : m≠0)
include h0
theorem aPK(f g:Fc):xs (aC fns (d+3)) (aK 0) (eA R W (.tuple ([f,g].map Fc.d)) m .and) S=qq (.rt (.d (.tuple ((aW .and w kk ws [f,g] m).map nD))),S):=by
 rw[show aW .and w kk ws [f,g] m=_ from if_neg h0]
 refine bY (aDG _ _ _ _ _ _ .and) (bK ?_);simp only[gS0,aAx,aAD,aA0,aFm (d+2),nD,yBa,yBe]
theorem aQD(f g:Fc):xs (aC fns (d+3)) (aK 0) (eA R W (.tuple ([f,g].map Fc.d)) m .or) S=qq (.rt (.d (.tuple ((aW .or w kk ws [f,g] m).map nD))),S):=by
 rw[show aW .or w kk ws [f,g] m=_ from if_neg h0]
 refine jF .or rfl (aDG _ _ _ _ _ _ .or) rfl (bY (aKy _ _ _ _ _ _ .or) (bK ?_));simp only[gS0,aAx,aAD,aAQ,aFm (d+2),nD,yBa,yBe]
theorem aG3(x:Wd)(hx:decide (x=.add\/x=.sub)=true)(h1:(decide (x=.and)||decide (x=.or))=false)(G:D)(bm:m<2^10000):xs (aC fns (d+3)) (aK 0) (eA R W G m x) S=qq (.rt (.d (.tuple ([2^bl m-1,2^bl m-1].map nD))),S):=by
 have t:=aJ4 (aC fns (d+3)) R W G m S x;rw[hx] at t;refine aKr x h1 (bY t (bK ?_));simp only[gS0,aGP (d+1) m _ bm,nD]
theorem aPX(f g:Fc)(hm:m<2^64):xs (aC fns (d+3)) (aK 0) (eA R W (.tuple ([f,g].map Fc.d)) m .mul) S=qq (.rt (.d (.tuple ((aW .mul w kk ws [f,g] m).map nD))),S):=by
 rw[show aW .mul w kk ws [f,g] m=_ from if_neg h0]
 refine aJ5 .mul rfl rfl (bY (aKH _ _ _ _ _ _ .mul) (bK ?_));simp only[evs,aAx,aAD,aA0,aLV d f.N g.N m hm,nD,yBa,yBe]
theorem aCT(x:Wd)(hx:decide (x=.left\/x=.right\/x=.slide)=true)(h1:(decide (x=.and)||decide (x=.or))=false)(h2:(decide (x=.add\/x=.sub)||decide (x=.mul))=false)(a:Nat)(G:D){z:Nat}(sl:cl fns (d+3) 14 [.d (.str x.s),.d (.int w),.d (.int kk),.d (.int m)] S=qq (.d (.int z),S)):xs (aC fns (d+3)) (aK 0) (eA (Rw.mk x w [a,kk]).d W G m x) S=qq (.rt (.d (.tuple ([z].map nD))),S):=by
 have t:=aKG (aC fns (d+3)) (Rw.mk x w [a,kk]).d W G m S x;rw[hx] at t;have r1:aH (Rw.mk x w [a,kk]).d (.int 1)=qq (.int w):=iO _;refine aKI x h1 h2 (bY t (bK ?_));simp only[evs,r1,aT2,sl,nD]
theorem aND(v:Nat)(hv:v<=64)(G:D):xs (aC fns (d+3)) (aK 0) (eA R (.tuple ([v].map nD)) G m .wide) S=qq (.rt (.d (.tuple ([m&&&(2^v-1)].map nD))),S):=by
 refine aDH .wide rfl rfl rfl (bY (aDX _ _ _ _ _ _ .wide) (bK ?_));have hq72:=cQ (d+2) v (by omega)
 simp only[gS0,nD,aJh,hq72,dJ]
theorem aOy(v:Nat)(hv1:1<=v)(hv:v<=64)(G:D):xs (aC fns (d+3)) (aK 0) (eA R (.tuple ([v].map nD)) G m .sign) S=qq (.rt (.d (.tuple ([gN m v].map nD))),S):=by
 refine aDH .sign rfl rfl rfl (jF .sign rfl (aDX _ _ _ _ _ _ .sign) rfl (bY (aKC _ _ _ _ _ _ .sign) (bK ?_)));have hq73:=aFD (d+1) m v hv1 (by omega)
 simp only[gS0,nD,aJh,hq73]
theorem aCs(x:Wd)(hx:decide (x=.same\/x=.less\/x=.under)=true)(h1:(decide (x=.and)||decide (x=.or))=false)(h2:(decide (x=.add\/x=.sub)||decide (x=.mul))=false)(h5:decide (x=.left\/x=.right\/x=.slide)=false)(h6:(decide (x=.wide)||decide (x=.sign))=false)(v:Nat)(hv:v<=64)(G:D):xs (aC fns (d+3)) (aK 0) (eA R (.tuple ([v,v].map nD)) G m x) S=qq (.rt (.d (.tuple ([2^v-1,2^v-1].map nD))),S):=by
 have t:=aDF (aC fns (d+3)) R (.tuple ([v,v].map nD)) G m S x;rw[hx] at t;refine aDP x h1 h2 h5 h6 (bY t (bK ?_));have hq74:=cQ (d+2) v (by omega)
 simp only[gS0,nD,aAx,aAD,hq74]
theorem aOs(f g h:Fc):xs (aC fns (d+3)) (aK 0) (eA R W (.tuple ([f,g,h].map Fc.d)) m .pick) S=qq (.rt (.d (.tuple ((aW .pick w kk ws [f,g,h] m).map nD))),S):=by
 rw[show aW .pick w kk ws [f,g,h] m=_ from if_neg h0]
 refine aDP .pick rfl rfl rfl rfl (jF .pick rfl (aDF _ _ _ _ _ _ .pick) rfl (bY (aJ8 _ _ _ _ _ _ .pick) (bK ?_)));simp only[gS0,aUB,aLC (d+2),yBa]
omit h0 in
theorem aTw(n:Nat)(h:n<=10):bP .Mult (.tuple [.int m]) (.int ((n:Nat):Int))=qq (.tuple ((yAc n m).map nD)):=by
 rw[aCc (k:=n) (by omega),yDl]
 rfl
theorem tR(x:Wd)(args:List Nat)(ha:rQ x args kk)(h1:(decide (x=.and)||decide (x=.or))=false)(h2:(decide (x=.add\/x=.sub)||decide (x=.mul))=false)(h5:decide (x=.left\/x=.right\/x=.slide)=false)(h6:(decide (x=.wide)||decide (x=.sign))=false)(h8:(decide (x=.same\/x=.less\/x=.under)||decide (x=.pick))=false)(G:D):xs (aC fns (d+3)) (aK 0) (eA (Rw.mk x w args).d W G m x) S=qq (.rt (.d (.tuple ((yAc (bD x) m).map nD))),S):=by
 have op:cl fns (d+3) 7 [.d (Rw.mk x w args).d] S=qq (.d (.tuple ((args.take (bD x)).map nD)),S):=pB (d+2) ⟨x,w,args⟩ S;have lop:fO [.tuple ((args.take (bD x)).map nD)]=qq (.int ((bD x:Nat):Int)):=by
  simp only[dU,dS,yAd,aCh ha]
 have rp:=aTw m (bD x) (by cases x<;>decide)
 refine aWB x h1 h2 h5 h6 h8 (bK ?_);simp only[gS0,op,lop,rp]
end
theorem aM9(d:Nat)(wd:Wd)(w:Nat)(args:List Nat)(kk:Nat)(ws:List Nat)(fs:List Fc)(m:Nat)(hk:wN wd w ws)(hf:fs.length=bD wd)(ha:rQ wd args kk)(hm:m<2^w)(h0:m≠0)(S:aE) :
 cl fns (d+4) 16 [.d (Rw.mk wd w args).d,.d (.tuple (ws.map nD)),.d (.tuple (fs.map Fc.d)),.d (.int m)] S=qq (.d (.tuple ((aW wd w kk ws fs m).map nD)),S):=by
 have hm64:m<2^64:=xAc hm (yAr (by decide) hk.2.1)
 have r0:aH (Rw.mk wd w args).d (.int 0)=qq (.str wd.s):=rY _;have bm:m<2^10000:=aJa hm64 (by decide)
 refine cH rfl (d+3) rfl rfl (yAe) (cG (S1:=S) (w:=.d (.str wd.s)) (aI:=eA (Rw.mk wd w args).d (.tuple (ws.map nD)) (.tuple (fs.map Fc.d)) m wd) (by simp only[evs,r0]) rfl ?_)
 show xs (aC fns (d+3)) (aK 0) (eA (Rw.mk wd w args).d (.tuple (ws.map nD)) (.tuple (fs.map Fc.d)) m wd) S=_;clear r0;obtain⟨bT,bW,hk⟩:=hk;have e0:aW wd w kk ws fs m=_:=if_neg h0;cases wd
 case and=>obtain⟨f,g,rfl⟩:=aDB hf;exact aPK d w kk m ws _ _ S h0 f g
 case or=>obtain⟨f,g,rfl⟩:=aDB hf;exact aQD d w kk m ws _ _ S h0 f g
 case add=>rw[e0];exact aG3 d m _ _ S h0 .add rfl rfl _ bm
 case sub=>rw[e0];exact aG3 d m _ _ S h0 .sub rfl rfl _ bm
 case mul=>obtain⟨f,g,rfl⟩:=aDB hf;exact aPX d w kk m ws _ _ S h0 f g hm64
 case left =>
  obtain⟨a,rfl,hkk⟩:=ha;rw[e0];exact aCT d w kk m _ S h0 .left rfl rfl rfl a _ (aPr d w kk m S)
 case right =>
  obtain⟨a,rfl,hkk⟩:=ha;rw[e0];exact aCT d w kk m _ S h0 .right rfl rfl rfl a _ (aN7 d w kk m bW (by omega) hm64 S)
 case slide =>
  obtain⟨a,rfl,hkk⟩:=ha;rw[e0];exact aCT d w kk m _ S h0 .slide rfl rfl rfl a _ (aN5 d w kk m bT bW (by omega) hm64 S)
 case wide =>
  obtain⟨v,rfl,hv1,hv2⟩:=hk;rw[e0];exact aND d m _ S h0 v (by omega) _
 case sign =>
  obtain⟨v,rfl,hv1,hv2⟩:=hk;rw[e0];exact aOy d m _ S h0 v (by omega) (by omega) _
 case same =>
  obtain⟨_,v,rfl,hv1,hv2⟩:=hk;rw[e0];exact aCs d m _ S h0 .same rfl rfl rfl rfl rfl v (by omega) _
 case less =>
  obtain⟨_,v,rfl,hv1,hv2⟩:=hk;rw[e0];exact aCs d m _ S h0 .less rfl rfl rfl rfl rfl v (by omega) _
 case under =>
  obtain⟨_,v,rfl,hv1,hv2⟩:=hk;rw[e0];exact aCs d m _ S h0 .under rfl rfl rfl rfl rfl v (by omega) _
 case pick=>obtain⟨f,g,h,rfl⟩:=aWr hf;exact aOs d w kk m ws _ _ S h0 f g h
 case «in» => rw[e0];exact tR d w kk m _ S h0 .in args ha rfl rfl rfl rfl rfl _
 case num=>rw[e0];exact tR d w kk m _ S h0 .num args ha rfl rfl rfl rfl rfl _
 case not=>rw[e0];exact tR d w kk m _ S h0 .not args ha rfl rfl rfl rfl rfl _
 case cut=>rw[e0];exact tR d w kk m _ S h0 .cut args ha rfl rfl rfl rfl rfl _
 case xor=>rw[e0];exact tR d w kk m _ S h0 .xor args ha rfl rfl rfl rfl rfl _
theorem aNM(n:Nat)(h:n<=10):bP .Mult (.tuple [.int 0]) (.int ((n:Nat):Int))=qq (.tuple ((yAc n 0).map nD)):=by
 rw[aCc (k:=n) (by omega),yDl]
 rfl
theorem aHy(d:Nat)(wd:Wd)(w:Nat)(args:List Nat)(kk:Nat)(ws:List Nat)(fs:List Fc)(m:Nat)(hk:wN wd w ws)(hf:fs.length=bD wd)(ha:rQ wd args kk)(hm:m<2^w)(S:aE) :
 cl fns (d+5) 17 [.d (Rw.mk wd w args).d,.d (.tuple (ws.map nD)),.d (.tuple (fs.map Fc.d)),.d (.int m)] S=qq (.d (.tuple ((aW wd w kk ws fs m).map nD)),S):=by
 rw[aU rfl (d+4) _ S rfl]
 by_cases h0:m=0
 ·have d0:(m==0)=true:=by rw[beq_iff_eq];exact h0
  have e0:aW wd w kk ws fs m=yAc (bD wd) 0:=if_pos h0;have lop:fO [.tuple ((args.take (bD wd)).map nD)]=qq (.int ((bD wd:Nat):Int)):=by
   simp only[dU,dS,yAd,aCh ha]
  have op:cl fns (d+4) 7 [.d (Rw.mk wd w args).d] S=qq (.d (.tuple ((args.take (bD wd)).map nD)),S):=pB (d+3) ⟨wd,w,args⟩ S;rw[e0];have hq75:=aNM (bD wd) (by cases wd<;>decide)
  simp only[gR1,aDu,bO,fX,d0,op,lop,hq75]
 ·have d0:(m==0)=false:=by rw[beq_eq_false_iff_ne];exact h0
  simp only[gR1,aDu,bO,fX,d0,aM9 d wd w args kk ws fs m hk hf ha hm h0]
noncomputable def nC(r:Rw):List Nat:=r.args.take (bD r.wd)
noncomputable def oO(r:Rw):Nat:=r.args.getD 1 0
noncomputable def fW(r:Rw)(F:List Ft):List Fc:=(gS r F).map λ f=>⟨f.N,f.O,f.A⟩
noncomputable def fP(rs:List Rw)(F:List Ft)(r:Rw)(m:Nat):List Nat:=aW r.wd r.w (oO r) (aY r (~~~rs)) (fW r F) m
noncomputable def cW(rs:List Rw)(F:List Ft)(r:Rw)(m:Nat):List (Nat×Nat):=(nC r).zip (fP rs F r m)
noncomputable def pD(p:Nat×Nat):D:=.tuple [nD p.1,nD p.2]
theorem rX{r:Rw}{ws:List Nat}(h:RwOk r ws):wN r.wd r.w ws/\rQ r.wd r.args (oO r):=by
 cases h with
 | inp h1 h2=>exact⟨⟨h1,h2,rfl⟩,rfl⟩
 | num h1 h2 hn=>exact⟨⟨h1,h2,rfl⟩,_,rfl⟩
 | nt h1 h2=>exact⟨⟨h1,h2,rfl⟩,_,rfl⟩
 | sh h1 h2 aJ hk=>rcases aJ with rfl | rfl | rfl<;>exact⟨⟨h1,h2,rfl⟩,_,rfl,hk⟩
 | cut h1 hv h2=>exact⟨⟨h1,xAi hv h2,_,rfl,hv,h2⟩,_,rfl⟩
 | wide h1 hv h2=>exact⟨⟨xAi h1 hv,h2,_,rfl,hv,h1⟩,_,rfl⟩
 | sign h1 hv h2=>exact⟨⟨xAi h1 hv,h2,_,rfl,hv,h1⟩,_,rfl⟩
 | bw h1 h2 aJ=>rcases aJ with rfl | rfl | rfl<;>exact⟨⟨h1,h2,rfl⟩,_,_,rfl⟩
 | sm h1 h2 =>
   rename_i s w a b;cases s<;>exact⟨⟨h1,h2,rfl⟩,_,_,rfl⟩
 | cmp h1 h2 aJ=>rcases aJ with rfl | rfl | rfl<;>exact⟨⟨yAb 1,(show 1<=64 by decide),rfl,_,rfl,h1,h2⟩,_,_,rfl⟩
 | pick h1 h2=>exact⟨⟨h1,h2,rfl⟩,_,_,_,rfl⟩
theorem aDh:∀ as bs:List Nat,cV (as.map nD) (bs.map nD)=(as.zip bs).map pD
 | [],_=>by cases ‹List Nat› <;> rfl
 | _::_,[]=>rfl
 | a::as,b::bs=>by
   show yBf [nD a,nD b]::cV (as.map nD) (bs.map nD)=pD (a,b)::(as.zip bs).map pD;rw[aDh as bs];rfl
theorem aJv(r:Rw)(F:List Ft):(fW r F).map Fc.d=(gS r F).map Ft.d:=by
 unfold fW;rw[yBu];rfl
theorem rJ(d a:Nat){rs:List Rw}{r:Rw}(hr:rs[a]? = qq r)(o:D)(S:aE):cl fns (d+1) 9 [.d (rs<*o),.d (.int a)] S=qq (.d (.int r.w),S):=by
 have i0:aH (rs<*o) (.int 0)=qq (.tuple (rs.map Rw.d)):=rfl;have e1:aH (.tuple (rs.map Rw.d)) (.int a)=qq r.d:=gX (by rw[xAb,hr];rfl)
 rw[aU rfl d _ S rfl];simp only[gR1,aFL,i0,e1,iO]
theorem mL{rs:List Rw}{a:Nat}{r:Rw}(hr:rs[a]? = qq r):g0 (~~~rs) a=r.w:=by
 show(~~~rs).getD a 0=_;rw[xAh,xAb,hr];rfl
theorem aPk{fa fb:FE}{env:aZ}{S S1 S2:aE}{as bs:List Nat}(h1:fa env S=qq (.d (.tuple (as.map nD)),S1))(h2:fb env S1=qq (.d (.tuple (bs.map nD)),S2))(hl:as.length<=1000):rT fa fb env S=qq ((as.zip bs).map pD,S2):=by
 have e:qB fa fb env S=qq ((as.zip bs).map pD,S2):=by
  unfold qB;rw[h1,oB,h2,oB,<- aDh];rfl
 unfold rT aJ9;rw[e,oB,if_pos];show((as.zip bs).map pD).length<=1000000;rw[yAd,List.length_zip];omega
theorem aCD(r:Rw):(nC r).length<=3:=by
 have:=aIC r.wd;unfold nC;rw[yBv];omega
section
variable {rs : List Rw}{F : List Ft}{r : Rw}{k m : Nat}
theorem aHO(p:Prg rs)(hr:rs[k]? = qq r):(fW r F).length=bD r.wd:=by
 have h:=(rX (p.fit k r hr).1).2;unfold fW gS;rw[yAd,yAd];exact aCh h
theorem aFc(d:Nat)(p:Prg rs)(hr:rs[k]? = qq r)(hF:F.length=rs.length)(hm:m<2^r.w)(o:D)(S:aE):cl fns (d+6) 18 [.d (rs<*o),.d (.tuple (F.map Ft.d)),.d (.int k),.d (.int m)] S=qq (.d (.list ((cW rs F r m).map pD)),S):=by
 have i0:aH (rs<*o) (.int 0)=qq (.tuple (rs.map Rw.d)):=rfl;have e1:aH (.tuple (rs.map Rw.d)) (.int k)=qq r.d:=gX (by rw[xAb,hr];rfl)
 obtain⟨f1,f2'⟩:=p.fit k r hr;have hk:k<rs.length:=(gIm hr).1;have ol:=aCD r;have hc:lv (aC fns (d+5)) aEO [qq (.d (rs<*o)),qq (.d (.tuple (F.map Ft.d))),qq (.d (.int k)),qq (.d (.int m)),qq (.d r.d),qz,qz,qz] S=qq ((aY r (~~~rs)).map nD,S):=by
  unfold aY;rw[yBu];refine kP (fi:=lv (aC fns (d+5)) (.it (.call 7 (.cons (.var 4) .nil)))) (fe:=ev (aC fns (d+5)) (.call 9 (.cons (.var 0) (.cons (.var 7) .nil)))) nD (nD ∘ g0 (~~~rs)) (r.args.take (bD r.wd)) ?_ (by rw[zq];have:(r.args.take (bD r.wd)).length<=3:=ol;omega) λ a ha=>?_
  ·simp only[gS0,pB (d+4),fV]
  ·refine⟨_,rfl,λ S'=>?_⟩
   have haj:=f2' a ha;have hq:rs[a]? = qq rs[a]:=yAa (by omega)
   have e2:=rJ (d+4) a hq o S';have e2':cl fns (d+5) 9 [.d (rs<*o),.d (nD a)] S'=qq (.d (.int (rs[a].w:Nat)),S'):=e2;simp only[evs,clr,yBm,yCg,e2'];show _=qq (W.d (nD (g0 (~~~rs) a)),S');rw[mL hq];rfl
 have o2:=zK (d+3) r (.d (.tuple (F.map Ft.d))) (.tuple (F.map Ft.d)) (λ a=>(f0 F a).d) S (λ _=>rfl) λ a ha=>gX (by rw[xAb,nT (by have:=f2' a ha;omega)];rfl)
 have o2':cl fns (d+5) 8 [.d r.d,.d (.tuple (F.map Ft.d))] S=qq (.d (.tuple ((fW r F).map Fc.d)),S):=by
  rw[o2,aJv,gS,yBu];rfl
 obtain⟨w1,w2⟩:=rX f1;have nk:=aHy d r.wd r.w r.args (oO r) (aY r (~~~rs)) (fW r F) m w1 (aHO p hr) w2 hm S;have nk':cl fns (d+5) 17 [.d r.d,.d (.tuple ((aY r (~~~rs)).map nD)),.d (.tuple ((fW r F).map Fc.d)),.d (.int m)] S=qq (.d (.tuple ((fP rs F r m).map nD)),S):=nk;have lz:∀ fa:FE,∀ env:aZ,fa env S=qq (.d (.tuple ((nC r).map nD)),S)->env[6]? = qq (qq (.d (.tuple ((fP rs F r m).map nD))))->rT fa (iS 6) env S=qq ((cW rs F r m).map pD,S):=λ fa env h h6=>aPk h (aGM h6) (by omega)
 rw[aU rfl (d+5) _ S rfl];simp only[evs,gE,aFA,i0,e1,hc,gJ,gK,o2',nk'];rw[lz _ _ (by simp only[evs,pB (d+4)];rfl) rfl]
 simp only[gS0,True]
end
noncomputable def cE(M:List Nat)(q:Nat×Nat):List Nat:=M.set q.1 (M.getD q.1 0|||q.2)
noncomputable def eQ(rs:List Rw)(F:List Ft)(M:List Nat)(k:Nat):List Nat:=match rs[k]? with
 | some r=>(cW rs F r (M.getD k 0)).foldl cE M
 | none=>M
noncomputable def fN(rs:List Rw)(F:List Ft):Nat->List Nat->List Nat
 | 0,M=>M
 | k+1,M=>fN rs F k (eQ rs F M k)
noncomputable def cY(rs:List Rw)(M:List Nat)(o:Nat):List Nat:=M.set o (2^g0 (~~~rs) o-1)
noncomputable def jD(rs:List Rw)(aD:List Nat):List Nat:=aD.foldl (cY rs) (yAc rs.length 0)
noncomputable def bS(rs:List Rw)(F:List Ft)(aD:List Nat):List Nat:=fN rs F rs.length (jD rs aD)
structure Bd(rs:List Rw)(M:List Nat):Prop where
 l:M.length=rs.length
 lt:∀ (i:Nat) (r:Rw),rs[i]? = qq r->M.getD i 0<2^r.w
theorem aFj{α β:Type}{f:β->α->β}{l:List α}{j:Nat}{q:α}(M:β)(h:l[j]? = qq q):(l.take (j+1)).foldl f M=f ((l.take j).foldl f M) q:=by
 rw[List.take_add_one,h];simp
theorem nE{M:List Nat}{a i v:Nat}(h:a≠i):(M.set a v).getD i 0=M.getD i 0:=by
 rw[xAh,xAh,yBg h]
theorem pA{M:List Nat}{a v:Nat}(h:a<M.length):(M.set a v).getD a 0=v:=by
 rw[xAh,yBc h];rfl
theorem zP{M:List Nat}{i:Nat}(h:i<M.length):M[i]? = qq (M.getD i 0):=by
 rw[xAh,yAa h];rfl
section
variable {rs : List Rw}{F : List Ft}{r : Rw}{k m : Nat}{M : List Nat}
theorem uP(p:Prg rs)(hr:rs[k]? = qq r)(hm:m<2^r.w)(q:Nat×Nat)(hq:q∈cW rs F r m):q.1<k/\∀ r',rs[q.1]? = qq r'->q.2<2^r'.w:=by
 obtain⟨f1,f2⟩:=p.fit k r hr;obtain⟨w1,w2⟩:=rX f1;obtain⟨c,hc⟩:=yEq hq;obtain⟨a,b⟩:=q;unfold cW at hc;rw[yEt] at hc;obtain⟨h1,h2⟩:=hc;refine⟨f2 a (xAl h1),λ r' hr'=>?_⟩
 have hv:(aY r (~~~rs))[c]? = qq r'.w:=by
  unfold aY;have h1':(r.args.take (bD r.wd))[c]? = qq a:=h1;rw[xAb,h1'];show qq (g0 (~~~rs) a)=_;rw[mL hr']
 have:=aPu r.wd r.w (oO r) (aY r (~~~rs)) (fW r F) m c r'.w w1 hm hv;have e:(fP rs F r m).getD c 0=b:=by
  rw[xAh,h2];rfl
 rw[<- e];exact this
theorem aJu(h:Bd rs M){q:Nat×Nat}(h1:q.1<rs.length)(h2:∀ r',rs[q.1]? = qq r'->q.2<2^r'.w):Bd rs (cE M q):=by
 refine⟨by unfold cE;rw[yBh];exact h.l,λ i r hr=>?_⟩
 unfold cE
 by_cases c:q.1=i
 ·rw[c] at h1 h2 ⊢;rw[pA (by rw[h.l];exact h1)]
  exact yBl (h.lt i r hr) (h2 r hr)
 ·rw[nE c];exact h.lt i r hr
theorem aIv(p:Prg rs)(hr:rs[k]? = qq r)(hm:m<2^r.w):∀ (l:List (Nat×Nat)) (M:List Nat),(∀ q∈l,q∈cW rs F r m)->Bd rs M->Bd rs (l.foldl cE M)
 | [],_,_,h=>h
 | q::l,M,hl,h=>by
   have hk:k<rs.length:=(gIm hr).1;obtain⟨a,b⟩:=uP p hr hm q (hl q xAd);exact aIv p hr hm l _ (λ x hx=>hl x (xAg _ hx)) (aJu h (by omega) b)
theorem zM:Bd rs (yAc rs.length 0):=by
 refine⟨yBb,λ i r hr=>?_⟩
 have hi:i<rs.length:=(gIm hr).1;rw[xAh,yBq,if_pos hi];exact xAf _
theorem aMS{o:Nat}(hr:rs[o]? = qq r):cY rs M o=M.set o (2^r.w-1):=by
 unfold cY;rw[mL hr]
theorem aHJ(h:Bd rs M){o:Nat}(ho:o<rs.length):Bd rs (cY rs M o):=by
 refine⟨by unfold cY;rw[yBh];exact h.l,λ i r hr=>?_⟩
 unfold cY
 by_cases c:o=i
 ·subst c;rw[pA (by rw[h.l];exact ho),mL hr]
  have:=xAf r.w;omega
 ·rw[nE c];exact h.lt i r hr
theorem zU:∀ (l:List Nat) (M:List Nat),(∀ o∈l,o<rs.length)->Bd rs M->Bd rs (l.foldl (cY rs) M)
 | [],_,_,h=>h
 | o::l,M,hl,h=>zU l _ (λ x hx=>hl x (xAg _ hx)) (aHJ h (hl o xAd))
theorem aAe(S:aE)(M:List Nat)(a v:Nat)(ha:a<M.length):iP (S++[qq (M.map nD)]) (.loc S.length) (.d (.int a)) (.d (.int v))=qq (S++[qq ((M.set a v).map nD)]):=by
 unfold iP;simp only[lS];unfold iF;rw[yAd,if_pos (by omega),if_pos (by omega),oB,yAo,List.set_append_right _ _ (yAb _),yBn,List.map_set]
 rfl
theorem aIL{M:List Nat}{i:Nat}(h:i<M.length):aH (.list (M.map nD)) (.int i)=qq (.int ((M.getD i 0:Nat):Int)):=nV (by rw[xAb,zP h];rfl)
theorem aDo{fa fb:FE}{env:aZ}{S:aE}{n:Nat}(h1:fa env S=qq (.d (.list [.int 0]),S))(h2:fb env S=qq (.d (.int n),S))(hn:n<=1000):wL fa fb env S=qq ((yAc n 0).map nD,S):=by
 have hz:(([.int 0]:List D)).length*(((n:Nat):Int)).toNat<=qy:=by rw[yAo,zq];simp;omega
 have hd:dr S (.d (.list [.int 0]))=qq (.list [.int 0]):=rfl;unfold wL;rw[h1,oB,h2,oB];show((dr S (.d (.list [.int 0]))).bind _)=_;rw[hd,oB];show(if ((n:Nat):Int)<2^63 /\ -(2^63)<=((n:Nat):Int)/\(([.int 0]:List D)).length*(((n:Nat):Int)).toNat<=qy then qq (eE (((n:Nat):Int)).toNat [yAk 0],S) else qz)=_
 rw[if_pos ⟨by omega,by omega,hz⟩,yAo,aB0,yDl]
 rfl
theorem aMP(d:Nat)(p:Prg rs)(hr:rs[k]? = qq r)(hF:F.length=rs.length)(o:D)(S:aE)(h:Bd rs M)(c3 c5 c6 c7 c8:Option W):∃ c7' c8':Option W,Bd rs (eQ rs F M k)/\dQ (.many [7,8]) (lv (aC fns (d+6)) yT) (xs (aC fns (d+6)) yV) [qq (.d (rs<*o)),qq (.d (.tuple (F.map Ft.d))),qq (.loc S.length),c3,qq (.d (.int k)),c5,c6,c7,c8] (S++[qq (M.map nD)])=qq (.nx [qq (.d (rs<*o)),qq (.d (.tuple (F.map Ft.d))),qq (.loc S.length),c3,qq (.d (.int k)),c5,c6,c7',c8'],S++[qq ((eQ rs F M k).map nD)]):=by
 have hk:k<rs.length:=(gIm hr).1;have hm:=h.lt k r hr;have e0:=aIL (M:=M) (i:=k) (by rw[h.l];exact hk)
 have rn:=aFc d p hr hF hm o (S++[qq (M.map nD)]);have eR:eQ rs F M k=(cW rs F r (M.getD k 0)).foldl cE M:=by unfold eQ;rw[hr]
 obtain⟨aI,S',p1,c7',c8',hb,rfl,rfl⟩:=mE (t:=.many [7,8]) (fi:=lv (aC fns (d+6)) yT) (fb:=xs (aC fns (d+6)) yV) (env:=[qq (.d (rs<*o)),qq (.d (.tuple (F.map Ft.d))),qq (.loc S.length),c3,qq (.d (.int k)),c5,c6,c7,c8]) (S:=S++[qq (M.map nD)]) (S1:=S++[qq (M.map nD)]) (ds:=(cW rs F r (M.getD k 0)).map pD)
  (λ j env S'=>∃ c7 c8:Option W,Bd rs (((cW rs F r (M.getD k 0)).take j).foldl cE M)/\env=[qq (.d (rs<*o)),qq (.d (.tuple (F.map Ft.d))),qq (.loc S.length),c3,qq (.d (.int k)),c5,c6,c7,c8]/\S'=S++[qq ((((cW rs F r (M.getD k 0)).take j).foldl cE M).map nD)])
  (by simp only[evs,yT,lS,e0,rn,fV]) ⟨c7,c8,h,rfl,rfl⟩ (by
    rintro j dd env S' hd ⟨c7,c8,hb,rfl,rfl⟩;rw[xAb] at hd;obtain⟨q,hq,rfl⟩:=Option.map_eq_some_iff.mp hd;obtain⟨q1,q2⟩:=uP p hr hm q (xAl hq);have ql:q.1<(((cW rs F r (M.getD k 0)).take j).foldl cE M).length:=by rw[hb.l];omega
    have ft:=aFj (f:=cE) M hq;have e1:=aIL ql;have pe:iP (S++[qq ((((cW rs F r (M.getD k 0)).take j).foldl cE M).map nD)]) (.loc S.length) (.d (.int (q.1:Nat))) (.d (.int (((((cW rs F r (M.getD k 0)).take j).foldl cE M).getD q.1 0|||q.2:Nat):Int)))=qq (S++[qq ((cE (((cW rs F r (M.getD k 0)).take j).foldl cE M) q).map nD)]):=aAe S _ q.1 _ ql
    refine⟨[qq (.d (rs<*o)),qq (.d (.tuple (F.map Ft.d))),qq (.loc S.length),c3,qq (.d (.int k)),c5,c6,qq (.d (.int (q.1:Nat))),qq (.d (.int (q.2:Nat)))],[qq (.d (rs<*o)),qq (.d (.tuple (F.map Ft.d))),qq (.loc S.length),c3,qq (.d (.int k)),c5,c6,qq (.d (.int (q.1:Nat))),qq (.d (.int (q.2:Nat)))],S++[qq ((cE (((cW rs F r (M.getD k 0)).take j).foldl cE M) q).map nD)],rfl,?_,_,_,?_,rfl,by rw[ft]⟩
    ·simp only[gS1,yV,lS,e1,eX,jE,pe]
    ·rw[ft];exact aJu hb (by omega) q2)
 rw[yAd,yAe,<- eR] at hb p1;exact⟨c7',c8',hb,p1⟩
theorem aCi(d:Nat)(p:Prg rs)(hF:F.length=rs.length)(aD:List Nat)(ho:∀ o∈aD,o<rs.length)(S:aE):Bd rs (bS rs F aD)/\cl fns (d+7) 19 [.d (rs<*(.tuple (aD.map nD))),.d (.tuple (F.map Ft.d))] S=qq (.d (.tuple ((bS rs F aD).map nD)),S):=by
 have pl:=p.l;have lR:fO [.tuple (rs.map Rw.d)]=qq (.int rs.length):=by
  show qq (yAk (((rs.map Rw.d).length:Nat):Int))=_;rw[yAd]
 obtain⟨env1,S1,p1,c3,hb0,rfl,rfl⟩:=mE (t:=.one 3) (fi:=lv (aC fns (d+6)) aBG) (fb:=xs (aC fns (d+6)) aBT) (env:=[qq (.d (rs<*(.tuple (aD.map nD)))),qq (.d (.tuple (F.map Ft.d))),qq (.loc S.length),qz,qz,qq (.d (.tuple (rs.map Rw.d))),qq (.d (.tuple (aD.map nD))),qz,qz]) (S:=S++[qq ((yAc rs.length 0).map nD)]) (S1:=S++[qq ((yAc rs.length 0).map nD)]) (ds:=aD.map nD)
  (λ j env S'=>∃ c3:Option W,Bd rs ((aD.take j).foldl (cY rs) (yAc rs.length 0))/\env=[qq (.d (rs<*(.tuple (aD.map nD)))),qq (.d (.tuple (F.map Ft.d))),qq (.loc S.length),c3,qz,qq (.d (.tuple (rs.map Rw.d))),qq (.d (.tuple (aD.map nD))),qz,qz]/\S'=S++[qq (((aD.take j).foldl (cY rs) (yAc rs.length 0)).map nD)])
  (by simp only[evs,aBG,fV]) ⟨qz,zM,rfl,rfl⟩ (by
    rintro j dd env S' hd ⟨c3,hb,rfl,rfl⟩;rw[xAb] at hd;obtain⟨q,hq,rfl⟩:=Option.map_eq_some_iff.mp hd;have hql:=ho q (xAl hq);have hr:rs[q]? = qq rs[q]:=yAa hql;have ft:=aFj (f:=cY rs) (yAc rs.length 0) hq;have wo:=rJ (d+5) q hr (.tuple (aD.map nD)) (S++[qq (((aD.take j).foldl (cY rs) (yAc rs.length 0)).map nD)]);have fu:=cQ (d+5) rs[q].w (by have:=(p.ws q _ hr).2;omega) (S++[qq (((aD.take j).foldl (cY rs) (yAc rs.length 0)).map nD)])
    have pe:iP (S++[qq (((aD.take j).foldl (cY rs) (yAc rs.length 0)).map nD)]) (.loc S.length) (.d (.int q)) (.d (.int ((2^rs[q].w-1:Nat):Int)))=qq (S++[qq ((cY rs ((aD.take j).foldl (cY rs) (yAc rs.length 0)) q).map nD)]):=by
     rw[aMS hr];exact aAe S _ q _ (by rw[hb.l];exact hql)
    refine⟨[qq (.d (rs<*(.tuple (aD.map nD)))),qq (.d (.tuple (F.map Ft.d))),qq (.loc S.length),qq (.d (.int q)),qz,qq (.d (.tuple (rs.map Rw.d))),qq (.d (.tuple (aD.map nD))),qz,qz],[qq (.d (rs<*(.tuple (aD.map nD)))),qq (.d (.tuple (F.map Ft.d))),qq (.loc S.length),qq (.d (.int q)),qz,qq (.d (.tuple (rs.map Rw.d))),qq (.d (.tuple (aD.map nD))),qz,qz],S++[qq ((cY rs ((aD.take j).foldl (cY rs) (yAc rs.length 0)) q).map nD)],rfl,?_,_,?_,rfl,by rw[ft]⟩
    ·simp only[gS1,aBT,wo,fu,jE,pe]
    ·rw[ft];exact aHJ hb hql)
 rw[yAd,yAe] at hb0 p1;have un1:oR .USub (.int 1)=qq (.int (-1)):=rfl;have i3:lv (aC fns (d+6)) yS [qq (.d (rs<*(.tuple (aD.map nD)))),qq (.d (.tuple (F.map Ft.d))),qq (.loc S.length),c3,qz,qq (.d (.tuple (rs.map Rw.d))),qq (.d (.tuple (aD.map nD))),qz,qz] (S++[qq ((jD rs aD).map nD)])=qq (lA (((rs.length:Nat):Int)-1) rs.length,S++[qq ((jD rs aD).map nD)]):=by
  have hc:(-(2^62)<=((rs.length:Nat):Int)-1/\((rs.length:Nat):Int)-1<2^62 /\ -(2^62)<=(-1:Int)/\(-1:Int)<2^62)/\(-1:Int) = -1:=⟨⟨by omega,by omega,by decide,by decide⟩,rfl⟩
  have hn:(((rs.length:Nat):Int)-1-(-1)).toNat=rs.length:=by omega
  simp only[evs,yS,aAL,lR,cR,un1];rw[if_pos ⟨hc.1,True.intro⟩,hn]
 obtain⟨env2,S2,p2,c4,c7,c8,M,hb,hM,rfl,rfl⟩:=mE (t:=.one 4) (fi:=lv (aC fns (d+6)) yS) (fb:=xs (aC fns (d+6)) aBX) (env:=[qq (.d (rs<*(.tuple (aD.map nD)))),qq (.d (.tuple (F.map Ft.d))),qq (.loc S.length),c3,qz,qq (.d (.tuple (rs.map Rw.d))),qq (.d (.tuple (aD.map nD))),qz,qz]) (S:=S++[qq ((jD rs aD).map nD)]) (S1:=S++[qq ((jD rs aD).map nD)]) (ds:=lA (((rs.length:Nat):Int)-1) rs.length)
  (λ j env S'=>∃ (c4 c7 c8:Option W) (M:List Nat),Bd rs M/\fN rs F (rs.length-j) M=bS rs F aD/\env=[qq (.d (rs<*(.tuple (aD.map nD)))),qq (.d (.tuple (F.map Ft.d))),qq (.loc S.length),c3,c4,qq (.d (.tuple (rs.map Rw.d))),qq (.d (.tuple (aD.map nD))),c7,c8]/\S'=S++[qq (M.map nD)])
  i3 ⟨qz,qz,qz,jD rs aD,hb0,rfl,rfl,rfl⟩ (by
   rintro j dd env S' hd ⟨c4,c7,c8,M,hb,hM,rfl,rfl⟩;have hj:j<rs.length:=by
    have:=(gIm hd).1;rw[qM] at this;exact this
   rw[aBy _ _ j hj] at hd;have ek:((rs.length:Nat):Int)-1-((j:Nat):Int)=((rs.length-1-j:Nat):Int):=by omega
   rw[ek] at hd;cases hd;have hr:rs[rs.length-1-j]? = qq rs[rs.length-1-j]:=yAa (by omega)
   obtain⟨c7',c8',hb',e⟩:=aMP d p hr hF (.tuple (aD.map nD)) S hb c3 (qq (.d (.tuple (rs.map Rw.d)))) (qq (.d (.tuple (aD.map nD)))) c7 c8;refine⟨[qq (.d (rs<*(.tuple (aD.map nD)))),qq (.d (.tuple (F.map Ft.d))),qq (.loc S.length),c3,qq (.d (.int ((rs.length-1-j:Nat):Int))),qq (.d (.tuple (rs.map Rw.d))),qq (.d (.tuple (aD.map nD))),c7,c8],[qq (.d (rs<*(.tuple (aD.map nD)))),qq (.d (.tuple (F.map Ft.d))),qq (.loc S.length),c3,qq (.d (.int ((rs.length-1-j:Nat):Int))),qq (.d (.tuple (rs.map Rw.d))),qq (.d (.tuple (aD.map nD))),c7',c8'],S++[qq ((eQ rs F M (rs.length-1-j)).map nD)],rfl,?_,_,_,_,_,hb',?_,rfl,rfl⟩
   ·simp only[gS1,aBX,e]
   ·rw[<- hM,show rs.length-j=(rs.length-1-j)+1 by omega]
    show _=fN rs F (rs.length-1-j) (eQ rs F M (rs.length-1-j));rw[show rs.length-(j+1)=rs.length-1-j by omega])
 rw[qM,yBn] at hM;have hM':M=bS rs F aD:=hM;subst hM';refine⟨hb,?_⟩;have tk1:∀ x,yDj S.length (S++[x])=S:=λ x=>yDo
 have q0:xs (aC fns (d+6)) (fQ fZ) [qq (.d (rs<*(.tuple (aD.map nD)))),qq (.d (.tuple (F.map Ft.d))),qz,qz,qz,qz,qz,qz,qz] S=qq (.nx [qq (.d (rs<*(.tuple (aD.map nD)))),qq (.d (.tuple (F.map Ft.d))),qz,qz,qz,qq (.d (.tuple (rs.map Rw.d))),qq (.d (.tuple (aD.map nD))),qz,qz],S):=by
  simp only[gS2,fQ,fZ,True]
 have q1:xs (aC fns (d+6)) (fQ (cJ fZ)) [qq (.d (rs<*(.tuple (aD.map nD)))),qq (.d (.tuple (F.map Ft.d))),qz,qz,qz,qq (.d (.tuple (rs.map Rw.d))),qq (.d (.tuple (aD.map nD))),qz,qz] S=qq (.nx [qq (.d (rs<*(.tuple (aD.map nD)))),qq (.d (.tuple (F.map Ft.d))),qq (.loc S.length),qz,qz,qq (.d (.tuple (rs.map Rw.d))),qq (.d (.tuple (aD.map nD))),qz,qz],S++[qq ((yAc rs.length 0).map nD)]):=by
  simp only[fQ,cJ,fZ,rH,uK,aAc,fM,eY];rw[aDo (n:=rs.length) (by simp only[evs]) (by simp only[evs,lR]) (by omega)]
  simp only[gS0,True]
 have e:fZ=.seq (fQ fZ) (.seq (fQ (cJ fZ)) (.seq (fQ (cJ (cJ fZ))) (.seq (fQ (cJ (cJ (cJ fZ)))) (cJ (cJ (cJ (cJ fZ))))))):=rfl;have p1':xs (aC fns (d+6)) (fQ (cJ (cJ fZ))) [qq (.d (rs<*(.tuple (aD.map nD)))),qq (.d (.tuple (F.map Ft.d))),qq (.loc S.length),qz,qz,qq (.d (.tuple (rs.map Rw.d))),qq (.d (.tuple (aD.map nD))),qz,qz] (S++[qq ((yAc rs.length 0).map nD)])=qq (.nx [qq (.d (rs<*(.tuple (aD.map nD)))),qq (.d (.tuple (F.map Ft.d))),qq (.loc S.length),c3,qz,qq (.d (.tuple (rs.map Rw.d))),qq (.d (.tuple (aD.map nD))),qz,qz],S++[qq ((jD rs aD).map nD)]):=p1;have p2':xs (aC fns (d+6)) (fQ (cJ (cJ (cJ fZ)))) [qq (.d (rs<*(.tuple (aD.map nD)))),qq (.d (.tuple (F.map Ft.d))),qq (.loc S.length),c3,qz,qq (.d (.tuple (rs.map Rw.d))),qq (.d (.tuple (aD.map nD))),qz,qz] (S++[qq ((jD rs aD).map nD)])=qq (.nx [qq (.d (rs<*(.tuple (aD.map nD)))),qq (.d (.tuple (F.map Ft.d))),qq (.loc S.length),c3,c4,qq (.d (.tuple (rs.map Rw.d))),qq (.d (.tuple (aD.map nD))),c7,c8],S++[qq ((bS rs F aD).map nD)]):=p2;have fl:xs (aC fns (d+6)) fZ [qq (.d (rs<*(.tuple (aD.map nD)))),qq (.d (.tuple (F.map Ft.d))),qz,qz,qz,qz,qz,qz,qz] S=qq (.rt (.d (.tuple ((bS rs F aD).map nD))),S++[qq ((bS rs F aD).map nD)]):=by
  rw[e,gI q0,gI q1,gI p1',gI p2'];simp only[gS2,cJ,fZ,lS,gJ,gK]
 rw[aU rfl (d+6) _ S rfl];show((xs (aC fns (d+6)) fZ [qq (.d (rs<*(.tuple (aD.map nD)))),qq (.d (.tuple (F.map Ft.d))),qz,qz,qz,qz,qz,qz,qz] S).bind _)=_;rw[fl];simp only[oB,jV,tk1]
end
theorem aBA{t:Tg}{fb:FS}{S:aE}{P:aZ->Prop}{r:W}:∀ (ds:List D) (q:Nat) (env:aZ),q<ds.length->P env->(∀ j dd env,j<q->ds[j]? = qq dd->P env->∃ e1 aI,t.put dd env=qq e1/\fb e1 S=qq (.nx aI,S)/\P aI)->(∀ dd env,ds[q]? = qq dd->P env->∃ e1,t.put dd env=qq e1/\fb e1 S=qq (.rt r,S))->eZ t fb ds env S=qq (.rt r,S)
 | [],q,_,h,_,_,_=>absurd h (yDt q)
 | dd::ds,0,env,_,h0,_,h2=>by
   obtain⟨e1,h3,h4⟩:=h2 dd env rfl h0;simp only[eZ,h3,oB,h4]
 | dd::ds,q+1,env,hq,h0,h1,h2=>by
   obtain⟨e1,aI,h3,h4,h5⟩:=h1 0 dd env (Nat.succ_pos q) rfl h0;simp only[eZ,h3,oB,h4];exact aBA ds q aI (by simpa using hq) h5 (λ j x e hj hx he=>h1 (j+1) x e (by omega) (by simpa using hx) he) λ x e hx he=>h2 x e (by simpa using hx) he
theorem aBW{α:Type}(g:α->Bool)(l:List α):lU (l.map λ x=>yAj (g x))=qq (l.map g):=by
 induction l with
 | nil=>rfl
 | cons x r ih=>simp only[yAs,lU,ih,yCk]
theorem aIO{α:Type}(g:α->Bool)(l:List α):vY [.list (l.map λ x=>yAj (g x))]=qq (.bool (l.any g)):=by
 simp only[vY,aBW,oB];congr 2;rw[List.any_map];rfl
section
variable {rs : List Rw}{F : List Ft}{r : Rw}{k m : Nat}{M : List Nat}
theorem aAb{M:List Nat}{i:Nat}(h:i<M.length):aH (.tuple (M.map nD)) (.int i)=qq (.int ((M.getD i 0:Nat):Int)):=gX (by rw[xAb,zP h];rfl)
end
noncomputable def aAT(M:List Nat)(q:Nat×Nat):Bool:=!(dA q.2 (M.getD q.1 0)==0)
noncomputable def sK(rs:List Rw)(F:List Ft)(M:List Nat)(k:Nat):Bool:=match rs[k]? with
 | some r=>(cW rs F r (M.getD k 0)).any (aAT M)
 | none=>false
noncomputable def sM(rs:List Rw)(aD M:List Nat):Bool:=aD.any λ o=>!(dA (2^g0 (~~~rs) o-1) (M.getD o 0)==0)
def Wr(rs:List Rw)(F:List Ft)(aD M:List Nat)(o:Option Nat):Prop:=(∃ q,q<rs.length/\(∀ k,k<q->sK rs F M k=false)/\sK rs F M q=true/\o=qq q)\/((∀ k,k<rs.length->sK rs F M k=false)/\o=cond (sM rs aD M) (qq rs.length) qz)
section
variable {rs : List Rw}{F : List Ft}{r : Rw}{k m : Nat}{M : List Nat}
theorem aCa{n j:Nat}{dd:D}(h:((yAx n).map λ k=>yAk ((k:Nat):Int))[j]? = qq dd):j<n/\dd=.int j:=by
 have hj:j<n:=by
  have:=(gIm h).1;simpa using this
 rw[xAb,yGi hj] at h;cases h;exact⟨hj,rfl⟩
end
def Sb(a b:Nat):Prop:=∀ i,a.testBit i=true->b.testBit i=true
theorem Sb.refl(a:Nat):Sb a a:=λ _ h=>h
theorem Sb.trans{a b c:Nat}(h:Sb a b)(k:Sb b c):Sb a c:=λ i x=>k i (h i x)
theorem aSC(a b:Nat):Sb a (a|||b):=λ i h=>by rw[xAp,h,Bool.true_or]
theorem aRF(a b:Nat):Sb b (a|||b):=λ i h=>by rw[xAp,h,yHo]
theorem aHr{M:List Nat}{q:Nat×Nat}:aAT M q=false ↔ Sb q.2 (M.getD q.1 0):=by
 have h:=aBH q.2 (M.getD q.1 0);unfold aAT;constructor
 ·intro e;refine h.mp ?_;cases c:(dA q.2 (M.getD q.1 0)==0) with
  | true=>exact beq_iff_eq.mp c
  | false=>rw[c] at e;cases e
 ·intro e;rw[beq_iff_eq.mpr (h.mpr e)];rfl
theorem aON(M:List Nat)(q:Nat×Nat)(i:Nat):Sb (M.getD i 0) ((cE M q).getD i 0):=by
 unfold cE
 by_cases c:q.1=i
 ·subst c
  by_cases l:q.1<M.length
  ·rw[pA l];exact aSC _ _
  ·rw[yDs (by omega)]
   exact Sb.refl _
 ·rw[nE c];exact Sb.refl _
theorem aCG:∀ (l:List (Nat×Nat)) (M:List Nat) (i:Nat),Sb (M.getD i 0) ((l.foldl cE M).getD i 0)
 | [],_,_=>Sb.refl _
 | q::l,M,i=>(aON M q i).trans (aCG l (cE M q) i)
theorem aNZ(M:List Nat)(q:Nat×Nat):(cE M q).length=M.length:=by unfold cE;rw[yBh]
theorem aHK:∀ (l:List (Nat×Nat)) (M:List Nat) (q:Nat×Nat),q∈l->q.1<M.length->Sb q.2 ((l.foldl cE M).getD q.1 0)
 | [],_,_,h,_=>by cases h
 | x::l,M,q,h,hl=>by
   rcases List.mem_cons.mp h with rfl | h
   ·refine Sb.trans ?_ (aCG l (cE M q) q.1);unfold cE;rw[pA hl];exact aRF _ _
   ·exact aHK l (cE M x) q h (by rw[aNZ];exact hl)
theorem aGr:∀ (l:List (Nat×Nat)) (M:List Nat) (i:Nat),(∀ q∈l,q.1≠i)->(l.foldl cE M).getD i 0=M.getD i 0
 | [],_,_,_=>rfl
 | q::l,M,i,h=>by
   show(l.foldl cE (cE M q)).getD i 0=_;rw[aGr l (cE M q) i λ x hx=>h x (xAg _ hx)]
   unfold cE;exact nE (h q xAd)
section
variable {rs : List Rw}{F : List Ft}{r : Rw}{k m : Nat}{M : List Nat}
theorem zS(hr:rs[k]? = qq r):eQ rs F M k=(cW rs F r (M.getD k 0)).foldl cE M:=by unfold eQ;rw[hr]
theorem zQ(p:Prg rs)(hk:k<rs.length)(h:Bd rs M):Bd rs (eQ rs F M k):=by
 have hr:rs[k]? = qq rs[k]:=yAa hk;rw[zS hr];exact aIv p hr (h.lt k _ hr) _ M (λ q hq=>hq) h
theorem aCB:∀ (k:Nat) (M:List Nat) (i:Nat),Sb (M.getD i 0) ((fN rs F k M).getD i 0)
 | 0,_,_=>Sb.refl _
 | k+1,M,i=>by
   refine Sb.trans ?_ (aCB k (eQ rs F M k) i);unfold eQ;cases rs[k]? with
   | none=>exact Sb.refl _
   | some r=>exact aCG _ M i
theorem aGI(p:Prg rs)(h:Bd rs M){i:Nat}(hi:k<=i)(hk:k<rs.length):(eQ rs F M k).getD i 0=M.getD i 0:=by
 have hr:rs[k]? = qq rs[k]:=yAa hk;rw[zS hr];refine aGr _ M i λ q hq=>?_
 have:=(uP p hr (h.lt k _ hr) q hq).1;omega
theorem aB6(p:Prg rs):∀ (k:Nat) (M:List Nat) (i:Nat),Bd rs M->k<=rs.length->k<=i+1->(fN rs F k M).getD i 0=M.getD i 0
 | 0,_,_,_,_,_=>rfl
 | k+1,M,i,h,hk,hi=>by
   show(fN rs F k (eQ rs F M k)).getD i 0=_;rw[aB6 p k _ i (zQ p (by omega) h) (by omega) (by omega),aGI p h (by omega) (by omega)]
theorem aG5(p:Prg rs):∀ (k:Nat) (M:List Nat),Bd rs M->k<=rs.length->Bd rs (fN rs F k M)
 | 0,_,h,_=>h
 | k+1,M,h,hk=>aG5 p k _ (zQ p (by omega) h) (by omega)
theorem aGQ(p:Prg rs):∀ (k:Nat) (M:List Nat),Bd rs M->k<=rs.length->∀ (j:Nat) (r:Rw),j<k->rs[j]? = qq r->∀ q∈cW rs F r ((fN rs F k M).getD j 0),Sb q.2 ((fN rs F k M).getD q.1 0)
 | 0,_,_,_,j,_,hj,_,_,_=>absurd hj (yDt j)
 | k+1,M,h,hk,j,r,hj,hr,q,hq=>by
   have hb:=zQ (F:=F) p (show k<rs.length by omega) h
   by_cases c:j=k
   ·subst c;have e:(fN rs F (j+1) M).getD j 0=M.getD j 0:=aB6 p (j+1) M j h hk (yAb _);rw[e] at hq;have a:=(uP p hr (h.lt j r hr) q hq).1;show Sb q.2 ((fN rs F j (eQ rs F M j)).getD q.1 0);refine Sb.trans ?_ (aCB j (eQ rs F M j) q.1);rw[zS hr];exact aHK _ M q hq (by rw[h.l];omega)
   ·exact aGQ p k (eQ rs F M k) hb (by omega) j r (by omega) hr q hq
theorem aHZ:∀ (l:List Nat) (M:List Nat) (o:Nat),o<M.length->(o∈l\/M.getD o 0=2^g0 (~~~rs) o-1)->(l.foldl (cY rs) M).getD o 0=2^g0 (~~~rs) o-1
 | [],_,_,_,h=>by
   rcases h with h | h
   ·cases h
   ·exact h
 | x::l,M,o,hl,h=>by
   show(l.foldl (cY rs) (cY rs M x)).getD o 0=_;refine aHZ l (cY rs M x) o (by unfold cY;rw[yBh];exact hl) ?_
   by_cases c:x=o
   ·subst c
    right
    unfold cY;exact pA hl
   ·rcases h with h | h
    ·rcases List.mem_cons.mp h with h | h
     ·exact absurd h.symm c
     ·exact .inl h
    ·right
     unfold cY;rw[nE c];exact h
theorem aCP(p:Prg rs){aD:List Nat}(ho:∀ o∈aD,o<rs.length):Bd rs (bS rs F aD):=aG5 p _ _ (zU aD _ ho zM) (yAb _)
theorem aMg(p:Prg rs){aD:List Nat}(ho:∀ o∈aD,o<rs.length):Wr rs F aD (bS rs F aD) qz:=by
 have h0:Bd rs (jD rs aD):=zU aD _ ho zM;refine .inr ⟨λ k hk=>?_,?_⟩
 ·have hr:rs[k]? = qq rs[k]:=yAa hk;unfold sK;rw[hr];show List.any _ _=false;rw[yGt];intro q hq;have bq:aAT (bS rs F aD) q=false:=aHr.mpr (aGQ p rs.length (jD rs aD) h0 (yAb _) k _ hk hr q hq);rw[bq];exact yBj
 ·have:sM rs aD (bS rs F aD)=false:=by
   unfold sM;rw[yGt];intro o hm;have e:(jD rs aD).getD o 0=2^g0 (~~~rs) o-1:=aHZ aD _ o (by rw[yBb];exact ho o hm) (.inl hm)
   have s:Sb (2^g0 (~~~rs) o-1) ((bS rs F aD).getD o 0):=by
    rw[<- e];exact aCB rs.length (jD rs aD) o
   rw[(aBH _ _).mpr s];decide
  rw[this];rfl
end
theorem uU{a b L:Nat}(h:∀ i,i<L->a.testBit i=b.testBit i):∃ q:Int,((a:Nat):Int)=(b:Nat)+((2^L:Nat):Int)*q:=by
 have e:a%2^L=b%2^L:=by
  apply xAm;intro i;rw[yAp,yAp]
  by_cases c:i<L
  ·rw[h i c]
  ·rw[dqF c,yBi,yBi]
 have h1:=yEp a (2^L);have h2:=yEp b (2^L);refine⟨((a/2^L:Nat):Int)-((b/2^L:Nat):Int),?_⟩;rw[Int.mul_sub,<- yCj,<- yCj];generalize 2^L*(a/2^L)=x at *;generalize 2^L*(b/2^L)=y at *;omega
theorem aDj{a b v:Nat}(ha:a<2^v)(hb:b<2^v)(h:∀ i,i<v->a.testBit i=b.testBit i):a=b:=by
 apply xAm;intro i
 by_cases c:i<v
 ·exact h i c
 ·rw[cL ha (by omega),cL hb (by omega)]
theorem aJR(x:Int){w t:Nat}(ht:t<w):(rs x w).testBit t=(rs x (t+1)).testBit t:=by
 rw[<- aIw x (show t+1<=w by omega),yAp,dqT (show t<t+1 by omega),yAn]
theorem aCK{x y q:Int}{w t h:Nat}(ht:t<w)(hh:t<h)(e:x=y+((2^h:Nat):Int)*q):(rs x w).testBit t=(rs y w).testBit t:=by
 rw[aJR x ht,aJR y ht];have e2:x=y+((2^(t+1):Nat):Int)*(((2^(h-(t+1)):Nat):Int)*q):=by
  rw[e,<- Int.mul_assoc,<- yCj,<- yEz,show t+1+(h-(t+1))=h by omega]
 rw[e2,aQR]
theorem aGJ{a u:Nat}(h:∀ i,i<u->a.testBit i=false):∃ y:Int,((a:Nat):Int)=((2^u:Nat):Int)*y:=by
 obtain⟨q,e⟩:=uU (a:=a) (b:=0) (L:=u) λ i hi=>by rw[h i hi,yBd]
 exact⟨q,by rw[e];omega⟩
def sD(fs:List Fc)(ns:List Nat):Prop:=∀ c i,((fs.getD c default).N.testBit i=true->(g0 ns c).testBit i=false)/\((fs.getD c default).O.testBit i=true->(g0 ns c).testBit i=true)
def Ag(want os ns:List Nat):Prop:=∀ c i,(want.getD c 0).testBit i=true->(g0 os c).testBit i=(g0 ns c).testBit i
section
variable {w kk m t : Nat}{fs : List Fc}(hm : m<2 ^ w)(ht : m.testBit t = true)
include hm ht
theorem sF:t<w:=by
 by_cases c:t<w
 ·exact c
 ·rw[cL hm (by omega)] at ht;cases ht
theorem iB:m≠0:=λ h=>by rw[h,yBd] at ht;cases ht
theorem aRt{a b:Nat}(ha:a<2^w)(hb:b<2^w)(ag:Ag (aW .not w kk [w] fs m) [b] [a]):(2^w-1-b).testBit t=(2^w-1-a).testBit t:=by
 have h0:=iB hm ht;have e:(aW .not w kk [w] fs m).getD 0 0=m:=by unfold aW;rw[if_neg h0];rfl
 have q:b.testBit t=a.testBit t:=ag 0 t (by rw[e];exact ht)
 have tl:=sF hm ht;have c1:=nJ hb t;have c2:=nJ ha t;unfold oS at c1 c2;rw[c1,c2,q]
theorem aOM{a b:Nat}(ag:Ag (aW .left w kk [w] fs m) [b] [a]):(b*2^kk%2^w).testBit t=(a*2^kk%2^w).testBit t:=by
 have h0:=iB hm ht;have e:(aW .left w kk [w] fs m).getD 0 0=m/2^kk:=by unfold aW;rw[if_neg h0];rfl
 rw[yAp,yAp,oZ,oZ]
 by_cases c:kk<=t
 ·have q:b.testBit (t-kk)=a.testBit (t-kk):=ag 0 (t-kk) (by rw[e,eV,show kk+(t-kk)=t by omega];exact ht)
  rw[q]
 ·rw[dqF c,yBi,yBi]
theorem aNX{a b:Nat}(ha:a<2^w)(hb:b<2^w)(ag:Ag (aW .right w kk [w] fs m) [b] [a]):(b/2^kk).testBit t=(a/2^kk).testBit t:=by
 have h0:=iB hm ht;have e:(aW .right w kk [w] fs m).getD 0 0=(m*2^kk)&&&(2^w-1):=by unfold aW;rw[if_neg h0];rfl
 rw[eV,eV]
 by_cases c:kk+t<w
 ·exact ag 0 (kk+t) (by rw[e,yAh,cK,oZ,dqT c,dqT (show kk<=kk+t by omega),show kk+t-kk=t by omega,ht];rfl)
 ·rw[cL ha (by omega),cL hb (by omega)]
theorem aHU{f a b v:Nat}(hv:1<=v){j:Nat}(hj:f.testBit j=true)(ag:∀ i,(gN f v).testBit i=true->b.testBit i=a.testBit i):(if j<v then b.testBit j else b.testBit (v-1))=(if j<v then a.testBit j else a.testBit (v-1)):=by
 by_cases c:j<v
 ·rw[if_pos c,if_pos c];exact ag j ((pF hv).mpr (.inl ⟨c,hj⟩))
 ·rw[if_neg c,if_neg c];exact ag (v-1) ((pF hv).mpr (.inr ⟨rfl,j,by omega,hj⟩))
theorem aNQ{a b:Nat}(hw:1<=w)(ha:a<2^w)(hb:b<2^w)(ag:Ag (aW .slide w kk [w] fs m) [b] [a]):(dC b w (w+kk)/2^kk).testBit t=(dC a w (w+kk)/2^kk).testBit t:=by
 have h0:=iB hm ht;have tl:=sF hm ht;have e:(aW .slide w kk [w] fs m).getD 0 0=gN (m*2^kk) w:=by unfold aW;rw[if_neg h0];rfl
 have hj:(m*2^kk).testBit (kk+t)=true:=by rw[oZ,dqT (show kk<=kk+t by omega),show kk+t-kk=t by omega,ht];rfl
 have q:=aHU hm ht (v:=w) (a:=a) (b:=b) hw hj λ i hi=>ag 0 i (by rw[e];exact hi)
 rw[eV,eV,qO hb hw (by omega),qO ha hw (by omega),dqT (show kk+t<w+kk by omega),yAn,yAn]
 exact q
theorem aPV{a b v:Nat}(hv:1<=v)(hvw:v<=w)(ha:a<2^v)(hb:b<2^v)(ag:Ag (aW .sign w kk [v] fs m) [b] [a]):(dC b v w).testBit t=(dC a v w).testBit t:=by
 have h0:=iB hm ht;have tl:=sF hm ht;have e:(aW .sign w kk [v] fs m).getD 0 0=gN m v:=by unfold aW;rw[if_neg h0];rfl
 have q:=aHU hm ht (v:=v) (a:=a) (b:=b) hv ht λ i hi=>ag 0 i (by rw[e];exact hi)
 rw[qO hb hv hvw,qO ha hv hvw,dqT tl,yAn,yAn];exact q
theorem aRv{a b v:Nat}(ag:Ag (aW .cut w kk [v] fs m) [b] [a]):(b%2^w).testBit t=(a%2^w).testBit t:=by
 have h0:=iB hm ht;have e:(aW .cut w kk [v] fs m).getD 0 0=m:=by unfold aW;rw[if_neg h0];rfl
 have q:b.testBit t=a.testBit t:=ag 0 t (by rw[e];exact ht)
 rw[yAp,yAp,q]
theorem aOK{a b v:Nat}(ha:a<2^v)(hb:b<2^v)(ag:Ag (aW .wide w kk [v] fs m) [b] [a]):b.testBit t=a.testBit t:=by
 have h0:=iB hm ht;have e:(aW .wide w kk [v] fs m).getD 0 0=m&&&(2^v-1):=by unfold aW;rw[if_neg h0];rfl
 by_cases c:t<v
 ·exact ag 0 t (by rw[e,yAh,cK,ht,dqT c];rfl)
 ·rw[cL ha (by omega),cL hb (by omega)]
theorem aSL{a b c e:Nat}{ws:List Nat}(ag:Ag (aW .xor w kk ws fs m) [c,e] [a,b]):(c^^^e).testBit t=(a^^^b).testBit t:=by
 have h0:=iB hm ht;have e0:(aW .xor w kk ws fs m).getD 0 0=m:=by unfold aW;rw[if_neg h0];rfl
 have e1:(aW .xor w kk ws fs m).getD 1 0=m:=by unfold aW;rw[if_neg h0];rfl
 have q:c.testBit t=a.testBit t:=ag 0 t (by rw[e0];exact ht)
 have r:e.testBit t=b.testBit t:=ag 1 t (by rw[e1];exact ht)
 rw[yAm,yAm,q,r]
theorem aQ1{a b c e:Nat}{ws:List Nat}(F:sD fs [a,b])(ag:Ag (aW .and w kk ws fs m) [c,e] [a,b]):(c&&&e).testBit t=(a&&&b).testBit t:=by
 have h0:=iB hm ht;have e0:(aW .and w kk ws fs m).getD 0 0=dA m (dA (fs.getD 1 default).N (fs.getD 0 default).N):=by unfold aW;rw[if_neg h0];rfl
 have e1:(aW .and w kk ws fs m).getD 1 0=dA m (fs.getD 0 default).N:=by unfold aW;rw[if_neg h0];rfl
 have g0':=ag 0 t;have g1':=ag 1 t;have f0:=(F 0 t).1;have f1:=(F 1 t).1;rw[e0,jM,jM,ht,yAn] at g0';rw[e1,jM,ht,yAn] at g1'
 change _->c.testBit t=a.testBit t at g0'
 change _->e.testBit t=b.testBit t at g1'
 change _->a.testBit t=false at f0
 change _->b.testBit t=false at f1
 rw[yAh,yAh]
 revert g0' g1' f0 f1
 cases (fs.getD 0 default).N.testBit t<;>cases (fs.getD 1 default).N.testBit t<;>cases a.testBit t<;>cases b.testBit t<;>cases c.testBit t<;>cases e.testBit t<;>decide
theorem aUx{a b c e:Nat}{ws:List Nat}(F:sD fs [a,b])(ag:Ag (aW .or w kk ws fs m) [c,e] [a,b]):(c|||e).testBit t=(a|||b).testBit t:=by
 have h0:=iB hm ht;have e0:(aW .or w kk ws fs m).getD 0 0=dA m (dA (fs.getD 1 default).O (fs.getD 0 default).O):=by unfold aW;rw[if_neg h0];rfl
 have e1:(aW .or w kk ws fs m).getD 1 0=dA m (fs.getD 0 default).O:=by unfold aW;rw[if_neg h0];rfl
 have g0':=ag 0 t;have g1':=ag 1 t;have f0:=(F 0 t).2;have f1:=(F 1 t).2;rw[e0,jM,jM,ht,yAn] at g0';rw[e1,jM,ht,yAn] at g1'
 change _->c.testBit t=a.testBit t at g0'
 change _->e.testBit t=b.testBit t at g1'
 change _->a.testBit t=true at f0
 change _->b.testBit t=true at f1
 rw[xAp,xAp]
 revert g0' g1' f0 f1
 cases (fs.getD 0 default).O.testBit t<;>cases (fs.getD 1 default).O.testBit t<;>cases a.testBit t<;>cases b.testBit t<;>cases c.testBit t<;>cases e.testBit t<;>decide
theorem aIg{wd:Wd}{ws:List Nat}(aJ:wd=.add\/wd=.sub){a b c e:Nat}(ag:Ag (aW wd w kk ws fs m) [c,e] [a,b]):(∃ q:Int,((c:Nat):Int)=(a:Nat)+((2^bl m:Nat):Int)*q)/\∃ q:Int,((e:Nat):Int)=(b:Nat)+((2^bl m:Nat):Int)*q:=by
 have h0:=iB hm ht;have e0:(aW wd w kk ws fs m).getD 0 0=2^bl m-1:=by unfold aW;rw[if_neg h0];rcases aJ with rfl | rfl<;>rfl
 have e1:(aW wd w kk ws fs m).getD 1 0=2^bl m-1:=by unfold aW;rw[if_neg h0];rcases aJ with rfl | rfl<;>rfl
 exact⟨uU λ i hi=>ag 0 i (by rw[e0,cK,dqT hi]),uU λ i hi=>ag 1 i (by rw[e1,cK,dqT hi])⟩
theorem aSy{ws:List Nat}{a b c e:Nat}(ag:Ag (aW .add w kk ws fs m) [c,e] [a,b]):(rs ((c:Nat)+(e:Nat):Int) w).testBit t=(rs ((a:Nat)+(b:Nat):Int) w).testBit t:=by
 obtain⟨⟨q,e1⟩,r,e2⟩:=aIg hm ht (.inl rfl) ag;refine aCK (q:=q+r) (sF hm ht) (aAu ht) ?_;rw[e1,e2,Int.mul_add];omega
theorem aTc{ws:List Nat}{a b c e:Nat}(ag:Ag (aW .sub w kk ws fs m) [c,e] [a,b]):(rs ((c:Nat)-(e:Nat):Int) w).testBit t=(rs ((a:Nat)-(b:Nat):Int) w).testBit t:=by
 obtain⟨⟨q,e1⟩,r,e2⟩:=aIg hm ht (.inr rfl) ag;refine aCK (q:=q-r) (sF hm ht) (aAu ht) ?_;rw[e1,e2,Int.mul_sub];omega
theorem aTg{ws:List Nat}{a b c e:Nat}(F:sD fs [a,b])(ag:Ag (aW .mul w kk ws fs m) [c,e] [a,b]):(rs ((c:Nat)*(e:Nat):Int) w).testBit t=(rs ((a:Nat)*(b:Nat):Int) w).testBit t:=by
 have h0:=iB hm ht;have e0:(aW .mul w kk ws fs m).getD 0 0=2^(bl m-min (bl m) (lr (fs.getD 1 default).N))-1:=by unfold aW;rw[if_neg h0];rfl
 have e1:(aW .mul w kk ws fs m).getD 1 0=2^(bl m-min (bl m-min (bl m) (lr (fs.getD 1 default).N)) (lr (fs.getD 0 default).N))-1:=by unfold aW;rw[if_neg h0];rfl
 obtain⟨u,hu⟩:∃ u,u=min (bl m) (lr (fs.getD 1 default).N):=⟨_,rfl⟩;obtain⟨g,hg⟩:∃ g,g=min (bl m-u) (lr (fs.getD 0 default).N):=⟨_,rfl⟩;rw[<- hu] at e0 e1;rw[<- hg] at e1;have a0:∀ i,i<bl m-u->c.testBit i=a.testBit i:=λ i hi=>ag 0 i (by rw[e0,cK,dqT hi])
 have a1:∀ i,i<bl m-g->e.testBit i=b.testBit i:=λ i hi=>ag 1 i (by rw[e1,cK,dqT hi])
 have zb:∀ i,i<u->b.testBit i=false:=λ i hi=>(F 1 i).1 (rG (by omega))
 have za:∀ i,i<g->a.testBit i=false:=λ i hi=>(F 0 i).1 (rG (by omega))
 obtain⟨q,eq⟩:=uU a0;obtain⟨r,er⟩:=uU a1;obtain⟨y,ey⟩:=aGJ (a:=e) (u:=u) λ i hi=>by rw[a1 i (by omega)];exact zb i hi
 obtain⟨z,ez⟩:=aGJ za;have p1:((2^(bl m-u):Nat):Int)*((2^u:Nat):Int)=((2^bl m:Nat):Int):=by rw[<- yCj,<- yEz,show bl m-u+u=bl m by omega]
 have p2:((2^g:Nat):Int)*((2^(bl m-g):Nat):Int)=((2^bl m:Nat):Int):=by rw[<- yCj,<- yEz,show g+(bl m-g)=bl m by omega]
 refine aCK (q:=q*y+z*r) (sF hm ht) (aAu ht) ?_;generalize ((2^(bl m-u):Nat):Int)=P1 at *;generalize ((2^(bl m-g):Nat):Int)=P2 at *;generalize ((2^bl m:Nat):Int)=P at *;generalize ((2^u:Nat):Int)=Q1 at *;generalize ((2^g:Nat):Int)=Q2 at *;generalize ((a:Nat):Int)=A at *;generalize ((b:Nat):Int)=B at *;generalize ((c:Nat):Int)=C at *;generalize ((e:Nat):Int)=E' at *
 calc C*E'=A*E'+P1*q*E':=by rw[eq,Int.add_mul]
  _=A*(B+P2*r)+P1*q*(Q1*y):=by rw[<- er,<- ey]
  _=A*B+Q2*z*(P2*r)+P1*q*(Q1*y):=by rw[Int.mul_add,<- ez]
  _=A*B+P*(q*y+z*r):=by
   have h1:Q2*z*(P2*r)=P*(z*r):=by rw[<- p2];simp only[Int.mul_assoc,Int.mul_left_comm]
   have h2:P1*q*(Q1*y)=P*(q*y):=by rw[<- p1];simp only[Int.mul_assoc,Int.mul_left_comm]
   rw[h1,h2,Int.mul_add];omega
theorem aQI{wd:Wd}{v:Nat}(aJ:wd=.same\/wd=.less\/wd=.under){a b c e:Nat}(ha:a<2^v)(hb:b<2^v)(hc:c<2^v)(he:e<2^v)(ag:Ag (aW wd w kk [v,v] fs m) [c,e] [a,b]):c=a/\e=b:=by
 have h0:=iB hm ht;have e0:(aW wd w kk [v,v] fs m).getD 0 0=2^v-1:=by unfold aW;rw[if_neg h0];rcases aJ with rfl | rfl | rfl<;>rfl
 have e1:(aW wd w kk [v,v] fs m).getD 1 0=2^v-1:=by unfold aW;rw[if_neg h0];rcases aJ with rfl | rfl | rfl<;>rfl
 exact⟨aDj hc ha λ i hi=>ag 0 i (by rw[e0,cK,dqT hi]),aDj he hb λ i hi=>ag 1 i (by rw[e1,cK,dqT hi])⟩
theorem aPb{ws:List Nat}{z a b z' c e:Nat}(hz:z<2^1)(hz':z'<2^1)(F:sD fs [z,a,b])(ag:Ag (aW .pick w kk ws fs m) [z',c,e] [z,a,b]):(if z'=1 then c else e).testBit t=(if z=1 then a else b).testBit t:=by
 have h0:=iB hm ht;have en:aW .pick w kk ws fs m=if (fs.getD 0 default).O=1 then [1,m,0] else if (fs.getD 0 default).N=1 then [1,0,m] else [1,m,m]:=by unfold aW;rw[if_neg h0]
 have e0:(aW .pick w kk ws fs m).getD 0 0=1:=by rw[en];split;rfl;split<;>rfl
 have ez:z'=z:=aDj hz' hz λ i hi=>ag 0 i (by rw[e0,show i=0 by omega];rfl)
 subst ez;have o1:(fs.getD 0 default).O=1->z'=1:=λ h=>by
  have:=(F 0 0).2 (by rw[h];rfl)
  have q:z'.testBit 0=true:=this;rcases (show z'=0\/z'=1 by omega) with rfl | rfl
  ·cases q
  ·rfl
 have n1:(fs.getD 0 default).N=1->z'≠1:=λ h=>by
  have:=(F 0 0).1 (by rw[h];rfl)
  have q:z'.testBit 0=false:=this;rintro rfl;cases q
 by_cases c1:z'=1
 ·rw[if_pos c1,if_pos c1];refine ag 1 t ?_;rw[en]
  split
  ·exact ht
  ·rw[if_neg λ h=>n1 h c1]
   exact ht
 ·rw[if_neg c1,if_neg c1];refine ag 2 t ?_;rw[en,if_neg λ h=>c1 (o1 h)]
  split
  ·exact ht
  ·exact ht
end
theorem aRG{wd:Wd}{w kk m t:Nat}{args ws ns os:List Nat}{fs:List Fc}(h:RwOk ⟨wd,w,args⟩ ws)(hk:rQ wd args kk)(hm:m<2^w)(ht:m.testBit t=true)(ln:mW ws ns)(lo:mW ws os)(F:sD fs ns)(ag:Ag (aW wd w kk ws fs m) os ns):(cM ⟨wd,w,args⟩ ws os).testBit t=(cM ⟨wd,w,args⟩ ws ns).testBit t:=by
 cases h with
 | inp=>rfl
 | num=>rfl
 | nt h1 h2 =>
   obtain⟨a,rfl,ha⟩:=eP ln;obtain⟨b,rfl,hb⟩:=eP lo;exact aRt hm ht ha hb ag
 | sh h1 h2 aJ hk' =>
   rename_i a0 k;obtain⟨a,rfl,ha⟩:=eP ln;obtain⟨b,rfl,hb⟩:=eP lo;have ek:k=kk:=by
    rcases aJ with rfl | rfl | rfl
    all_goals
     obtain⟨a1,e,_⟩:=hk;injection e with _ e
     injection e
   subst ek;rcases aJ with rfl | rfl | rfl
   ·exact aOM hm ht ag
   ·exact aNX hm ht ha hb ag
   ·exact aNQ hm ht h1 ha hb ag
 | cut h1 hv h2 =>
   obtain⟨a,rfl,ha⟩:=eP ln;obtain⟨b,rfl,hb⟩:=eP lo;exact aRv hm ht ag
 | wide h1 hv h2 =>
   obtain⟨a,rfl,ha⟩:=eP ln;obtain⟨b,rfl,hb⟩:=eP lo;exact aOK hm ht ha hb ag
 | sign h1 hv h2 =>
   obtain⟨a,rfl,ha⟩:=eP ln;obtain⟨b,rfl,hb⟩:=eP lo;exact aPV hm ht h1 hv ha hb ag
 | bw h1 h2 aJ =>
   obtain⟨a,b,rfl,ha,hb⟩:=kB ln;obtain⟨c,e,rfl,hc,he⟩:=kB lo;rcases aJ with rfl | rfl | rfl
   ·exact aQ1 hm ht F ag
   ·exact aUx hm ht F ag
   ·exact aSL hm ht ag
 | sm h1 h2 =>
   rename_i s _ _;obtain⟨a,b,rfl,ha,hb⟩:=kB ln;obtain⟨c,e,rfl,hc,he⟩:=kB lo;cases s with
   | add=>exact aSy hm ht ag
   | sub=>exact aTc hm ht ag
   | mul=>exact aTg hm ht F ag
 | cmp h1 h2 aJ =>
   obtain⟨a,b,rfl,ha,hb⟩:=kB ln;obtain⟨c,e,rfl,hc,he⟩:=kB lo;obtain⟨rfl,rfl⟩:=aQI hm ht aJ ha hb hc he ag;rfl
 | pick h1 h2 =>
   obtain⟨z,a,b,rfl,hz,ha,hb⟩:=aA2 ln;obtain⟨z',c,e,rfl,hz',hc,he⟩:=aA2 lo;exact aPb hm ht hz hz' F ag
theorem yR:∀ (rs:List Rw) (W is aF:List Nat),cB rs W is (yAc rs.length 0) aF=cI rs W is aF
 | [],_,_,_=>rfl
 | r::rs,W,is,aF=>by
   rw[yAw,yAy,cB,cI,yFe,yFe,yR rs,yR rs]
theorem aJF{W:List Nat}:∀ (rs:List Rw) (is ms ms' aF acc' R R':List Nat),aF.length=acc'.length->bR rs is->ms.length=rs.length->ms'.length=rs.length->(∀ (j:Nat) (r:Rw),rs[j]? = qq r->∀ a∈r.args.take (bD r.wd),a<aF.length+j)->cB rs W is ms aF=R->cB rs W is ms' acc'=R'->∀ (j:Nat) (r:Rw),rs[j]? = qq r->(∃ n,R[aF.length+j]? = qq (n^^^ms.getD j 0)/\R'[aF.length+j]? = qq (n^^^ms'.getD j 0))\/(R[aF.length+j]? = qq (cM r (aY r W) (aY r R)^^^ms.getD j 0)/\R'[aF.length+j]? = qq (cM r (aY r W) (aY r R')^^^ms'.getD j 0))
 | [],_,_,_,_,_,_,_,_,_,_,_,_,_,_,j,r,h=>by simp at h
 | r0::rs,is,[],_,_,_,_,_,_,_,h,_,_,_,_,_,_,_=>by simp at h
 | r0::rs,is,_::_,[],_,_,_,_,_,_,_,h,_,_,_,_,_,_=>by simp at h
 | r0::rs,is,m::ms,m'::ms',aF,acc',R,R',ha,hi,l1,l2,hf,h1,h2,j,r,hr=>by
   have go:∀ (is':List Nat) (z z':Nat),bR rs is'->cB rs W is' ms (aF++[z])=R->cB rs W is' ms' (acc'++[z'])=R'->∀ j,rs[j]? = qq r->(∃ n,R[aF.length+(j+1)]? = qq (n^^^ms.getD j 0)/\R'[aF.length+(j+1)]? = qq (n^^^ms'.getD j 0))\/(R[aF.length+(j+1)]? = qq (cM r (aY r W) (aY r R)^^^ms.getD j 0)/\R'[aF.length+(j+1)]? = qq (cM r (aY r W) (aY r R')^^^ms'.getD j 0)):=λ is' z z' hi' g1 g2 j hj=>by
    have e:(aF++[z]).length=aF.length+1:=by simp
    have e':(acc'++[z']).length=aF.length+1:=by simp[ha]
    have:=aJF rs is' ms ms' (aF++[z]) (acc'++[z']) R R' (by rw[e,e']) hi' (by simpa using l1) (by simpa using l2) (λ j r hr a q=>by
     have:=hf (j+1) r hr a q;rw[e];omega) g1 g2 j r hj
    rw[e,Nat.add_right_comm,Nat.add_assoc] at this;exact this
   by_cases c:r0.wd=.in
   ·obtain⟨n,is1,rfl,hi1,a1,g1⟩:=aHF h1 c hi;obtain⟨n',is2,e,hi2,a2,g2⟩:=aHF h2 c hi;cases e;cases j with
    | zero=>exact .inl ⟨n,a1,by rw[ha];exact a2⟩
    | succ j=>exact go is1 _ _ hi1 g1 g2 j hr
   ·have hf0:∀ a∈r0.args.take (bD r0.wd),a<aF.length:=λ a q=>hf 0 r0 rfl a q
    obtain⟨hi1,a1,z,g1⟩:=aHD h1 c hi hf0;obtain⟨hi2,a2,z',g2⟩:=aHD h2 c hi (ha▸hf0);cases j with
    | zero =>
      cases hr;exact .inr ⟨a1,by rw[ha];exact a2⟩
    | succ j=>exact go is z z' hi1 g1 g2 j hr
section
variable {rs : List Rw}{F : List Ft}{M T is aD : List Nat}
theorem aNO(p:Prg rs)(s:Snd rs F)(hF:F.length=rs.length)(hi:bR rs is){k:Nat}{r:Rw}(hr:rs[k]? = qq r):sD (fW r F) (aY r (cI rs (~~~rs) is [])):=λ c i=>by
 obtain⟨f1,f2⟩:=p.fit k r hr;have hk:k<rs.length:=(gIm hr).1;unfold fW gS aY g0;rw[yBu,xAh,xAh,xAb,xAb];cases e:(r.args.take (bD r.wd))[c]? with
 | none=>exact⟨λ z=>absurd z (by rw[show((Option.map _ qz:Option Fc).getD default).N=0 from rfl,yBd];decide),λ z=>absurd z (by rw[show((Option.map _ qz:Option Fc).getD default).O=0 from rfl,yBd];decide)⟩
 | some a =>
   have ha:=f2 a (xAl e);have hw:=lY (l:=rs.map (·.w)) (a:=a) (by rw[yAd];omega)
   have hn:=lY (l:=cI rs (~~~rs) is []) (a:=a) (by rw[qZ p hi];omega)
   obtain⟨h1,h2,_⟩:=s.hold is hi a _ _ _ (nT (by omega)) hw hn
   exact⟨h1 i,h2 i⟩
theorem aMA(p:Prg rs)(s:Snd rs F)(hF:F.length=rs.length)(hi:bR rs is)(hb:Bd rs M)(hw:∀ k,k<rs.length->sK rs F M k=false)(hT:MsOk rs T)(lt:∀ (i a w:Nat),(cB rs (~~~rs) is T [])[i]? = qq a->(~~~rs)[i]? = qq w->a<2^w)(ll:(cB rs (~~~rs) is T []).length=rs.length)(dj:∀ k i,(M.getD k 0).testBit i=true->(T.getD k 0).testBit i=false):∀ k,k<rs.length->∀ i,(M.getD k 0).testBit i=true->(g0 (cB rs (~~~rs) is T []) k).testBit i=(g0 (cI rs (~~~rs) is []) k).testBit i:=by
 intro k
 induction k using Nat.strongRecOn with
 | ind k ih =>
   intro hk i hb';have hr:rs[k]? = qq rs[k]:=yAa hk;generalize rs[k]=r at hr;obtain⟨f1,f2⟩:=p.fit k r hr;have R:=aJF (W:=rs.map (·.w)) rs is T (yAc rs.length 0) [] [] _ _ rfl hi hT.l yBb (λ j r hr a ha=>by rw[yCo,yEb];exact(p.fit j r hr).2 a ha) rfl rfl k r hr
   rw[yR,yCo,yEb,show(yAc rs.length 0).getD k 0=0 by rw[xAh,yBq,if_pos hk];rfl,yFe] at R
   have t0:=dj k i hb';have hx:∀ n:Nat,(n^^^T.getD k 0).testBit i=n.testBit i:=λ n=>by rw[yAm,t0,Bool.xor_false]
   have gk:∀ {l:List Nat}{v:Nat},l[k]? = qq v->g0 l k=v:=λ {l v} e=>by
    show l.getD k 0=v;rw[xAh,e];rfl
   rcases R with ⟨n,r1,r2⟩ | ⟨r1,r2⟩
   ·rw[gk r1,gk r2,hx,yFe]
   ·rw[gk r1,gk r2,hx];obtain⟨w1,w2⟩:=rX f1;have len:∀ a∈r.args.take (bD r.wd),a<rs.length:=λ a ha=>by have:=f2 a ha;omega
    refine aRG (kk:=oO r) (fs:=fW r F) f1 w2 (hb.lt k r hr) hb' (uD (λ i a w h1 h2=>aAj p hi h1 h2) _ λ a ha=>⟨by rw[qZ p hi];exact len a ha,by rw[yAd];exact len a ha⟩) (uD lt _ λ a ha=>⟨by rw[ll];exact len a ha,by rw[yAd];exact len a ha⟩) (aNO p s hF hi hr) λ c j hj=>?_
    unfold aY g0;rw[xAh,xAh,xAb,xAb];cases e:(r.args.take (bD r.wd))[c]? with
    | none=>rfl
    | some a =>
      have ha:=f2 a (xAl e);refine ih a ha (by omega) j ?_
      have hq:∃ v,(fP rs F r (M.getD k 0))[c]? = qq v/\v.testBit j=true:=by
       have hj':((fP rs F r (M.getD k 0)).getD c 0).testBit j=true:=hj;rw[xAh] at hj';cases q:(fP rs F r (M.getD k 0))[c]? with
       | none=>rw[q] at hj';rw[show(qz:Option Nat).getD 0=0 from rfl,yBd] at hj';cases hj'
       | some v=>rw[q] at hj';exact⟨v,rfl,hj'⟩
      obtain⟨v,hv,hj2⟩:=hq;have hm:(a,v)∈cW rs F r (M.getD k 0):=by
       refine xAl (i:=c) ?_;unfold cW nC;rw[yEt];exact⟨e,hv⟩
      have b1:=hw k hk;unfold sK at b1;rw[hr] at b1;exact aHr.mp (by simpa using List.any_eq_false.mp b1 _ hm) j hj2
end
theorem aFw(d:Nat)(rs:D)(aD N:List Nat)(ho:∀ o∈aD,o<N.length)(hl:aD.length<=8)(S:aE):cl fns (d+1) 58 [.d (.tuple [rs,.tuple (aD.map nD)]),.d (.tuple (N.map nD))] S=qq (.d (.tuple ((aD.map (g0 N)).map nD)),S):=by
 have i1:aH (.tuple [rs,.tuple (aD.map nD)]) (.int 1)=qq (.tuple (aD.map nD)):=rfl;have hc:lv (aC fns d) aE8 [qq (.d (.tuple [rs,.tuple (aD.map nD)])),qq (.d (.tuple (N.map nD))),qz] S=qq ((aD.map (g0 N)).map nD,S):=by
  rw[yBu];refine kP (fi:=lv (aC fns d) (.it (.ix (.var 0) (.int 1)))) (fe:=ev (aC fns d) (.ix (.var 1) (.var 2))) nD (nD ∘ g0 N) aD ?_ (by rw[zq];omega) λ o h=>?_
  ·simp only[gS0,i1,fV]
  ·refine⟨_,rfl,λ S'=>?_⟩
   have e:aH (.tuple (N.map nD)) (nD o)=qq (nD (g0 N o)):=gX (aAy (ho o h));simp only[gS0,clr,yBm,yCg,e]
 rw[aU rfl d _ S rfl];simp only[gR1,aGZ,hc,gJ,gK]
theorem aFX:∀ (l:List (Nat×Nat)) (M:List Nat) (a b:Nat),((l.foldl cE M).getD a 0).testBit b=true->(M.getD a 0).testBit b=true\/∃ q∈l,q.1=a/\q.2.testBit b=true
 | [],M,a,b,h=>.inl h
 | q::l,M,a,b,h=>by
   rcases aFX l (cE M q) a b h with h | ⟨q',h1,h2⟩
   ·unfold cE at h
    by_cases c:q.1=a
    ·subst c
     by_cases c2:q.1<M.length
     ·rw[pA c2,xAp,yDu] at h;rcases h with h | h
      ·exact .inl h
      ·exact .inr ⟨q,xAd,rfl,h⟩
     ·rw[yDs (by omega)] at h
      exact .inl h
    ·rw[nE c] at h;exact .inl h
   ·exact .inr ⟨q',xAg _ h1,h2⟩
theorem aGf{rs:List Rw}:∀ (l:List Nat) (M:List Nat) (a b:Nat),((l.foldl (cY rs) M).getD a 0).testBit b=true->a∈l\/(M.getD a 0).testBit b=true
 | [],M,a,b,h=>.inr h
 | o::l,M,a,b,h=>by
   rcases aGf l (cY rs M o) a b h with h | h
   ·exact .inl (xAg _ h)
   ·by_cases c:o=a
    ·subst c;exact .inl xAd
    ·unfold cY at h;rw[nE c] at h;exact .inr h
noncomputable def nb(rs:List Rw)(F:List Ft)(k i a b:Nat):Bool:=match rs[k]? with
 | some r=>(cW rs F r (2^i)).any λ q=>(q.1==a)&&q.2.testBit b
 | none=>false
section
variable {rs : List Rw}{F : List Ft}{r : Rw}{k m : Nat}{M : List Nat}
theorem aPi(p:Prg rs)(hr:rs[k]? = qq r){m b:Nat}(q:Nat×Nat)(hq:q∈cW rs F r m)(hb:q.2.testBit b=true):∃ i,m.testBit i=true/\nb rs F k i q.1 b=true:=by
 obtain⟨f1,f2⟩:=p.fit k r hr;obtain⟨w1,w2⟩:=rX f1;obtain⟨c,hc⟩:=yEq hq;obtain⟨a,v⟩:=q;unfold cW at hc;rw[yEt] at hc;obtain⟨h1,h2⟩:=hc;have e:(fP rs F r m).getD c 0=v:=by
  rw[xAh,h2];rfl
 have ht:((aW r.wd r.w (oO r) (aY r (~~~rs)) (fW r F) m).getD c 0).testBit b=true:=by
  unfold fP at e;rw[e];exact hb
 rw[aQi r.wd r.w (oO r) (aY r (~~~rs)) (fW r F) m c b w1] at ht;obtain⟨i,hi,hn⟩:=ht;have hl:c<(fP rs F r (2^i)).length:=by
  have:=(gIm h2).1;unfold fP at this ⊢;rw[aOw] at this ⊢;exact this
 have h3:(fP rs F r (2^i))[c]? = qq ((fP rs F r (2^i)).getD c 0):=zP hl;refine⟨i,hi,?_⟩;unfold nb;rw[hr];refine List.any_eq_true.mpr ⟨(a,(fP rs F r (2^i)).getD c 0),?_,?_⟩
 ·unfold cW;exact xAl (i:=c) (List.getElem?_zip_eq_some.mpr ⟨h1,h3⟩)
 ·show((a==a)&&((fP rs F r (2^i)).getD c 0).testBit b)=true;rw[beq_self_eq_true,yAn];exact hn
theorem aFI(p:Prg rs):∀ (n:Nat) (M:List Nat) (a b:Nat),Bd rs M->n<=rs.length->((fN rs F n M).getD a 0).testBit b=true->(M.getD a 0).testBit b=true\/∃ k i,k<n/\((fN rs F n M).getD k 0).testBit i=true/\nb rs F k i a b=true
 | 0,M,a,b,_,_,h=>.inl h
 | n+1,M,a,b,hM,hn,h=>by
   have hr:rs[n]? = qq rs[n]:=yAa (by omega)
   have bd:=zQ (F:=F) p (show n<rs.length by omega) hM
   have fr:(fN rs F (n+1) M).getD n 0=M.getD n 0:=by
    show(fN rs F n (eQ rs F M n)).getD n 0=_;rw[aB6 p n _ n bd (by omega) (by omega),aGI p hM (yAb _) (by omega)]
   rcases aFI p n (eQ rs F M n) a b bd (by omega) h with h | ⟨k,i,h1,h2,h3⟩
   ·rw[zS hr] at h;rcases aFX _ _ _ _ h with h | ⟨q,h1,h2,h3⟩
    ·exact .inl h
    ·obtain⟨i,h4,h5⟩:=aPi p hr q h1 h3;subst h2;exact .inr ⟨n,i,by omega,by rw[fr];exact h4,h5⟩
   ·exact .inr ⟨k,i,by omega,h2,h3⟩
theorem aJe(p:Prg rs){i a b:Nat}(hr:rs[k]? = qq r)(hi:i<r.w)(h:nb rs F k i a b=true):a<k/\a∈nC r:=by
 unfold nb at h;rw[hr] at h;obtain⟨q,h1,h2⟩:=List.any_eq_true.mp h;rw[yAl,beq_iff_eq] at h2;have h3:=(uP p hr (yBs (by decide) hi) q h1).1
 rw[h2.1] at h3;refine⟨h3,?_⟩;obtain⟨x,y⟩:=q;have:=(yGe h1).1;rw[<- h2.1];exact this
theorem aNR(p:Prg rs){aD:List Nat}(ho:∀ o∈aD,o<rs.length){a b:Nat}(h:((bS rs F aD).getD a 0).testBit b=true):a∈aD\/∃ k i,a<k/\k<rs.length/\((bS rs F aD).getD k 0).testBit i=true/\nb rs F k i a b=true:=by
 have bd:=zU aD _ ho (zM (rs:=rs));rcases aFI p rs.length _ a b bd (yAb _) h with h | ⟨k,i,h1,h2,h3⟩
 ·rcases aGf _ _ _ _ h with h | h
  ·exact .inl h
  ·have z:(yAc rs.length 0).getD a 0=0:=by
    rw[xAh,yBq]
    split<;>rfl
   rw[z,yBd] at h;cases h
 ·have hr:rs[k]? = qq rs[k]:=yAa h1;have hi:i<rs[k].w:=by
   have hb:=(aCP (F:=F) p ho).lt k _ hr;refine yHe λ c=>?_
   have:=yDf (xAc hb (yAr (by decide) c))
   exact absurd h2 (by rw[show(bS rs F aD).getD k 0=_ from rfl] at this;rw[show(fN rs F rs.length (List.foldl (cY rs) (yAc rs.length 0) aD))=bS rs F aD from rfl,this];decide)
  exact .inr ⟨k,i,(aJe p hr hi h3).1,h1,h2,h3⟩
end
theorem wO(n b:Nat):((((n/2^b)&&&1:Nat):Int)==1)=n.testBit b:=by
 rw[lP,Nat.and_one_is_mod,yDp];cases h:decide (n/2^b%2=1) with
 | true=>rw[oqT h];rfl
 | false=>rw[beq_eq_false_iff_ne];exact of_decide_eq_false h
theorem aDZ(n b:Nat):((((n/2^b)&&&1:Nat):Int)==0) = !n.testBit b:=by
 rw[fX,Nat.and_one_is_mod,yDp];have:=Nat.mod_lt (n/2^b) (show 0<2 by decide)
 cases h:decide (n/2^b%2=1) with
 | true=>rw[oqT h];rfl
 | false =>
   have:=of_decide_eq_false h;rw[show n/2^b%2=0 by omega]
   rfl
theorem aCz:∀ L:List Nat,gY (L.map nD)=true
 | []=>rfl
 | a::r=>by
   show(fK (nD a)&&gY (r.map nD))=true;rw[aCz r];rfl
theorem aDf(a:Nat):∀ L:List Nat,kD (.int a) (L.map nD)=decide (a∈L)
 | []=>by rw[dqF yCe];rfl
 | b::L=>by
   have ih:=aDf a L;show(yBy (.int b) (.int a)||kD (.int a) (L.map nD))=_
   rw[ih];have e:yBy (.int b) (.int a)=decide (a=b):=by
    show(((b:Nat):Int)==((a:Nat):Int))=_;rw[jO]
    by_cases c:a=b
    ·subst c;simp
    ·rw[dqF c,beq_eq_false_iff_ne];exact λ h=>c h.symm
   rw[e]
   by_cases c:a=b<;>by_cases c2:a∈L<;>simp[c,c2]
theorem aR9(a:Nat)(L:List Nat):aV .In (.int a) (.tuple (L.map nD))=qq (.bool (decide (a∈L))):=by
 show((if fK (.int a)=true/\gY (L.map nD)=true then qq (kD (.int a) (L.map nD)) else qz).map yAj)=_
 rw[if_pos ⟨rfl,aCz L⟩,aDf];rfl
theorem aFB(a:Nat)(L:List Nat):aV .NotIn (.int a) (.tuple (L.map nD))=qq (.bool (!decide (a∈L))):=by
 show((if fK (.int a)=true/\gY (L.map nD)=true then qq (!kD (.int a) (L.map nD)) else qz).map yAj)=_
 rw[if_pos ⟨rfl,aCz L⟩,aDf];rfl
section
variable {rs : List Rw}{F : List Ft}{r : Rw}{k m : Nat}{M : List Nat}
theorem aLM(d:Nat)(p:Prg rs)(hr:rs[k]? = qq r)(hF:F.length=rs.length)(i a b:Nat)(hi:i<r.w)(o:D)(S:aE):cl fns (d+7) 20 [.d (rs<*o),.d (.tuple (F.map Ft.d)),.d (.tuple [.int k,.int i]),.d (.int a),.d (.int b)] S=qq (.d (.bool (nb rs F k i a b)),S):=by
 have ew:=(p.ws _ r hr).2;have sh:=eT (w:=i) (by omega)
 have rn:=aFc d p hr hF (yBs (by decide) hi:2^i<2^r.w) o S
 obtain⟨P,hP⟩:∃ P:D,P=(rs<*o):=⟨_,rfl⟩;rw[<- hP] at rn ⊢;have en:nb rs F k i a b=(cW rs F r (2^i)).any λ q=>(q.1==a)&&q.2.testBit b:=by unfold nb;rw[hr]
 obtain⟨l,hl⟩:∃ l,l=cW rs F r (2^i):=⟨_,rfl⟩;have ll:l.length<=1000:=by
  rw[hl];unfold cW;rw[List.length_zip];have:=aCD r;omega
 rw[<- hl] at rn en;have hc:lv (aC fns (d+6)) aEP [qq (.d P),qq (.d (.tuple (F.map Ft.d))),qq (.d (.tuple [.int k,.int i])),qq (.d (.int a)),qq (.d (.int b)),qq (.d (.list (l.map pD))),qz,qz] S=qq (l.map λ q=>yAj ((q.1==a)&&q.2.testBit b),S):=by
  refine kP (fi:=lv (aC fns (d+6)) (.it (.var 5))) (fe:=ev (aC fns (d+6)) (.and (.cmp .Eq (.var 6) (.var 3)) (.cmp .Eq (.bin .BitAnd (.bin .RShift (.var 7) (.var 4)) (.int 1)) (.int 1)))) pD (λ q=>yAj ((q.1==a)&&q.2.testBit b)) l ?_ (by rw[zq];omega) λ q hq=>?_
  ·simp only[gS0,fV]
  ·refine⟨[qq (.d P),qq (.d (.tuple (F.map Ft.d))),qq (.d (.tuple [.int k,.int i])),qq (.d (.int a)),qq (.d (.int b)),qq (.d (.list (l.map pD))),qq (.d (.int (q.1:Nat))),qq (.d (.int (q.2:Nat)))],rfl,λ S'=>?_⟩
   cases c:q.1==a with
   | true=>simp only[evs,bO,jO,c,eU,kN,wO,yAn]
   | false=>simp only[evs,bO,jO,c,yBi]
 have an:=aIO (λ q:Nat×Nat=>(q.1==a)&&q.2.testBit b) l
 have i0:aH (.tuple [.int k,.int i]) (.int 0)=qq (.int k):=rfl;have i1:aH (.tuple [.int k,.int i]) (.int 1)=qq (.int i):=rfl;rw[aU rfl (d+6) _ _ rfl,en];simp only[gR1,aFz,i0,i1,sh,rn,hc,an,yAe]
noncomputable def bH(rs:List Rw)(F:List Ft)(M:List Nat)(a b k i:Nat):Bool:=(M.getD k 0).testBit i&&nb rs F k i a b
noncomputable abbrev eN(P:D)(F:List Ft)(M:List Nat)(a b:Nat)(c5 c6:Option W):aZ:=[qq (.d P),qq (.d (.tuple (F.map Ft.d))),qq (.d (.tuple (M.map nD))),qq (.d (.int a)),qq (.d (.int b)),c5,c6]
theorem aOh(d:Nat)(p:Prg rs)(hr:rs[k]? = qq r)(hF:F.length=rs.length)(h:Bd rs M)(i a b:Nat)(hi:i<r.w)(o:D)(S:aE):xs (aC fns (d+7)) kL (eN (rs<*o) F M a b (qq (.d (.int k))) (qq (.d (.int i)))) S=cond (bH rs F M a b k i) (qq (.rt (.d (pD (k,i))),S)) (qq (.nx (eN (rs<*o) F M a b (qq (.d (.int k))) (qq (.d (.int i)))),S)):=by
 have nbk:=aLM d p hr hF i a b hi o S;have em:=aAb (M:=M) (i:=k) (by rw[h.l];exact(gIm hr).1)
 unfold bH;cases c:(M.getD k 0).testBit i with
 | false =>
   rw[yBi,cond_false];simp only[gS2,kL,eN,em,eU,kN,bO,wO,c]
 | true =>
   cases c2:nb rs F k i a b with
   | false =>
     rw[c2] at nbk;rw[yCx,cond_false];simp only[gS2,kL,eN,em,eU,kN,bO,wO,c,nbk]
   | true =>
     rw[c2] at nbk;rw[yBt,cond_true];simp only[gS2,kL,eN,em,eU,kN,bO,wO,c,nbk]
theorem aI6(d:Nat)(p:Prg rs)(hr:rs[k]? = qq r)(hF:F.length=rs.length)(h:Bd rs M)(a b:Nat)(o:D)(S:aE)(c6:Option W):(∃ i,i<r.w/\bH rs F M a b k i=true/\xs (aC fns (d+7)) kK (eN (rs<*o) F M a b (qq (.d (.int k))) c6) S=qq (.rt (.d (pD (k,i))),S))\/((∀ i,i<r.w->bH rs F M a b k i=false)/\∃ c6',xs (aC fns (d+7)) kK (eN (rs<*o) F M a b (qq (.d (.int k))) c6) S=qq (.nx (eN (rs<*o) F M a b (qq (.d (.int k))) c6'),S)):=by
 have ew:=(p.ws _ r hr).2;have pl:=λ i hi=>aOh d p hr hF h i a b hi o S
 have wo:=rJ (d+6) k hr o S;have i0:aH (rs<*o) (.int 0)=qq (.tuple (rs.map Rw.d)):=rfl;obtain⟨P,hP⟩:∃ P:D,P=(rs<*o):=⟨_,rfl⟩;rw[<- hP] at wo i0 ⊢;simp only[<- hP] at pl;have er1:aH (.tuple (rs.map Rw.d)) (.int k)=qq r.d:=gX (by rw[xAb,hr];rfl)
 have eo:cl fns (d+7) 7 [.d r.d] S=qq (.d (.tuple ((nC r).map nD)),S):=pB (d+6) r S;have it:=aR9 a (nC r)
 by_cases ca:a∈nC r
 ·rw[dqT ca] at it;have hi:lv (aC fns (d+7)) oY (eN P F M a b (qq (.d (.int k))) c6) S=qq ((yAx r.w).map (λ k=>yAk ((k:Nat):Int)),S):=by
   simp only[oY,oE,lV,nK,nL,nU,nR];exact qP (by simp only[evs,eN,wo]) (by omega)
  obtain⟨q,hq,h1,h2⟩:=aFk (λ i=>decide (i<r.w) && !bH rs F M a b k i) r.w (by
   rw[Bool.and_eq_false_iff];exact .inl (dqF (yCc _)))
  have good:∀ i,i<q->bH rs F M a b k i=false:=λ i hi=>by
   have:=h1 i hi;simp only[yAl] at this;cases c:bH rs F M a b k i with
   | false=>rfl
   | true=>rw[c] at this;exact absurd this.2 (by decide)
  by_cases c:q<r.w
  ·have h2':(decide (q<r.w) && !bH rs F M a b k q)=false:=h2;rw[dqT c,yAn] at h2';have h3:bH rs F M a b k q=true:=by
    cases e:bH rs F M a b k q with
    | true=>rfl
    | false=>rw[e] at h2';cases h2'
   refine .inl ⟨q,c,h3,?_⟩;have lp:dQ (.one 6) (lv (aC fns (d+7)) oY) (xs (aC fns (d+7)) kL) (eN P F M a b (qq (.d (.int k))) c6) S=qq (.rt (.d (pD (k,q))),S):=by
    unfold dQ;rw[hi,oB];show eZ (.one 6) (xs (aC fns (d+7)) kL) ((yAx r.w).map (λ k=>yAk ((k:Nat):Int))) (eN P F M a b (qq (.d (.int k))) c6) S=_
    refine aBA (P:=λ env=>∃ c6:Option W,env=eN P F M a b (qq (.d (.int k))) c6) _ q _ (by simpa using c) ⟨c6,rfl⟩ ?_ ?_
    ·rintro j dd env hj hd ⟨c6,rfl⟩;obtain⟨hjn,rfl⟩:=aCa hd;have w:=pl j hjn;rw[good j hj,cond_false] at w;exact⟨_,_,rfl,w,_,rfl⟩
    ·rintro dd env hd ⟨c6,rfl⟩;obtain⟨hjn,rfl⟩:=aCa hd;have w:=pl q hjn;rw[h3,cond_true] at w;exact⟨_,rfl,w⟩
   simp only[evs,kK,eN,i0,er1,eo,it];have lp':dQ (.one 6) (lv (aC fns (d+7)) oY) (xs (aC fns (d+7)) kL) [qq (.d P),qq (.d (.tuple (F.map Ft.d))),qq (.d (.tuple (M.map nD))),qq (.d (.int a)),qq (.d (.int b)),qq (.d (.int k)),c6] S=qq (.rt (.d (pD (k,q))),S):=lp;simp only[lp',oB]
  ·have all:∀ i,i<r.w->bH rs F M a b k i=false:=λ i hi=>good i (by omega)
   refine .inr ⟨all,?_⟩;obtain⟨aI,lp,c6',rfl⟩:=aQG (t:=.one 6) (fi:=lv (aC fns (d+7)) oY) (fb:=xs (aC fns (d+7)) kL) (env:=eN P F M a b (qq (.d (.int k))) c6) (S:=S) (S1:=S) (ds:=(yAx r.w).map (λ k=>yAk ((k:Nat):Int))) (λ env=>∃ c6:Option W,env=eN P F M a b (qq (.d (.int k))) c6) hi ⟨c6,rfl⟩ (by
    rintro dd hdd env ⟨c6,rfl⟩;obtain⟨j,hj,rfl⟩:=List.mem_map.mp hdd;have hjn:j<r.w:=by simpa using hj
    have w:=pl j hjn;rw[all j hjn,cond_false] at w;exact⟨_,_,rfl,w,_,rfl⟩)
   refine⟨c6',?_⟩;simp only[evs,kK,eN,i0,er1,eo,it];have lp':dQ (.one 6) (lv (aC fns (d+7)) oY) (xs (aC fns (d+7)) kL) [qq (.d P),qq (.d (.tuple (F.map Ft.d))),qq (.d (.tuple (M.map nD))),qq (.d (.int a)),qq (.d (.int b)),qq (.d (.int k)),c6] S=qq (.nx (eN P F M a b (qq (.d (.int k))) c6'),S):=lp;simp only[lp',oB]
 ·rw[dqF ca] at it;refine .inr ⟨λ i hi=>?_,c6,?_⟩
  ·cases c:bH rs F M a b k i with
   | false=>rfl
   | true =>
     unfold bH at c;rw[yAl] at c;exact absurd (aJe p hr hi c.2).2 ca
  ·simp only[gS2,kK,eN,i0,er1,eo,it]
theorem aLK(d:Nat)(p:Prg rs)(hF:F.length=rs.length)(h:Bd rs M)(a b:Nat){k0 i0:Nat}(ha:a<k0)(hk0:k0<rs.length)(hi0:i0<rs[k0].w)(hh:bH rs F M a b k0 i0=true)(o:D)(S:aE):∃ (k i:Nat) (r:Rw),a<k/\k<rs.length/\rs[k]? = qq r/\i<r.w/\bH rs F M a b k i=true/\cl fns (d+8) 21 [.d (rs<*o),.d (.tuple (F.map Ft.d)),.d (.tuple (M.map nD)),.d (.int a),.d (.int b)] S=qq (.d (pD (k,i)),S):=by
 have pl:=p.l
 let any:Nat->Bool:=λ j=>decide (a+1+j<rs.length)&&(yAx (g0 (~~~rs) (a+1+j))).all λ i=>!bH rs F M a b (a+1+j) i
 have lM:fO [.tuple (M.map nD)]=qq (.int rs.length):=by
  show qq (yAk (((M.map nD).length:Nat):Int))=_;rw[yAd,h.l]
 have ea:((a:Nat):Int)+1=((a+1:Nat):Int):=rfl;have hi:lv (aC fns (d+7)) xR (eN (rs<*o) F M a b qz qz) S=qq ((yAx (rs.length-(a+1))).map (λ k=>yAk ((a+1+k:Nat):Int)),S):=by
  simp only[xR,oE,lV,nK,nL,nU,nR];exact aLH (S1:=S) (S2:=S) (by simp only[evs,eN,dR,ea]) (by simp only[evs,eN,lM]) (by omega) (by omega)
 have hno:∀ k r,rs[k]? = qq r->g0 (~~~rs) k=r.w:=λ k r hr=>mL hr
 have rat:∀ {j:Nat}{dd:D},((yAx (rs.length-(a+1))).map λ k=>yAk ((a+1+k:Nat):Int))[j]? = qq dd->j<rs.length-(a+1)/\dd=.int ((a+1+j:Nat):Int):=λ {j dd} hd=>by
  have hj:j<rs.length-(a+1):=by
   have:=(gIm hd).1;simpa using this
  rw[xAb,yGi hj] at hd;cases hd;exact⟨hj,rfl⟩
 have some0:any (k0-(a+1))=false:=by
  show(decide (a+1+(k0-(a+1))<rs.length)&&(yAx (g0 (~~~rs) (a+1+(k0-(a+1))))).all λ i=>!bH rs F M a b (a+1+(k0-(a+1))) i)=false
  rw[show a+1+(k0-(a+1))=k0 by omega,Bool.and_eq_false_iff]
  refine .inr ?_;rw[List.all_eq_false];refine⟨i0,?_,by rw[hh];decide⟩
  rw[hno k0 _ (yAa hk0)];exact List.mem_range.mpr hi0
 obtain⟨q,hq,h1,h2⟩:=aFk any (k0-(a+1)) some0;have hql:a+1+q<rs.length:=by omega
 have hr:rs[a+1+q]? = qq rs[a+1+q]:=yAa hql;have good:∀ j,j<q->∀ i,i<g0 (~~~rs) (a+1+j)->bH rs F M a b (a+1+j) i=false:=λ j hj i hi=>by
  have:=h1 j hj;have t:(decide (a+1+j<rs.length)&&(yAx (g0 (~~~rs) (a+1+j))).all λ i=>!bH rs F M a b (a+1+j) i)=true:=this
  rw[yAl,List.all_eq_true] at t;have:=t.2 i (List.mem_range.mpr hi);cases c:bH rs F M a b (a+1+j) i with
  | false=>rfl
  | true=>rw[c] at this;cases this
 have bad:¬ ∀ i,i<rs[a+1+q].w->bH rs F M a b (a+1+q) i=false:=λ hall=>by
  have t:(decide (a+1+q<rs.length)&&(yAx (g0 (~~~rs) (a+1+q))).all λ i=>!bH rs F M a b (a+1+q) i)=false:=h2
  rw[dqT hql,yAn,List.all_eq_false] at t;obtain⟨i,h3,h4⟩:=t;rw[hno _ _ hr] at h3;rw[hall i (List.mem_range.mp h3)] at h4;exact h4 rfl
 have rq:=λ c6=>aI6 d p hr hF h a b o S c6
 have rj:∀ j,j<q->∀ c6,∃ c6',xs (aC fns (d+7)) kK (eN (rs<*o) F M a b (qq (.d (.int ((a+1+j:Nat):Int)))) c6) S=qq (.nx (eN (rs<*o) F M a b (qq (.d (.int ((a+1+j:Nat):Int)))) c6'),S):=λ j hj c6=>by
  have hrj:rs[a+1+j]? = qq rs[a+1+j]:=yAa (by omega)
  rcases aI6 d p hrj hF h a b o S c6 with ⟨i,h3,h4,_⟩ | ⟨_,e⟩
  ·rw[good j hj i (by rw[hno _ _ hrj];exact h3)] at h4
   cases h4
  ·exact e
 obtain⟨P,hP⟩:∃ P:D,P=(rs<*o):=⟨_,rfl⟩;simp only[<- hP] at hi rq rj ⊢;have rq':∀ c6,∃ i,i<rs[a+1+q].w/\bH rs F M a b (a+1+q) i=true/\xs (aC fns (d+7)) kK (eN P F M a b (qq (.d (.int ((a+1+q:Nat):Int)))) c6) S=qq (.rt (.d (pD (a+1+q,i))),S):=λ c6=>by
  rcases rq c6 with e | ⟨e,_⟩
  ·exact e
  ·exact absurd e bad
 have lp:∀ n env,n<=q->(∃ c5 c6,env=eN P F M a b c5 c6)->∃ i,i<rs[a+1+q].w/\bH rs F M a b (a+1+q) i=true/\eZ (.one 5) (xs (aC fns (d+7)) kK) (((yAx (rs.length-(a+1))).map (λ k=>yAk ((a+1+k:Nat):Int))).drop (q-n)) env S=qq (.rt (.d (pD (a+1+q,i))),S):=λ n=>by
  induction n with
  | zero =>
    rintro env _ ⟨c5,c6,rfl⟩;obtain⟨i,h3,h4,e⟩:=rq' c6;refine⟨i,h3,h4,?_⟩;have hx:q<((yAx (rs.length-(a+1))).map (λ k=>yAk ((a+1+k:Nat):Int))).length:=by simp;omega
    rw[yHm,yCa hx,yEv,List.getElem_range];simp only[eZ];rw[show Tg.put (.one 5) (yAk ((a+1+q:Nat):Int)) (eN P F M a b c5 c6)=qq (eN P F M a b (qq (.d (.int ((a+1+q:Nat):Int)))) c6) from rfl,oB,e]
    rfl
  | succ n ih =>
    rintro env hn ⟨c5,c6,rfl⟩;have hx:q-(n+1)<((yAx (rs.length-(a+1))).map (λ k=>yAk ((a+1+k:Nat):Int))).length:=by simp;omega
    obtain⟨c6',e⟩:=rj (q-(n+1)) (by omega) c6
    obtain⟨i,h3,h4,e2⟩:=ih (eN P F M a b (qq (.d (.int ((a+1+(q-(n+1)):Nat):Int)))) c6') (by omega) ⟨_,_,rfl⟩
    refine⟨i,h3,h4,?_⟩;rw[yCa hx,yEv,List.getElem_range];simp only[eZ];rw[show Tg.put (.one 5) (yAk ((a+1+(q-(n+1)):Nat):Int)) (eN P F M a b c5 c6)=qq (eN P F M a b (qq (.d (.int ((a+1+(q-(n+1)):Nat):Int)))) c6) from rfl,oB,e,show q-(n+1)+1=q-n by omega]
    exact e2
 obtain⟨i,h3,h4,e⟩:=lp q (eN P F M a b qz qz) (yAb _) ⟨qz,qz,rfl⟩;refine⟨a+1+q,i,_,by omega,hql,hr,h3,h4,?_⟩
 rw[yBn,yEh] at e;have lp':xs (aC fns (d+7)) (fQ qQ) (eN P F M a b qz qz) S=qq (.rt (.d (pD (a+1+q,i))),S):=by
  show dQ (.one 5) (lv (aC fns (d+7)) xR) (xs (aC fns (d+7)) kK) (eN P F M a b qz qz) S=_;unfold dQ;rw[hi,oB];exact e
 have e5:qQ=.seq (fQ qQ) (cJ qQ):=rfl;refine cH (S1:=S) rfl (d+7) rfl rfl yAe ?_;show xs (aC fns (d+7)) qQ (eN P F M a b qz qz) S=_;rw[e5];simp only[jQ,dL,lp',oB]
end
def Lk(rs:List Rw)(F:List Ft)(x y:Nat×Nat):Prop:=y.1<rs.length/\y.2<g0 (~~~rs) y.1/\nb rs F y.1 y.2 x.1 x.2=true
noncomputable def oT(rs:List Rw)(F:List Ft)(aD:List Nat):(Nat×Nat)->List (Nat×Nat)->Prop
 | x,[]=>x.1∈aD
 | x,y::l=>Lk rs F x y/\oT rs F aD y l
section
variable {rs : List Rw}{F : List Ft}{M : List Nat}
noncomputable abbrev eW(P:D)(F:List Ft)(a0 b0:Nat)(M:List Nat)(x:Nat×Nat)(n:Nat):aZ:=[qq (.d P),qq (.d (.tuple (F.map Ft.d))),qq (.d (.int a0)),qq (.d (.int b0)),qq (.d (.tuple (M.map nD))),qq (.d (pD x)),qq (.loc n)]
theorem qC(x:Nat×Nat):aH (pD x) (.int 0)=qq (.int (x.1:Nat)):=rfl
theorem aDA(x:Nat×Nat):aH (pD x) (.int 1)=qq (.int (x.2:Nat)):=rfl
theorem aGh(d:Nat)(p:Prg rs)(hF:F.length=rs.length)(aD:List Nat)(ho:∀ o∈aD,o<rs.length)(a0 b0:Nat)(S:aE):∀ (n N:Nat) (x:Nat×Nat) (pre:List (Nat×Nat)),rs.length-x.1<=n->n<N->pre.length+n<=102->((bS rs F aD).getD x.1 0).testBit x.2=true ->
 ∃ l y,oT rs F aD x l/\l.length<=n/\jI (tv (aC fns (d+9)) pH) (xs (aC fns (d+9)) uG) N (eW (rs<*(.tuple (aD.map nD))) F a0 b0 (bS rs F aD) x S.length) (S++[qq (pre.map pD)])=qq (.nx (eW (rs<*(.tuple (aD.map nD))) F a0 b0 (bS rs F aD) y S.length),S++[qq ((pre++l).map pD)])
 | n,0,x,pre,_,h,_,_=>absurd h (yDt n)
 | n,N+1,x,pre,hn,hN,hp,hx=>by
   have i1:aH (rs<*(.tuple (aD.map nD))) (.int 1)=qq (.tuple (aD.map nD)):=rfl;have ni:=aFB x.1 aD
   by_cases c:x.1∈aD
   ·refine⟨[],x,c,yEy _,?_⟩;rw[dqT c] at ni;have t:tv (aC fns (d+9)) pH (eW (rs<*(.tuple (aD.map nD))) F a0 b0 (bS rs F aD) x S.length) (S++[qq (pre.map pD)])=qq (false,S++[qq (pre.map pD)]):=by
     simp only[gS2,pH,eW,qC,i1,ni]
    simp only[jI,t,oB,yAt,if_false,yDb]
   ·rw[dqF c] at ni;have t:tv (aC fns (d+9)) pH (eW (rs<*(.tuple (aD.map nD))) F a0 b0 (bS rs F aD) x S.length) (S++[qq (pre.map pD)])=qq (true,S++[qq (pre.map pD)]):=by
     simp only[gS2,pH,eW,qC,i1,ni]
    have bd:=aCP (F:=F) p ho;rcases aNR p ho hx with h | ⟨k0,j0,h1,h2,h3,h4⟩
    ·exact absurd h c
    have hr0:rs[k0]? = qq rs[k0]:=yAa h2;have hj0:j0<rs[k0].w:=by
     have hb:=bd.lt k0 _ hr0;refine yHe λ c=>?_
     have:=yDf (xAc hb (yAr (by decide) c))
     rw[this] at h3;cases h3
    have hh:bH rs F (bS rs F aD) x.1 x.2 k0 j0=true:=by
     unfold bH;rw[h3,h4];rfl
    obtain⟨k,i,r,g1,g2,g3,g4,g5,g6⟩:=aLK (d+1) p hF bd x.1 x.2 h1 h2 hj0 hh (.tuple (aD.map nD)) (S++[qq (pre.map pD)]);unfold bH at g5;rw[yAl] at g5;have ap:dZ (S++[qq (pre.map pD)]) (.loc S.length) (.d (pD (k,i)))=qq (.d .none,S++[qq ((pre++[(k,i)]).map pD)]):=by
     rw[zH S (pre.map pD) _ (by rw[yAd];omega),yCb]
     rfl
    obtain⟨n',rfl⟩:∃ n',n=n'+1:=⟨n-1,by omega⟩
    obtain⟨l,y,q1,q2,q3⟩:=aGh d p hF aD ho a0 b0 S n' N (k,i) (pre++[(k,i)]) (by show rs.length-k<=n';omega) (by omega) (by rw[xAo,yEj];omega) g5.1
    have b:xs (aC fns (d+9)) uG (eW (rs<*(.tuple (aD.map nD))) F a0 b0 (bS rs F aD) x S.length) (S++[qq (pre.map pD)])=qq (.nx (eW (rs<*(.tuple (aD.map nD))) F a0 b0 (bS rs F aD) (k,i) S.length),S++[qq ((pre++[(k,i)]).map pD)]):=by
     simp only[gS2,uG,eW,qC,aDA,g6,iA,ap]
    refine⟨(k,i)::l,y,⟨⟨g2,?_,g5.2⟩,q1⟩,by rw[yAw];omega,?_⟩
    ·show i<g0 (~~~rs) k;rw[mL g3];exact g4
    ·simp only[jI,t,oB,if_true,b];rw[q3,yAz];rfl
end
section
variable {rs : List Rw}{F : List Ft}{M : List Nat}
theorem aRb(d:Nat)(p:Prg rs)(hF:F.length=rs.length)(aD:List Nat)(ho:∀ o∈aD,o<rs.length)(a b:Nat)(ha:a<rs.length)(S:aE):∃ l,(((bS rs F aD).getD a 0).testBit b=false/\l=[]\/((bS rs F aD).getD a 0).testBit b=true/\l.length<=102/\∃ t,l=(a,b)::t/\oT rs F aD (a,b) t) /\
 cl fns (d+10) 22 [.d (rs<*(.tuple (aD.map nD))),.d (.tuple (F.map Ft.d)),.d (.int a),.d (.int b)] S=qq (.d (.tuple (l.map pD)),S):=by
 obtain⟨bd,ak⟩:=aCi (d+2) p hF aD ho S;have em:=aAb (M:=bS rs F aD) (i:=a) (by rw[bd.l];exact ha)
 have z:=aDZ ((bS rs F aD).getD a 0) b;have pl:=p.l;cases c:((bS rs F aD).getD a 0).testBit b with
 | false =>
   rw[c] at z;refine⟨[],.inl ⟨rfl,rfl⟩,?_⟩;rw[aU rfl (d+9) _ S rfl];simp only[gR1,aD4,ak,em,eU,kN,bO,z]
 | true =>
   rw[c] at z;obtain⟨l,y,q1,q2,q3⟩:=aGh d p hF aD ho a b S rs.length 100000 (a,b) [(a,b)] (by show rs.length-a<=_;omega) (by omega) (by rw[yEj];omega) c
   refine⟨(a,b)::l,.inr ⟨rfl,by rw[yAw];omega,l,rfl,q1⟩,?_⟩
   have q3':jI (tv (aC fns (d+9)) pH) (xs (aC fns (d+9)) uG) 100000 [qq (.d (rs<*(.tuple (aD.map nD)))),qq (.d (.tuple (F.map Ft.d))),qq (.d (.int a)),qq (.d (.int b)),qq (.d (.tuple ((bS rs F aD).map nD))),qq (.d (.tuple [.int a,.int b])),qq (.loc S.length)] (S++[qq [.tuple [.int a,.int b]]])=qq (.nx (eW (rs<*(.tuple (aD.map nD))) F a b (bS rs F aD) y S.length),S++[qq (((a,b)::l).map pD)]):=q3;have tk1:∀ x,yDj S.length (S++[x])=S:=λ x=>yDo
   rw[aU rfl (d+9) _ S rfl];simp only[gR2,aD4,eW,ak,em,eU,kN,bO,z,eY,q3',lS,gJ,gK,tk1]
end
theorem aSf(x:Nat×Nat):yBy (pD x) (pD x)=true:=by simp[pD,nD,yBy,yFm]
theorem aIX:∀ l:List (Nat×Nat),yCz (l.map pD)=true
 | []=>rfl
 | a::r=>by
   have ih:=aIX r;simp only[yAs,yCz,ih,yBt];rfl
theorem aIT:∀ l:List (Nat×Nat),yBp (l.map pD)<=1
 | []=>yEy _
 | a::r=>by
   have ih:=aIT r;simp only[yAs,yBp];exact Nat.max_le.mpr ⟨(show PyData.depth (pD a)<=1 by simp[pD,nD,PyData.depth,yBp]),ih⟩
theorem aI4:∀ l:List (Nat×Nat),yFm (l.map pD) (l.map pD)=true
 | []=>rfl
 | a::r=>by
   have ih:=aI4 r;simp only[yAs,yFm,ih,yBt,aSf]
theorem aVB(l:List (Nat×Nat)):(yBf (l.map pD)).depth<=60:=by
 show yBp (l.map pD)+1<=60;have:=aIT l;omega
theorem aTy(l:List (Nat×Nat)):aV .NotEq (.tuple (l.map pD)) (.tuple (l.map pD))=qq (.bool false):=by
 have h1:(yBf (l.map pD)).canLay0=true:=aIX l;have h3:yBy (.tuple (l.map pD)) (.tuple (l.map pD))=true:=by
  have:=aI4 l;simp only[yBy,this]
 unfold aV jW;simp only[];rw[if_pos ⟨h1,h1,aVB l⟩,h3];rfl
theorem aVl(p:Bool):aV .NotEq (.bool p) (.bool p)=qq (.bool false):=by cases p<;>rfl
theorem aPS{l:List D}{x:D}(h:l[l.length-1]? = qq x):aH (.tuple l) (.int (-1))=qq x:=by
 have hl:0<l.length:=by
  refine Nat.pos_of_ne_zero λ z=>?_
  rw[List.length_eq_zero_iff.mp z] at h;cases h
 show(iF l.length (-1)).bind (λ j=>l[j]?)=_
 unfold iF;rw[if_neg (by decide),if_pos (by omega),oB,show((-1:Int)+l.length).toNat=l.length-1 by omega]
 exact h
theorem aH5{rs:List Rw}{F:List Ft}{aD:List Nat}:∀ (t:List (Nat×Nat)) (x:Nat×Nat),oT rs F aD x t->∀ j,j<t.length->∃ y z,(x::t)[j]? = qq y/\(x::t)[j+1]? = qq z/\Lk rs F y z
 | [],_,_,_,h=>absurd h (yDt _)
 | y::t,x,h,0,_=>⟨x,y,rfl,rfl,h.1⟩
 | y::t,x,h,j+1,hj=>aH5 t y h.2 j (by rw[yAw] at hj;omega)
theorem aGE{rs:List Rw}{F:List Ft}{aD:List Nat}:∀ (t:List (Nat×Nat)) (x:Nat×Nat),oT rs F aD x t->∃ z,(x::t)[t.length]? = qq z/\z.1∈aD
 | [],x,h=>⟨x,rfl,h⟩
 | y::t,_,h=>aGE t y h.2
theorem aOL{α β:Type}{Q:α->β->Prop}{l:List α}{vs:List β}(hl:vs.length=l.length)(h:∀ (i:Nat) (a:α),l[i]? = qq a->∃ v,vs[i]? = qq v/\Q a v){γ:Type}(g:γ->β)(R:α->γ->Prop)(hq:∀ a v,Q a v->∃ c,v=g c/\R a c):∃ cs:List γ,vs=cs.map g/\cs.length=l.length/\∀ (i:Nat) (a:α) (c:γ),l[i]? = qq a->cs[i]? = qq c->R a c:=by
 induction l generalizing vs with
 | nil =>
   have:vs=[]:=List.length_eq_zero_iff.mp (by simpa using hl)
   exact⟨[],this,rfl,by simp⟩
 | cons a l ih =>
   cases vs with
   | nil=>simp at hl
   | cons v vs =>
     obtain⟨v',h1,h2⟩:=h 0 a rfl;cases h1;obtain⟨c,rfl,hc⟩:=hq a v h2;obtain⟨cs,rfl,h3,h4⟩:=ih (vs:=vs) (by simpa using hl) λ i b hb=>by simpa using h (i+1) b (by simpa using hb)
     refine⟨c::cs,rfl,by simp[h3],λ i b e hb he=>?_⟩
     cases i with
     | zero=>simp at hb he;subst hb he;exact hc
     | succ i=>exact h4 i b e (by simpa using hb) (by simpa using he)
noncomputable def eM(n a b:Nat):List Nat:=(yAc n 0).set a (2^b)
theorem aS1(n a b:Nat):(eM n a b).length=n:=by unfold eM;rw[yBh,yBb]
theorem aSK(n k:Nat):(yAc n 0).getD k 0=0:=by
 rw[xAh,yBq]
 split<;>rfl
theorem aJc{n a b k:Nat}(h:a≠k):(eM n a b).getD k 0=0:=by
 unfold eM;rw[nE h,aSK]
theorem aJn{n a b:Nat}(h:a<n):(eM n a b).getD a 0=2^b:=pA (by rw[yBb];exact h)
theorem aAF{rs:List Rw}{a b:Nat}{r:Rw}(hr:rs[a]? = qq r)(hb:b<r.w):MsOk rs (eM rs.length a b):=⟨aS1 _ _ _,λ j q m h1 h2=>by
 have hj:j<(eM rs.length a b).length:=(gIm h2).1;rw[zP hj] at h2;cases h2
 by_cases c:a=j
 ·subst c;rw[hr] at h1;cases h1;rw[aJn (gIm hr).1];exact yBs (by decide) hb
 ·rw[aJc c];exact xAf _⟩
theorem aCO:∀ A B:List Nat,yFm (A.map nD) (B.map nD)=decide (A=B)
 | [],[]=>rfl
 | [],b::B=>by rw[dqF (by simp)];rfl
 | a::A,[]=>by rw[dqF (by simp)];rfl
 | a::A,b::B=>by
   have ih:=aCO A B;simp only[yAs,yFm,ih];have e:yBy (nD a) (nD b)=decide (a=b):=by
    show(((a:Nat):Int)==((b:Nat):Int))=_;rw[jO]
    by_cases c:a=b
    ·subst c;simp
    ·rw[dqF c,beq_eq_false_iff_ne];exact c
   rw[e]
   by_cases c:a=b<;>by_cases c2:A=B<;>simp[c,c2]
theorem aSF(A B:List Nat):aV .NotEq (.tuple (A.map nD)) (.tuple (B.map nD))=qq (.bool !decide (A=B)):=by
 have h1:∀ L:List Nat,(yBf (L.map nD)).canLay0=true:=uR;have h2:(yBf (A.map nD)).depth<=60:=by
  show yBp (A.map nD)+1<=60;rw[tS];decide
 have h3:yBy (.tuple (A.map nD)) (.tuple (B.map nD))=decide (A=B):=aCO A B;unfold aV jW;simp only[];rw[if_pos ⟨h1 A,h1 B,h2⟩,h3];rfl
theorem aSq(A B:List Nat):aV .NotEq (.list (A.map nD)) (.list (B.map nD))=qq (.bool !decide (A=B)):=by
 have h1:∀ L:List Nat,(yEf (L.map nD)).canLay0=true:=uR;have h2:(yEf (A.map nD)).depth<=60:=by
  show yBp (A.map nD)+1<=60;rw[tS];decide
 have h3:yBy (.list (A.map nD)) (.list (B.map nD))=decide (A=B):=aCO A B;unfold aV jW;simp only[];rw[if_pos ⟨h1 A,h1 B,h2⟩,h3];rfl
noncomputable def eG(rs:List Rw)(aD:List Nat)(a b:Nat)(is:List Nat):Bool:=!decide (aD.map (g0 (cB rs (~~~rs) is (eM rs.length a b) []))=aD.map (g0 (cI rs (~~~rs) is [])))
section
variable {rs : List Rw}{F : List Ft}{r : Rw}{a b : Nat}{aD : List Nat}
theorem aDK(rs:List Rw):fO [.tuple (rs.map Rw.d)]=qq (.int rs.length):=by
 show qq (yAk (((rs.map Rw.d).length:Nat):Int))=_;rw[yAd]
theorem aMJ(d:Nat)(p:Prg rs)(hr:rs[a]? = qq r)(hb:b<r.w)(o:D)(S:aE):cl fns (d+1) 60 [.d (rs<*o),.d (.int a),.d (.int b)] S=qq (.d (.tuple ((eM rs.length a b).map nD)),S):=by
 have ha:a<rs.length:=(gIm hr).1;have w64:=(p.ws a r hr).2;have pl:=p.l;have i0:aH (rs<*o) (.int 0)=qq (.tuple (rs.map Rw.d)):=rfl;have lR:=aDK rs;have sh:bP .LShift (.int 1) (.int b)=qq (.int ((2^b:Nat):Int)):=eT (by omega)
 have pe:=aAe S (yAc rs.length 0) a (2^b) (by rw[yBb];exact ha)
 have rp:=aDo (fa:=ev (aC fns d) (.fz (.lst (.cons (.int 0) .nil)))) (fb:=ev (aC fns d) (.blt .len (.cons (.ix (.var 0) (.int 0)) .nil))) (env:=[qq (.d (rs<*o)),qq (.d (.int a)),qq (.d (.int b)),qz]) (S:=S) (n:=rs.length) rfl (by simp only[evs,i0,lR]) (by omega)
 have tk1:∀ x,yDj S.length (S++[x])=S:=λ x=>yDo
 rw[aU rfl d _ S rfl];have gl:=lS S ((eM rs.length a b).map nD);have pe':iP (S++[qq ((yAc rs.length 0).map nD)]) (.loc S.length) (.d (.int a)) (.d (.int ((2^b:Nat):Int)))=qq (S++[qq ((eM rs.length a b).map nD)]):=pe;simp only[gR1,aEM,jQ,rH,uK,aAc,dL,fM,eY,rp,jE,sh,pe',gl,gJ,gK,tk1]
theorem aG9(d:Nat)(p:Prg rs){is:List Nat}(hi:bR rs is)(ho:∀ o∈aD,o<rs.length)(hol:aD.length<=8)(S:aE):cl fns (d+8) 59 [.d (rs<*(.tuple (aD.map nD))),.d (.tuple (is.map nD))] S=qq (.d (.tuple ((aD.map (g0 (cI rs (~~~rs) is []))).map nD)),S):=by
 have rn:=aQz d rs (.tuple (aD.map nD)) is p.l p.fit hi S;rw[yR] at rn;have oo:=aFw (d+6) (.tuple (rs.map Rw.d)) aD (cI rs (~~~rs) is []) (by rw[qZ p hi];exact ho) hol S
 rw[aU rfl (d+7) _ S rfl];simp only[gR1,aJy,rn,oo]
theorem aFu(d:Nat)(p:Prg rs){is:List Nat}(hi:bR rs is)(hr:rs[a]? = qq r)(hb:b<r.w)(ho:∀ o∈aD,o<rs.length)(hol:aD.length<=8)(S:aE):cl fns (d+9) 61 [.d (rs<*(.tuple (aD.map nD))),.d (.int a),.d (.int b),.d (.tuple (is.map nD))] S=qq (.d (.bool (eG rs aD a b is)),S):=by
 have sm:=aMJ (d+7) p hr hb (.tuple (aD.map nD)) S;obtain⟨tn,tl,_⟩:=yI (d+2) rs (.tuple (aD.map nD)) is _ p.l p.fit hi (aAF hr hb) S;have oo:=aFw (d+7) (.tuple (rs.map Rw.d)) aD (cB rs (~~~rs) is (eM rs.length a b) []) (by rw[tl];exact ho) hol S
 have td:=aG9 d p hi ho hol S;have ne:=aSF (aD.map (g0 (cB rs (~~~rs) is (eM rs.length a b) []))) (aD.map (g0 (cI rs (~~~rs) is [])));rw[aU rfl (d+8) _ S rfl];simp only[gR1,aGS,sm,tn,oo,td,ne]
theorem aMr(p:Prg rs)(s:Snd rs F)(hF:F.length=rs.length){is:List Nat}(hi:bR rs is)(hr:rs[a]? = qq r)(hb:b<r.w)(ho:∀ o∈aD,o<rs.length)(hn:((bS rs F aD).getD a 0).testBit b=false):eG rs aD a b is=false:=by
 have ha:a<rs.length:=(gIm hr).1;have wr:=aMg (F:=F) p ho;have bd:=aCP (F:=F) p ho;obtain⟨_,tl,lt⟩:=yI 0 rs (.tuple (aD.map nD)) is _ p.l p.fit hi (aAF hr hb) [];rcases wr with ⟨q,_,_,_,h⟩ | ⟨w1,w2⟩
 ·cases h
 have ag:=aMA p s hF hi bd w1 (aAF hr hb) lt tl (λ k i h=>by
  by_cases c:a=k
  ·subst c;rw[aJn ha,yDd];refine dqF λ e=>?_
   subst e;rw[hn] at h;cases h
  ·rw[aJc c,yBd])
 unfold eG;rw[dqT]
 ·rfl
 refine yCf λ o hm=>?_
 have hol:=ho o hm;have b2:sM rs aD (bS rs F aD)=false:=by
  cases c:sM rs aD (bS rs F aD) with
  | false=>rfl
  | true=>rw[c] at w2;cases w2
 unfold sM at b2;have:=List.any_eq_false.mp b2 o hm;have fo:Sb (2^g0 (~~~rs) o-1) ((bS rs F aD).getD o 0):=by
  refine(aBH _ _).mp ?_;cases c:dA (2^g0 (~~~rs) o-1) ((bS rs F aD).getD o 0)==0 with
  | true=>exact beq_iff_eq.mp c
  | false=>rw[c] at this;exact absurd rfl this
 have hw:=lY (l:=rs.map (·.w)) (a:=o) (by rw[yAd];exact hol)
 have h1:=lt o _ _ (lY (by rw[tl];exact hol)) hw
 have h2:=aAj p hi (lY (l:=cI rs (~~~rs) is []) (a:=o) (by rw[qZ p hi];exact hol)) hw
 apply xAm;intro i
 by_cases c:i<g0 (~~~rs) o
 ·refine ag o hol i (fo i ?_);rw[cK,dqT c]
 ·rw[yDf (xAc h1 (yAr (by decide) (by omega))),yDf (xAc h2 (yAr (by decide) (by omega)))]
end
section
variable {rs : List Rw}{F : List Ft}{r : Rw}{a b : Nat}{aD : List Nat}
theorem aOq(d:Nat)(p:Prg rs)(hF:F.length=rs.length)(x y:Nat×Nat)(h:Lk rs F x y)(o:D)(S:aE):cl fns (d+6) 75 [.d (rs<*o),.d (.tuple (F.map Ft.d)),.d (pD x),.d (pD y)] S=qq (.d (.bool true),S):=by
 obtain⟨k,i⟩:=y;obtain⟨h1,h2,h3⟩:=h;have h1:k<rs.length:=h1;have hr:rs[k]? = qq rs[k]:=yAa h1;have h2:i<rs[k].w:=by
  have:i<g0 (~~~rs) k:=h2;rw[mL hr] at this;exact this
 unfold nb at h3;rw[show rs[(k,i).1]? = qq rs[k] from hr] at h3
 have h3:((cW rs F rs[k] (2^i)).any λ q=>(q.1==x.1)&&q.2.testBit x.2)=true:=h3
 generalize rs[k]=r at hr h2 h3;have w64:=(p.ws k _ hr).2;have i0:aH (rs<*o) (.int 0)=qq (.tuple (rs.map Rw.d)):=rfl;have e1:aH (.tuple (rs.map Rw.d)) (.int k)=qq r.d:=gX (by rw[xAb,hr];rfl)
 obtain⟨f1,f2'⟩:=p.fit k r hr;have ol:=aCD r;have ol':(r.args.take (bD r.wd)).length<=3:=ol;have sh:bP .LShift (.int 1) (.int i)=qq (.int ((2^i:Nat):Int)):=eT (by omega)
 obtain⟨P,hP⟩:∃ P:D,P=(rs<*o):=⟨_,rfl⟩;have wo:∀ (a:Nat) (S':aE),a∈r.args.take (bD r.wd)->cl fns (d+5) 9 [.d P,.d (nD a)] S'=qq (.d (nD (g0 (~~~rs) a)),S'):=λ a S' ha=>by
  have haj:=f2' a ha;have hq:rs[a]? = qq rs[a]:=yAa (by omega)
  rw[hP,mL hq];exact rJ (d+4) a hq o S'
 rw[<- hP] at i0 ⊢;have hc:lv (aC fns (d+5)) aEw [qq (.d P),qq (.d (.tuple (F.map Ft.d))),qq (.d (pD x)),qq (.d (pD (k,i))),qq (.d r.d),qq (.d (.tuple ((r.args.take (bD r.wd)).map nD))),qz,qz,qz] S=qq ((aY r (~~~rs)).map nD,S):=by
  unfold aY;rw[yBu];refine kP (fi:=lv (aC fns (d+5)) (.it (.var 5))) (fe:=ev (aC fns (d+5)) (.call 9 (.cons (.var 0) (.cons (.var 7) .nil)))) nD (nD ∘ g0 (~~~rs)) (r.args.take (bD r.wd)) ?_ (by rw[zq];omega) λ a ha=>?_
  ·simp only[gS0,fV]
  ·refine⟨_,rfl,λ S'=>?_⟩
   have e2':=wo a S' ha;simp only[gS0,clr,yBm,yCg,e2']
 have hc1:lv (aC fns (d+5)) aEx [qq (.d P),qq (.d (.tuple (F.map Ft.d))),qq (.d (pD x)),qq (.d (pD (k,i))),qq (.d r.d),qq (.d (.tuple ((r.args.take (bD r.wd)).map nD))),qz,qz,qz] S=qq ((fW r F).map Fc.d,S):=by
  rw[aJv,gS,yBu];refine kP (fi:=lv (aC fns (d+5)) (.it (.var 5))) (fe:=ev (aC fns (d+5)) (.ix (.var 1) (.var 7))) nD (Ft.d ∘ f0 F) (r.args.take (bD r.wd)) ?_ (by rw[zq];omega) λ a ha=>?_
  ·simp only[gS0,fV]
  ·refine⟨_,rfl,λ S'=>?_⟩
   have e:aH (.tuple (F.map Ft.d)) (nD a)=qq (f0 F a).d:=gX (by rw[xAb,nT (by have:=f2' a ha;omega)];rfl)
   simp only[gS0,clr,yBm,yCg,e]
 obtain⟨w1,w2⟩:=rX f1;have nk:=aHy d r.wd r.w r.args (oO r) (aY r (~~~rs)) (fW r F) (2^i) w1 (aHO p hr) w2 (yBs (by decide) h2) S
 have nk':cl fns (d+5) 17 [.d r.d,.d (.tuple ((aY r (~~~rs)).map nD)),.d (.tuple ((fW r F).map Fc.d)),.d (.int ((2^i:Nat):Int))] S=qq (.d (.tuple ((fP rs F r (2^i)).map nD)),S):=nk;obtain⟨ns,hns⟩:∃ ns,ns=fP rs F r (2^i):=⟨_,rfl⟩;have hz:=aDh (r.args.take (bD r.wd)) ns;obtain⟨l,hl⟩:∃ l,l=(r.args.take (bD r.wd)).zip ns:=⟨_,rfl⟩;have hl':cW rs F r (2^i)=l:=by rw[hl,hns];rfl
 rw[hl'] at h3;rw[<- hl] at hz;rw[<- hns] at nk';have ll:l.length<=1000:=by
  rw[hl,List.length_zip];omega
 have hc0:lv (aC fns (d+5)) aEy [qq (.d P),qq (.d (.tuple (F.map Ft.d))),qq (.d (pD x)),qq (.d (pD (k,i))),qq (.d r.d),qq (.d (.tuple ((r.args.take (bD r.wd)).map nD))),qq (.d (.tuple (ns.map nD))),qz,qz] S=qq (l.map λ q=>yAj ((q.1==x.1)&&q.2.testBit x.2),S):=by
  refine kP (fi:=lv (aC fns (d+5)) (.zip (.var 5) (.var 6))) (fe:=ev (aC fns (d+5)) (.and (.cmp .Eq (.var 7) (.ix (.var 2) (.int 0))) (.cmp .Eq (.bin .BitAnd (.bin .RShift (.var 8) (.ix (.var 2) (.int 1))) (.int 1)) (.int 1)))) pD (λ q=>yAj ((q.1==x.1)&&q.2.testBit x.2)) l ?_ (by rw[zq];omega) λ q hq=>?_
  ·simp only[gS0,hz]
  ·refine⟨[qq (.d P),qq (.d (.tuple (F.map Ft.d))),qq (.d (pD x)),qq (.d (pD (k,i))),qq (.d r.d),qq (.d (.tuple ((r.args.take (bD r.wd)).map nD))),qq (.d (.tuple (ns.map nD))),qq (.d (.int (q.1:Nat))),qq (.d (.int (q.2:Nat)))],rfl,λ S'=>?_⟩
   cases c:q.1==x.1 with
   | true=>simp only[evs,qC,aDA,bO,jO,c,eU,kN,wO,yAn]
   | false=>simp only[evs,qC,bO,jO,c,yBi]
 have an:=aIO (λ q:Nat×Nat=>(q.1==x.1)&&q.2.testBit x.2) l
 rw[h3] at an;have op:=pB (d+4) r S;have j0:aH (pD (k,i)) (.int 0)=qq (.int k):=rfl;have j1:aH (pD (k,i)) (.int 1)=qq (.int i):=rfl;generalize hY:pD (k,i)=Y at *;generalize hG:yBf (F.map Ft.d)=G at *;rw[aU rfl (d+5) _ S rfl];simp only[gR1,aED,i0,e1,j0,j1,op,sh,hc,hc1,gJ,gK,nk',hc0,an,yAe]
theorem aG1:∀ (t:List (Nat×Nat)) (x:Nat×Nat),oT rs F aD x t->∀ y∈t,y.1<rs.length/\y.2<g0 (~~~rs) y.1
 | [],_,_,y,h=>by cases h
 | z::t,_,h,y,hy=>by
   rcases List.mem_cons.mp hy with rfl | hy
   ·exact⟨h.1.1,h.1.2.1⟩
   ·exact aG1 t z h.2 y hy
theorem aDr(x:D)(l:List D):eC (x::l) qz (qq 1)=[x]:=by
 unfold eC;have h1:HT.sIx (x::l).length 0 qz=0:=rfl;have h2:HT.sIx (x::l).length (x::l).length (qq 1)=1:=by
  show min (1:Int).toNat (x::l).length=1;simp
 rw[h1,h2];rfl
theorem aOU(d:Nat)(p:Prg rs)(hF:F.length=rs.length)(t:List (Nat×Nat))(hr:rs[a]? = qq r)(hb:b<r.w)(h:oT rs F aD (a,b) t)(hl:t.length<=102)(S:aE):cl fns (d+7) 76 [.d (rs<*(.tuple (aD.map nD))),.d (.tuple (F.map Ft.d)),.d (.tuple (((a,b)::t).map pD)),.d (.int a),.d (.int b)] S=qq (.d (.bool true),S):=by
 obtain⟨x,hx⟩:∃ x:Nat×Nat,x=(a,b):=⟨_,rfl⟩;rw[<- hx] at h ⊢;obtain⟨z,hz,hzo⟩:=aGE t x h;have at_:=aH5 t x h;have al_:∀ y∈x::t,∃ q,rs[y.1]? = qq q/\y.2<q.w:=λ y hy=>by
  rcases List.mem_cons.mp hy with rfl | hy
  ·rw[hx];exact⟨r,hr,hb⟩
  ·obtain⟨h1,h2⟩:=aG1 t x h y hy;have hq:rs[y.1]? = qq rs[y.1]:=yAa h1;rw[mL hq] at h2;exact⟨_,hq,h2⟩
 have i1:aH (rs<*(.tuple (aD.map nD))) (.int 1)=qq (.tuple (aD.map nD)):=rfl;have fl:aH (.tuple ((x::t).map pD)) (.int (-1))=qq (pD z):=aPS (by
  rw[yAd,yAw,yGn,xAb,hz];rfl)
 have un:oR .USub (.int 1)=qq (.int (-1)):=rfl;have ni:=aFB z.1 aD;rw[dqT hzo] at ni;have st:=λ y w (hh:Lk rs F y w) S=>aOq d p hF y w hh (.tuple (aD.map nD)) S
 have ln:fO [.tuple ((x::t).map pD)]=qq (.int ((t.length+1:Nat):Int)):=by
  show qq (yAk ((((x::t).map pD).length:Nat):Int))=_;rw[yAd,yAw]
 have es:(((t.length+1:Nat):Int))-1=((t.length:Nat):Int):=by omega
 have cu:eC ((x::t).map pD) qz (qq 1)=[pD x]:=aDr _ _;have ne1:aV .NotEq (.tuple [pD x]) (.tuple [.tuple [.int a,.int b]])=qq (.bool false):=by
  have:=aTy [x];rw[hx] at this ⊢;exact this
 have fx:∀ (j:Nat) (y:Nat×Nat),(x::t)[j]? = qq y->aH (.tuple ((x::t).map pD)) (.int j)=qq (pD y):=λ j y hj=>gX (by rw[xAb,hj];rfl)
 have wo:∀ y∈x::t,∀ S':aE,∃ n:Nat,y.2<n/\cl fns (d+6) 9 [.d (rs<*(.tuple (aD.map nD))),.d (.int (y.1:Nat))] S'=qq (.d (.int n),S'):=λ y hy S'=>by
  obtain⟨q,h1,h2⟩:=al_ y hy;exact⟨q.w,h2,rJ (d+5) y.1 h1 (.tuple (aD.map nD)) S'⟩
 obtain⟨l,hl0⟩:∃ l,l=(x::t):=⟨_,rfl⟩;have ll:l.length<=1000:=by rw[hl0,yAw];omega
 rw[<- hl0] at wo;have is1:iQ .tup (.tuple ((x::t).map pD))=qq (.bool true):=rfl;simp only[<- hl0] at is1 cu fl ln fx ⊢ at_;obtain⟨P,hP⟩:∃ P:D,P=(rs<*(.tuple (aD.map nD))):=⟨_,rfl⟩;simp only[<- hP] at i1 st wo ⊢;generalize yBf (F.map Ft.d)=G at st ⊢;obtain⟨aI,S',e3,c5,rfl,rfl⟩:=mE (t:=.one 5) (fi:=lv (aC fns (d+6)) xL) (fb:=xs (aC fns (d+6)) xK) (env:=[qq (.d P),qq (.d G),qq (.d (.tuple (l.map pD))),qq (.d (.int a)),qq (.d (.int b)),qz,qz]) (S:=S) (S1:=S) (ds:=(yAx t.length).map λ k=>yAk ((k:Nat):Int))
  (λ _ env S'=>∃ c5,env=[qq (.d P),qq (.d G),qq (.d (.tuple (l.map pD))),qq (.d (.int a)),qq (.d (.int b)),c5,qz]/\S=S')
  (by
    simp only[xL,oE,lV,nK,nL,nU,nR];exact qP (by simp only[evs,ln,cR,es]) (by omega))
  ⟨qz,rfl,rfl⟩ (by
   rintro j dd env S' hd ⟨c5,rfl,rfl⟩;obtain⟨hj,rfl⟩:=aCa hd;obtain⟨y,w,h1,h2,h3⟩:=at_ j hj;have a1:=fx j y h1;have a2:=fx (j+1) w h2;have ea:((j:Nat):Int)+1=((j+1:Nat):Int):=rfl;have st':=st y w h3 S;refine⟨_,_,_,rfl,?_,qq (.d (.int j)),rfl,rfl⟩;simp only[evs,xK,a1,dR,ea,a2,st'])
 have e3':dQ (.one 5) (lv (aC fns (d+6)) xL) (xs (aC fns (d+6)) xK) [qq (.d P),qq (.d G),qq (.d (.tuple (l.map pD))),qq (.d (.int a)),qq (.d (.int b)),qz,qz] S=qq (.nx [qq (.d P),qq (.d G),qq (.d (.tuple (l.map pD))),qq (.d (.int a)),qq (.d (.int b)),c5,qz],S):=e3;have hc:lv (aC fns (d+6)) aEz [qq (.d P),qq (.d G),qq (.d (.tuple (l.map pD))),qq (.d (.int a)),qq (.d (.int b)),c5,qz] S=qq (l.map λ _=>yAj true,S):=by
  refine kP (fi:=lv (aC fns (d+6)) (.it (.var 2))) (fe:=ev (aC fns (d+6)) (.chn .LtE .Lt (.int 0) (.ix (.var 6) (.int 1)) (.call 9 (.cons (.var 0) (.cons (.ix (.var 6) (.int 0)) .nil))))) pD (λ _=>yAj true) l ?_ (by rw[zq];omega) λ y hy=>?_
  ·simp only[gS0,fV]
  ·refine⟨[qq (.d P),qq (.d G),qq (.d (.tuple (l.map pD))),qq (.d (.int a)),qq (.d (.int b)),c5,qq (.d (pD y))],rfl,λ S'=>?_⟩
   obtain⟨n,hn,wo'⟩:=wo y hy S';have c3:aV .LtE (.int 0) (.int (y.2:Nat))=qq (.bool true):=by rw[aQF,dqT (by omega)]
   have c4:aV .Lt (.int (y.2:Nat)) (.int n)=qq (.bool true):=by rw[dY,dqT (by omega)]
   simp only[gS0,qC,aDA,wo',c3,c4]
 have al:wJ [.list (l.map λ _=>yAj true)]=qq (.bool true):=by
  simp only[wJ,aBW (λ _:Nat×Nat=>true),oB]
  congr 2;rw[List.all_eq_true];intro b hb;obtain⟨a,_,rfl⟩:=List.mem_map.mp hb;rfl
 rw[aU rfl (d+6) _ S rfl];simp only[gR1,aEE,is1,lJ,qG,lC,cu,ne1,un,fl,qC,i1,ni,e3',hc,al]
end
noncomputable def tN(is:List Nat):D:=.tuple (is.map nD)
theorem aC5{ts:List (List Nat)}{j:Nat}{dd:D}(h:(((ts.map tN).zipIdx).map λ p=>yBf [.int (p.2:Nat),p.1])[j]? = qq dd):∃ is,ts[j]? = qq is/\dd=.tuple [.int j,tN is]:=by
 rw[xAb,List.getElem?_zipIdx,xAb] at h;cases e:ts[j]? with
 | none=>rw[e] at h;cases h
 | some is =>
   rw[e] at h;refine⟨is,rfl,?_⟩;simpa using h.symm
def kH(rs:List Rw)(F:List Ft)(aD:List Nat)(a b:Nat)(L:List Bool)(x:D):Prop:=(true∈L/\x=.tuple [.str "try",.int ((L.idxOf true:Nat):Int)])\/(true ∉ L/\(((bS rs F aD).getD a 0).testBit b=false/\x=.tuple [.str "unasked",.tuple []]\/((bS rs F aD).getD a 0).testBit b=true/\∃ t,t.length<=102/\oT rs F aD (a,b) t/\x=.tuple [.str "way",.tuple (((a,b)::t).map pD)]))
theorem aMF{α:Type}(f:α->Bool)(l:List α)(h:true∈l.map f):(l.map f).idxOf true<l.length/\(∀ j x,j<(l.map f).idxOf true->l[j]? = qq x->f x=false)/\∀ x,l[(l.map f).idxOf true]? = qq x->f x=true:=by
 have h1:(l.map f).idxOf true<(l.map f).length:=List.idxOf_lt_length_iff.mpr h;have h2:=h1;rw[yAd] at h2;refine⟨h2,λ j x hj hx=>?_,λ x hx=>?_⟩
 ·have hl:j<l.length:=(gIm hx).1;have:=List.not_of_lt_findIdx (p:=(· == true)) (xs:=l.map f) hj;rw[yEv] at this;have e:l[j]=x:=(gIm hx).2;rw[e] at this;simpa using this
 ·have:=List.getElem_idxOf h1;rw[yEv] at this;have e:=(gIm hx).2;rw[e] at this;exact this
section
variable {rs : List Rw}{F : List Ft}{r : Rw}{a b : Nat}{aD : List Nat}
theorem aBU(d:Nat)(p:Prg rs)(hF:F.length=rs.length)(eF:∀ S,cl fns (d+10) 50 [.d (rs<*(.tuple (aD.map nD)))] S=qq (.d (.tuple (F.map Ft.d)),S))(hr:rs[a]? = qq r)(hb:b<r.w)(ho:∀ o∈aD,o<rs.length)(hol:aD.length<=8)(ts:List (List Nat))(hi:∀ is∈ts,bR rs is)(S:aE):∃ x,kH rs F aD a b (ts.map (eG rs aD a b)) x/\cl fns (d+11) 62 [.d (rs<*(.tuple (aD.map nD))),.d (.int a),.d (.int b),.d (.tuple (ts.map tN))] S=qq (.d x,S):=by
 have ha:a<rs.length:=(gIm hr).1;have mm:=λ is (h:is∈ts)=>aFu (d+1) p (hi is h) hr hb ho hol S
 have eF':=eF S;obtain⟨l,hw,ew⟩:=aRb d p hF aD ho a b ha S;obtain⟨P,hP⟩:∃ P:D,P=(rs<*(.tuple (aD.map nD))):=⟨_,rfl⟩;simp only[<- hP] at mm eF' ew ⊢;have it:lv (aC fns (d+10)) qR [qq (.d P),qq (.d (.int a)),qq (.d (.int b)),qq (.d (.tuple (ts.map tN))),qz,qz,qz] S=qq (((ts.map tN).zipIdx).map λ p=>yBf [.int (p.2:Nat),p.1],S):=by
  simp only[qR,oE,lV,nK,nL,nU,nR];exact aLA rfl
 have body:∀ (j:Nat) (is:List Nat) (c4:Option W),is∈ts->xs (aC fns (d+10)) pC [qq (.d P),qq (.d (.int a)),qq (.d (.int b)),qq (.d (.tuple (ts.map tN))),c4,qq (.d (.int j)),qq (.d (tN is))] S=cond (eG rs aD a b is) (qq (.rt (.d (.tuple [.str "try",.int j])),S)) (qq (.nx [qq (.d P),qq (.d (.int a)),qq (.d (.int b)),qq (.d (.tuple (ts.map tN))),c4,qq (.d (.int j)),qq (.d (tN is))],S)):=λ j is c4 h=>by
  have m:=mm is h;have m':cl fns (d+10) 61 [.d P,.d (.int a),.d (.int b),.d (tN is)] S=qq (.d (.bool (eG rs aD a b is)),S):=m;cases c:eG rs aD a b is with
  | true =>
    rw[c] at m';simp only[gS1,pC,m',cond_true]
  | false =>
    rw[c] at m';simp only[gS1,pC,m',cond_false]
 by_cases ht:true∈ts.map (eG rs aD a b)
 ·obtain⟨q1,q2,q3⟩:=aMF (eG rs aD a b) ts ht;refine⟨_,.inl ⟨ht,rfl⟩,?_⟩;generalize (ts.map (eG rs aD a b)).idxOf true=q at q1 q2 q3 ⊢;have lp:dQ (.many [5,6]) (lv (aC fns (d+10)) qR) (xs (aC fns (d+10)) pC) [qq (.d P),qq (.d (.int a)),qq (.d (.int b)),qq (.d (.tuple (ts.map tN))),qz,qz,qz] S=qq (.rt (.d (.tuple [.str "try",.int q])),S):=by
   unfold dQ;rw[it,oB];refine aBA (P:=λ env=>∃ c5 c6:Option W,env=[qq (.d P),qq (.d (.int a)),qq (.d (.int b)),qq (.d (.tuple (ts.map tN))),qz,c5,c6]) _ q _ (by simpa using q1) ⟨qz,qz,rfl⟩ ?_ ?_
   ·rintro j dd env hj hd ⟨c5,c6,rfl⟩;obtain⟨is,hs,rfl⟩:=aC5 hd;have:=body j is qz (xAl hs);rw[q2 j is hj hs,cond_false] at this;exact⟨_,_,rfl,this,_,_,rfl⟩
   ·rintro dd env hd ⟨c5,c6,rfl⟩;obtain⟨is,hs,rfl⟩:=aC5 hd;have:=body q is qz (xAl hs);rw[q3 is hs,cond_true] at this;exact⟨_,rfl,this⟩
  rw[aU rfl (d+10) _ S rfl];simp only[gR1,zO,lp,yAe]
 ·obtain⟨aI,S',p1,c5,c6,rfl,rfl⟩:=mE (t:=.many [5,6]) (fi:=lv (aC fns (d+10)) qR) (fb:=xs (aC fns (d+10)) pC) (env:=[qq (.d P),qq (.d (.int a)),qq (.d (.int b)),qq (.d (.tuple (ts.map tN))),qz,qz,qz]) (S:=S) (S1:=S) (ds:=((ts.map tN).zipIdx).map λ p=>yBf [.int (p.2:Nat),p.1])
   (λ _ env S'=>∃ c5 c6:Option W,env=[qq (.d P),qq (.d (.int a)),qq (.d (.int b)),qq (.d (.tuple (ts.map tN))),qz,c5,c6]/\S=S') it ⟨qz,qz,rfl,rfl⟩ (by
     rintro j dd env S' hd ⟨c5,c6,rfl,rfl⟩;obtain⟨is,hs,rfl⟩:=aC5 hd;have:=body j is qz (xAl hs);have nm:eG rs aD a b is=false:=by
      cases c:eG rs aD a b is with
      | false=>rfl
      | true=>exact absurd (List.mem_map.mpr ⟨is,xAl hs,c⟩) ht
     rw[nm,cond_false] at this;exact⟨_,_,_,rfl,this,_,_,rfl,rfl⟩)
  have p1':dQ (.many [5,6]) (lv (aC fns (d+10)) qR) (xs (aC fns (d+10)) pC) [qq (.d P),qq (.d (.int a)),qq (.d (.int b)),qq (.d (.tuple (ts.map tN))),qz,qz,qz] S=qq (.nx [qq (.d P),qq (.d (.int a)),qq (.d (.int b)),qq (.d (.tuple (ts.map tN))),qz,c5,c6],S):=p1;have ln:fO [.tuple (l.map pD)]=qq (.int l.length):=by
   show qq (yAk (((l.map pD).length:Nat):Int))=_;rw[yAd]
  rcases hw with ⟨u1,u2⟩ | ⟨u1,u2,t,u3,u4⟩
  ·subst u2;refine⟨_,.inr ⟨ht,.inl ⟨u1,rfl⟩⟩,?_⟩;have c:aV .Gt (.int (([]:List (Nat×Nat)).length:Nat)) (.int 0)=qq (.bool false):=rfl;rw[aU rfl (d+10) _ S rfl];simp only[gR1,zO,p1',eF',ew,ln,c,yAe]
  ·refine⟨_,.inr ⟨ht,.inr ⟨u1,t,by rw[u3,yAw] at u2;omega,u4,rfl⟩⟩,?_⟩
   rw[<- u3];have c:aV .Gt (.int l.length) (.int 0)=qq (.bool true):=by
    rw[kZ,dqT];rw[u3,yAw];omega
   generalize l.map pD=l' at *;rw[aU rfl (d+10) _ S rfl];simp only[gR1,zO,p1',eF',ew,ln,c,yAe]
end
section
variable {ns : List Int}{k : Nat}{x : Int}
theorem aL4(a0:Option (List D))(d:Nat)(rs:List Rw)(o:D)(p:Prg rs)(hk:k<=50000):∃ (is:List Nat) (k':Nat) (x':Int),bR rs is/\k'<=k+5*rs.length/\cl fns (d+4) 74 [.loc 0,.d (rs<*o)] [qq (aQ ns k x),a0]=qq (.d (.tuple (is.map nD)),[qq (aQ ns k' x'),a0]):=by
 have i0:aH (rs<*o) (.int 0)=qq (.tuple (rs.map Rw.d)):=rfl;have pl:=p.l;obtain⟨aI,S',p1,is,k',x',c3,hk',al,hi,rfl,rfl⟩:=mE (t:=.one 3) (fi:=lv (aC fns (d+3)) xO) (fb:=xs (aC fns (d+3)) tE) (env:=[qq (.loc 0),qq (.d (rs<*o)),qq (.loc 2),qz]) (S:=[qq (aQ ns k x),a0,qq []]) (S1:=[qq (aQ ns k x),a0,qq []]) (ds:=rs.map Rw.d)
  (λ j env S'=>∃ (is:List Nat) (k':Nat) (x':Int) (c3:Option W),k'<=k+5*j/\is.length<=j/\(∀ is',bR (rs.drop j) is'->bR rs (is++is'))/\env=[qq (.loc 0),qq (.d (rs<*o)),qq (.loc 2),c3]/\S'=[qq (aQ ns k' x'),a0,qq (is.map nD)])
  (by
    simp only[evs,xO,i0,fV]) ⟨[],k,x,qz,by omega,yAb _,λ is' h=>h,rfl,rfl⟩ (by
    rintro j dd env S' hd ⟨is,k',x',c3,hk',al,hi,rfl,rfl⟩;rw[xAb] at hd;obtain⟨r,hr,rfl⟩:=Option.map_eq_some_iff.mp hd;have hj:j<rs.length:=(gIm hr).1;obtain⟨w1,w2⟩:=p.ws j r hr
    by_cases c:r.wd=.in
    ·have t:aV .Eq (.str r.wd.s) (.str "in")=qq (.bool true):=by rw[c];exact bN .in .in
     obtain⟨n,k2,x2,hn,hk2,e2⟩:=aVt (ns:=ns) (k:=k') (x:=x') [a0,qq (is.map nD)] (by simp) d r.w w1 w2 (by omega)
     have ap:dZ [qq (aQ ns k2 x2),a0,qq (is.map nD)] (.loc 2) (.d (.int n))=qq (.d .none,[qq (aQ ns k2 x2),a0,qq ((is++[n]).map nD)]):=by
      have:=zH [qq (aQ ns k2 x2),a0] (is.map nD) (.int n) (by rw[yAd];omega)
      rw[yCb];exact this
     refine⟨_,[qq (.loc 0),qq (.d (rs<*o)),qq (.loc 2),qq (.d r.d)],[qq (aQ ns k2 x2),a0,qq ((is++[n]).map nD)],rfl,?_,is++[n],k2,x2,_,by omega,by simp;omega,λ is' h=>?_,rfl,rfl⟩
     ·simp only[gS1,tE,rY,t,iO,e2,iA,ap]
     ·have:=hi (n::is') (by
       rw[zB hr,bR,if_pos c];exact⟨n,is',rfl,hn,h⟩)
      rw[yAz];exact this
    ·have t:aV .Eq (.str r.wd.s) (.str "in")=qq (.bool false):=by
      have:=bN r.wd .in;rw[dqF c] at this;exact this
     refine⟨_,[qq (.loc 0),qq (.d (rs<*o)),qq (.loc 2),qq (.d r.d)],[qq (aQ ns k' x'),a0,qq (is.map nD)],rfl,?_,is,k',x',_,by omega,by omega,λ is' h=>hi is' (by rw[zB hr,bR,if_neg c];exact h),rfl,rfl⟩
     simp only[evs,tE,rY,t])
 rw[yAd] at hk' hi;have hin:=hi [] (by rw[yGb];rfl)
 rw[yDb] at hin;refine⟨is,k',x',hin,hk',?_⟩;have p1':dQ (.one 3) (lv (aC fns (d+3)) xO) (xs (aC fns (d+3)) tE) [qq (.loc 0),qq (.d (rs<*o)),qq (.loc 2),qz] [qq (aQ ns k x),a0,qq []]=qq (.nx [qq (.loc 0),qq (.d (rs<*o)),qq (.loc 2),c3],[qq (aQ ns k' x'),a0,qq (is.map nD)]):=p1;rw[aU rfl (d+3) _ _ rfl];simp only[gR1,aEX,eY,p1',gJ,gK]
end
theorem aDS(f:List Nat->Bool):∀ ts:List (List Nat),cV (ts.map tN) ((ts.map f).map yAj)=ts.map λ is=>yBf [tN is,.bool (f is)]
 | []=>rfl
 | is::ts=>by
   have ih:=aDS f ts;simp only[yAs,cV,ih]
theorem aJE:∀ L:List Bool,kD (.bool true) (L.map yAj)=decide (true∈L)
 | []=>by rw[dqF yCe];rfl
 | b::L=>by
   have ih:=aJE L;show(yBy (.bool b) (.bool true)||kD (.bool true) (L.map yAj))=_
   rw[ih];cases b<;>by_cases c2:true∈L<;>simp[c2,yBy]
theorem aIF:∀ L:List Bool,gY (L.map yAj)=true
 | []=>rfl
 | a::r=>by
   show(fK (yAj a)&&gY (r.map yAj))=true;rw[aIF r];rfl
theorem aGY(L:List Bool):aV .In (.bool true) (.list (L.map yAj))=qq (.bool (decide (true∈L))):=by
 show((if fK (.bool true)=true/\gY (L.map yAj)=true then qq (kD (.bool true) (L.map yAj)) else qz).map yAj)=_
 rw[if_pos ⟨rfl,aIF L⟩,aJE];rfl
theorem aNs{L:List Bool}(h:true∈L)(S:aE):aA1 S (.d (.list (L.map yAj))) (.d (.bool true))=qq (.d (.int ((L.idxOf true:Nat):Int)),S):=by
 show((lU (L.map yAj)).bind λ ns=>if true∈ns then qq (W.d (.int ((ns.idxOf true:Nat):Int)),S) else qz)=_
 have:=aBW (λ b:Bool=>b) L
 rw[List.map_id'] at this;rw[show(L.map yAj)=L.map λ x=>yAj x from rfl,this,oB,if_pos h]
theorem aTk(n:Nat):aV .Eq (.tuple [.str "try",.int n]) (.tuple [.str "try",.int n])=qq (.bool true):=by
 have e:yBy (.tuple [.str "try",.int n]) (.tuple [.str "try",.int n])=true:=by simp[yBy,yFm]
 have l:(PyData.str "try").canLay0=true:=by kernel_rfl
 have h:(yBf [.str "try",.int n]).canLay0=true:=by
  simp only[PyData.canLay0,yCz,yBt];exact l
 unfold aV jW;simp only[];rw[if_pos ⟨h,h,by simp[PyData.depth,yBp]⟩,e]
 rfl
theorem aU2:aV .Eq (.tuple [.str "unasked",.tuple []]) (.tuple [.str "unasked",.tuple []])=qq (.bool true):=by kernel_rfl
theorem aST:aV .Eq (.str "way") (.str "way")=qq (.bool true):=by kernel_rfl
section
variable {rs : List Rw}{F : List Ft}{r : Rw}{a b : Nat}{aD : List Nat}
theorem aPp(d:Nat)(p:Prg rs){is:List Nat}(hi:bR rs is)(hr:rs[a]? = qq r)(hb:b<r.w)(ho:∀ o∈aD,o<rs.length)(hol:aD.length<=8)(S:aE):cl fns (d+9) 77 [.d (rs<*(.tuple (aD.map nD))),.d (.int a),.d (.int b),.d (.tuple (is.map nD))] S=qq (.d (.bool (eG rs aD a b is)),S):=by
 have ha:a<rs.length:=(gIm hr).1;have w64:=(p.ws a r hr).2;have pl:=p.l;have i0:aH (rs<*(.tuple (aD.map nD))) (.int 0)=qq (.tuple (rs.map Rw.d)):=rfl;have i1:aH (rs<*(.tuple (aD.map nD))) (.int 1)=qq (.tuple (aD.map nD)):=rfl;have lR:=aDK rs;have sh:bP .LShift (.int 1) (.int b)=qq (.int ((2^b:Nat):Int)):=eT (by omega)
 have pe:=aAe S (yAc rs.length 0) a (2^b) (by rw[yBb];exact ha)
 obtain⟨tn,tl,_⟩:=yI (d+2) rs (.tuple (aD.map nD)) is _ p.l p.fit hi (aAF hr hb) (S++[qq ((eM rs.length a b).map nD)]);have td:=aG9 d p hi ho hol (S++[qq ((eM rs.length a b).map nD)]);obtain⟨N,hN⟩:∃ N,N=cB rs (~~~rs) is (eM rs.length a b) []:=⟨_,rfl⟩;have em:eG rs aD a b is = !decide (aD.map (g0 N)=aD.map (g0 (cI rs (~~~rs) is []))):=by rw[hN];rfl
 rw[<- hN] at tn tl;have ne:=aSq (aD.map (g0 N)) (aD.map (g0 (cI rs (~~~rs) is [])));rw[<- em] at ne;obtain⟨P,hP⟩:∃ P:D,P=(rs<*(.tuple (aD.map nD))):=⟨_,rfl⟩;simp only[<- hP] at i0 i1 tn td ⊢;have rp:=aDo (fa:=ev (aC fns (d+8)) (.fz (.lst (.cons (.int 0) .nil)))) (fb:=ev (aC fns (d+8)) (.blt .len (.cons (.ix (.var 0) (.int 0)) .nil))) (env:=[qq (.d P),qq (.d (.int a)),qq (.d (.int b)),qq (.d (.tuple (is.map nD))),qz,qz,qz]) (S:=S) (n:=rs.length) rfl (by simp only[evs,i0,lR]) (by omega)
 have hc:lv (aC fns (d+8)) aET [qq (.d P),qq (.d (.int a)),qq (.d (.int b)),qq (.d (.tuple (is.map nD))),qq (.loc S.length),qq (.d (.tuple (N.map nD))),qz] (S++[qq ((eM rs.length a b).map nD)])=qq ((aD.map (g0 N)).map nD,S++[qq ((eM rs.length a b).map nD)]):=by
  rw[yBu];refine kP (fi:=lv (aC fns (d+8)) (.it (.ix (.var 0) (.int 1)))) (fe:=ev (aC fns (d+8)) (.ix (.var 5) (.var 6))) nD (nD ∘ g0 N) aD ?_ (by rw[zq];omega) λ o h=>?_
  ·simp only[gS0,i1,fV]
  ·refine⟨_,rfl,λ S'=>?_⟩
   have e:aH (.tuple (N.map nD)) (nD o)=qq (nD (g0 N o)):=gX (aAy (by rw[tl];exact ho o h))
   simp only[gS0,clr,yBm,yCg,e]
 have tk1:∀ x,yDj S.length (S++[x])=S:=λ x=>yDo
 have gl:=lS S ((eM rs.length a b).map nD);have pe':iP (S++[qq ((yAc rs.length 0).map nD)]) (.loc S.length) (.d (.int a)) (.d (.int ((2^b:Nat):Int)))=qq (S++[qq ((eM rs.length a b).map nD)]):=pe;have so:∀ l:List D,vN (.tuple l)=qq l:=λ _=>rfl
 rw[aU rfl (d+8) _ S rfl];simp only[gR1,aFV,jQ,rH,uK,aAc,dL,fM,eY,rp,jE,sh,pe',gl,gJ,gK,tn,hc,aAS,td,so,ne,tk1]
theorem aOt(d:Nat)(p:Prg rs)(o:D)(ns:List Int)(k:Nat)(x:Int)(hk:k<=20000):∃ (ts:List (List Nat)) (k':Nat) (x':Int),ts.length<=5/\(∀ is∈ts,bR rs is)/\k'<=k+2600/\cl fns (d+5) 78 [.loc 0,.d (rs<*o)] [qq (aQ ns k x)]=qq (.d (.tuple (ts.map tN)),[qq (aQ ns k' x')]):=by
 obtain⟨q,x1,hq,e1⟩:=rO (ns:=ns) (k:=k) (x:=x) [] (by simp) (d+3) 6 (by decide) (by decide) (by omega)
 have e1':cl fns (d+4) 63 [.loc 0,.d (.int 6)] [qq (aQ ns k x)]=qq (.d (.int q),[qq (aQ ns (k+1) x1)]):=e1;have pl:=p.l;have ino:=λ(aF:Option (List D)) (k:Nat) (x:Int) (hk:k<=50000)=>aL4 (ns:=ns) (k:=k) (x:=x) aF d rs o p hk
 obtain⟨P,hP⟩:∃ P:D,P=(rs<*o):=⟨_,rfl⟩;simp only[<- hP] at ino ⊢;obtain⟨vs,S',e2,hS',⟨k',x',hk',rfl⟩,hv,hq'⟩:=aGR (t:=.one 2) (fi:=lv (aC fns (d+4)) (.rng1 (.call 63 (.cons (.var 0) (.cons (.int 6) .nil))))) (fe:=ev (aC fns (d+4)) (.call 74 (.cons (.var 0) (.cons (.var 1) .nil)))) (env:=[qq (.loc 0),qq (.d P),qz]) (S:=[qq (aQ ns k x)]) (S1:=[qq (aQ ns (k+1) x1)])
  nD (λ j S=>∃ (k':Nat) (x':Int),k'<=k+1+500*j/\S=[qq (aQ ns k' x')]) (λ _ v=>∃ is:List Nat,v=tN is/\bR rs is) (yAx q) (by
   rw[lV];refine qP ?_ (by omega)
   simp only[evs,e1']) (by rw[zq,yFs];omega) ⟨k+1,x1,by omega,rfl⟩ (by
   intro i hi;refine⟨_,rfl,?_⟩;rintro j S aF hj hS ⟨k',x',hk',rfl⟩;rw[yFs] at hj;obtain⟨is,k2,x2,g1,hk2,e3⟩:=ino (qq aF) k' x' (by omega)
   refine⟨tN is,[qq (aQ ns k2 x2)],?_,rfl,⟨k2,x2,by omega,rfl⟩,is,rfl,g1⟩
   have e3':cl fns (d+4) 74 [.loc 0,.d P] ([qq (aQ ns k' x')]++[qq aF])=qq (.d (tN is),[qq (aQ ns k2 x2)]++[qq aF]):=e3;simp only[aCn,aAl,aCt,aI0,aBM,cS,gQ,iS,clr,Tg.slots,yBm,yCg,yEi,yFl,yBo,yCi,oB,e3'])
 obtain⟨ts,rfl,tl,ta⟩:=aOL hv hq' tN (λ _ is=>bR rs is) (λ a v h=>h)
 rw[yFs] at tl hk';refine⟨ts,k',x',by omega,λ is hm=>?_,by omega,?_⟩
 ·obtain⟨i,hi,rfl⟩:=List.getElem_of_mem hm;exact ta i i _ (yGi (by omega)) (yAa hi)
 ·have e2':lv (aC fns (d+4)) aEH [qq (.loc 0),qq (.d P),qz] [qq (aQ ns k x)]=qq (ts.map tN,[qq (aQ ns k' x')]):=e2;rw[aU rfl (d+4) _ _ rfl];simp only[gR1,aFg,e2',gJ,gK]
theorem aCq(d:Nat)(p:Prg rs)(hF:F.length=rs.length)(hr:rs[a]? = qq r)(hb:b<r.w)(ho:∀ o∈aD,o<rs.length){L:List Bool}{x:D}(h:kH rs F aD a b L x)(S:aE):cl fns (d+8) 79 [.d x,.d (.list (L.map yAj)),.d (.tuple (F.map Ft.d)),.d (rs<*(.tuple (aD.map nD))),.d (.tuple [.int a,.int b])] S=qq (.d (.bool true),S):=by
 have ha:a<rs.length:=(gIm hr).1;have ib:=aGY L;rcases h with ⟨h1,rfl⟩ | ⟨h1,h⟩
 ·have l2:fO [.tuple [.str "try",.int ((L.idxOf true:Nat):Int)]]=qq (.int 2):=rfl;have n2:aV .NotEq (.int 2) (.int 2)=qq (.bool false):=rfl;have ix:=aNs h1 S;have et:=aTk (L.idxOf true);have j1:aH (.tuple [.str "try",.int ((L.idxOf true:Nat):Int)]) (.int 1)=qq (.int ((L.idxOf true:Nat):Int)):=rfl;rw[dqT h1] at ib;generalize L.map yAj=L' at *;rw[aU rfl (d+7) _ S rfl];simp only[gR1,xP,l2,n2,ib,aAZ,ix,et,j1,yAe]
 ·rw[dqF h1] at ib;obtain⟨bd,ak⟩:=aCi d p hF aD ho S;have em:=aAb (M:=bS rs F aD) (i:=a) (by rw[bd.l];exact ha)
  have z:=aDZ ((bS rs F aD).getD a 0) b;have n2:aV .NotEq (.int 2) (.int 2)=qq (.bool false):=rfl;rcases h with ⟨h2,rfl⟩ | ⟨h2,t,h3,h4,rfl⟩
  ·have l2:fO [.tuple [.str "unasked",.tuple []]]=qq (.int 2):=rfl;have eu:=aU2;rw[h2] at z;generalize L.map yAj=L' at *;rw[aU rfl (d+7) _ S rfl];simp only[gR1,xP,l2,n2,ib,ak,em,eU,kN,bO,z,eu,yAe]
  ·have wg:=aOU d p hF t hr hb h4 h3 S;have ew:=aST;rw[h2] at z;have l2:fO [.tuple [.str "way",.tuple (((a,b)::t).map pD)]]=qq (.int 2):=rfl;have j0:aH (.tuple [.str "way",.tuple (((a,b)::t).map pD)]) (.int 0)=qq (.str "way"):=rfl;have j1:aH (.tuple [.str "way",.tuple (((a,b)::t).map pD)]) (.int 1)=qq (.tuple (((a,b)::t).map pD)):=rfl;have is1:iQ .tup (.tuple [.str "way",.tuple (((a,b)::t).map pD)])=qq (.bool true):=rfl;generalize yBf [.str "way",.tuple (((a,b)::t).map pD)]=Q at *;generalize ((a,b)::t).map pD=l' at *;generalize L.map yAj=L' at *;rw[aU rfl (d+7) _ S rfl];simp only[gR1,xP,is1,l2,n2,ib,ak,em,eU,kN,bO,z,j0,j1,ew,wg,yAe]
end
theorem aDd:∀ l:List (List Nat),yCz (l.map tN)=true
 | []=>rfl
 | a::r=>by
   have ih:=aDd r;have h:(tN a).canLay0=true:=uR a;simp only[yAs,yCz,ih,h,yBt]
theorem aIQ:∀ l:List (List Nat),yBp (l.map tN)<=1
 | []=>yEy _
 | a::r=>by
   have ih:=aIQ r;simp only[yAs,yBp];refine Nat.max_le.mpr ⟨?_,ih⟩;show yBp (a.map nD)+1<=1;rw[tS];exact yAb _
theorem aII(l:List (List Nat)):(yEf (l.map tN)).depth<=60:=by
 show yBp (l.map tN)+1<=60;have:=aIQ l;omega
theorem aUH(l:List (List Nat)):aV .Eq (.list (l.map tN)) (.list [])=qq (.bool l.isEmpty):=by
 have h1:(yEf (l.map tN)).canLay0=true:=aDd l;unfold aV jW;simp only[];rw[if_pos ⟨h1,rfl,aII l⟩];cases l<;>rfl
theorem aUu(l:List (List Nat)):aV .NotEq (.list (l.map tN)) (.list [])=qq (.bool !l.isEmpty):=by
 have h1:(yEf (l.map tN)).canLay0=true:=aDd l;unfold aV jW;simp only[];rw[if_pos ⟨h1,rfl,aII l⟩];cases l<;>rfl
theorem aP2{Q:List (List Nat)}(h:Q≠[])(n:Nat):∃ qs:List (List Nat),qs.length=n/\(∀ is∈qs,is∈Q)/\eC (eE n (Q.map tN)) qz (qq (n:Nat))=qs.map tN:=by
 have hl:0<Q.length:=List.length_pos_iff.mpr h;have hn:(eE n Q).length=n*Q.length:=by simp[eE]
 have hn2:n<=n*Q.length:=Nat.le_mul_of_pos_right n hl;refine⟨(eE n Q).take n,by rw[yBv,hn];omega,λ is hm=>?_,?_⟩
 ·have:=List.mem_of_mem_take hm;unfold eE at this;obtain⟨l,h1,h2⟩:=List.mem_flatten.mp this;rw[(List.mem_replicate.mp h1).2] at h2;exact h2
 ·have e:eE n (Q.map tN)=(eE n Q).map tN:=by
   unfold eE;rw[List.map_flatten,yDl]
  rw[e];unfold eC;rw[HT.sIx_none,HT.sIx_nat,yEh,yHm,yAd,yGh (by omega),List.map_take]
section
variable {rs : List Rw}{F : List Ft}{r : Rw}{a b : Nat}{aD : List Nat}
theorem aQb(d:Nat)(p:Prg rs)(hF:F.length=rs.length)(eF:∀ S,cl fns (d+10) 50 [.d (rs<*(.tuple (aD.map nD)))] S=qq (.d (.tuple (F.map Ft.d)),S))(hr:rs[a]? = qq r)(hb:b<r.w)(ho:∀ o∈aD,o<rs.length)(hol:aD.length<=8)(ts:List (List Nat))(hl:ts.length<=5)(hi:∀ is∈ts,bR rs is)(S:aE):cl fns (d+12) 80 [.d (rs<*(.tuple (aD.map nD))),.d (.tuple [.int a,.int b]),.d (.tuple (ts.map tN)),.d (.list ((ts.map (eG rs aD a b)).map yAj)),.d (.tuple (F.map Ft.d))] S=qq (.d (.bool true),S):=by
 have ma:=λ ts (hi:∀ is∈ts,bR rs is)=>aBU (F:=F) (a:=a) (b:=b) (aD:=aD) d p hF eF hr hb ho hol ts hi S
 have an:=λ {L:List Bool}{x:D} (h:kH rs F aD a b L x)=>aCq (d+3) p hF hr hb ho h S
 have hz:=aDS (eG rs aD a b) ts;obtain⟨f,hf⟩:∃ f,f=eG rs aD a b:=⟨_,rfl⟩;rw[<- hf] at hz ⊢;simp only[<- hf] at ma;obtain⟨P,hP⟩:∃ P:D,P=(rs<*(.tuple (aD.map nD))):=⟨_,rfl⟩;simp only[<- hP] at ma an ⊢;obtain⟨G,hG⟩:∃ G:D,G=.tuple (F.map Ft.d):=⟨_,rfl⟩;simp only[<- hG] at an ⊢;obtain⟨pl,hpl⟩:∃ pl:D,pl=.tuple [.int a,.int b]:=⟨_,rfl⟩;have l0:aH pl (.int 0)=qq (.int a):=by rw[hpl];rfl
 have l1:aH pl (.int 1)=qq (.int b):=by rw[hpl];rfl
 simp only[<- hpl] at an ⊢;obtain⟨Lb,hLb⟩:∃ Lb:D,Lb=.list ((ts.map f).map yAj):=⟨_,rfl⟩;have sq:∀ S',lv (aC fns (d+11)) (.zip (.var 2) (.var 3)) [qq (.d P),qq (.d pl),qq (.d (.tuple (ts.map tN))),qq (.d Lb),qq (.d G),qz,qz,qz,qz,qz,qz,qz] S'=qq (ts.map λ is=>yBf [tN is,.bool (f is)],S'):=λ S'=>by
  rw[hLb];simp only[gS0,hz]
 have sq2:∀ (w:Option W) S',lv (aC fns (d+11)) (.zip (.var 2) (.var 3)) [qq (.d P),qq (.d pl),qq (.d (.tuple (ts.map tN))),qq (.d Lb),qq (.d G),w,qz,qz,qz,qz,qz,qz] S'=qq (ts.map λ is=>yBf [tN is,.bool (f is)],S'):=λ w S'=>by
  rw[hLb];simp only[gS0,hz]
 rw[<- hLb];have hc1:lv (aC fns (d+11)) aEI [qq (.d P),qq (.d pl),qq (.d (.tuple (ts.map tN))),qq (.d Lb),qq (.d G),qz,qz,qz,qz,qz,qz,qz] S=qq ((ts.filter λ is=>!f is).map tN,S):=by
  refine aCk (fi:=lv (aC fns (d+11)) (.zip (.var 2) (.var 3))) (fc:=tv (aC fns (d+11)) (.not (.var 11))) (fe:=ev (aC fns (d+11)) (.var 10)) (λ is=>yBf [tN is,.bool (f is)]) tN (λ is=>!f is) ts (sq S) (by rw[zq];omega) λ is hm=>?_
  refine⟨[qq (.d P),qq (.d pl),qq (.d (.tuple (ts.map tN))),qq (.d Lb),qq (.d G),qz,qz,qz,qz,qz,qq (.d (tN is)),qq (.d (.bool (f is)))],rfl,λ aF=>?_,λ _ aF=>rfl⟩
  simp only[gS0,True]
 have hc0:∀ w:Option W,lv (aC fns (d+11)) aEK [qq (.d P),qq (.d pl),qq (.d (.tuple (ts.map tN))),qq (.d Lb),qq (.d G),w,qz,qz,qz,qz,qz,qz] S=qq ((ts.filter f).map tN,S):=λ w=>by
  refine aCk (fi:=lv (aC fns (d+11)) (.zip (.var 2) (.var 3))) (fc:=tv (aC fns (d+11)) (.var 11)) (fe:=ev (aC fns (d+11)) (.var 10)) (λ is=>yBf [tN is,.bool (f is)]) tN f ts (sq2 w S) (by rw[zq];omega) λ is hm=>?_
  refine⟨[qq (.d P),qq (.d pl),qq (.d (.tuple (ts.map tN))),qq (.d Lb),qq (.d G),w,qz,qz,qz,qz,qq (.d (tN is)),qq (.d (.bool (f is)))],rfl,λ aF=>?_,λ _ aF=>rfl⟩
  simp only[gS0,True]
 have qa:∀ is∈ts.filter (λ is=>!f is),is∈ts/\f is=false:=λ is h=>by
  obtain⟨h1,h2⟩:=List.mem_filter.mp h;exact⟨h1,by simpa using h2⟩
 have ua:∀ is∈ts.filter f,is∈ts/\f is=true:=λ is h=>List.mem_filter.mp h
 have ql:=yFy (λ is=>!f is) ts
 have ul:=yFy f ts;generalize ts.filter (λ is=>!f is)=Q at hc1 qa ql
 generalize ts.filter f=U at hc0 ua ul;have eq:=aUH Q;refine cH (env:=[qq (.d P),qq (.d pl),qq (.d (.tuple (ts.map tN))),qq (.d Lb),qq (.d G),qz,qz,qz,qz,qz,qz,qz]) rfl (d+11) rfl rfl yAe ?_;refine oH (e1:=[qq (.d P),qq (.d pl),qq (.d (.tuple (ts.map tN))),qq (.d Lb),qq (.d G),qq (.d (.list (Q.map tN))),qz,qz,qz,qz,qz,qz]) (S1:=S) (by simp only[uE,fM,iD,hc1,oB];rfl) ?_
 refine oH (e1:=[qq (.d P),qq (.d pl),qq (.d (.tuple (ts.map tN))),qq (.d Lb),qq (.d G),qq (.d (.list (Q.map tN))),qq (.d (.list (U.map tN))),qz,qz,qz,qz,qz]) (S1:=S) (by simp only[uE,fM,iD,hc0,oB];rfl) ?_
 by_cases hQ:Q=[]
 ·subst hQ;refine bY (S1:=S) ?_ (bK rfl);simp only[gS0,eq,List.isEmpty_nil]
 have hQe:Q.isEmpty=false:=by cases Q with | nil=>exact absurd rfl hQ | cons _ _=>rfl
 rw[hQe] at eq;obtain⟨qs,qsl,qsm,qsc⟩:=aP2 hQ 299;have qsc':eC (eE 299 (Q.map tN)) qz (qq 299)=qs.map tN:=qsc;have m1:bP .Mult (.list (Q.map tN)) (.int 299)=qq (.list (eE 299 (Q.map tN))):=aHH (k:=299) (by omega) (by rw[yAd];omega)
 have m2:bP .Mult (.list [.bool false]) (.int 299)=qq (.list (eE 299 [.bool false])):=aHH (k:=299) (by omega) (by show 1*299<=1000000;decide)
 have a1:bP .Add (.list (U.map tN)) (.list (Q.map tN))=qq (.list (U.map tN++Q.map tN)):=zN (by rw[yAd,yAd];omega)
 obtain⟨g,gm,gf,gc⟩:∃ g,g∈ts/\f g = !U.isEmpty/\eC (U.map tN++Q.map tN) qz (qq 1)=[tN g]:=by
  cases U with
  | nil =>
    cases Q with
    | nil=>exact absurd rfl hQ
    | cons q Q =>
      obtain⟨h1,h2⟩:=qa q xAd;exact⟨q,h1,h2,aDr _ _⟩
  | cons u U =>
    obtain⟨h1,h2⟩:=ua u xAd;exact⟨u,h1,h2,aDr _ _⟩
 have a2:bP .Add (.list (qs.map tN)) (.list [tN g])=qq (.list ((qs++[g]).map tN)):=by
  rw[yCb];exact zN (by rw[yAd,qsl];show 299+1<=1000000;decide)
 have n1:=aUu U;have a3:bP .Add (.list (eE 299 [.bool false])) (.list [.bool !U.isEmpty])=qq (.list (((qs++[g]).map f).map yAj)):=by
  have e:eE 299 [yAj false]++[.bool !U.isEmpty]=((qs++[g]).map f).map yAj:=by
   rw[yCb,yCb,aB0];congr 1
   ·have:qs.map f=yAc 299 false:=by
     rw[List.eq_replicate_iff];refine⟨by rw[yAd,qsl],λ b hb=>?_⟩
     obtain⟨is,h1,rfl⟩:=List.mem_map.mp hb;exact(qa is (qsm is h1)).2
    rw[this,yDl]
   ·rw[<- gf];rfl
  rw[<- e];refine zN ?_;rw[aB0,yBb];show 299+1<=1000000;decide
 obtain⟨y,hy,ey⟩:=ma (qs++[g]) (λ is hm=>by
  rcases List.mem_append.mp hm with hm | hm
  ·exact hi is (qa is (qsm is hm)).1
  ·rw[yCh] at hm;subst hm;exact hi _ gm)
 have an':=an hy;generalize ((qs++[g]).map f).map yAj=Z at a3 an';generalize (qs++[g]).map tN=Y at a2 ey;generalize qs.map tN=Y1 at a2 qsc';generalize eE 299 (Q.map tN)=Y2 at m1 qsc';generalize eE 299 [yAj false]=Y3 at m2 a3;generalize U.map tN++Q.map tN=Y4 at a1 gc;refine aN (S1:=S) ?_ (cG (w:=.d (.tuple Y)) (S1:=S) ?_ rfl (cG (w:=.d y) (S1:=S) ?_ rfl (cG (w:=.d (.list Z)) (S1:=S) ?_ rfl (bK ?_))))
 ·simp only[gS0,eq]
 ·simp only[gS0,lJ,qG,lC,m1,qsc',a1,gc,a2,gJ,gK]
 ·simp only[gS0,l0,l1,ey]
 ·simp only[gS0,m2,n1,a3]
 ·simp only[gS0,an']
end
theorem aOG{w q1 q2 q3:Nat}(hw:1<=w)(h1:q1<w)(h2:q2<w)(h3:q3<4):∃ b:Nat,b<w/\aH (.list [.int 0,.int ((w:Int)-1),.int q1,.int q2]) (.int q3)=qq (.int b):=by
 have e:(w:Int)-1=((w-1:Nat):Int):=by omega
 rw[e];have:q3=0\/q3=1\/q3=2\/q3=3:=by omega
 rcases this with rfl | rfl | rfl | rfl
 ·exact⟨0,by omega,rfl⟩
 ·exact⟨w-1,by omega,rfl⟩
 ·exact⟨q1,h1,rfl⟩
 ·exact⟨q2,h2,rfl⟩
theorem aQU{f g:Ft}(h:f.d=g.d):f=g:=by
 cases f;cases g;injection h with h
 injection h with h1 h
 injection h with h2 h
 injection h with h3 h
 injection h1 with h1
 injection h2 with h2
 injection h3 with h3
 cases Int.ofNat.inj h1;cases Int.ofNat.inj h2;cases Int.ofNat.inj h3;rfl
theorem aOd{rs:List Rw}{F F':List Ft}(p:Prg rs)(h:F.length=rs.length)(h':F'.length=rs.length)(o:sU rs F)(o':sU rs F'):F=F':=by
 have key:∀ i,i<rs.length->f0 F i=f0 F' i:=λ i=>by
  induction i using Nat.strongRecOn with
  | ind i ih =>
    intro hi;have hr:rs[i]? = qq rs[i]:=yAa hi;obtain⟨g,hg,n1⟩:=o i _ (by omega) hr
    obtain⟨g',hg',n2⟩:=o' i _ (by omega) hr
    have e:gS rs[i] F=gS rs[i] F':=by
     unfold gS;refine yCf λ a ha=>?_
     have:=(p.fit i _ hr).2 a ha;exact ih a this (by omega)
    have r1:=n1.rule 0 [];rw[e,n2.rule 0 []] at r1;rw[<- hg,<- hg'];injection r1 with r1
    injection r1 with r1
    injection r1 with r1
    exact(aQU r1).symm
 refine yHb (by omega) λ i h1 h2=>?_
 have:=key i (by omega)
 have a1:=nT h1;have a2:=nT h2;rw[yAa h1] at a1;rw[yAa h2] at a2;rw[Option.some.inj a1,Option.some.inj a2,this]
theorem aNh(rs:List Rw)(o:D)(p:Prg rs):∃ F:List Ft,F.length=rs.length/\Snd rs F/\∀ (d:Nat) (S:aE),cl fns (d+9) 50 [.d (rs<*o)] S=qq (.d (.tuple (F.map Ft.d)),S):=by
 obtain⟨F,h1,h2,h3,_⟩:=aFf 0 rs o p [];refine⟨F,h1,h2,λ d S=>?_⟩
 obtain⟨F',g1,g2,g3,g4⟩:=aFf d rs o p S;rw[aOd p h1 g1 h3 g3];exact g4
noncomputable abbrev oV(sc:D)(P:D)(a w b:Nat)(T Lb:D)(c8 c9 c10 c11 c12 c13:Option W):aZ:=[qq (.d sc),qq (.loc 0),qq (.d P),qq (.d (.int a)),qq (.d (.int w)),qq (.d (.int b)),qq (.d T),qq (.d Lb),c8,c9,c10,c11,c12,c13]
theorem aTq(d:Nat)(ns:List Int)(h1:ns.length<=63):∃ S',cl fns (d+13) 81 [.d (.list (ns.map yAk))] []=qq (.d (.bool true),S'):=by
 obtain⟨most,hm,et⟩:∃ t:Nat,t<=30/\(1:Int)+(if (16:Int)<((ns.length:Nat):Int) then 16 else ((ns.length:Nat):Int))=((t:Nat):Int):=by
  refine⟨1+min ns.length 16,by omega,?_⟩
  split<;>omega
 obtain⟨rs,aD,k0,x0,ok,l0,l1,ho,_,hol,hk0,e0⟩:=GP.program_ok (d+6) most ns hm;have mn:pU [.int ((ns.length:Nat):Int),.int 16]=qq (.int (if (16:Int)<((ns.length:Nat):Int) then 16 else ((ns.length:Nat):Int))):=rfl
 have lN:fO [.list (ns.map yAk)]=qq (.int ns.length):=by
  show qq (yAk (((ns.map yAk).length:Nat):Int))=_;rw[yAd]
 have p:=aSn ok (by omega)
 have lR:=aDK rs;obtain⟨a,x1,ha,e1⟩:=rO (ns:=ns) (k:=k0) (x:=x0) [] (by simp) (d+11) rs.length l0 (by omega) (by omega)
 have e1':cl fns (d+12) 63 [.loc 0,.d (.int rs.length)] [qq (aQ ns k0 x0)]=qq (.d (.int a),[qq (aQ ns (k0+1) x1)]):=e1;have hr:rs[a]? = qq rs[a]:=yAa ha;generalize rs[a]=r at hr;obtain⟨w1,w2⟩:=p.ws a r hr;obtain⟨q1,x2,hq1,e2⟩:=rO (ns:=ns) (k:=k0+1) (x:=x1) [] (by simp) (d+11) r.w w1 (by omega) (by omega)
 have e2':cl fns (d+12) 63 [.loc 0,.d (.int r.w)] [qq (aQ ns (k0+1) x1)]=qq (.d (.int q1),[qq (aQ ns (k0+1+1) x2)]):=e2;obtain⟨q2,x3,hq2,e3⟩:=rO (ns:=ns) (k:=k0+1+1) (x:=x2) [] (by simp) (d+11) r.w w1 (by omega) (by omega)
 have e3':cl fns (d+12) 63 [.loc 0,.d (.int r.w)] [qq (aQ ns (k0+1+1) x2)]=qq (.d (.int q2),[qq (aQ ns (k0+1+1+1) x3)]):=e3;obtain⟨q3,x4,hq3,e4⟩:=rO (ns:=ns) (k:=k0+1+1+1) (x:=x3) [] (by simp) (d+11) 4 (by decide) (by decide) (by omega)
 have e4':cl fns (d+12) 63 [.loc 0,.d (.int 4)] [qq (aQ ns (k0+1+1+1) x3)]=qq (.d (.int q3),[qq (aQ ns (k0+1+1+1+1) x4)]):=e4;obtain⟨b,hb,eb⟩:=aOG w1 hq1 hq2 hq3;obtain⟨ts,k5,x5,tl,hi,hk5,e5⟩:=aOt (d+7) p (.tuple (aD.map nD)) ns (k0+1+1+1+1) x4 (by omega)
 obtain⟨F,hF,sd,eF⟩:=aNh rs (.tuple (aD.map nD)) p;obtain⟨q6,x6,hq6,e6⟩:=rO (ns:=ns) (k:=k5) (x:=x5) [] (by simp) (d+11) 32 (by decide) (by decide) (by omega)
 have e6':cl fns (d+12) 63 [.loc 0,.d (.int 32)] [qq (aQ ns k5 x5)]=qq (.d (.int q6),[qq (aQ ns (k5+1) x6)]):=e6;have mt:=λ is (h:is∈ts) S=>aFu (d+3) p (hi is h) hr hb ho hol S
 have du:=λ is (h:is∈ts) S=>aPp (d+3) p (hi is h) hr hb ho hol S
 have hz:=aDS (eG rs aD a b) ts;obtain⟨bd,ak⟩:=aCi (d+5) p hF aD ho [qq (aQ ns k5 x5)];have em:=aAb (M:=bS rs F aD) (i:=a) (by rw[bd.l];exact ha)
 have z:=aDZ ((bS rs F aD).getD a 0) b;have ib:=aGY (ts.map (eG rs aD a b));have no:true∈ts.map (eG rs aD a b)->((bS rs F aD).getD a 0).testBit b=true:=λ h=>by
  obtain⟨is,h1,h2⟩:=List.mem_map.mp h;cases c:((bS rs F aD).getD a 0).testBit b with
  | true=>rfl
  | false=>rw[aMr p sd hF (hi is h1) hr hb ho c] at h2;cases h2
 have eFd:∀ (m:Nat) S,cl fns (d+m+9) 50 [.d (rs<*(.tuple (aD.map nD)))] S=qq (.d (.tuple (F.map Ft.d)),S):=λ m S=>eF (d+m) S
 have eF8:=eFd 3 [qq (aQ ns k5 x5)];obtain⟨y0,hy0,ey0⟩:=aBU (d+1) p hF (eFd 2) hr hb ho hol [] (λ _ h=>by cases h) [qq (aQ ns k5 x5)]
 have an0:=aCq (d+4) p hF hr hb ho hy0 [qq (aQ ns k5 x5)];simp only[yDz] at ey0 an0;have la:=aQb d p hF (eFd 1) hr hb ho hol ts tl hi [qq (aQ ns (k5+1) x6)];obtain⟨y1,hy1,ey1⟩:=aBU (d+1) p hF (eFd 2) hr hb ho hol ts hi [qq (aQ ns (k5+1) x6)];have an1:=aCq (d+4) p hF hr hb ho hy1 [qq (aQ ns (k5+1) x6)];have wo:=rJ (d+11) a hr (.tuple (aD.map nD)) [qq (aQ ns (k0+1) x1)];have i0:aH (rs<*(.tuple (aD.map nD))) (.int 0)=qq (.tuple (rs.map Rw.d)):=rfl;obtain⟨P,hP⟩:∃ P:D,P=(rs<*(.tuple (aD.map nD))):=⟨_,rfl⟩;simp only[<- hP] at e0 e5 mt du ak eF8 ey0 an0 la ey1 an1 wo i0;obtain⟨G,hG⟩:∃ G:D,G=.tuple (F.map Ft.d):=⟨_,rfl⟩;simp only[<- hG] at ak eF8 an0 la an1;obtain⟨f,hf⟩:∃ f,f=eG rs aD a b:=⟨_,rfl⟩;simp only[<- hf] at mt du hz ib no la an1;obtain⟨Lb,hLb⟩:∃ Lb:D,Lb=.list ((ts.map f).map yAj):=⟨_,rfl⟩;have sq:∀ (c8 c9 c10 c11 c12 c13:Option W) (sc:D) S',lv (aC fns (d+12)) zT (oV sc P a r.w b (.tuple (ts.map tN)) Lb c8 c9 c10 c11 c12 c13) S'=qq (ts.map λ is=>yBf [tN is,.bool (f is)],S'):=λ c8 c9 c10 c11 c12 c13 sc S'=>by
  rw[hLb];simp only[gS1,zT,hz]
 simp only[<- hLb] at ib la an1;have s0:xs (aC fns (d+12)) (fQ mO) [qq (.d (.list (ns.map yAk))),qz,qz,qz,qz,qz,qz,qz,qz,qz,qz,qz,qz,qz] []=qq (.nx [qq (.d (.list (ns.map yAk))),qq (.loc 0),qz,qz,qz,qz,qz,qz,qz,qz,qz,qz,qz,qz],[qq (aQ ns 0 0)]):=by
  simp only[gS2,fQ,mO,eY]
 obtain⟨sc,hsc⟩:∃ sc:D,sc=.list (ns.map yAk):=⟨_,rfl⟩;rw[<- hsc] at s0 lN ⊢;have hcd:∀ (c7:Option W) S,lv (aC fns (d+12)) aCI [qq (.d sc),qq (.loc 0),qq (.d P),qq (.d (.int a)),qq (.d (.int r.w)),qq (.d (.int b)),qq (.d (.tuple (ts.map tN))),qz,qz,qz,qz,qz,qz,qz] S=qq (ts.map λ is=>yAj (f is),S):=λ _ S=>by
  refine kP (fi:=lv (aC fns (d+12)) (.it (.var 6))) (fe:=ev (aC fns (d+12)) (.call 77 (.cons (.var 2) (.cons (.var 3) (.cons (.var 5) (.cons (.var 11) .nil)))))) tN (λ is=>yAj (f is)) ts ?_ (by rw[zq];omega) λ is h=>?_
  ·simp only[gS0,fV]
  ·refine⟨_,rfl,λ S'=>?_⟩
   have du':cl fns (d+12) 77 [.d P,.d (.int a),.d (.int b),.d (tN is)] S'=qq (.d (.bool (f is)),S'):=du is h S';simp only[gS0,clr,yBm,yCg,du']
 have hLb2:Lb=.list (ts.map λ is=>yAj (f is)):=by rw[hLb,yBu];rfl
 obtain⟨aI,S2,e7,c11,c12,c13,rfl,rfl⟩:=mE (t:=.many [11,12]) (fi:=lv (aC fns (d+12)) zT) (fb:=xs (aC fns (d+12)) aCL) (env:=oV sc P a r.w b (.tuple (ts.map tN)) Lb qz qz qz qz qz qz) (S:=[qq (aQ ns k5 x5)]) (S1:=[qq (aQ ns k5 x5)]) (ds:=ts.map λ is=>yBf [tN is,.bool (f is)])
  (λ _ env S=>∃ c11 c12 c13:Option W,env=oV sc P a r.w b (.tuple (ts.map tN)) Lb qz qz qz c11 c12 c13/\S=[qq (aQ ns k5 x5)])
  (sq _ _ _ _ _ _ _ _) ⟨qz,qz,qz,rfl,rfl⟩ (by
    rintro j dd env S hd ⟨c11,c12,c13,rfl,rfl⟩;rw[xAb] at hd;obtain⟨is,hs,rfl⟩:=Option.map_eq_some_iff.mp hd;have m:cl fns (d+12) 61 [.d P,.d (.int a),.d (.int b),.d (tN is)] [qq (aQ ns k5 x5)]=qq (.d (.bool (f is)),[qq (aQ ns k5 x5)]):=mt is (xAl hs) _;have nb:=aVl (f is);refine⟨oV sc P a r.w b (.tuple (ts.map tN)) Lb qz qz qz (qq (.d (tN is))) (qq (.d (.bool (f is)))) c13,oV sc P a r.w b (.tuple (ts.map tN)) Lb qz qz qz (qq (.d (tN is))) (qq (.d (.bool (f is)))) (qq (.d (.bool (f is)))),[qq (aQ ns k5 x5)],rfl,?_,_,_,_,rfl,rfl⟩;simp only[evs,aCL,m,nb])
 have s6:xs (aC fns (d+12)) (.setC false 7 aCI) [qq (.d sc),qq (.loc 0),qq (.d P),qq (.d (.int a)),qq (.d (.int r.w)),qq (.d (.int b)),qq (.d (.tuple (ts.map tN))),qz,qz,qz,qz,qz,qz,qz] [qq (aQ ns k5 x5)]=qq (.nx (oV sc P a r.w b (.tuple (ts.map tN)) Lb qz qz qz qz qz qz),[qq (aQ ns k5 x5)]):=by
  rw[hLb2];simp only[uE,fM,iD,hcd qz,oB];rfl
 have e:mO=.seq (fQ mO) (cJ mO):=rfl;refine⟨[],?_⟩;rw[aU rfl (d+12) _ [] rfl];have s1:xs (aC fns (d+12)) (cJ mO) [qq (.d sc),qq (.loc 0),qz,qz,qz,qz,qz,qz,qz,qz,qz,qz,qz,qz] [qq (aQ ns 0 0)]=qq (.rt (.d (.bool true)),[qq (aQ ns (k5+1) x6)]):=by
  refine cG (w:=.d P) (S1:=[qq (aQ ns k0 x0)]) ?_ rfl (cG (w:=.d (.int a)) (S1:=[qq (aQ ns (k0+1) x1)]) ?_ rfl (cG (w:=.d (.int r.w)) (S1:=[qq (aQ ns (k0+1) x1)]) ?_ rfl (cG (w:=.d (.int b)) (S1:=[qq (aQ ns (k0+1+1+1+1) x4)]) ?_ rfl (cG (w:=.d (.tuple (ts.map tN))) (S1:=[qq (aQ ns k5 x5)]) ?_ rfl ?_))))
  ·simp only[gS0,lN,mn,dR,et,e0]
  ·simp only[gS0,i0,lR,e1']
  ·simp only[gS0,wo]
  ·simp only[gS0,cR,e2',e3',e4',eb]
  ·simp only[gS0,e5]
  refine oH (e1:=oV sc P a r.w b (.tuple (ts.map tN)) Lb qz qz qz qz qz qz) (S1:=[qq (aQ ns k5 x5)]) s6 ?_;refine oH (e1:=oV sc P a r.w b (.tuple (ts.map tN)) Lb qz qz qz c11 c12 c13) (S1:=[qq (aQ ns k5 x5)]) e7 ?_;refine cG (w:=.d G) (S1:=[qq (aQ ns k5 x5)]) ?_ rfl (aN (S1:=[qq (aQ ns k5 x5)]) ?_ (cG (w:=.d (.tuple [.int a,.int b])) (S1:=[qq (aQ ns k5 x5)]) ?_ rfl (aN (S1:=[qq (aQ ns k5 x5)]) ?_ (cG (w:=.d (.bool ((q6:Int)==5))) (S1:=[qq (aQ ns (k5+1) x6)]) ?_ rfl (aN (S1:=[qq (aQ ns (k5+1) x6)]) ?_ (bK ?_))))))
  ·simp only[gS0,eF8]
  ·cases c:decide (true∈ts.map f) with
   | false =>
     rw[c] at ib;simp only[gS0,ib]
   | true =>
     rw[c] at ib;rw[no (oqT c)] at z;simp only[gS0,ib,ak,em,eU,kN,bO,z]
  ·rfl
  ·simp only[gS0,ey0,an0]
  ·simp only[gS0,e6',bO]
  ·cases c:((q6:Int)==5) with
   | false=>simp only[evs,c]
   | true=>simp only[evs,c,la]
  ·simp only[gS0,ey1,an1]
 have full:xs (aC fns (d+12)) mO [qq (.d sc),qz,qz,qz,qz,qz,qz,qz,qz,qz,qz,qz,qz,qz] []=qq (.rt (.d (.bool true)),[qq (aQ ns (k5+1) x6)]):=by
  rw[e,gI s0,s1]
 show((xs (aC fns (d+12)) mO [qq (.d sc),qz,qz,qz,qz,qz,qz,qz,qz,qz,qz,qz,qz,qz] []).bind _)=_;rw[full];rfl
theorem main(ns:List Int)(h1:ns.length<=63)(h2:∀ i∈ns,yAi i<=1048576):∃ call S',aC fns 14 81=qq (1,call)/\call [.d (.list (ns.map yAk))] []=qq (.d (.bool true),S'):=by
 obtain⟨S',e⟩:=aTq 1 ns h1;exact aQm (d:=13) rfl rfl e
theorem oks:∀ F∈fns,aAO fns tbs F=true:=by decide +kernel
theorem bok:∀ F∈fns,aDv F=true:=by decide +kernel
theorem binds:∀ F∈fns,aCm F:=λ F hF=>aOf (bok F hF)
end K81
structure PySem.W.Fast:Prop where (tw14509053754436806787 tw12220797363731035253 tw7994968145734335812 tw18146393051796157351 tw8449991926114238096 tw14193082452421288374 tw16555128293689217310 tw14563743756209786955 tw10917309823066735722 tw700813529891211542 tw5311566286774825804 tw17095816261107560348 tw4325558070561958552 tw287537052578594631 tw15102466982630376135 tw2998531670324243126 tw3198728169125261602 tw13274093611631091298 tw546493388299514367 tw145717844774094141 tw7915578353201678984 tw18386198323218032222 tw8922633808607125233 tw6632399402446376559 tw11103745274286581604 tw5720256787159106695 tw441820352888330237 tw18115318272740158398 tw4529389467518987844 tw10671174063635831706 tw16593155905663946270 tw7801782773572244834 tw2323582833716394698 tw7572899294613957538 tw16696812567698289554 tw8018584601030467541 tw11522825778343855753 tw11840131775973592211 tw3755273744456427403 tw12137476116295219006 tw11080322861573812276 tw15987319165626109181 tw13884478522255863710 tw1367585825396680042 tw13952415022631726041 tw12773597724374001215 tw8079630906911829605 tw12831262145861351169 tw8384551292252487377 tw6989493023621739888 tw2868708116524513385 tw514279848412699194 tw6978912599352986028 tw2810429005244525995 tw8999316317982423007 tw4780623231729961110 tw15551103145426822297 tw9630596603891996932 tw17798325742167051718 tw4017563818454970084 tw2690392806596777135 tw145401412455149779 tw18274875810043065401 tw10528725510176406432 tw1062732721942804010 tw11521570384757750580 tw11716754257335148756 tw7293939365134341588 tw9422883009688907413 tw523098161709456078 tw16689194515644421855 tw17175566135258244965 tw14225102124495913273 tw891588631124030119 tw2225746626984978132 tw14206594413663486878 tw4515368529837899390 tw9754521096123466048 tw9275107506099759759 tw6904816621125958788 tw17311451876284948014 tw5165731021699527193 tw9777151280526098493 tw5180092895132617660 tw5785898493975329865 tw13993301590928649568 tw12138149670193395393 tw18100508554732702458 tw17635592563895395661 tw15907694579810588361 tw6505675076199182563 tw3113981739832064081 tw7384265942719414097 tw15240478096597340099 tw2568961737619580313 tw3344513191469478527 tw8614347509576599986 tw2591297827264998966 tw8878710453223408253 tw7478422326379730439 tw13513241983133005643 tw11567693693328049970 tw2570483077883664324 tw5261202240734500723 tw5503809522839935656 tw3314289915882437680 tw8776042674321097468 tw14601976489800145330 tw3055425524870797730 tw9483652612802671704 tw12292486982657599166 tw6574120546149779316 tw10313703850804188051 tw11702876021175001723 tw12287588330878215519 tw14794764533807980357 tw3542842059102503916 tw13298419607554669161 tw13106327852402977709 tw2566085885673576952 tw17135617606770383260 tw9129531615174880220 tw14382750372104160909 tw15962879560255177967 tw15823850324274462012 tw944770919882842596 tw1203859424308371760 tw11119204544251685629 tw5180081910144223345 tw2146267380145432805 tw4604412265464662260 tw8044926871164817577 tw17326627220322457308 tw13938160115423752470 tw245124455334099035 tw9781460055213871736 tw4996349447906932789 tw13273224377087011722 tw15430064148213283336 tw13721194870770893203 tw15111770933084082584 tw9574196611271293780 tw12851751487335023393 tw4574771100496222385 tw15130062580154816998 tw3524476623170750688 tw17679777438640599738 tw7807926098385564017 tw14262330606630870019 tw16736547855754630129 tw17491458783283409293 tw2104214209180867848 tw8796314842240285262 tw4706571667422110150 tw16945051039526098885 tw11240485654361734003 tw4927879888287062639 tw17194026966962697348 tw2565359861925271983 tw15595575265472393346 tw3045328036249077487 tw12199519915055248474 tw1854113146231047877 tw15964179077841726230 tw4620975824412857071 tw5590679310150306611 tw724115487720255818 tw2705330860649168033 tw5747857484400845256 tw7681482103992130849 tw3920388875577985763 tw11521457033480225993 tw12092239585892112764 tw12811889050725245408 tw14481027258506378343 tw5466744099722160593 tw13245055841773962998 tw5362656968662246645 tw4761356329925195699 tw10699252295342015627 tw18034711791043319008 tw11576148717298445510 tw2288685682107540943 tw17884747498601963848 tw4117179664577307535 tw616702821123780617 tw7009487939674246124 tw5495509266585855470 tw1271089395007740341 tw11848117287192048595 tw16667758121146103211 tw2512689299940195749 tw304670416522690475 tw7870755251422705068 tw16134157533894275859 tw5971009612907379807 tw3020314772600927877 tw6746838074512140164 tw3704282950754964085 tw10324757481792423586 tw2512364414658711064 tw3776039156474706731 tw11316881978633566889 tw15670494393203055116 tw18259122138070869360 tw5942655806041828250 tw350075852673424857 tw12566690217736353361 tw830605594987985442 tw9605543915983715431 tw16014775424175311723 tw7769436852157835896 tw9854795014004436136 tw11557494083310665401 tw11699433366270797422 tw4290950843480026542 tw5423205158723473123 tw352511249350072731 tw9807316070360791423 tw16313430249642728919 tw4239644936485151602 tw13983848980701768384 tw6749886529542441463 tw875170151204046505 tw9824946521839439210 tw17647657870450828738 tw17728327988152865877 tw16390524091689818446 tw5692018014433178245 tw521938499937414227 tw7472939528689439710 tw9294567723842526557 tw4596449665962987246 tw1078076860600462257 tw10398356891432518741 tw11024884877270514978 tw7704051788646444608 tw8584514499416844289 tw2146122971056406505 tw15844110915768675050 tw4909920875658577473 tw14379250915724899175 tw17426272742832668486 tw1121987618154349734 tw17153493584184767732 tw8306345115812146258 tw17562074631749229356 tw12167547197998487399 tw16683313852628358970 tw14116858621711104345 tw5026316730181158952 tw10208497416027463579 tw9637510438745038819 tw2111444730115829097 tw4235664892039718964 tw2328210627607462470 tw3094247998500269408 tw6181583162393765291 tw8318108687989424857 tw18085621894607252213 tw17885870131786793447 tw14954386001257777960 tw2127907310578795669 tw4235926019241776203 tw4891827316977911243 tw1296464703607542058 tw7131496120629021361 tw11204508494497930671 tw477583894886902616 tw6527627997235243169 tw11632606378271904984 tw11480170494332918109 tw6288823817235747706 tw8835995970909300302 tw3428960917213760766 tw13996674849403931635 tw13011811489418106716 tw10278277119119193882 tw15927930914469797120 tw3111246584099726228 tw7026764721514285176 tw7970534194427844161 tw3443170281507597013 tw810854760349189495 tw11690608665585306742 tw7252303194003901447 tw11918058055497991287 tw5630069034149813526 tw3456129543281358925 tw1924087801103089074 tw11864148747064884398 tw15799057851228608559 tw7785888022989199085 tw290243640505621206 tw12810476514261732178 tw9925812755737206417 tw11085823788727767403 tw5182996994398423639 tw892699432057094194 tw17843153662801925877 tw6304414150409067408 tw13927152211799000820 tw8122828345815925734 tw2125529326883548564 tw6290767809442215584 tw11795523419376119700 tw4680400031641307456 tw12431275061718994144 tw16196218742089782085 tw10494717463293664226 tw6588602442653461619 tw915841203928780509 tw12487355204663746839 tw13038046736867848162 tw13725717171750636291 tw3838721139117142169 tw16084047541027996015 tw6721747797406031884 tw4795834795279045315 tw2251522254173033303 tw18288828720893001559 tw4854187558893888834 tw8995089154318486707:True)
set_option maxRecDepth 100000 in
set_option maxHeartbeats 0 in
theorem PySem.Challenge.cw_fewbits_k81_a_bit_that_matters_holds : PySem.Challenge.rw_fewbits_k81_a_bit_that_matters.Holds := by
 w_on;o_law;k_head;(case hw=>w_witness2)
 k_fill
 refine EV.law_of (l:=PySem.Challenge.rw_fewbits_k81_a_bit_that_matters) K81.fns K81.tbs 81 14 _ "_law_script" rfl rfl ⟨rfl,by decide,by decide⟩ (λ w h Y=>PySem.W.kIn_of Y) K81.oks K81.binds rfl rfl rfl ?top ?tbl ?cnl ?tbn K81.main
 case top =>
  intro w h KX F hF;simp only[K81.fns,yCu,yCe,or_false] at hF;rcases hF with rfl | rfl | rfl | rfl | rfl | rfl | rfl | rfl | rfl | rfl | rfl | rfl | rfl | rfl | rfl | rfl | rfl | rfl | rfl | rfl | rfl | rfl | rfl | rfl | rfl | rfl | rfl | rfl | rfl | rfl | rfl | rfl | rfl | rfl | rfl | rfl | rfl | rfl | rfl | rfl | rfl | rfl | rfl | rfl | rfl | rfl | rfl | rfl | rfl | rfl | rfl | rfl | rfl | rfl | rfl | rfl | rfl | rfl | rfl | rfl | rfl | rfl | rfl | rfl | rfl | rfl | rfl | rfl | rfl | rfl | rfl | rfl | rfl | rfl | rfl | rfl | rfl | rfl | rfl | rfl | rfl | rfl
  all_goals
   refine' EV.top_mk ?a1 ?l1 ?c1 ?k1
   (case a1=>k_is)
   (case l1=>k_is)
   (case c1=>k_is)
   (case k1=>k_is)
 case tbl =>
  intro w h KX t ht;simp only[K81.tbs,yCu,yCe,or_false] at ht;rcases ht with rfl
  all_goals
   refine' EV.tab_mk ?a1 ?l1 ?c1
   (case a1=>k_is)
   (case l1=>k_is)
   (case c1=>(repeat' (first | exact True.intro | apply And.intro))<;>first | rfl | exact⟨_,rfl⟩)
 case cnl =>
  intro w h KX t ht;simp only[K81.tbs,yCu,yCe,or_false] at ht;rcases ht with rfl | rfl | rfl | rfl | rfl | rfl
  all_goals
   refine' EV.con_mk ?a1 ?l1 ?z1 ?c1
   (case a1=>k_is)
   (case l1=>k_is)
   (case z1=>decide)
   (case c1=>(repeat' (first | exact True.intro | apply And.intro))<;>first | rfl | exact⟨_,rfl⟩)
 case tbn =>
  intro w h KX x hx;simp only[EV.bltNames,yCu,yCe,or_false] at hx;rcases hx with rfl | rfl | rfl | rfl | rfl | rfl | rfl | rfl | rfl | rfl | rfl | rfl | rfl | rfl | rfl | rfl | rfl | rfl
  all_goals k_is
