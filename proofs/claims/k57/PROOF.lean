import PyProof.Rows.All
import Wide.All
import OpenK.AllK
import Wide.FinOn
import Lean
import PyProof.EqAt
import PyProof.EqKinds
import PyProof.TupleCall
import PyProof.ListMulRoad
import PyProof.FactsAll.tuple
import PyProof.MaxThree
import PyProof.SeqI3
import PyProof.Draws
import PyProof.ZipIter
import PyProof.NeKinds
import PyProof.Rows.SortShell
import PyProof.ListRange
import PyProof.DictTable
import PyProof.Rows.Range3
import PyProof.FactsAll.range_2
import PyProof.Rows.SeqMore2
import PySem.Challenge.RW_fewbits_k57_whole_turned_where_unasked
set_option compiler.extract_closed false
set_option genInjectivity false
set_option genSizeOf false
open List renaming getElem?_eq_getElem->yAa,replicate->yAb,getElem?_map->yAe,length_map->yAf,size_toArray->yAg,getElem?_append_right->yAh,take_length->yAi,replicate_succ->yAw,getElem?_set_self->yAx,getElem?_set_ne->yAy,append_assoc->yBa,length_set->yBc,map_cons->yBg,range->yBk,foldl_cons->yBl,getD_cons_zero->yBm,map_map->yBo,length_replicate->yBp,getElem?_toArray->yBq,getD_cons_succ->yBr,length_cons->yBs,getElem?_cons_zero->yBt,mem_singleton->yBu,length_take->yBz,lookup_cons->yCa,not_mem_nil->yCe,map_congr_left->yCg,mem_cons->yCh,foldl_nil->yCk,length_nil->yCn,map_append->yCo,getElem?_replicate->yCr,flatten_cons->yCy,filterMap_cons->yDa,take_of_length_le->yDc,getElem?_eq_none->yDf,drop_eq_getElem_cons->yDj,append_nil->yDm,getElem?_take_of_lt->yDn,forIn_cons->yDo,getElem?_cons_succ->yDv,take->yDx,forIn_nil->yDz,map_replicate->yEa,zipIdx_cons->yEi,set_eq_of_length_le->yEp,nil_append->yEw,set_cons_zero->yEx,take_succ_eq_append_getElem->yEy,drop_zero->yFe,take_left->yFf,drop_length->yFj,filter_cons->yFk,getElem?_of_mem->yFl,zipIdx_nil->yFo,replicate_zero->yFp,map_nil->yFw,set_cons_succ->yFy,nodup_append->yGd,getD->yGe,getElem_inj->yGj,cons_append->yGm,set_set->yGs
open Nat renaming le_refl->yAc,testBit_and->yAj,testBit_xor->yAo,testBit_mod_two_pow->yAr,mod_two_eq_zero_or_one->yAs,zero_testBit->yAz,pow_le_pow_right->yBd,sub_self->yBe,or_lt_two_pow->yBj,xor_lt_two_pow->yBv,and_le_left->yBy,lt_irrefl->yCc,lt_pow_two_of_testBit->yCi,testBit_succ->yCq,testBit_div_two_pow->yCt,ne_of_gt->yCv,lt_succ_of_lt->yCz,testBit_zero->yDd,pow_lt_pow_right->yDl,toNat_testBit->yDp,add_comm->yDr,zero_add->yDs,and_two_pow_sub_one_eq_mod->yDt,testBit_two_pow->yDw,not_lt_zero->yEd,div_lt_iff_lt_mul->yEf,div_add_mod->yEg,and_le_right->yEj,pow_add->yEl,pow_succ->yEr,xor_zero->yEs,zero_le->yFb,le_of_lt->yFg,le_of_not_lt->yFi,reduceAdd->yFm,le_of_eq->yFx,sub_le->yGg,lt_succ_self->yGl,reduceLeDiff->yGn,min_eq_right->yGo,mul_comm->yGq
open Int renaming toNat_natCast->yAq,natCast_mul->yCd,natCast_emod->yEk,mul_le_mul_of_nonneg_right->yFh,natCast_nonneg->yFv,emod_lt_of_pos->yFz,le_trans->yGr
open Bool renaming true_and->yAt,false_eq_true->yAu,and_eq_true->yBb,false_ne_true->yBf,false_and->yBh,and_true->yCj,and_false->yCl,eq_false_or_eq_true->yDq,eq_iff_iff->yEc,or_eq_true->yEe,or_false->yEu,or_true->yGt
open Option renaming bind_some->yCb,bind->yDh,getD_none->yGk
open PySem.Builtin.Range renaming rangeFitsLong->yAd,rangeSize->yAk,small->yGu
open PySem.Builtin.SmallTypes renaming nextOf->yAl,ownedTupleIsFree->yAm,ownedTupleHandOut->yBx
open PySem.Builtin.Int renaming intBits->yAn
open PyProof.Rows renaming callWith_type1->yAv,slot_tuple_getitem->yCf
open PySem.Heap renaming size_push->yBi,get?_update_other->yBw,get?_update_self->yCm,SameBut->yCu
open PySem.PyData renaming int->yAp,tuple->yCx,bool->yDi,eqv->yEo,depthAll->yFq,list->yGi
open PySem.W renaming keepIn->yCw,fnOf->yDe,nsIn->yEq,findIn->yFc,codeIn->yFd,methodObj->yGc
open PySem.F renaming plain_extend_loop->yDk,slot_int_rmul->yEb,args_tuple_add_2->yEm,args_tuple_mul_2->yEn,entry_tuple_add->yEt,entry_tuple_mul->yEv,slot_tuple_add->yEz,slot_tuple_mul->yFa,slot_int_bit_length->yFn,plain_reversed_new->yFu,entry_extend_loop->yGb
open PySem.Builtin renaming bitNot->yBn,divisionGoesByPylong->yCs,bitAnd->yDy,bitXor->yGa,bitOr->yGh
open PySem.Builtin.Slice renaming slicePlaces->yDg,sliceAdjust->yEh,sliceApplied->yFr
open PySem.Builtin.Tuple renaming tupleExact->yCp,tupleItemsOf->yFs,tupleTooMany->yFt
open PySem.Builtin.List renaming listExtendWith->yDb,listSameRef->yGf,listItems->yGp
open Array renaming length_toList->yDu
open PySem renaming Value->qx,Shared->qj,Addr->qv,Expr->qw,wpAny->qy,sizeLine->qk,wpAny_field->qu,starEach->qo,Program->zq,wpAny_seqItems->zx,wpAny_setField_rec->zj,sizeLine_eq->zv,World->zw,Around->zy,Scope->zk,wpAny_holding->zu,wpAny_call_entry->zo,IsPair->xq,binaryOp->xz,assignEach->xj,wpAny_newObj_type->xw,IsZip->xy,wpAny_Call_Name_kw->xk,wpAny_onRaise->xu,mainGlobals->jq,Stmt->jz,compareOp->jx,foldedSetIterable->jj,wpAny_truthy_bool->jv,wpAny_pyIter_list->jw,rawInt->jy,pyNext->jk,wpAny_letGo->ju,wpAny_pyIter_tuple->jo,wpAny_rule->vq,behindInMarks->vz,wpAny_attempt->vx,Operator->vj,NameKind->vv,bootBuiltins->vw,wpAny_pyIter_zip->vy,CmpOp->vk,codeAny->vo,wpAny_passesOwn->wq,wpAny_updateSeq->wz,call_meets->wj,sliceBounds->ww,FuncData->wu,wpAny_pyNext_list_item->yq,wpAny_pyIter_rangeiter->yz,wpAny_pyIter_enum->yx,wpAny_pyNext_list_end->yj,wpAny_isInstance->yv,wpAny_of_eq->yw,wpAny_updateSeq_pair->yy,letOwnedTupleGo->yk,shortFactorBits->yu,wpAny_specialOf->yo,UnaryOp->kq,typeIs_int->kz,isSubtype_stop->kx,wpAny_letOwnedTupleGo_enum->kj,wpAny_binaryOp_repeat_ref->kv,wpAny_letOwnedTupleGo_zip->kw,IsRangeIter->ky,swappedStores->ku,wpAny_standAt->ko
open Option renaming some->qq,none->qz
abbrev wB:=@PySem.wpAny_bind
abbrev wP:=@PySem.wpAny_pure
abbrev hpS:=@PySem.Heap.get?_push_of_some
theorem gIm {α:Type _}{l:List α}{i:Nat}{a:α}:l[i]? = qq a->∃ h,l[i]=a:=List.getElem?_eq_some_iff.mp
abbrev dqF:=@decide_eq_false
abbrev dqT:=@decide_eq_true
abbrev oqT:=@of_decide_eq_true
abbrev FrG:=PySem.W.Frag
abbrev xAa:=@PySem.Heap.lt_size
abbrev xAb:=@Nat.lt_of_lt_of_le
abbrev xAc:=@List.mem_cons_self
abbrev xAd:=@PySem.Heap.get?_push_size
abbrev xAe:=@Nat.two_pow_pos
abbrev xAf:=@List.mem_cons_of_mem
abbrev xAg:=@List.getD_eq_getElem?_getD
abbrev xAh:=@Nat.le_trans
abbrev xAi:=@Nat.lt_of_le_of_lt
abbrev xAj:=@Nat.ne_of_lt
abbrev xAk:=@List.mem_of_getElem?
abbrev xAl:=@Nat.eq_of_testBit_eq
abbrev xAm:=@List.getElem?_append_left
abbrev xAn:=@List.length_append
abbrev xAo:=@Nat.testBit_or
abbrev xAp:=@List.mem_append_right
set_option Elab.async false
set_option linter.all false
set_option maxRecDepth 100000
namespace L2
open PySem PySem.Spec PyProof.Rows
noncomputable abbrev fN:=Sum Int Str
noncomputable def pB:fN->qx->Bool
 | .inl k,v=>Value.isInt k v
 | .inr x,v=>Value.isStrOf x v
noncomputable def aUF(w:zw):fN->Int
 | .inl k=>hashInt k
 | .inr x=>hashStr w x
theorem lB:∀ {k:fN}{v:qx},pB k v=true->(∃ i t,k=Sum.inl i/\v=Value.int i t)\/(∃ x t,k=Sum.inr x/\v=Value.str x t)
 | .inl i,v,h=>by
   obtain⟨t,e⟩:=Value.isInt_shape (k:=i) (v:=v) h;exact .inl ⟨i,t,rfl,e⟩
 | .inr x,v,h=>by
   obtain⟨t,e⟩:=Value.isStrOf_shape (x:=x) (v:=v) h;exact .inr ⟨x,t,rfl,e⟩
theorem aFm(x:Str)(t:Tok):pB (.inr x) (.str x t)=true:=by simp[pB,Value.isStrOf]
theorem aRr(a b:Int):decide ((Sum.inl a:fN)=Sum.inl b)=(a==b):=by
 by_cases e:a=b
 ·subst e;simp
 ·have h:¬ (Sum.inl a:fN)=Sum.inl b:=λ q=>e (Sum.inl.inj q)
  rw[dqF h];exact(beq_eq_false_iff_ne.mpr e).symm
theorem aRz(a b:Str):decide ((Sum.inr a:fN)=Sum.inr b)=decide (a=b):=by
 by_cases e:a=b
 ·subst e;simp
 ·have h:¬ (Sum.inr a:fN)=Sum.inr b:=λ q=>e (Sum.inr.inj q)
  rw[dqF h,dqF e]
theorem aR0(a:Int)(b:Str):decide ((Sum.inl a:fN)=Sum.inr b)=false:=dqF (λ q=>nomatch q)
theorem aPZ(a:Str)(b:Int):decide ((Sum.inr a:fN)=Sum.inl b)=false:=dqF (λ q=>nomatch q)
noncomputable def mZ(prog:zq)(w:zw):PySem.KeyKind prog w fN where
 is:=pB
 hash:=aUF w
 inj:=λ v a b ha hb=>by
  rcases lB ha with ⟨i,t,rfl,rfl⟩ | ⟨x,t,rfl,rfl⟩
  ·rcases lB hb with ⟨j,u,rfl,e⟩ | ⟨y,u,rfl,e⟩
   ·injection e with e1 _;rw[e1]
   ·exact nomatch e
  ·rcases lB hb with ⟨j,u,rfl,e⟩ | ⟨y,u,rfl,e⟩
   ·exact nomatch e
   ·injection e with e1 _;rw[e1]
 byValue:=λ k v h=>by
  rcases lB h with ⟨i,t,rfl,rfl⟩ | ⟨x,t,rfl,rfl⟩<;>rfl
 pyHash:=λ hv h=>by
  rcases lB hv with ⟨i,t,rfl,rfl⟩ | ⟨x,t,rfl,rfl⟩
  ·exact wpAny_pyHash_int h
  ·exact wpAny_pyHash_str h
 eqBool:=λ hu hv h=>by
  rcases lB hu with ⟨i,t,rfl,rfl⟩ | ⟨x,t,rfl,rfl⟩
  ·rcases lB hv with ⟨j,u,rfl,rfl⟩ | ⟨y,u,rfl,rfl⟩
   ·rw[aRr] at h;exact wpAny_eqBool_int h
   ·rw[aR0] at h;exact SeqAt.EqAt.int_str i t y u _ _ _ _ h
  ·rcases lB hv with ⟨j,u,rfl,rfl⟩ | ⟨y,u,rfl,rfl⟩
   ·rw[aPZ] at h;exact SeqAt.EqAt.str_int x t j u _ _ _ _ h
   ·rw[aRz] at h;exact wpAny_eqBool_str h
 «strs»:=λ k x t v h=>by
  rcases lB h with ⟨i,u,rfl,e⟩ | ⟨y,u,rfl,e⟩
  ·exact nomatch e
  ·injection e with e1 _
   subst e1;cases v<;>rfl
end L2
namespace L2
open PySem PySem.Spec PyProof.Rows
inductive V where
 | non | bl (b:Bool) | int (i:Int) | str (x:Str) | byt (b:Array UInt8) | flt (b:UInt64) | ref (a:qv) | ty (n:String)
 deriving DecidableEq
noncomputable def bC:V->qx->Prop
 | .non,u=>u=Value.none
 | .bl b,u=>u=Value.bool b
 | .int i,u=>∃ t,u=Value.int i t
 | .str x,u=>∃ t,u=Value.str x t
 | .byt b,u=>∃ t,u=Value.bytes b t
 | .flt b,u=>∃ t,u=Value.float b t
 | .ref a,u=>u=Value.ref a
 | .ty n,u=>u=Value.type n
noncomputable abbrev aZ:List V->List qx->Prop:=Paired bC
theorem aZ.length{xs:List V}{us:List qx}(r:aZ xs us):xs.length=us.length:=Paired.length r
theorem aZ.get:∀ {xs:List V}{us:List qx}{i:Nat}{x:V},aZ xs us->xs[i]? = qq x->∃ u,us[i]? = qq u/\bC x u
 | _,_,_,_,.nil,e=>by simp at e
 | _,_,0,_,.cons r _,e=>by simp at e;subst e;exact⟨_,rfl,r⟩
 | _,_,i+1,x,.cons _ t,e=>by
   obtain⟨u,h1,h2⟩:=aZ.get (i:=i) (x:=x) t (by simpa using e)
   exact⟨u,by simpa using h1,h2⟩
theorem aZ.set{x:V}{u:qx}(r:bC x u):∀ {xs:List V}{us:List qx} (i:Nat),aZ xs us->aZ (xs.set i x) (us.set i u)
 | _,_,_,.nil=>.nil
 | _,_,0,.cons _ t=>.cons r t
 | _,_,i+1,.cons q t=>.cons q (aZ.set r i t)
theorem aZ.append:∀ {xs ys:List V}{us ws:List qx},aZ xs us->aZ ys ws->aZ (xs++ys) (us++ws)
 | _,_,_,_,.nil,s=>s
 | _,_,_,_,.cons r t,s=>.cons r (aZ.append t s)
theorem aZ.take:∀ {xs:List V}{us:List qx} (n:Nat),aZ xs us->aZ (xs.take n) (us.take n)
 | _,_,0,_=>.nil
 | _,_,_+1,.nil=>.nil
 | _,_,n+1,.cons r t=>.cons r (aZ.take n t)
theorem aZ.drop:∀ {xs:List V}{us:List qx} (n:Nat),aZ xs us->aZ (xs.drop n) (us.drop n)
 | _,_,0,r=>r
 | _,_,_+1,.nil=>.nil
 | _,_,n+1,.cons _ t=>aZ.drop n t
noncomputable def aJ2:Option V->Option qx->Prop
 | some v,qq u=>bC v u
 | none,qz=>True
 | _,_=>False
noncomputable def KV{κ:Type}:List (κ×V)->List (κ×qx)->Prop:=Paired λ(p:κ×V) (q:κ×qx)=>p.1=q.1/\bC p.2 q.2
noncomputable def kV:fN->V
 | .inl i=>.int i
 | .inr x=>.str x
inductive HO where
 | lst (xs:List V)
 | tup (xs:List V)
 | dK (aX:List (fN×V)) | dT (aX:List (List fN×V))
 | set (S:Int->Bool) (n:Nat)
 | ins (C dx:qv) (fs:List (Str×V))
 | own (x:qv)
 | xd (fs:List (Str×V))
 | met (f x:qv)
 | rng (lo hi:Int)
 | frz (o:Obj) (u:HO)
 | tbl (ps:Array qx)
 | ext (φ:Heap->Prop)
noncomputable abbrev Hp:=qv->Option HO
noncomputable def bE(H:Hp)(a:qv)(o:HO):Hp:=λ b=>if b=a then qq o else H b
theorem dE{H:Hp}{a:qv}{o:HO}:bE H a o a=qq o:=by unfold bE;rw[if_pos rfl]
theorem bM{H:Hp}{a b:qv}{o:HO}(h:b≠a):bE H a o b=H b:=by unfold bE;rw[if_neg h]
theorem eH{H:Hp}{a b:qv}{o:HO}(h:H a=qq o)(h':H b=qz):a≠b:=by
 intro e;subst e;rw[h] at h';cases h'
section
variable (P : zq)(w : zw)
noncomputable def hU(H:Hp)(h:Heap)(a:qv):HO->Prop
 | .lst xs=>xs.length<=qk/\∃ (aG:List qx) (n:Nat),aZ xs aG/\h.get? a=qq {cls:=.type "list",data:=.seq aG.toArray n }
 | .tup xs=>xs.length<=qk/\∃ aG:List qx,aZ xs aG/\IsTup h a aG.toArray
 | .dK aX=>aX.length<=qk/\(a==sysModules)=false/\∃ vs,KV aX vs/\h.DictOf (mZ P w) a vs
 | .dT aX=>aX.length<=qk/\(a==sysModules)=false/\∃ xs:List (List fN×qv×qx),
    Paired (λ(p:List fN×V) (q:List fN×qv×qx)=>p.1=q.1/\H q.2.1=qq (.tup (p.1.map kV))/\bC p.2 q.2.2) aX xs /\
    ∃ o es ep,h.get? a=qq o/\o.ExactDict/\o.data=.dict es ep/\es.toList=xs.map (entryOfKey (tupleKind (mZ P w)))/\(xs.map (·.1)).Nodup
 | .set S n=>h.SetOf (intKind P w) a S n
 | .ins C dx fs=>H dx=qq (.own a)/\fs.length<=1000/\dx≠a/\h.get? a=qq (PySem.W.instObj C dx) /\
    ∃ mA,h.Ns1 dx mA/\(∀ f,aJ2 (fs.lookup f) (mA f))/\PySem.Within mA (fs.map (·.1))
 | .own _=>∃ o,h.get? a=qq o
 | .xd fs=>∃ mA,h.Ns1 a mA/\∀ f,aJ2 (fs.lookup f) (mA f)
 | .rng lo hi=>∃ t u v,h.get? a=qq {cls:=.type "range",data:=.fields #[.int lo t,.int hi u,.int 1 v] }
 | .frz o u=>h.get? a=qq o/\hU H h a u
 | .tbl ps=>h.get? a=qq {cls:=.none,data:=.fields ps }
 | .met f x=>h.get? a=qq (yGc (.ref f) (.ref x))
 | .ext φ=>φ h/\(∃ o,h.get? a=qq o)/\∀ h1 h2:Heap,φ h1->(∀ o,h1.get? a=qq o->h2.get? a=qq o)->φ h2
def dS(H:Hp)(h:Heap):Prop:=∀ a o,H a=qq o->hU P w H h a o
end
section
variable {P : zq}{w : zw}{H H' : Hp}{h h' : Heap}{a : qv}{o : HO}
theorem hU.lt(x:hU P w H h a o):a<h.objs.size:=by
 cases o with
 | lst xs=>obtain⟨_,_,_,_,e⟩:=x;exact xAa e
 | tup xs=>obtain⟨_,_,_,p⟩:=x;exact p.lt
 | dK aX=>obtain⟨_,_,_,_,o,_,_,e,_⟩:=x;exact xAa e
 | dT aX=>obtain⟨_,_,_,_,o,_,_,e,_⟩:=x;exact xAa e
 | set S n=>obtain⟨o,_,_,_,e,_⟩:=x;exact xAa e
 | ins C dx fs=>obtain⟨_,_,_,e,_⟩:=x;exact xAa e
 | own y=>obtain⟨_,e⟩:=x;exact xAa e
 | xd fs=>obtain⟨_,⟨_,_,_,e,_⟩,_⟩:=x;exact xAa e
 | rng lo hi=>obtain⟨_,_,_,e⟩:=x;exact xAa e
 | frz ob u=>obtain⟨e,_⟩:=x;exact xAa e
 | tbl ps=>exact xAa (show h.get? a=qq _ from x)
 | met f y=>exact xAa (show h.get? a=qq _ from x)
 | ext φ=>obtain⟨_,⟨_,e⟩,_⟩:=x;exact xAa e
theorem Paired.mapP{α β:Type}{F G:α->β->Prop}:∀ {l₁:List α}{l₂:List β},Paired F l₁ l₂->(∀ a b,F a b->G a b)->Paired G l₁ l₂
 | _,_,.nil,_=>.nil
 | _,_,.cons r t,f=>.cons (f _ _ r) (Paired.mapP t f)
theorem hU.stay(x:hU P w H h a o)(k:∀ b u,(b=a\/H b=qq (.own a))->h.get? b=qq u->h'.get? b=qq u)
 (ho:∀ b,H b=qq (.own a)->H' b=qq (.own a)) (ht:∀ b xs,H b=qq (.tup xs)->H' b=qq (.tup xs)):hU P w H' h' a o:=by
 induction o with
 | lst xs=>obtain⟨z,aG,n,r,e⟩:=x;exact⟨z,aG,n,r,k _ _ (.inl rfl) e⟩
 | tup xs=>obtain⟨z,aG,r,ob,e,c⟩:=x;exact⟨z,aG,r,ob,k _ _ (.inl rfl) e,c⟩
 | dK aX=>obtain⟨z,y,vs,r,ob,es,ep,e,c⟩:=x;exact⟨z,y,vs,r,ob,es,ep,k _ _ (.inl rfl) e,c⟩
 | dT aX =>
   obtain⟨z,y,xs,r,ob,es,ep,e,c⟩:=x;exact⟨z,y,xs,Paired.mapP r λ p q z=>⟨z.1,ht _ _ z.2.1,z.2.2⟩,ob,es,ep,k _ _ (.inl rfl) e,c⟩
 | set S n=>obtain⟨ob,es,ep,t,e,c⟩:=x;exact⟨ob,es,ep,t,k _ _ (.inl rfl) e,c⟩
 | ins C dx fs =>
   obtain⟨d,z,ne,e,mA,⟨od,es,ep,e2,c⟩,r⟩:=x;exact⟨ho _ d,z,ne,k _ _ (.inl rfl) e,mA,⟨od,es,ep,k _ _ (.inr d) e2,c⟩,r⟩
 | own y=>obtain⟨ob,e⟩:=x;exact⟨ob,k _ _ (.inl rfl) e⟩
 | xd fs=>obtain⟨mA,⟨od,es,ep,e,c⟩,r⟩:=x;exact⟨mA,⟨od,es,ep,k _ _ (.inl rfl) e,c⟩,r⟩
 | rng lo hi=>obtain⟨t,u,v,e⟩:=x;exact⟨t,u,v,k _ _ (.inl rfl) e⟩
 | frz ob u ih=>obtain⟨e,q⟩:=x;exact⟨k _ _ (.inl rfl) e,ih q⟩
 | tbl ps =>
   have e:h.get? a=qq {cls:=.none,data:=.fields ps }:=x;show h'.get? a=qq {cls:=.none,data:=.fields ps };exact k a _ (.inl rfl) e
 | met f y =>
   have e:h.get? a=qq (yGc (.ref f) (.ref y)):=x;show h'.get? a=qq (yGc (.ref f) (.ref y));exact k a _ (.inl rfl) e
 | ext φ=>obtain⟨p,⟨o,e⟩,st⟩:=x;exact⟨st _ _ p λ o q=>k _ _ (.inl rfl) q,⟨o,k _ _ (.inl rfl) e⟩,st⟩
theorem dS.lt(x:dS P w H h)(e:H a=qq o):a<h.objs.size:=(x a o e).lt
theorem dS.fresh(x:dS P w H h)(e:h.objs.size<=a):H a=qz:=by
 cases q:H a with
 | none=>rfl
 | some u=>exact absurd (xAb (x.lt q) e) (yCc _)
theorem dS.kept(x:dS P w H h)(k:∀ b u,h.get? b=qq u->h'.get? b=qq u):dS P w H h':=λ a o e =>
 (x a o e).stay (λ b u _ q=>k b u q) (λ _ q=>q) λ _ _ q=>q
theorem dS.laid(x:dS P w H h)(k:∀ b u,h.get? b=qq u->h'.get? b=qq u)(hp:h.objs.size<=a)(new:hU P w (bE H a o) h' a o):dS P w (bE H a o) h':=λ b u e=>by
 have hn:=x.fresh hp
 by_cases hb:b=a
 ·subst hb;rw[dE] at e;cases e;exact new
 ·rw[bM hb] at e;exact(x b u e).stay (λ c v _ q=>k c v q) (λ c q=>by rw[bM (eH q hn)];exact q) λ c xs q=>by rw[bM (eH q hn)];exact q
end
def Rd(H:Hp)(a:qv)(u:HO):Prop:=H a=qq u\/∃ o,H a=qq (.frz o u)
theorem Rd.ok{P:zq}{w:zw}{H:Hp}{h:Heap}{a:qv}{u:HO}(r:Rd H a u)(x:dS P w H h):hU P w H h a u:=by
 rcases r with r | ⟨o,r⟩
 ·exact x a u r
 ·obtain⟨_,q⟩:=x a _ r;exact q
noncomputable def Mut:Option HO->Prop
 | some (.lst _)=>True
 | some (.dK _)=>True
 | some (.dT _)=>True
 | some (.set _ _)=>True
 | some (.ins _ _ _)=>True
 | some (.ext _)=>True
 | _=>False
section
variable {P : zq}{w : zw}{H : Hp}{h h' : Heap}{x e : qv}{o' : HO}
theorem dS.write(ok:dS P w H h)(mu:Mut (H x))(he:e=x\/H e=qq (.own x))(k:∀ b u,b≠e->h.get? b=qq u->h'.get? b=qq u)(heo:∃ u,h'.get? e=qq u)
 (new:hU P w (bE H x o') h' x o'):dS P w (bE H x o') h':=λ b u q=>by
 have nown:∀ c y,H c=qq (.own y)->c≠x:=λ c y r z=>by subst z;rw[r] at mu;exact mu
 have ntup:∀ c xs,H c=qq (.tup xs)->c≠x:=λ c xs r z=>by subst z;rw[r] at mu;exact mu
 by_cases hb:b=x
 ·subst hb;rw[dE] at q;cases q;exact new
 ·rw[bM hb] at q
  by_cases hbe:b=e
  ·have q':H b=qq (.own x):=by
    rcases he with z | z
    ·exact absurd (hbe.trans z) hb
    ·rw[hbe];exact z
   rw[q] at q';cases q';obtain⟨v,hv⟩:=heo;exact⟨v,by rw[hbe];exact hv⟩
  ·refine(ok b u q).stay (λ c v hc r=>k c v ?_ r) (λ c r=>by rw[bM (nown c b r)];exact r) λ c xs r=>by rw[bM (ntup c xs r)];exact r
   rcases hc with rfl | hc
   ·exact hbe
   ·rintro rfl;rcases he with z | z
    ·exact nown c b hc z
    ·rw[hc] at z;cases z;exact hb rfl
end
structure Un(fs ex:List qv)(H H':Hp)(h h':Heap):Prop where
 keep:∀ b o,h.get? b=qq o->H b=qz->b ∉ fs->b ∉ ex->h'.get? b=qq o
 slot:∀ b o,h.get? b=qq o->H b=qz->b∈fs->b ∉ ex->∃ sl,h'.get? b=qq {o with slots:=sl }
 free:∀ b o,h.get? b=qq o->H b=qz->b ∉ ex->H' b=qz
 there:∀ b o,h.get? b=qq o->b ∉ ex->∃ o',h'.get? b=qq o'
 tups:∀ b xs,H b=qq (.tup xs)->H' b=qq (.tup xs)
 frzs:∀ b o u,H b=qq (.frz o u)->H' b=qq (.frz o u)
 tbls:∀ b ps,H b=qq (.tbl ps)->∃ more,H' b=qq (.tbl (ps++more))
section
variable {fs fs' ex ex' : List qv}{H H1 H2 : Hp}{h h1 h2 h' : Heap}{a x e : qv}{o : HO}
theorem Un.any(u:Un fs ex H H1 h h1){b:qv}{ob:Obj}(q:h.get? b=qq ob)(n:H b=qz)(hx:b ∉ ex):∃ sl,h1.get? b=qq {ob with slots:=sl }:=by
 by_cases hb:b∈fs
 ·exact u.slot b ob q n hb hx
 ·exact⟨ob.slots,u.keep b ob q n hb hx⟩
theorem Un.kept(k:∀ b u,h.get? b=qq u->h'.get? b=qq u):Un fs ex H H h h':=
 ⟨λ b ob q _ _ _=>k b ob q,λ b ob q _ _ _=>⟨ob.slots,k b ob q⟩,λ _ _ _ n _=>n,λ b ob q _=>⟨ob,k b ob q⟩,λ _ _ q=>q,λ _ _ _ q=>q,λ _ ps q=>⟨#[],by rw[q];simp⟩⟩
theorem Un.refl:Un fs ex H H h h:=Un.kept λ _ _ q=>q
theorem Un.laid(k:∀ b u,h.get? b=qq u->h'.get? b=qq u)(hp:h.objs.size<=a)(hn:H a=qz):Un fs ex H (bE H a o) h h' where
 keep:=λ b u q _ _ _=>k b u q
 slot:=λ b u q _ _ _=>⟨u.slots,k b u q⟩
 free:=λ b u q n _=>by rw[bM (xAj (xAb (xAa q) hp))];exact n
 there:=λ b u q _=>⟨u,k b u q⟩
 tups:=λ b xs q=>by rw[bM (eH q hn)];exact q
 frzs:=λ b u xs q=>by rw[bM (eH q hn)];exact q
 tbls:=λ b ps q=>⟨#[],by rw[bM (eH q hn),q];simp⟩
theorem Un.write(mu:Mut (H x))(he:e=x\/H e=qq (.own x))(k:∀ b u,b≠e->h.get? b=qq u->h'.get? b=qq u)(heo:∃ u,h'.get? e=qq u):Un fs ex H (bE H x o) h h':=by
 have hx:∀ b,H b=qz->b≠x:=λ b n z=>by subst z;rw[n] at mu;exact mu
 have hb:∀ b,H b=qz->b≠e:=λ b n z=>by
  subst z;rcases he with r | r
  ·exact hx b n r
  ·rw[n] at r;cases r
 have hm:∀ b u,H b=qq u->¬ Mut (qq u)->b≠x:=λ b u q nm z=>by subst z;rw[q] at mu;exact nm mu
 refine⟨λ b u q n _ _=>k b u (hb b n) q,λ b u q n _ _=>⟨u.slots,k b u (hb b n) q⟩,λ b u q n _=>by rw[bM (hx b n)];exact n,λ b u q _=>?_,
  λ b xs q=>by rw[bM (hm b _ q λ z=>z)];exact q,λ b u xs q=>by rw[bM (hm b _ q λ z=>z)];exact q,λ b ps q=>⟨#[],by rw[bM (hm b _ q λ z=>z),q];simp⟩⟩
 by_cases hbe:b=e
 ·subst hbe;exact heo
 ·exact⟨u,k b u hbe q⟩
end
noncomputable def trk(h:Heap)(H:Hp):List qv:=(yBk h.objs.size).filter λ a=>(H a).isSome
noncomputable def lV(h:Heap)(H:Hp):Heap:=PySem.W.hideAll h (trk h H)
theorem aMf(h:Heap)(H:Hp):(lV h H).objs.size=h.objs.size:=PySem.W.hideAll_size _ _
theorem aMG{h:Heap}{H:Hp}{b:qv}{o:Obj}(e:h.get? b=qq o)(n:H b=qz):(lV h H).get? b=qq o:=
 PySem.W.hideAll_get _ e λ hm=>by
  have q:(H b).isSome=true:=(List.mem_filter.mp hm).2;rw[n] at q;simp at q
theorem aPw{h:Heap}{H:Hp}{b:qv}{o:Obj}(e:(lV h H).get? b=qq o):h.get? b=qq o/\H b=qz:=by
 have e':h.get? b=qq o:=PySem.W.of_hideAll (trk h H) e;refine⟨e',?_⟩;cases q:H b with
 | none=>rfl
 | some x =>
   have hm:b∈trk h H:=List.mem_filter.mpr ⟨List.mem_range.mpr (xAa e'),by simp[q]⟩
   have z:(lV h H).get? b=qz:=PySem.W.hideAll_none (trk h H) hm;rw[z] at e;cases e
noncomputable def aN8(g h:Heap)(L:qv):List (qv×Obj):=(yBk h.objs.size).filterMap λ a=>if a=L\/(g.get? a).isSome=true then qz else (h.get? a).map λ o=>(a,o)
noncomputable def dC(g h:Heap)(L d:qv):List (qv×Obj):=(aN8 g h L).filter λ p=>decide (p.1≠d)
end L2
namespace L2
open PySem PySem.Spec PyProof.Rows
structure Mod(K:FrG)(mg:Str->Option qx)(base:Heap):Prop where
 kin:K.In base
 glob:base.Ns jq mg
 blt:∃ mb,base.Ns builtinsNs mb/\∀ x:Str,x ≠ "__name__" -> mb x=vw x
 nolimit:base.NoLimit
structure Cx where
 prog:zq
 w:zw
 K:FrG
 mg:Str->Option qx
 base:Heap
 A:zy
 N:List Str
 s₀:qj
 H₀:Hp
 env:Env
 outer:List Env
 stack:List Env
 ex:List qv
 fn:Str->Bool
 calm:Bool
 pn:List (qv×Obj)
 xe:qx->qj->Prop
noncomputable def iE(l:List Env):List qv:=l.filterMap (·.frame)
noncomputable abbrev Cx.fs(X:Cx):List qv:=iE X.outer
def wN(sc:zk)(x:Str):Prop:=sc.names.lookup x=qq .local\/sc.names.lookup x=qq .cell\/sc.names.lookup x=qq .free
def Loc(sc:zk)(x:Str):Prop:=sc.names.lookup x=qq .local\/sc.names.lookup x=qq .cell
def aVe(env:Env)(h:Heap)(m:Str->Option qx)(x:Str)(u:qx):Prop:=
 (env.kindOf x=qq .local/\m x=qq u)\/((env.kindOf x=qq .cell\/env.kindOf x=qq .free)/\∃ c,env.cells.lookup x=qq c/\h.IsCell c (qq u))
structure Cx.Ok(X:Cx):Prop where
 mod:Mod X.K X.mg X.base
 kind:X.env.scope.kind=.function
 glob:X.env.globals=jq
 blt:X.env.builtins=builtinsNs
 above:X.s₀.heap.objs.size<=X.env.locals
 inj:∀ x y c,X.env.cells.lookup x=qq c->X.env.cells.lookup y=qq c->x=y
 has:∀ x,(X.env.kindOf x=qq .cell\/X.env.kindOf x=qq .free)->∃ c,X.env.cells.lookup x=qq c
 cab:∀ x c,X.fn x=true->X.env.cells.lookup x=qq c->X.s₀.heap.objs.size<=c
 hd:X.calm=true->X.A.handled=qz
 frames:X.A.frames=qq X.stack
 stk:X.stack=X.outer\/(X.stack=X.env::X.outer/\X.env.frame=qq X.env.locals)
 exf:∀ b∈X.ex,b≠X.env.locals/\∀ x c,X.env.cells.lookup x=qq c->c≠b
 bs:∀ b o,X.base.get? b=qq o->X.s₀.heap.get? b=qq o/\X.H₀ b=qz
 bsz:X.base.objs.size<=X.s₀.heap.objs.size
 noex:∀ b o,X.base.get? b=qq o->b ∉ X.ex
 exfs:∀ b∈X.ex,b ∉ X.fs
 funs:X.s₀.heap.FunFrames X.base X.outer
 frf:∀ b∈X.fs,X.H₀ b=qz
structure Inv(X:Cx)(aB:List (qv×Obj))(σ:List (Option V))(H:Hp)(s:qj):Prop where
 ok:X.Ok
 os:s.os=X.s₀.os
 bare:AllBare s.gens
 base:Un X.fs X.ex X.H₀ H X.s₀.heap s.heap
 loc:∃ m,s.heap.Ns X.env.locals m/\∀ (i:Nat) (x:Str) (v:V),X.N[i]? = qq x->σ[i]? = qq (qq v)->wN X.env.scope x->∃ u,bC v u/\aVe X.env s.heap m x u
 cell:∀ x c,X.env.cells.lookup x=qq c->∃ v,s.heap.IsCell c v
 free:H X.env.locals=qz
 freeC:∀ x c,X.env.cells.lookup x=qq c->H c=qz
 pin:∀ p∈X.pn++aB,s.heap.get? p.1=qq p.2/\H p.1=qz/\p.1≠X.env.locals/\p.1 ∉ X.fs/\∀ v,p.2.data≠.cell v
 hok:dS X.prog X.w H s.heap
 len:σ.length=X.N.length
section
variable {X : Cx}{aB : List (qv×Obj)}{σ : List (Option V)}{H H' : Hp}{s : qj}{h' : Heap}
theorem Cx.Ok.nofr(ok:X.Ok){b:qv}{o:Obj}(e:X.base.get? b=qq o):b ∉ X.fs:=λ hb=>by
 have:=(ok.funs.mem hb).1;rw[e] at this;cases this
theorem Inv.bs(I:Inv X aB σ H s):∀ b o,X.base.get? b=qq o->s.heap.get? b=qq o/\H b=qz:=λ b o e =>
 ⟨I.base.keep b o (I.ok.bs b o e).1 (I.ok.bs b o e).2 (I.ok.nofr e) (I.ok.noex b o e),I.base.free b o (I.ok.bs b o e).1 (I.ok.bs b o e).2 (I.ok.noex b o e)⟩
theorem Inv.bk(I:Inv X aB σ H s):∀ b o,X.base.get? b=qq o->s.heap.get? b=qq o:=λ b o e=>(I.bs b o e).1
theorem Inv.mod(I:Inv X aB σ H s):Mod X.K X.mg X.base:=I.ok.mod
theorem Inv.kIn(I:Inv X aB σ H s):X.K.In s.heap:=I.ok.mod.kin.keeps I.bk
theorem Inv.lt(I:Inv X aB σ H s):X.env.locals<s.heap.objs.size:=let ⟨_,hn,_⟩:=I.loc;hn.lt
theorem Inv.sz(I:Inv X aB σ H s):X.s₀.heap.objs.size<=s.heap.objs.size:=xAh I.ok.above (yFg I.lt)
theorem Inv.nofs(I:Inv X aB σ H s){a:qv}(h:s.heap.objs.size<=a):a ∉ X.fs:=λ hb=>by
 obtain⟨_,o,ho,_⟩:=I.ok.funs.mem hb;exact absurd (xAb (xAa ho) (xAh I.sz h)) (yCc _)
theorem Inv.cne(I:Inv X aB σ H s):∀ x c,X.env.cells.lookup x=qq c->c≠X.env.locals:=λ x c e z=>by
 obtain⟨v,o,ho,hd⟩:=I.cell x c e;obtain⟨m,⟨o',es,ep,ho',hd',_⟩,_⟩:=I.loc;rw[z,ho'] at ho;cases ho;rw[hd'] at hd;cases hd
theorem Inv.funs(I:Inv X aB σ H s):s.heap.FunFrames X.base X.outer:=by
 have all:∀ (l:List Env),(∀ b∈iE l,b∈X.fs)->X.s₀.heap.FunFrames X.base l->s.heap.FunFrames X.base l:=by
  intro l
  induction l with
  | nil=>intro _ _;trivial
  | cons env r ih =>
    intro hs hl;obtain⟨hk,⟨L,o,hf,hn,ho,hd⟩,hr⟩:=hl;have hL:L∈X.fs:=hs L (by unfold iE;rw[yDa,hf];exact xAc)
    obtain⟨sl,e⟩:=I.base.slot L o ho (I.ok.frf L hL) hL λ z=>I.ok.exfs L z hL
    exact⟨hk,⟨L,_,hf,hn,e,hd⟩,ih (λ b hb=>hs b (by unfold iE;rw[yDa,hf];exact xAf _ hb)) hr⟩
 exact all X.outer (λ _ hb=>hb) I.ok.funs
theorem Inv.stack(I:Inv X aB σ H s):s.heap.FunFrames X.base X.stack:=by
 rcases I.ok.stk with e | ⟨e,hf⟩
 ·rw[e];exact I.funs
 ·rw[e];obtain⟨m,hn,_⟩:=I.loc;refine .cons (by rw[I.ok.kind];decide) hf hn ?_ I.funs
  exact Heap.get?_none_of_le (xAh I.ok.bsz I.ok.above)
theorem Inv.stkSub(I:Inv X aB σ H s):∀ b∈iE X.stack,b∈X.env.locals::X.fs:=λ b hb=>by
 rcases I.ok.stk with e | ⟨e,hf⟩
 ·rw[e] at hb;exact xAf _ hb
 ·rw[e] at hb;unfold iE at hb;rw[yDa,hf] at hb;exact hb
theorem Inv.stkFree(I:Inv X aB σ H s):∀ b∈iE X.stack,H b=qz:=λ b hb=>by
 rcases List.mem_cons.mp (I.stkSub b hb) with e | hb
 ·rw[e];exact I.free
 ·obtain⟨_,o,ho,_⟩:=I.ok.funs.mem hb;exact I.base.free b o ho (I.ok.frf b hb) λ z=>I.ok.exfs b z hb
theorem Inv.step{g':Array GenState}{t':Nat}{d':Drawn}{ch:List qv}(I:Inv X aB σ H s)
 (hch:∀ b∈ch,(b∈X.ex\/X.s₀.heap.objs.size<=b)/\b≠X.env.locals/\(∀ x c,X.env.cells.lookup x=qq c->c≠b)/\∀ p∈X.pn++aB,p.1≠b)
 (keep:∀ b o,b≠X.env.locals->b ∉ X.fs->b ∉ ch->s.heap.get? b=qq o->H b=qz->h'.get? b=qq o)
 (slot:∀ b o,b≠X.env.locals->b∈X.fs->b ∉ ch->s.heap.get? b=qq o->H b=qz->∃ sl,h'.get? b=qq {o with slots:=sl }) (free:∀ b o,b ∉ ch->s.heap.get? b=qq o->H b=qz->H' b=qz)
 (there:∀ b o,b ∉ ch->s.heap.get? b=qq o->∃ o',h'.get? b=qq o')
 (tups:∀ b xs,H b=qq (.tup xs)->H' b=qq (.tup xs)) (frzs:∀ b o u,H b=qq (.frz o u)->H' b=qq (.frz o u)) (tbls:∀ b ps,H b=qq (.tbl ps)->∃ more,H' b=qq (.tbl (ps++more)))
 (ns:∀ m,s.heap.Ns X.env.locals m->h'.Ns X.env.locals m) (hok:dS X.prog X.w H' h') (hg:AllBare g') :
 Inv X aB σ H' {s with heap:=h',gens:=g',drawn:=d',toks:=t' }:=by
 have neL:∀ b o,X.s₀.heap.get? b=qq o->b≠X.env.locals:=λ b o e=>xAj (xAb (xAa e) I.ok.above)
 have neC:∀ b o,X.s₀.heap.get? b=qq o->b ∉ X.ex->b ∉ ch:=λ b o e hx hb=>by
  rcases (hch b hb).1 with z | z
  ·exact hx z
  ·exact absurd (xAb (xAa e) z) (yCc _)
 have cellK:∀ x c,X.env.cells.lookup x=qq c->∀ v,s.heap.IsCell c v->h'.IsCell c v:=λ x c e v aQ=>by
  obtain⟨o,ho,hd⟩:=aQ;have nch:c ∉ ch:=λ z=>(hch c z).2.2.1 x c e rfl
  by_cases hc:c∈X.fs
  ·obtain⟨sl,q⟩:=slot c o (I.cne x c e) hc nch ho (I.freeC x c e);exact⟨_,q,hd⟩
  ·exact⟨o,keep c o (I.cne x c e) hc nch ho (I.freeC x c e),hd⟩
 refine⟨I.ok,I.os,hg,⟨λ b o e n hb hx=>?_,λ b o e n hb hx=>?_,λ b o e n hx=>?_,λ b o e hx=>?_,λ b xs e=>tups b xs (I.base.tups b xs e),λ b o xs e=>frzs b o xs (I.base.frzs b o xs e),λ b ps e=>?_⟩,?_,λ x c e=>?_,?_,λ x c e=>?_,λ p hp=>?_,hok,I.len⟩
 ·exact keep b o (neL b o e) hb (neC b o e hx) (I.base.keep b o e n hb hx) (I.base.free b o e n hx)
 ·obtain⟨sl,e1⟩:=I.base.slot b o e n hb hx;obtain⟨sl',e2⟩:=slot b _ (neL b o e) hb (neC b o e hx) e1 (I.base.free b o e n hx);exact⟨sl',e2⟩
 ·obtain⟨o',e1⟩:=I.base.there b o e hx;exact free b o' (neC b o e hx) e1 (I.base.free b o e n hx)
 ·obtain⟨o',e1⟩:=I.base.there b o e hx;exact there b o' (neC b o e hx) e1
 ·obtain⟨m1,e1⟩:=I.base.tbls b ps e;obtain⟨m2,e2⟩:=tbls b _ e1;exact⟨m1++m2,by rw[e2,Array.append_assoc]⟩
 ·obtain⟨m,hn,hl⟩:=I.loc;refine⟨m,ns m hn,λ i x v e1 e2 e3=>?_⟩
  obtain⟨u,r,l⟩:=hl i x v e1 e2 e3;refine⟨u,r,?_⟩;rcases l with l | ⟨k,c,e,z⟩
  ·exact .inl l
  ·exact .inr ⟨k,c,e,cellK x c e _ z⟩
 ·obtain⟨v,z⟩:=I.cell x c e;exact⟨v,cellK x c e v z⟩
 ·obtain⟨m,⟨o,_,_,ho,_⟩,_⟩:=I.loc;exact free _ o (λ z=>(hch _ z).2.1 rfl) ho I.free
 ·obtain⟨v,o,ho,hd⟩:=I.cell x c e;exact free c o (λ z=>(hch c z).2.2.1 x c e rfl) ho (I.freeC x c e)
 ·obtain⟨e,n,ne,nf,d⟩:=I.pin p hp;have nch:p.1 ∉ ch:=λ z=>(hch p.1 z).2.2.2 p hp rfl
  exact⟨keep p.1 p.2 ne nf nch e n,free p.1 p.2 nch e n,ne,nf,d⟩
theorem Inv.un{t':Nat}(I:Inv X aB σ H s)(u:Un X.fs [] H H' s.heap h')(hok:dS X.prog X.w H' h'):Inv X aB σ H' {s with heap:=h',toks:=t' }:=by
 obtain⟨m,⟨o,es,ep,ho,r⟩,_⟩:=id I.loc;obtain⟨sl,hL⟩:=u.any ho I.free (by simp)
 exact I.step (g':=s.gens) (d':=s.drawn) (ch:=[]) (λ _ z=>nomatch z) (λ b o _ hb _ e n=>u.keep b o e n hb (by simp)) (λ b o _ hb _ e n=>u.slot b o e n hb (by simp)) (λ b o _ e n=>u.free b o e n (by simp)) (λ b o _ e=>u.there b o e (by simp)) u.tups u.frzs u.tbls (λ m' hm=>by
  obtain⟨o',es',ep',ho',r'⟩:=hm;rw[ho] at ho';cases ho';exact⟨_,es',ep',hL,r'⟩) hok I.bare
theorem Inv.call{g':Array GenState}{t':Nat}{d':Drawn}{ch:List qv}(I:Inv X aB σ H s)(u:Un (iE X.stack) ch H H' s.heap h')(hok:dS X.prog X.w H' h')(hg:AllBare g')
 (hch:∀ b∈ch,(b∈X.ex\/X.s₀.heap.objs.size<=b)/\b≠X.env.locals/\(∀ x c,X.env.cells.lookup x=qq c->c≠b)/\∀ p∈X.pn++aB,p.1≠b) :
 Inv X aB σ H' {s with heap:=h',gens:=g',drawn:=d',toks:=t' }:=by
 obtain⟨m,⟨o,es,ep,ho,r⟩,_⟩:=id I.loc;obtain⟨sl,hL⟩:=u.any ho I.free λ z=>(hch _ z).2.1 rfl
 exact I.step (ch:=ch) hch (λ b o hL hb hc e n=>u.keep b o e n (λ z=>(List.mem_cons.mp (I.stkSub b z)).elim hL hb) hc) (λ b o _ _ hc e n=>u.any e n hc) (λ b o hc e n=>u.free b o e n hc) (λ b o hc e=>u.there b o e hc) u.tups u.frzs u.tbls (λ m' hm=>by
  obtain⟨o',es',ep',ho',r'⟩:=hm;rw[ho] at ho';cases ho';exact⟨_,es',ep',hL,r'⟩) hok hg
theorem Inv.turned{t':Nat}{it:qv}(I:Inv X aB σ H s)(k:∀ b o,b≠it->s.heap.get? b=qq o->h'.get? b=qq o)(hn:H it=qz)(hL:it≠X.env.locals)
 (h1:it∈X.ex\/X.s₀.heap.objs.size<=it) (h2:∀ x c,X.env.cells.lookup x=qq c->c≠it) (h3:∀ p∈X.pn++aB,p.1≠it):Inv X aB σ H {s with heap:=h',toks:=t' }:=by
 have nit:∀ b u,H b=qq u->b≠it:=λ b u e z=>by rw[z,hn] at e;cases e
 refine I.step (g':=s.gens) (d':=s.drawn) (ch:=[it]) (λ b hb=>?_) (λ b o _ _ hc e _=>k b o (λ z=>hc (by simp[z])) e) (λ b o _ _ hc e _=>⟨o.slots,k b o (λ z=>hc (by simp[z])) e⟩) (λ _ _ _ _ n=>n)
  (λ b o hc e=>⟨o,k b o (λ z=>hc (by simp[z])) e⟩) (λ _ _ e=>e) (λ _ _ _ e=>e) (λ b ps e=>⟨#[],by rw[e];simp⟩) (λ m hm=>?_) (λ b u e=>?_) I.bare
 ·have e:b=it:=by simpa using hb
  subst e;exact⟨h1,hL,h2,h3⟩
 ·obtain⟨o,es,ep,ho,r⟩:=hm;exact⟨o,es,ep,k _ o (Ne.symm hL) ho,r⟩
 ·refine(I.hok b u e).stay (λ c v hc q=>k c v ?_ q) (λ _ q=>q) λ _ _ q=>q
  rcases hc with z | z
  ·rw[z];exact nit b u e
  ·exact nit c _ z
theorem Inv.tok(I:Inv X aB σ H s)(t:Nat):Inv X aB σ H {s with toks:=t }:=I.un (h':=s.heap) (t':=t) Un.refl I.hok
theorem Inv.kept{t':Nat}(I:Inv X aB σ H s)(k:∀ b u,s.heap.get? b=qq u->h'.get? b=qq u):Inv X aB σ H {s with heap:=h',toks:=t' }:=I.un (Un.kept k) (I.hok.kept k)
theorem Inv.laid{a:qv}{o:HO}{t':Nat}(I:Inv X aB σ H s)(k:∀ b u,s.heap.get? b=qq u->h'.get? b=qq u)(hp:s.heap.objs.size<=a)(new:hU X.prog X.w (bE H a o) h' a o) :
 Inv X aB σ (bE H a o) {s with heap:=h',toks:=t' }:=I.un (Un.laid k hp (I.hok.fresh hp)) (I.hok.laid k hp new)
theorem Inv.write{x e:qv}{o:HO}{t':Nat}(I:Inv X aB σ H s)(mu:Mut (H x))(he:e=x\/H e=qq (.own x))(k:∀ b u,b≠e->s.heap.get? b=qq u->h'.get? b=qq u)(heo:∃ u,h'.get? e=qq u)
 (new:hU X.prog X.w (bE H x o) h' x o):Inv X aB σ (bE H x o) {s with heap:=h',toks:=t' }:=I.un (Un.write mu he k heo) (I.hok.write mu he k heo new)
theorem Inv.pins_of{pins':List (qv×Obj)}(I:Inv X aB σ H s)(h:∀ p∈pins',s.heap.get? p.1=qq p.2/\H p.1=qz/\p.1≠X.env.locals/\p.1 ∉ X.fs/\∀ v,p.2.data≠.cell v):Inv X pins' σ H s:=
 ⟨I.ok,I.os,I.bare,I.base,I.loc,I.cell,I.free,I.freeC,λ p hp=>(List.mem_append.mp hp).elim (λ z=>I.pin p (List.mem_append_left _ z)) (h p),I.hok,I.len⟩
theorem aGa{N:List Str}(hN:N.Nodup){i j:Nat}{x:Str}(a:N[i]? = qq x)(b:N[j]? = qq x):i=j:=by
 obtain⟨h1,e1⟩:=gIm a;obtain⟨h2,e2⟩:=gIm b;exact(yGj hN).mp (e1.trans e2.symm)
theorem aMn{M:Model}{A:zy}{E:qx->qj->Prop}{i:Nat}{x:Str}{v:V}{u:qx}{Q:Unit->qj->Prop}(I:Inv X aB σ H s)(hN:X.N.Nodup)(hi:X.N[i]? = qq x)(hx:Loc X.env.scope x)(r:bC v u)
 (h:∀ s',Inv X aB (σ.set i (qq v)) H s'->(∃ a,yCu a s.heap s'.heap/\(a=X.env.locals\/X.env.cells.lookup x=qq a))->Q () s') (hf:X.fn x=true\/X.env.scope.names.lookup x=qq .local:=by first | exact .inl rfl | exact .inr rfl | assumption):qy M A (storeName X.env x u) Q E s:=by
 obtain⟨m,hn,hl⟩:=id I.loc;have hcls:(X.env.scope.kind==.class||(X.env.scope.kind==.module&&X.env.locals != X.env.globals))=false:=by rw[I.ok.kind];rfl
 have hiσ:i<σ.length:=by rw[I.len];exact(gIm hi).1
 have cne:=I.cne;have tracked:∀ {a:qv}{h':Heap},(∃ o,s.heap.get? a=qq o/\H a=qz)->yCu a s.heap h'->dS X.prog X.w H h':=λ {a h'} ha hs b ob e=>by
  obtain⟨_,_,hfree⟩:=ha;refine(I.hok b ob e).stay (λ c w' hc q=>(hs.2 c ?_).trans q) (λ _ q=>q) λ _ _ q=>q
  rintro rfl;rcases hc with rfl | hc
  ·rw[hfree] at e;cases e
  ·rw[hfree] at hc;cases hc
 rcases hx with hk | hk
 ·refine wpAny_storeName_local hk hn (λ h' hn' hs=>?_) hcls
  obtain⟨oL,_,_,hoL,_⟩:=id hn;refine h _ ⟨I.ok,I.os,I.bare,⟨λ b o e n hb hx=>?_,λ b o e n hb hx=>?_,I.base.free,λ b o e hx=>?_,I.base.tups,I.base.frzs,I.base.tbls⟩,⟨_,hn',λ j y v' e1 e2 e3=>?_⟩,λ y c e=>?_,I.free,I.freeC,λ p hp=>?_,tracked ⟨oL,hoL,I.free⟩ hs,by simpa using I.len⟩ ⟨_,hs,.inl rfl⟩
  ·exact(hs.2 b (xAj (xAb (xAa e) I.ok.above))).trans (I.base.keep b o e n hb hx)
  ·obtain⟨sl,e1⟩:=I.base.slot b o e n hb hx;exact⟨sl,(hs.2 b (xAj (xAb (xAa e) I.ok.above))).trans e1⟩
  ·obtain⟨o',e1⟩:=I.base.there b o e hx;exact⟨o',(hs.2 b (xAj (xAb (xAa e) I.ok.above))).trans e1⟩
  ·by_cases hj:j=i
   ·subst hj;rw[hi] at e1;cases e1;rw[yAx hiσ] at e2;cases e2;exact⟨u,r,.inl ⟨hk,by simp⟩⟩
   ·rw[yAy (Ne.symm hj)] at e2;obtain⟨u',r',q⟩:=hl j y v' e1 e2 e3;refine⟨u',r',?_⟩;rcases q with ⟨k,e⟩ | ⟨k,c,e,z⟩
    ·refine .inl ⟨k,?_⟩;have:y≠x:=λ e=>hj (aGa hN e1 (e▸hi))
     simp[this,e]
    ·exact .inr ⟨k,c,e,z.sameBut hs (cne y c e)⟩
  ·obtain⟨w',z⟩:=I.cell y c e;exact⟨w',z.sameBut hs (cne y c e)⟩
  ·obtain⟨e,n,ne,nf,d⟩:=I.pin p hp;exact⟨(hs.2 p.1 ne).trans e,n,ne,nf,d⟩
 ·have hfn:X.fn x=true:=by
   rcases hf with z | z
   ·exact z
   ·rw[z] at hk;cases hk
  obtain⟨c,hc⟩:=I.ok.has x (.inl hk);obtain⟨w',z⟩:=I.cell x c hc;refine wpAny_storeName_cell I.ok.kind hk hc z (λ h' hc' hs=>?_)
  obtain⟨oc,hoc,hocd⟩:=id z;refine h {s with heap:=h' } ⟨I.ok,I.os,I.bare,⟨λ b o e n hb hx=>?_,λ b o e n hb hx=>?_,I.base.free,λ b o e hx=>?_,I.base.tups,I.base.frzs,I.base.tbls⟩,⟨m,hn.sameBut hs (Ne.symm (cne x c hc)),λ j y v' e1 e2 e3=>?_⟩,λ y c' e=>?_,I.free,I.freeC,λ p hp=>?_,tracked ⟨oc,hoc,I.freeC x c hc⟩ hs,by simpa using I.len⟩ ⟨c,hs,.inr hc⟩
  ·exact(hs.2 b (xAj (xAb (xAa e) (I.ok.cab x c hfn hc)))).trans (I.base.keep b o e n hb hx)
  ·obtain⟨sl,e1⟩:=I.base.slot b o e n hb hx;exact⟨sl,(hs.2 b (xAj (xAb (xAa e) (I.ok.cab x c hfn hc)))).trans e1⟩
  ·obtain⟨o',e1⟩:=I.base.there b o e hx;exact⟨o',(hs.2 b (xAj (xAb (xAa e) (I.ok.cab x c hfn hc)))).trans e1⟩
  ·by_cases hj:j=i
   ·subst hj;rw[hi] at e1;cases e1;rw[yAx hiσ] at e2;cases e2;exact⟨u,r,.inr ⟨.inl hk,c,hc,hc'⟩⟩
   ·rw[yAy (Ne.symm hj)] at e2;obtain⟨u',r',q⟩:=hl j y v' e1 e2 e3;refine⟨u',r',?_⟩;rcases q with q | ⟨k,c',e,z'⟩
    ·exact .inl q
    ·refine .inr ⟨k,c',e,z'.sameBut hs ?_⟩;rintro rfl;exact hj (aGa hN e1 (I.ok.inj _ _ _ e hc▸hi))
  ·by_cases hcc:c'=c
   ·subst hcc;exact⟨_,hc'⟩
   ·obtain⟨w2,z2⟩:=I.cell y c' e;exact⟨w2,z2.sameBut hs hcc⟩
  ·obtain⟨e,n,ne,nf,d⟩:=I.pin p hp;refine⟨(hs.2 p.1 ?_).trans e,n,ne,nf,d⟩;intro q;rw[q,hoc] at e;have q':oc=p.2:=Option.some.inj e;exact d w' (by rw[<- q'];exact hocd)
theorem aGf{M:Model}{A:zy}{E:qx->qj->Prop}{i:Nat}{x:Str}{v:V}{u:qx}{Q:Unit->qj->Prop}(I:Inv X aB σ H s)(hN:X.N.Nodup)(hi:X.N[i]? = qq x)(hx:Loc X.env.scope x)(r:bC v u)
 (h:∀ s',Inv X aB (σ.set i (qq v)) H s'->Q () s') (hf:X.fn x=true\/X.env.scope.names.lookup x=qq .local:=by first | exact .inl rfl | exact .inr rfl | assumption):qy M A (storeName X.env x u) Q E s:=
 aMn I hN hi hx r (λ s' I' _=>h s' I') hf
theorem Inv.call'{s':qj}{ch:List qv}(I:Inv X aB σ H s)(ho:s'.os=s.os)(u:Un (iE X.stack) ch H H' s.heap s'.heap)(hok:dS X.prog X.w H' s'.heap)(hg:AllBare s'.gens)
 (hch:∀ b∈ch,(b∈X.ex\/X.s₀.heap.objs.size<=b)/\b≠X.env.locals/\(∀ x c,X.env.cells.lookup x=qq c->c≠b)/\∀ p∈X.pn++aB,p.1≠b):Inv X aB σ H' s':=by
 obtain⟨h',g',d',t',o'⟩:=s';have e:o'=s.os:=ho;subst e;exact I.call (g':=g') (t':=t') (d':=d') u hok hg hch
end
noncomputable abbrev XK:=qx->Option qv->Hp->Prop
noncomputable abbrev St:=List (Option V)
noncomputable abbrev VK:=V->Hp->Prop
noncomputable abbrev TE:=St->Hp->VK->Prop
noncomputable abbrev TT:=St->Hp->(Bool->Hp->Prop)->Prop
noncomputable abbrev TA:=St->Hp->(List V->Hp->Prop)->Prop
structure Ends where
 nx:St->Hp->Prop
 rt:VK
 bk:St->Hp->Prop:=λ _ _=>False
 ct:St->Hp->Prop:=λ _ _=>False
noncomputable abbrev TS:=Ends->St->Hp->Prop
def EP(X:Cx)(aB:List (qv×Obj))(σ:St)(Q:VK)(u:qx)(s':qj):Prop:=∃ v H',Inv X aB σ H' s'/\bC v u/\Q v H'
def TP(X:Cx)(aB:List (qv×Obj))(σ:St)(Q:Bool->Hp->Prop)(b:Bool)(s':qj):Prop:=∃ H',Inv X aB σ H' s'/\Q b H'
def AP(X:Cx)(aB:List (qv×Obj))(σ:St)(Q:List V->Hp->Prop)(us:List qx)(s':qj):Prop:=∃ vs H',Inv X aB σ H' s'/\aZ vs us/\Q vs H'
def SP(X:Cx)(aB:List (qv×Obj))(D:Ends)(f:Flow)(s':qj):Prop:=
 match f with
 | .next=>∃ σ' H',Inv X aB σ' H' s'/\D.nx σ' H'
 | .brk=>∃ σ' H',Inv X aB σ' H' s'/\D.bk σ' H'
 | .cont=>∃ σ' H',Inv X aB σ' H' s'/\D.ct σ' H'
 | .ret u=>∃ v σ' H',Inv X aB σ' H' s'/\bC v u/\D.rt v H'
def PE(X:Cx)(e:qw)(t:TE):Prop:=
 ∀ (aB:List (qv×Obj)) (s:qj) (σ:St) (H:Hp) (Q:VK),Inv X aB σ H s->t σ H Q->qy (model X.prog X.w) X.A (eval e X.env) (EP X aB σ Q) X.xe s
def PT(X:Cx)(e:qw)(t:TT):Prop:=
 ∀ (aB:List (qv×Obj)) (s:qj) (σ:St) (H:Hp) (Q:Bool->Hp->Prop),Inv X aB σ H s->t σ H Q->qy (model X.prog X.w) X.A (isTrue e X.env (eval e X.env)) (TP X aB σ Q) X.xe s
def PW(X:Cx)(e:qw)(t:TT):Prop:=
 ∀ (fJ:Sem qx) (aB:List (qv×Obj)) (s:qj) (σ:St) (H:Hp) (Q:Bool->Hp->Prop),Inv X aB σ H s->t σ H Q->qy (model X.prog X.w) X.A (isTrue e X.env fJ) (TP X aB σ Q) X.xe s
theorem PW.pt{X:Cx}{e:qw}{t:TT}(h:PW X e t):PT X e t:=h _
def PA(X:Cx)(es:List qw)(t:TA):Prop:=
 ∀ (pos:Pos) (aB:List (qv×Obj)) (s:qj) (σ:St) (H:Hp) (Q:List V->Hp->Prop),Inv X aB σ H s->t σ H Q->qy (model X.prog X.w) X.A (spliced (backTo pos (qo es X.env))) (AP X aB σ Q) X.xe s
def PS(X:Cx)(st:jz)(t:TS):Prop:=
 ∀ (aB:List (qv×Obj)) (s:qj) (σ:St) (H:Hp) (D:Ends),Inv X aB σ H s->t D σ H->qy (model X.prog X.w) X.A (exec st X.env) (SP X aB D) X.xe s
def dZ(X:Cx)(st:List jz)(t:TS):Prop:=
 ∀ (aB:List (qv×Obj)) (s:qj) (σ:St) (H:Hp) (D:Ends),Inv X aB σ H s->t D σ H->qy (model X.prog X.w) X.A (execs st X.env) (SP X aB D) X.xe s
theorem bD{α:Type}{t:Sem α}{Q Q':α->qj->Prop}{M:Model}{A:zy}{E:qx->qj->Prop}{s:qj}(h:qy M A t Q E s)(hQ:∀ a s,Q a s->Q' a s):qy M A t Q' E s:=wpAny_mono h hQ λ _ _ x=>x
end L2
namespace L2
open PySem PySem.Spec PyProof.Rows
section
variable {X : Cx}
theorem bin{a b:qw}{ta tb:TE}(ha:PE X a ta)(hb:PE X b tb){aB:List (qv×Obj)}{s:qj}{σ:St}{H:Hp}{R:V->V->Hp->Prop}(I:Inv X aB σ H s)(h:ta σ H λ x H1=>tb σ H1 λ y H2=>R x y H2)
 {α:Type}{Q:α->qj->Prop}{f:qx->qx->Sem α}
 (hf:∀ v u s2 x y H2,Inv X aB σ H2 s2->bC x v->bC y u->R x y H2->qy (model X.prog X.w) X.A (f v u) Q X.xe s2) :
 qy (model X.prog X.w) X.A (eval a X.env) (λ v s₁=>qy (model X.prog X.w) X.A (eval b X.env) (λ u s₂=>qy (model X.prog X.w) X.A (f v u) Q X.xe s₂) X.xe s₁) X.xe s:=by
 refine bD (ha aB s σ H _ I h) λ v s1 hPq0=>?_
 obtain⟨x,H1,I1,r1,q1⟩:=hPq0;refine bD (hb aB s1 σ H1 _ I1 q1) λ u s2 hPq1=>?_
 obtain⟨y,H2,I2,r2,q2⟩:=hPq1;exact hf v u s2 x y H2 I2 r1 r2 q2
noncomputable def aVb(i:Nat):TE:=λ σ H Q=>∃ v,σ[i]? = qq (qq v)/\Q v H
noncomputable def tC(v:V):TE:=λ _ H Q=>Q v H
theorem aQJ{i:Nat}{x:Str}{pos:Pos}(hN:X.N[i]? = qq x)(hv:wN X.env.scope x)(hd:(x==("__debug__" : Str))=false:=by decide)(hcd:(x==("__classdict__" : Str))=false:=by decide):PE X (.Name x pos) (aVb i):=by
 intro aB s σ H Q I h;obtain⟨v,e,h⟩:=h;obtain⟨m,hn,hl⟩:=I.loc;obtain⟨u,r,l⟩:=hl i x v hN e hv;have bX:EP X aB σ Q u s:=⟨v,H,I,r,h⟩;rcases l with ⟨hk,hm⟩ | ⟨hk,c,hc,hcell⟩
 ·exact wpAny_Name (wpAny_loadName_local I.ok.kind hk hn hm bX) hd
 ·rcases hk with hk | hk
  ·exact wpAny_Name (wpAny_loadName_cell I.ok.kind hk hc hcell bX) hd
  ·exact wpAny_Name (wpAny_loadName_free I.ok.kind hk hc hcell bX hcd) hd
theorem aR7{i j pos}:PE X (.Constant (.int i) j pos) (tC (.int i)):=λ _ _ _ H _ I h=>wpAny_Constant_int ⟨.int i,H,I.tok _,⟨_,rfl⟩,h⟩
theorem aTW{b j pos}:PE X (.Constant (.bool b) j pos) (tC (.bl b)):=λ _ _ _ H _ I h=>Constant_bool ⟨.bl b,H,I,rfl,h⟩
theorem aRb{j pos}:PE X (.Constant .none j pos) (tC .non):=λ _ _ _ H _ I h=>Constant_none ⟨.non,H,I,rfl,h⟩
theorem aQA{x j pos}:PE X (.Constant (.str x) j pos) (tC (.str x)):=λ _ _ _ H _ I h=>Calls.Constant_str ⟨.str x,H,I.tok _,⟨_,rfl⟩,h⟩
def Gl(X:Cx)(x:Str):Prop:=X.env.kindOf x=qq .globalImplicit
theorem aCj{E:qx->qj->Prop}{aB:List (qv×Obj)}{s:qj}{σ:St}{H:Hp}{x:Str}{u:qx}{pos:Pos}{Q:qx->qj->Prop}(I:Inv X aB σ H s)(hg:Gl X x)(hm:X.mg x=qq u)(h:Q u s)
 (hd:(x==("__debug__" : Str))=false:=by decide):qy (model X.prog X.w) X.A (eval (.Name x pos) X.env) Q E s:=
 Calls.Name_function_global I.ok.kind hg (Calls.loadGlobal_global (by rw[I.ok.glob];exact I.mod.glob.keeps I.bk) hm h) hd
theorem jN{E:qx->qj->Prop}{aB:List (qv×Obj)}{s:qj}{σ:St}{H:Hp}{x:Str}{u:qx}{pos:Pos}{Q:qx->qj->Prop}(I:Inv X aB σ H s)(hg:Gl X x)(hm:X.mg x=qz)(hv:vw x=qq u)(h:Q u s)
 (hn:x ≠ "__name__":=by decide) (hd:(x==("__debug__" : Str))=false:=by decide):qy (model X.prog X.w) X.A (eval (.Name x pos) X.env) Q E s:=by
 obtain⟨mb,h1,h2⟩:=I.mod.blt;exact Calls.Name_function_global I.ok.kind hg (Calls.loadGlobal_builtin (by rw[I.ok.glob];exact I.mod.glob.keeps I.bk) hm (by rw[I.ok.blt];exact h1.keeps I.bk) ((h2 x hn).trans hv) h) hd
theorem aHd{x:Str}{v:V}{u:qx}{pos:Pos}(hg:Gl X x)(hm:X.mg x=qq u)(r:bC v u)(hd:(x==("__debug__" : Str))=false:=by decide):PE X (.Name x pos) (tC v):=
 λ _ _ _ H _ I h=>aCj I hg hm ⟨v,H,I,r,h⟩ hd
variable {a b : qw}{ta tb : TE}{pos : Pos}
variable {tA tB' : TT}{dC : List qw}
noncomputable def aJT(t u:TT):TT:=λ σ H Q=>t σ H λ c H1=>if c=true then u σ H1 Q else Q false H1
noncomputable def tOr(t u:TT):TT:=λ σ H Q=>t σ H λ c H1=>if c=true then Q true H1 else u σ H1 Q
noncomputable def aVn(t:TT):TT:=λ σ H Q=>t σ H λ c H1=>Q (!c) H1
theorem aOG(ha:PT X a tA):PW X (.BoolOp .And [a] pos) tA:=by
 intro wh aB s σ H Q I h;refine isTrue_and (bD (ha aB s σ H Q I h) λ c s1 e=>?_)
 cases c with
 | true=>exact isTrue_and_nil e
 | false=>exact e
theorem aRi(ha:PT X a tA):PW X (.BoolOp .Or [a] pos) tA:=by
 intro wh aB s σ H Q I h;refine isTrue_or (bD (ha aB s σ H Q I h) λ c s1 e=>?_)
 cases c with
 | false=>exact isTrue_or_nil e
 | true=>exact e
theorem aH0(ha:PT X a tA)(hb:PW X (.BoolOp .And (b::dC) pos) tB'):PW X (.BoolOp .And (a::b::dC) pos) (aJT tA tB'):=by
 intro wh aB s σ H Q I h;refine isTrue_and (bD (ha aB s σ H _ I h) λ c s1 hPq2=>?_)
 obtain⟨H1,I1,q1⟩:=hPq2;cases c with
 | true=>exact hb wh aB s1 σ H1 Q I1 q1
 | false=>exact⟨H1,I1,q1⟩
theorem aIF(ha:PT X a tA)(hb:PW X (.BoolOp .Or (b::dC) pos) tB'):PW X (.BoolOp .Or (a::b::dC) pos) (tOr tA tB'):=by
 intro wh aB s σ H Q I h;refine isTrue_or (bD (ha aB s σ H _ I h) λ c s1 hPq3=>?_)
 obtain⟨H1,I1,q1⟩:=hPq3;cases c with
 | true=>exact⟨H1,I1,q1⟩
 | false=>exact hb wh aB s1 σ H1 Q I1 q1
theorem aQk(ha:PT X a tA):PT X (.UnaryOp .Not a pos) (aVn tA):=by
 intro aB s σ H Q I h;exact isTrue_not (ha aB s σ H (λ c H1=>Q (!c) H1) I h)
noncomputable def aJe(ta tb:TE):TE:=λ σ H Q=>ta σ H λ x H1=>∃ c,x=.bl c/\if c=true then tb σ H1 Q else Q (.bl false) H1
noncomputable def aJj(ta tb:TE):TE:=λ σ H Q=>ta σ H λ x H1=>∃ c,x=.bl c/\if c=true then Q (.bl true) H1 else tb σ H1 Q
noncomputable def aUc(ta:TE):TE:=λ σ H Q=>ta σ H λ x H1=>∃ c,x=.bl c/\Q (.bl (!c)) H1
theorem aHE{op}{t:TE}(h:PE X a t):PE X (.BoolOp op [a] pos) t:=λ aB s σ H Q I hw=>BoolOp_one (h aB s σ H Q I hw)
theorem aHH(ha:PE X a ta)(hb:PE X (.BoolOp .And (b::dC) pos) tb):PE X (.BoolOp .And (a::b::dC) pos) (aJe ta tb):=by
 intro aB s σ H Q I h;refine BoolOp_and (bD (ha aB s σ H _ I h) λ v s1 hPq4=>?_)
 obtain⟨x,H1,I1,r1,q1⟩:=hPq4;obtain⟨c,rfl,q1⟩:=q1;cases r1;refine jv ?_;cases c with
 | true=>exact hb aB s1 σ H1 Q I1 q1
 | false=>exact⟨.bl false,H1,I1,rfl,q1⟩
theorem aIT(ha:PE X a ta)(hb:PE X (.BoolOp .Or (b::dC) pos) tb):PE X (.BoolOp .Or (a::b::dC) pos) (aJj ta tb):=by
 intro aB s σ H Q I h;refine BoolOp_or (bD (ha aB s σ H _ I h) λ v s1 hPq5=>?_)
 obtain⟨x,H1,I1,r1,q1⟩:=hPq5;obtain⟨c,rfl,q1⟩:=q1;cases r1;refine jv ?_;cases c with
 | false=>exact hb aB s1 σ H1 Q I1 q1
 | true=>exact⟨.bl true,H1,I1,rfl,q1⟩
theorem aRH(ha:PE X a ta):PE X (.UnaryOp .Not a pos) (aUc ta):=by
 intro aB s σ H Q I h;refine UnaryOp_ (bD (ha aB s σ H _ I h) λ v s1 hPq6=>?_)
 obtain⟨x,H1,I1,r1,q1⟩:=hPq6;obtain⟨c,rfl,q1⟩:=q1;cases r1;exact not_of (jv ⟨.bl (!c),H1,I1,rfl,q1⟩)
noncomputable def tIf(t:TT)(ta tb:TE):TE:=λ σ H Q=>t σ H λ c H1=>if c=true then ta σ H1 Q else tb σ H1 Q
theorem aMX{c:qw}(hc:PT X c tA)(ha:PE X a ta)(hb:PE X b tb):PE X (.IfExp c a b pos) (tIf tA ta tb):=by
 intro aB s σ H Q I h;refine wpAny_IfExp (bD (hc aB s σ H _ I h) λ d s1 hPq7=>?_)
 obtain⟨H1,I1,q1⟩:=hPq7;cases d with
 | true=>exact ha aB s1 σ H1 Q I1 q1
 | false=>exact hb aB s1 σ H1 Q I1 q1
end
end L2
namespace L2
open PySem PySem.Spec PyProof.Rows
def bW(K:FrG)(H:Hp)(a:qv)(xs:List V):Prop:=
 Rd H a (.lst xs) \/
  ∃ (o:Obj) (aG:Array qx) (n:Nat),K.lookup a=qq o/\o.cls=.type "list" /\ o.dict=qz/\o.data=.seq aG n/\aG.size<=qk/\aZ xs aG.toList
def bZ(K:FrG)(H:Hp)(a:qv)(xs:List V):Prop:=
 Rd H a (.tup xs) \/
  ∃ (o:Obj) (aG:Array qx) (n:Nat),K.lookup a=qq o/\o.cls=.type "tuple" /\ o.data=.seq aG n/\aG.size<=qk/\aZ xs aG.toList
noncomputable def aVh:qx->Option V
 | .none=>qq .non
 | .bool b=>qq (.bl b)
 | .int i _=>qq (.int i)
 | .str x _=>qq (.str x)
 | .bytes b _=>qq (.byt b)
 | .float b _=>qq (.flt b)
 | .ref a=>qq (.ref a)
 | .type n=>qq (.ty n)
 | _=>qz
theorem bC.abs{x:V}{u:qx}(r:bC x u):aVh u=qq x:=by
 cases x with
 | non=>cases r;rfl
 | bl _=>cases r;rfl
 | int _=>obtain⟨t,rfl⟩:=r;rfl
 | str _=>obtain⟨t,rfl⟩:=r;rfl
 | byt _=>obtain⟨t,rfl⟩:=r;rfl
 | flt _=>obtain⟨t,rfl⟩:=r;rfl
 | ref _=>cases r;rfl
 | ty _=>cases r;rfl
theorem bC.inj{x y:V}{u:qx}(r:bC x u)(q:bC y u):x=y:=Option.some.inj (r.abs.symm.trans q.abs)
theorem aZ.inj:∀ {xs ys:List V}{us:List qx},aZ xs us->aZ ys us->xs=ys
 | _,_,_,.nil,.nil=>rfl
 | _,_,_,.cons r t,.cons r' t'=>by rw[r.inj r',aZ.inj t t']
section
variable {X : Cx}{aB : List (qv×Obj)}{σ : St}{H : Hp}{s : qj}{a : qv}{xs ys : List V}
theorem bW.of{K:FrG}(h:H a=qq (.lst xs)):bW K H a xs:=.inl (.inl h)
theorem bZ.of{K:FrG}(h:H a=qq (.tup xs)):bZ K H a xs:=.inl (.inl h)
theorem Inv.list(I:Inv X aB σ H s)(h:bW X.K H a xs):∃ aG:List qx,aZ xs aG/\PlainL s.heap a aG.toArray/\xs.length<=qk:=by
 rcases h with h | ⟨o,aG,n,hk,hc,hd,hs,hz,r⟩
 ·obtain⟨z,aG,n,r,e⟩:=h.ok I.hok;exact⟨aG,r,⟨_,n,e,rfl,rfl,rfl⟩,z⟩
 ·refine⟨aG.toList,r,⟨o,n,I.kIn a o hk,hc,hd,by simpa using hs⟩,?_⟩
  have e:=r.length;simp only[yDu] at e;omega
theorem Inv.tuple(I:Inv X aB σ H s)(h:bZ X.K H a xs):∃ aG:List qx,aZ xs aG/\IsTup s.heap a aG.toArray/\xs.length<=qk:=by
 rcases h with h | ⟨o,aG,n,hk,hc,hs,hz,r⟩
 ·obtain⟨z,aG,r,p⟩:=h.ok I.hok;exact⟨aG,r,p,z⟩
 ·refine⟨aG.toList,r,⟨o,I.kIn a o hk,hc,n,by simpa using hs⟩,?_⟩
  have e:=r.length;simp only[yDu] at e;omega
theorem Inv.list_inj(I:Inv X aB σ H s)(h:bW X.K H a xs)(h':bW X.K H a ys):xs=ys:=by
 obtain⟨aG,r,⟨o,n,e,_,_,d⟩,_⟩:=I.list h;obtain⟨its',r',⟨o',n',e',_,_,d'⟩,_⟩:=I.list h';rw[e] at e';cases e';rw[d] at d';injection d' with d1 _
 have:aG=its':=by simpa using congrArg Array.toList d1
 subst this;exact r.inj r'
theorem Inv.tuple_inj(I:Inv X aB σ H s)(h:bZ X.K H a xs)(h':bZ X.K H a ys):xs=ys:=by
 obtain⟨aG,r,⟨o,e,_,n,d⟩,_⟩:=I.tuple h;obtain⟨its',r',⟨o',e',_,n',d'⟩,_⟩:=I.tuple h';rw[e] at e';cases e';rw[d] at d';injection d' with d1 _
 have:aG=its':=by simpa using congrArg Array.toList d1
 subst this;exact r.inj r'
end
noncomputable abbrev Cx.wish(X:Cx)(E:qx->qj->Prop):Cx:={X with xe:=E }
noncomputable abbrev Cx.nox(X:Cx):Cx:=X.wish λ _ _=>False
theorem Cx.Ok.wish{X:Cx}(ok:X.Ok)(E:qx->qj->Prop):(X.wish E).Ok:=
 ⟨ok.mod,ok.kind,ok.glob,ok.blt,ok.above,ok.inj,ok.has,ok.cab,ok.hd,ok.frames,ok.stk,ok.exf,ok.bs,ok.bsz,ok.noex,ok.exfs,ok.funs,ok.frf⟩
theorem Cx.Ok.unwish{X:Cx}{E:qx->qj->Prop}(ok:(X.wish E).Ok):X.Ok:=
 ⟨ok.mod,ok.kind,ok.glob,ok.blt,ok.above,ok.inj,ok.has,ok.cab,ok.hd,ok.frames,ok.stk,ok.exf,ok.bs,ok.bsz,ok.noex,ok.exfs,ok.funs,ok.frf⟩
section
variable {X : Cx}{aB : List (qv×Obj)}{σ : St}{H : Hp}{s : qj}{E : qx -> qj -> Prop}
theorem Inv.wish(I:Inv X aB σ H s)(E:qx->qj->Prop):Inv (X.wish E) aB σ H s:=⟨I.ok.wish E,I.os,I.bare,I.base,I.loc,I.cell,I.free,I.freeC,I.pin,I.hok,I.len⟩
theorem Inv.unwish(I:Inv (X.wish E) aB σ H s):Inv X aB σ H s:=⟨I.ok.unwish,I.os,I.bare,I.base,I.loc,I.cell,I.free,I.freeC,I.pin,I.hok,I.len⟩
theorem SP.unwish{D:Ends}{f:Flow}{s':qj}(h:SP (X.wish E) aB D f s'):SP X aB D f s':=by
 cases f with
 | next=>obtain⟨σ',H',I,q⟩:=h;exact⟨σ',H',I.unwish,q⟩
 | brk=>obtain⟨σ',H',I,q⟩:=h;exact⟨σ',H',I.unwish,q⟩
 | cont=>obtain⟨σ',H',I,q⟩:=h;exact⟨σ',H',I.unwish,q⟩
 | ret u=>obtain⟨v,σ',H',I,r,q⟩:=h;exact⟨v,σ',H',I.unwish,r,q⟩
theorem dZ.nox{st:List jz}{t:TS}(h:dZ X.nox st t):dZ X st t:=λ aB s σ H D I hw =>
 wpAny_mono (h aB s σ H D (I.wish _) hw) (λ _ _ q=>q.unwish) λ _ _ z=>False.elim z
end
section
variable {X : Cx}{st : jz}{dC : List jz}{t u : TS}{e : qw}{te : TE}{pos : Pos}
noncomputable def aSI:TS:=λ D σ H=>D.nx σ H
noncomputable def aU6(t u:TS):TS:=λ D σ H=>t {D with nx:=u D } σ H
theorem aPR:dZ X [] aSI:=λ _ _ σ H _ I h=>wpAny_execs_nil ⟨σ,H,I,h⟩
theorem aNm(h1:PS X st t)(h2:dZ X dC u):dZ X (st::dC) (aU6 t u):=by
 intro aB s σ H D I h;refine wpAny_execs_cons (bD (h1 aB s σ H {D with nx:=u D } I h) λ f s1 q=>?_)
 cases f with
 | next =>
   obtain⟨σ',H',I',q⟩:=q;exact h2 aB s1 σ' H' D I' q
 | ret v=>exact q
 | brk=>exact q
 | cont=>exact q
theorem Inv.quiet{aB:List (qv×Obj)}{σ:St}{H:Hp}{s:qj}(I:Inv X aB σ H s):interactive X.env=false:=by simp[interactive,I.ok.kind]
noncomputable def aTY(te:TE):TS:=λ D σ H=>te σ H λ _ H1=>D.nx σ H1
theorem aOm(he:PE X e te)(hs:swapsWith e qz pos.line X.env=pure false:=by rfl):PS X (.Expr e pos) (aTY te):=by
 intro aB s σ H D I h;exact wpAny_Expr_any (bD (he aB s σ H _ I h) λ v s1 ⟨x,H1,I1,r1,q1⟩=>⟨σ,H1,I1,q1⟩) I.quiet hs
noncomputable def aU9(te:TE):TS:=λ D σ H=>te σ H D.rt
theorem aQY(he:PE X e te):PS X (.Return (qq e) pos) (aU9 te):=by
 intro aB s σ H D I h;exact wpAny_Return_some (bD (he aB s σ H _ I h) λ v s1 ⟨x,H1,I1,r1,q1⟩=>⟨x,σ,H1,I1,r1,q1⟩)
noncomputable def aU7(c:TT)(t u:TS):TS:=λ D σ H=>c σ H λ b H1=>if b=true then t D σ H1 else u D σ H1
theorem aT4{c:qw}{a b:List jz}{tc:TT}(hc:PT X c tc)(ha:dZ X a t)(hb:dZ X b u):PS X (.If c a b pos) (aU7 tc t u):=by
 intro aB s σ H D I h;refine wpAny_If (bD (hc aB s σ H _ I h) λ d s1 hPq8=>?_)
 obtain⟨H1,I1,q1⟩:=hPq8;cases d with
 | true=>exact ha aB s1 σ H1 D I1 q1
 | false=>exact hb aB s1 σ H1 D I1 q1
end
noncomputable abbrev TG:=V->St->Hp->(St->Hp->Prop)->Prop
noncomputable abbrev iV:=List V->St->Hp->(St->Hp->Prop)->Prop
def PG(X:Cx)(target:qw)(t:TG):Prop:=
 ∀ (aB:List (qv×Obj)) (s:qj) (σ:St) (H:Hp) (v:V) (u:qx) (Q:St->Hp->Prop),Inv X aB σ H s->bC v u->t v σ H Q ->
  qy (model X.prog X.w) X.A (assign target X.env u) (λ _ s'=>∃ σ' H',Inv X aB σ' H' s'/\Q σ' H') X.xe s
def pV(X:Cx)(ts:List qw)(t:iV):Prop:=
 ∀ (aB:List (qv×Obj)) (s:qj) (σ:St) (H:Hp) (vs:List V) (us:List qx) (Q:St->Hp->Prop),Inv X aB σ H s->aZ vs us->t vs σ H Q ->
  qy (model X.prog X.w) X.A (assignInOrder ((xj ts X.env).map (·.2)) us) (λ _ s'=>∃ σ' H',Inv X aB σ' H' s'/\Q σ' H') X.xe s
noncomputable abbrev aDo:=V->V->V->Hp->(Hp->Prop)->Prop
def aJO(X:Cx)(t:aDo):Prop:=
 ∀ (aB:List (qv×Obj)) (s:qj) (σ:St) (H:Hp) (o i v:V) (ov iv u:qx) (Q:Hp->Prop),Inv X aB σ H s->bC o ov->bC i iv->bC v u->t o i v H Q ->
  qy (model X.prog X.w) X.A (setItem ov iv u) (λ _ s'=>∃ H',Inv X aB σ H' s'/\Q H') X.xe s
section
variable {X : Cx}{pos : Pos}
noncomputable def nL(i:Nat):TG:=λ v σ H Q=>Q (σ.set i (qq v)) H
theorem aCi{i:Nat}{x:Str}(hN:X.N.Nodup)(hi:X.N[i]? = qq x)(hx:Loc X.env.scope x)(hf:X.fn x=true\/X.env.scope.names.lookup x=qq .local:=by first | exact .inl rfl | exact .inr rfl | assumption):PG X (.Name x pos) (nL i):=by
 intro aB s σ H v u Q I r h;exact wpAny_assign_Name (aGf I hN hi hx r (λ s' I'=>⟨_,H,I',h⟩) hf)
noncomputable def aDC:iV:=λ vs σ H Q=>vs=[]/\Q σ H
noncomputable def aC3(t:TG)(u:iV):iV:=λ vs σ H Q=>∃ v r,vs=v::r/\t v σ H λ σ' H'=>u r σ' H' Q
theorem aOz:pV X [] aDC:=by
 intro aB s σ H vs us Q I r h;obtain⟨e,h⟩:=h;subst e;cases r;exact assignInOrder_nil ⟨σ,H,I,h⟩
theorem aND{e:qw}{es:List qw}{t:TG}{u:iV}(h1:PG X e t)(h2:pV X es u)
 (hs:(xj (e::es) X.env).map (·.2)=assign e X.env::(xj es X.env).map (·.2):=by rfl):pV X (e::es) (aC3 t u):=by
 intro aB s σ H vs us Q I r h;obtain⟨v,vr,e1,h⟩:=h;subst e1;cases r with
 | cons r rr =>
   rw[hs];refine assignInOrder_cons (bD (h1 aB s σ H _ _ _ I r h) λ _ s1 hPq9=>?_)
   obtain⟨σ1,H1,I1,q1⟩:=hPq9;exact h2 aB s1 σ1 H1 _ _ Q I1 rr q1
noncomputable def aUY(K:FrG)(n:Nat)(t:iV):TG:=λ v σ H Q=>∃ a xs,v=.ref a/\bZ K H a xs/\xs.length=n/\t xs σ H Q
theorem aRP{es:List qw}{k:Nat}{t:iV}{n:Nat}(hc:X.calm=true)(h:pV X es t)
 (hn:(xj es X.env).length=n:=by rfl) (hst:(xj es X.env).findIdx? (·.1)=qz:=by rfl):PG X (.Tuple es k pos) (aUY X.K n t):=by
 intro aB s σ H v u Q I r hw;obtain⟨a,xs,e1,hq,hl,hw⟩:=hw;subst e1;cases r;obtain⟨aG,rv,ht,hz⟩:=I.tuple hq;refine assign_Tuple_tuple (I.ok.hd hc) ht (by simp[hn,<- hl,rv.length]) hst λ h' hx=>?_
 have I1:Inv X aB σ H {s with heap:=h' }:=I.kept (t':=s.toks) λ b o e=>hx b o (xAj (xAa e)) e
 exact h aB _ σ H xs _ Q I1 (by simpa using rv) hw
noncomputable def aJ0(to ti:TE)(t:aDo):TG:=λ v σ H Q=>to σ H λ o H1=>ti σ H1 λ i H2=>t o i v H2 λ H3=>Q σ H3
theorem aPV{o i:qw}{to ti:TE}{t:aDo}(ho:PE X o to)(hi:PE X i ti)(hs:aJO X t)
 (ha:∀ v,assign (.Subscript o i pos) X.env v=(do
   let ov <- holding [v] (eval o X.env)
   let iv <- holding [v,ov] (eval i X.env)
   standAt pos
   holding [v,ov,iv] (setItem ov iv v)
   release [v,ov,iv] []):=by intro _;rfl):PG X (.Subscript o i pos) (aJ0 to ti t):=by
 intro aB s σ H v u Q I r h;rw[ha];refine wB (zu (bD (ho aB s σ H _ I h) λ ov s1 hPq10=>?_))
 obtain⟨x,H1,I1,r1,q1⟩:=hPq10;refine wB (zu (bD (hi aB s1 σ H1 _ I1 q1) λ iv s2 hPq11=>?_))
 obtain⟨y,H2,I2,r2,q2⟩:=hPq11;refine wB (ko (wB (zu (bD (hs aB s2 σ H2 x y v ov iv u _ I2 r1 r2 r q2) λ _ s3 hPq12=>?_))))
 obtain⟨H3,I3,q3⟩:=hPq12;exact wpAny_release ⟨σ,H3,I3,q3⟩
noncomputable def vV(te:TE)(g:TG):TS:=λ D σ H=>te σ H λ x H1=>g x σ H1 D.nx
theorem aIf{tg e:qw}{te:TE}{g:TG}(he:PE X e te)(hg:PG X tg g)(hs:swapsWithSole [tg] e pos.line X.env=pure false:=by rfl)(hw:ku [tg] e X.env=pure qz:=by rfl)
 (h1:(xj [tg] X.env).map (·.2)=[assign tg X.env]:=by rfl):PS X (.Assign [tg] e pos) (vV te g):=by
 intro aB s σ H D I h;refine wpAny_Assign_stores (bD (he aB s σ H _ I h) λ v s1 hPq13=>?_) hs hw
 obtain⟨x,H1,I1,r1,q1⟩:=hPq13;rw[h1];exact bD (hg aB s1 σ H1 x v _ I1 r1 q1) λ _ s2 q=>q
theorem aRa{i:Nat}{x:Str}{e:qw}{te:TE}{pos':Pos}(hN:X.N.Nodup)(hi:X.N[i]? = qq x)(hx:Loc X.env.scope x)(he:PE X e te)(hs:swapsWith e (qq (.Name x pos')) pos.line X.env=pure false:=by rfl)(hf:X.fn x=true\/X.env.scope.names.lookup x=qq .local:=by first | exact .inl rfl | exact .inr rfl | assumption) :
 PS X (.Assign [.Name x pos'] e pos) (vV te (nL i)):=by
 intro aB s σ H D I h;refine wpAny_Assign_Name (bD (he aB s σ H _ I h) λ v s1 hPq14=>?_) hs
 obtain⟨y,H1,I1,r1,q1⟩:=hPq14;exact aGf I1 hN hi hx r1 (λ s2 I2=>⟨_,H1,I2,q1⟩) hf
end
section
variable {X : Cx}{pos : Pos}
end
structure It where
 go:Nat->Hp->Prop
 yld:Nat->Hp->V->Hp->Prop
 stop:Nat->Hp->Prop
def gI(X:Cx)(aB:List (qv×Obj))(H:Hp)(b:qv):Prop:=
 H b=qz/\b≠X.env.locals/\b ∉ X.fs/\(b∈X.ex\/X.s₀.heap.objs.size<=b)/\(∀ x c,X.env.cells.lookup x=qq c->c≠b)/\∀ p∈X.pn++aB,p.1≠b
theorem Inv.fpOk{X:Cx}{aB:List (qv×Obj)}{σ:St}{H H':Hp}{s:qj}{b:qv}(I:Inv X aB σ H s)(hb:s.heap.objs.size<=b)(hn:H' b=qz):gI X aB H' b:=by
 refine⟨hn,yCv (xAb I.lt hb),I.nofs hb,.inr (xAh I.sz hb),λ x c e z=>?_,λ p hp z=>?_⟩
 ·obtain⟨v,q⟩:=I.cell x c e;exact absurd (xAb q.lt (by rw[z];exact hb)) (yCc _)
 ·exact absurd (xAb (xAa (I.pin p hp).1) (by rw[z];exact hb)) (yCc _)
structure Turn(P:zq)(w:zw)(K:FrG)(tg:qw)(J:It)(fp:List qv)(it:qv)(tn:Nat->Heap->Prop):Prop where
 mem:it∈fp
 obj:∀ i h,tn i h->∀ b∈fp,∃ o,h.get? b=qq o/\∀ v,o.data≠.cell v
 keep:∀ i h h',tn i h->(∀ b∈fp,∀ o,h.get? b=qq o->h'.get? b=qq o)->tn i h'
 item:∀ (X:Cx),X.prog=P->X.w=w->X.K=K->X.calm=true->∀ (i:Nat) (aB:List (qv×Obj)) (s:qj) (σ:St) (H:Hp) (E:qx->qj->Prop),Inv X aB σ H s->(∀ b∈fp,gI X aB H b)->tn i s.heap->J.go i H ->
  qy (model P w) X.A (jk (.ref it)) (λ r s1=>∃ u,r=qq u /\
   qy (model P w) X.A (yk tg (.ref it) u) (λ _ s2=>∃ x H',Inv X aB σ H' s2/\bC x u/\J.yld i H x H'/\tn (i+1) s2.heap/\∀ b∈fp,H' b=qz) E s1) E s
 done:∀ (X:Cx),X.prog=P->X.w=w->X.K=K->X.calm=true->∀ (i:Nat) (aB:List (qv×Obj)) (s:qj) (σ:St) (H:Hp) (E:qx->qj->Prop),Inv X aB σ H s->(∀ b∈fp,gI X aB H b)->tn i s.heap->J.stop i H ->
  qy (model P w) X.A (jk (.ref it)) (λ r s1=>r=qz/\Inv X aB σ H s1) E s
 self:∀ (A:zy) (i:Nat) (s:qj) (Q:qx->qj->Prop) (E:qx->qj->Prop),tn i s.heap->Q (.ref it) s->qy (model P w) A (pyIter (.ref it)) Q E s
noncomputable abbrev TI:=St->Hp->(It->Hp->Prop)->Prop
def PIE(X:Cx)(aB:List (qv×Obj))(σ:St)(tg:qw)(R:It->Hp->Prop)(itv:qx)(s2:qj):Prop:=
 ∃ (it:qv) (fp:List qv) (tn:Nat->Heap->Prop) (J:It) (H':Hp),itv=.ref it/\Inv X aB σ H' s2/\Turn X.prog X.w X.K tg J fp it tn/\tn 0 s2.heap/\(∀ b∈fp,gI X aB H' b)/\R J H'
def PI(X:Cx)(tg iter:qw)(wi:TI):Prop:=
 ∀ (aB:List (qv×Obj)) (s:qj) (σ:St) (H:Hp) (R:It->Hp->Prop),Inv X aB σ H s->wi σ H R ->
  qy (model X.prog X.w) X.A (eval iter X.env) (λ v s1=>qy (model X.prog X.w) X.A (pyIter v) (PIE X aB σ tg R) X.xe s1) X.xe s
theorem aAf{M:Model}{A:zy}{E:qx->qj->Prop}{s:qj}{tg:qw}{it:qv}{u:qx}{o:Obj}{n:String}{vs:Array qx}{Q:Unit->qj->Prop}(ho:s.heap.get? it=qq o)(hc:o.cls=.type n)(hd:o.data=.fields vs)
 (hn:["enumerate", "zip", "dict_itemiterator", "dict_reverseitemiterator", "odict_iterator", "itertools.zip_longest", "itertools.pairwise"].contains n=false) (hQ:Q () s):qy M A (yk tg (.ref it) u) Q E s:=by
 unfold yk;cases tg<;>first
  | exact wP hQ
  | (cases u<;>first
      | exact wP hQ
      | (refine wB (wpAny_load ho ?_)
         rw[hc,hd];show qy M A (if (["enumerate", "zip", "dict_itemiterator", "dict_reverseitemiterator", "odict_iterator", "itertools.zip_longest", "itertools.pairwise"].contains n&&vs[0]?==qq (jy _))=true then _ else _) Q E s
         rw[if_neg (by intro h;rw[hn,yBh] at h;cases h)]
         exact wP hQ))
noncomputable def Itl(K:FrG)(a:qv):It:=
 ⟨λ i H=>∃ xs x,bW K H a xs/\xs[i]? = qq x,λ i H x H'=>H'=H/\∀ xs,bW K H a xs->xs[i]? = qq x,λ i H=>∃ xs,bW K H a xs/\xs.length<=i⟩
noncomputable def Itt(K:FrG)(a:qv):It:=
 ⟨λ i H=>∃ xs x,bZ K H a xs/\xs[i]? = qq x,λ i H x H'=>H'=H/\∀ xs,bZ K H a xs->xs[i]? = qq x,λ i H=>∃ xs,bZ K H a xs/\xs.length<=i⟩
noncomputable def Itr(lo:Int)(n:Nat):It:=⟨λ i _=>i<n,λ i H x H'=>H'=H/\x=.int (lo+i),λ i _=>n<=i⟩
theorem aLM{P:zq}{w:zw}{K:FrG}{tg:qw}(a it:qv):Turn P w K tg (Itl K a) [it] it (λ i h=>h.IsListIter it a i) where
 mem:=by simp
 obj:=λ i h st b hb=>by
  have e:b=it:=by simpa using hb
  subst e;obtain⟨o,e,c,d⟩:=st;exact⟨o,e,λ v z=>by rw[d] at z;cases z⟩
 keep:=λ i h h' st k=>st.at λ o e=>k it (by simp) o e
 item:=by
  intro X hP hw hK hc i aB s σ H E I hf st hg;subst hP hw hK;obtain⟨xs,x,hq,hx⟩:=hg;obtain⟨aG,rv,p,hz⟩:=I.list hq;obtain⟨u,hu,ru⟩:=rv.get hx;obtain⟨f0,f1,f2,f3,f4,f5⟩:=hf it (by simp)
  refine yq st p.isList (x:=u) (by simpa using hu) λ h' st' sb=>?_
  have I1:Inv X aB σ H {s with heap:=h' }:=I.turned (t':=s.toks) (λ b o hb e=>(sb.2 b hb).trans e) f0 f1 f3 f4 f5
  obtain⟨o,e,c,d⟩:=id st';exact⟨u,rfl,aAf (s:={s with heap:=h' }) e c d (by decide) ⟨x,H,I1,ru,⟨rfl,λ ys hy=>by rw[I.list_inj hy hq];exact hx⟩,st',λ b hb=>(hf b hb).1⟩⟩
 done:=by
  intro X hP hw hK hc i aB s σ H E I hf st hg;subst hP hw hK;obtain⟨xs,hq,hx⟩:=hg;obtain⟨aG,rv,p,hz⟩:=I.list hq;obtain⟨f0,f1,f2,f3,f4,f5⟩:=hf it (by simp)
  have hl:=rv.length;exact yj (I.ok.hd hc) st p.isList (by simp;omega) λ h' eb=>⟨rfl,I.turned (t':=s.toks) (λ b o hb e=>eb b o hb e) f0 f1 f3 f4 f5⟩
 self:=λ _ _ _ _ _ st h=>wpAny_pyIter_listiter st h
theorem aLb{P:zq}{w:zw}{K:FrG}{tg:qw}(a it:qv):Turn P w K tg (Itt K a) [it] it (λ i h=>h.IsTupleIter it a i) where
 mem:=by simp
 obj:=λ i h st b hb=>by
  have e:b=it:=by simpa using hb
  subst e;obtain⟨o,e,c,d⟩:=st;exact⟨o,e,λ v z=>by rw[d] at z;cases z⟩
 keep:=λ i h h' st k=>st.at λ o e=>k it (by simp) o e
 item:=by
  intro X hP hw hK hc i aB s σ H E I hf st hg;subst hP hw hK;obtain⟨xs,x,hq,hx⟩:=hg;obtain⟨aG,rv,p,hz⟩:=I.tuple hq;obtain⟨u,hu,ru⟩:=rv.get hx;obtain⟨f0,f1,f2,f3,f4,f5⟩:=hf it (by simp)
  refine wpAny_pyNext_tuple_item st (show s.heap.IsTuple a aG.toArray from p) (x:=u) (by simpa using hu) λ h' st' sb=>?_
  have I1:Inv X aB σ H {s with heap:=h' }:=I.turned (t':=s.toks) (λ b o hb e=>(sb.2 b hb).trans e) f0 f1 f3 f4 f5
  obtain⟨o,e,c,d⟩:=id st';exact⟨u,rfl,aAf (s:={s with heap:=h' }) e c d (by decide) ⟨x,H,I1,ru,⟨rfl,λ ys hy=>by rw[I.tuple_inj hy hq];exact hx⟩,st',λ b hb=>(hf b hb).1⟩⟩
 done:=by
  intro X hP hw hK hc i aB s σ H E I hf st hg;subst hP hw hK;obtain⟨xs,hq,hx⟩:=hg;obtain⟨aG,rv,p,hz⟩:=I.tuple hq;obtain⟨f0,f1,f2,f3,f4,f5⟩:=hf it (by simp)
  have hl:=rv.length;exact wpAny_pyNext_tuple_end (I.ok.hd hc) st (show s.heap.IsTuple a aG.toArray from p) (by simp;omega) λ h' eb=>⟨rfl,I.turned (t':=s.toks) (λ b o hb e=>eb b o hb e) f0 f1 f3 f4 f5⟩
 self:=λ _ _ _ _ _ st h=>wpAny_pyIter_tupleiter st h
theorem aLg{P:zq}{w:zw}{K:FrG}{tg:qw}(it:qv)(lo:Int)(n:Nat):Turn P w K tg (Itr lo n) [it] it (λ i h=>ky h it (lo+(i:Nat)*1) ((n:Int)-(i:Nat)) 1) where
 mem:=by simp
 obj:=λ i h st b hb=>by
  have e:b=it:=by simpa using hb
  subst e;exact⟨_,st,λ v z=>by
   have z':Data.fields _=Data.cell v:=z;cases z'⟩
 keep:=λ i h h' st k=>k it (by simp) _ st
 item:=by
  intro X hP hw hK hc i aB s σ H E I hf st hg;subst hP hw hK;obtain⟨f0,f1,f2,f3,f4,f5⟩:=hf it (by simp)
  have W:=Walks.range (prog:=X.prog) (w:=X.w) (I.ok.hd hc) it lo 1 n;refine W.item i s _ _ hg st λ v h' tk hv st' kk=>?_
  obtain⟨t,rfl⟩:=hv;have I1:Inv X aB σ H {s with heap:=h',toks:=tk }:=I.turned (λ b o hb e=>kk b o (by simpa using hb) e) f0 f1 f3 f4 f5
  refine⟨_,rfl,aAf (s:={s with heap:=h',toks:=tk }) (n:="range_iterator") st' rfl rfl (by decide) ⟨.int (lo+i),H,I1,⟨t,?_⟩,⟨rfl,rfl⟩,st',λ b hb=>(hf b hb).1⟩⟩
  rw[Int.mul_one]
 done:=by
  intro X hP hw hK hc i aB s σ H E I hf st hg;subst hP hw hK;obtain⟨f0,f1,f2,f3,f4,f5⟩:=hf it (by simp)
  exact wpAny_pyNext_range_end (I.ok.hd hc) st (by have:n<=i:=hg;omega) λ h' eb=>⟨rfl,I.turned (t':=s.toks) (λ b o hb e=>eb b o hb e) f0 f1 f3 f4 f5⟩
 self:=λ _ _ _ _ _ st h=>yz st h
end L2
namespace L2
open PySem PySem.Spec PyProof.Rows
section
variable {X : Cx}{tg : qw}
noncomputable def aS1(K:FrG)(tl:TE):TI:=λ σ H R=>tl σ H λ x H1=>∃ a,x=.ref a/\(∃ xs,bW K H1 a xs)/\R (Itl K a) H1
noncomputable def aVH(K:FrG)(tl:TE):TI:=λ σ H R=>tl σ H λ x H1=>∃ a,x=.ref a/\(∃ xs,bZ K H1 a xs)/\R (Itt K a) H1
theorem aOV{l:qw}{tl:TE}(hl:PE X l tl):PI X tg l (aS1 X.K tl):=by
 intro aB s σ H R I h;refine bD (hl aB s σ H _ I h) λ v s1 hPq15=>?_
 obtain⟨x,H1,I1,r1,q1⟩:=hPq15;obtain⟨a,e,⟨xs,hq⟩,q⟩:=q1;subst e;cases r1;obtain⟨aG,rv,p,hz⟩:=I1.list hq;refine jw p.isList ?_;refine⟨s1.heap.objs.size,[s1.heap.objs.size],_,_,H1,rfl,I1.kept (t':=s1.toks) λ b o e=>hpS _ e,aLM a _,⟨_,xAd _ rfl,rfl,rfl⟩,λ b hb=>?_,q⟩
 have e:b=s1.heap.objs.size:=by simpa using hb
 subst e;exact I1.fpOk (yAc _) (I1.hok.fresh (yAc _))
theorem aR4{l:qw}{tl:TE}(hl:PE X l tl):PI X tg l (aVH X.K tl):=by
 intro aB s σ H R I h;refine bD (hl aB s σ H _ I h) λ v s1 hPq16=>?_
 obtain⟨x,H1,I1,r1,q1⟩:=hPq16;obtain⟨a,e,⟨xs,hq⟩,q⟩:=q1;subst e;cases r1;obtain⟨aG,rv,p,hz⟩:=I1.tuple hq;refine jo (show s1.heap.IsTuple a aG.toArray from p) ?_
 refine⟨s1.heap.objs.size,[s1.heap.objs.size],_,_,H1,rfl,I1.kept (t':=s1.toks) λ b o e=>hpS _ e,aLb a _,⟨_,xAd _ rfl,rfl,rfl⟩,λ b hb=>?_,q⟩
 have e:b=s1.heap.objs.size:=by simpa using hb
 subst e;exact I1.fpOk (yAc _) (I1.hok.fresh (yAc _))
theorem aNj{aB:List (qv×Obj)}{σ:St}{H:Hp}{s:qj}{R:It->Hp->Prop}{E:qx->qj->Prop}{lo hi:Int}{t u v:Tok}{tk:Nat}(I:Inv X aB σ H s)(h1 : -(2^62)<=lo)(h2:lo<2^62)(h3 : -(2^62)<=hi)(h4:hi<2^62)
 (q:R (Itr lo (hi-lo).toNat) H):qy (model X.prog X.w) X.A (pyIter (.ref s.heap.objs.size)) (PIE X aB σ tg R) E {s with heap:=s.heap.push {cls:=.type "range",data:=.fields #[.int lo t,.int hi u,.int 1 v] },toks:=tk }:=by
 refine wpAny_pyIter_range (IsRange.new ..) (small_one h1 h2 h3 h4) ?_;have I1:Inv X aB σ H {s with heap:=s.heap.push {cls:=.type "range",data:=.fields #[.int lo t,.int hi u,.int 1 v] },toks:=tk }:=I.kept λ b o e=>hpS _ e
 refine⟨(s.heap.push {cls:=.type "range",data:=.fields #[.int lo t,.int hi u,.int 1 v] }).objs.size,[(s.heap.push {cls:=.type "range",data:=.fields #[.int lo t,.int hi u,.int 1 v] }).objs.size],_,_,H,rfl,
  I1.kept (t':=tk) λ b o e=>hpS _ e,aLg _ lo (hi-lo).toNat,?_,λ b hb=>?_,q⟩
 ·have e1:lo+((0:Nat):Int)*1=lo:=by simp
  have e2:(((hi-lo).toNat:Nat):Int)-((0:Nat):Int)=yAk lo hi 1:=by rw[rangeSize_one];split<;>omega
  show ky _ _ (lo+((0:Nat):Int)*1) ((((hi-lo).toNat:Nat):Int)-((0:Nat):Int)) 1;rw[e1,e2];exact xAd _ rfl
 ·have e:b=(s.heap.push {cls:=.type "range",data:=.fields #[.int lo t,.int hi u,.int 1 v] }).objs.size:=by simpa using hb
  subst e;exact I1.fpOk (yAc _) (I1.hok.fresh (yAc _))
noncomputable def aIH(ta:TA):TI:=λ σ H R=>ta σ H λ vs H1=>∃ j:Int,vs=[.int j] /\ -(2^62)<=j/\j<2^62/\R (Itr 0 j.toNat) H1
theorem aLR{a:qw}{ta:TA}{p pos:Pos}(hg:Gl X "range")(hm:X.mg "range" = qz)(ha:PA X [a] ta)(hs:qo [a] X.env=[(false,eval a X.env)]:=by rfl):PI X tg (.Call (.Name "range" p) [a] [] pos) (aIH ta):=by
 intro aB s σ H R I h;refine Call_ (jN I hg hm boot_range (yAv (bD (ha pos aB s σ H _ I h) λ us s1 hPq17=>?_) hs rfl))
 obtain⟨vs,H1,I1,r1,q1⟩:=hPq17;obtain⟨j,e,q1,q2,q⟩:=q1;subst e;cases r1 with
 | cons r rr =>
   cases rr;obtain⟨t,rfl⟩:=r;exact call_range_1 (aNj I1 (by omega) (by omega) q1 q2 (by simpa using q))
noncomputable def aU3(wi:TI)(g:TG)(tb:TS):TS:=λ D σ H=>wi σ H λ J H1=>∃ W:Nat->Nat->St->Hp->Prop,(∃ m,W 0 m σ H1)/\∀ i m σ H,W i m σ H ->
 (J.stop i H/\D.nx σ H)\/(J.go i H/\∃ N:St->Hp->Prop,(∀ σ' H',N σ' H'->∃ m',m'<m/\W (i+1) m' σ' H')/\∀ x H',J.yld i H x H'->g x σ H' λ σ2 H2=>tb {D with nx:=N,ct:=N,bk:=D.nx } σ2 H2)
noncomputable def uM(fp:List qv)(h:Heap):List (qv×Obj):=fp.filterMap λ b=>(h.get? b).map λ o=>(b,o)
theorem sV{fp:List qv}{h:Heap}{b:qv}{o:Obj}(hb:b∈fp)(e:h.get? b=qq o):(b,o)∈uM fp h:=List.mem_filterMap.mpr ⟨b,hb,by rw[e];rfl⟩
theorem aMq{fp:List qv}{h:Heap}{p:qv×Obj}(hp:p∈uM fp h):p.1∈fp/\h.get? p.1=qq p.2:=by
 obtain⟨b,hb,e⟩:=List.mem_filterMap.mp hp;cases q:h.get? b with
 | none=>rw[q] at e;cases e
 | some o =>
   rw[q] at e;have e':(b,o)=p:=Option.some.inj e;subst e';exact⟨hb,q⟩
theorem Inv.pinned{aB:List (qv×Obj)}{σ:St}{H:Hp}{s:qj}{fp:List qv}(I:Inv X aB σ H s)(hf:∀ b∈fp,gI X aB H b)(ho:∀ b∈fp,∃ o,s.heap.get? b=qq o/\∀ v,o.data≠.cell v):Inv X (aB++uM fp s.heap) σ H s:=
 I.pins_of λ p hp=>(List.mem_append.mp hp).elim (λ z=>I.pin p (xAp _ z)) λ z=>by
  obtain⟨hb,e⟩:=aMq z;obtain⟨f0,f1,f2,_⟩:=hf p.1 hb;obtain⟨o,e',d⟩:=ho p.1 hb;rw[e] at e';cases e';exact⟨e,f0,f1,f2,d⟩
theorem Inv.unpinned{aB pl:List (qv×Obj)}{σ:St}{H:Hp}{s:qj}(I:Inv X (aB++pl) σ H s):Inv X aB σ H s:=I.pins_of λ p hp=>I.pin p (xAp _ (List.mem_append_left _ hp))
theorem aP9{iter:qw}{body:List jz}{wi:TI}{g:TG}{tb:TS}{pos:Pos}(hp:PassesOwn (model X.prog X.w) X.A X.env X.xe)(hc:X.calm=true)(hi:PI X tg iter wi)(hg:PG X tg g)(hb:dZ X body tb)
 (hs:∀ x,jj iter X.env x=pure x:=by intro _;rfl):PS X (.For tg iter body [] pos) (aU3 wi g tb):=by
 intro aB s σ H D I h;refine wpAny_For (bD (hi aB s σ H _ I h) λ v s1 h1=>bD h1 λ itv s2 h2=>?_) hs
 obtain⟨it,fp,tn,J,H2,e,I2,T,st2,f2,W,⟨m0,w0⟩,turn⟩:=h2;subst e;have stat:∀ {H':Hp},(∀ b∈fp,H' b=qz)->∀ b∈fp,gI X aB H' b:=λ hn b hb=>⟨hn b hb,(f2 b hb).2⟩
 refine codeAny_forLoop_any (λ n s'=>∃ i σ' H',Inv X aB σ' H' s'/\tn i s'.heap/\(∀ b∈fp,H' b=qz)/\W i n σ' H') ?_ m0 ⟨0,σ,H2,I2,st2,λ b hb=>(f2 b hb).1,w0⟩
 rintro n s3 ⟨i,σ3,H3,I3,st3,fr3,w3⟩;rcases turn i n σ3 H3 w3 with ⟨stop,qn⟩ | ⟨go,N,hN,step⟩
 ·refine wq hp (bD (T.done X rfl rfl rfl hc i aB s3 σ3 H3 X.xe I3 (stat fr3) st3 stop) λ r s4 hPq18=>?_)
  obtain⟨hr,I4⟩:=hPq18;subst hr;exact wpAny_execs_nil ⟨σ3,H3,I4,qn⟩
 ·refine wq hp (bD (T.item X rfl rfl rfl hc i aB s3 σ3 H3 X.xe I3 (stat fr3) st3 go) λ r s4 hPq19=>?_)
  obtain⟨u,hr,h4⟩:=hPq19;subst hr;refine wq hp (bD h4 λ _ s5 hPq20=>?_)
  obtain⟨x,H5,I5,r5,y5,st5,fr5⟩:=hPq20;have I5':=I5.pinned (stat fr5) (T.obj _ _ st5);refine wq hp (bD (hg _ s5 σ3 H5 x u _ I5' r5 (step x H5 y5)) λ _ s6 hPq21=>?_)
  obtain⟨σ6,H6,I6,q6⟩:=hPq21;refine wq hp (bD (hb _ s6 σ6 H6 _ I6 q6) λ f s7 q7=>?_)
  have again:∀ {σ7:St}{H7:Hp},Inv X (aB++uM fp s5.heap) σ7 H7 s7->N σ7 H7->∃ m,m<n/\∃ i σ' H',Inv X aB σ' H' s7/\tn i s7.heap/\(∀ b∈fp,H' b=qz)/\W i m σ' H':=λ {σ7 H7} I7 n7=>by
   obtain⟨m',hm,w7⟩:=hN σ7 H7 n7;refine⟨m',hm,i+1,σ7,H7,I7.unpinned,T.keep _ _ _ st5 λ b hb o e=>(I7.pin (b,o) (xAp _ (xAp _ (sV hb e)))).1,λ b hb=>?_,w7⟩
   obtain⟨o,e,d⟩:=T.obj _ _ st5 b hb;exact(I7.pin (b,o) (xAp _ (xAp _ (sV hb e)))).2.1
  cases f with
  | next=>obtain⟨σ7,H7,I7,n7⟩:=q7;exact again I7 n7
  | cont=>obtain⟨σ7,H7,I7,n7⟩:=q7;exact again I7 n7
  | brk=>obtain⟨σ7,H7,I7,q7⟩:=q7;exact⟨σ7,H7,I7.unpinned,q7⟩
  | ret v=>obtain⟨x7,σ7,H7,I7,r7,q7⟩:=q7;exact⟨x7,σ7,H7,I7.unpinned,r7,q7⟩
end
end L2
namespace L2
open PySem PySem.Spec PyProof.Rows
noncomputable abbrev R2:=V->V->Hp->VK->Prop
def cZ(X:Cx)(f:qx->qx->Sem qx)(r:R2):Prop:=
 ∀ (aB:List (qv×Obj)) (s:qj) (σ:St) (H:Hp) (x y:V) (v u:qx) (Q:VK),Inv X aB σ H s->bC x v->bC y u->r x y H Q ->
  qy (model X.prog X.w) X.A (f v u) (EP X aB σ Q) X.xe s
def UnR(X:Cx)(f:qx->Sem qx)(r:V->Hp->VK->Prop):Prop:=
 ∀ (aB:List (qv×Obj)) (s:qj) (σ:St) (H:Hp) (x:V) (v:qx) (Q:VK),Inv X aB σ H s->bC x v->r x H Q ->
  qy (model X.prog X.w) X.A (f v) (EP X aB σ Q) X.xe s
def eQ(X:Cx)(f:qx)(r:List V->Hp->VK->Prop):Prop:=
 ∀ (aB:List (qv×Obj)) (s:qj) (σ:St) (H:Hp) (xs:List V) (us:List qx) (Q:VK),Inv X aB σ H s->aZ xs us->r xs H Q ->
  qy (model X.prog X.w) X.A (call f us) (EP X aB σ Q) X.xe s
def aVL(X:Cx)(r:V->Hp->(Bool->Hp->Prop)->Prop):Prop:=
 ∀ (aB:List (qv×Obj)) (s:qj) (σ:St) (H:Hp) (x:V) (v:qx) (Q:Bool->Hp->Prop),Inv X aB σ H s->bC x v->r x H Q ->
  qy (model X.prog X.w) X.A (truthy v) (TP X aB σ Q) X.xe s
noncomputable def wF(r:R2)(ta tb:TE):TE:=λ σ H Q=>ta σ H λ x H1=>tb σ H1 λ y H2=>r x y H2 Q
noncomputable def tUn(r:V->Hp->VK->Prop)(ta:TE):TE:=λ σ H Q=>ta σ H λ x H1=>r x H1 Q
noncomputable def rI(C:Int->Int->Prop)(g:Int->Int->V):R2:=λ x y H Q=>∃ i j,x=.int i/\y=.int j/\C i j/\Q (g i j) H
noncomputable def jF(g:Int->Int->V):R2:=λ x y H Q=>∃ i j,x=.int i/\y=.int j/\Q (g i j) H
noncomputable def rU(g:Int->V):V->Hp->VK->Prop:=λ x H Q=>∃ i,x=.int i/\Q (g i) H
section
variable {X : Cx}{a b c : qw}{ta tb tc : TE}{pos : Pos}
theorem aDG(ha:PE X a ta)(hb:PE X b tb){aB:List (qv×Obj)}{s:qj}{σ:St}{H:Hp}{R:V->V->Hp->Prop}(I:Inv X aB σ H s)
 (h:ta σ H λ x H1=>tb σ H1 λ y H2=>R x y H2) {Q:qx->qj->Prop}{f:qx->qx->Sem qx}
 (hf:∀ v u s2 x y H2,Inv X aB σ H2 s2->bC x v->bC y u->R x y H2->qy (model X.prog X.w) X.A (f v u) Q X.xe s2) :
 qy (model X.prog X.w) X.A (eval a X.env) (λ v s₁=>qy (model X.prog X.w) X.A (eval b X.env) (λ u s₂=>qy (model X.prog X.w) X.A (f v u) Q X.xe s₂) X.xe s₁) X.xe s:=by
 refine bD (ha aB s σ H _ I h) λ v s1 hPq22=>?_
 obtain⟨x,H1,I1,r1,q1⟩:=hPq22;refine bD (hb aB s1 σ H1 _ I1 q1) λ u s2 hPq23=>?_
 obtain⟨y,H2,I2,r2,q2⟩:=hPq23;exact hf v u s2 x y H2 I2 r1 r2 q2
theorem aIM{op:vj}{r:R2}(ho:cZ X (xz op) r)(ha:PE X a ta)(hb:PE X b tb):PE X (.BinOp a op b pos) (wF r ta tb):=by
 intro aB s σ H Q I h;exact wpAny_BinOp (aDG ha hb I h λ v u s2 x y H2 I2 rx ry q=>ho aB s2 σ H2 x y v u Q I2 rx ry q)
theorem aSG{op:kq}{r:V->Hp->VK->Prop}(ho:UnR X (unaryOp op) r)(ha:PE X a ta):PE X (.UnaryOp op a pos) (tUn r ta):=by
 intro aB s σ H Q I h;exact UnaryOp_ (bD (ha aB s σ H _ I h) λ v s1 ⟨x,H1,I1,r1,q1⟩=>ho aB s1 σ H1 x v Q I1 r1 q1)
theorem wO{f:qx->qx->Sem qx}{C:Int->Int->Prop}{g:Int->Int->Int}
 (rule:∀ (i j:Int) (t u:Tok) (s:qj) (Q:qx->qj->Prop) (E:qx->qj->Prop),C i j->Q (.int (g i j) s.toks) {s with toks:=s.toks+1 }->qy (model X.prog X.w) X.A (f (.int i t) (.int j u)) Q E s) :
 cZ X f (rI C λ i j=>.int (g i j)):=by
 intro aB s σ H x y v u Q I rx ry h;obtain⟨i,j,rfl,rfl,hc,q⟩:=h;obtain⟨t,rfl⟩:=rx;obtain⟨t',rfl⟩:=ry;exact rule i j t t' s _ _ hc ⟨.int (g i j),H,I.tok _,⟨_,rfl⟩,q⟩
theorem vL{f:qx->qx->Sem qx}{g:Int->Int->Int}
 (rule:∀ (i j:Int) (t u:Tok) (s:qj) (Q:qx->qj->Prop) (E:qx->qj->Prop),Q (.int (g i j) s.toks) {s with toks:=s.toks+1 }->qy (model X.prog X.w) X.A (f (.int i t) (.int j u)) Q E s) :
 cZ X f (jF λ i j=>.int (g i j)):=by
 intro aB s σ H x y v u Q I rx ry h;obtain⟨i,j,rfl,rfl,q⟩:=h;obtain⟨t,rfl⟩:=rx;obtain⟨t',rfl⟩:=ry;exact rule i j t t' s _ _ ⟨.int (g i j),H,I.tok _,⟨_,rfl⟩,q⟩
theorem aAz{f:qx->qx->Sem qx}{g:Int->Int->Bool}
 (rule:∀ (i j:Int) (t u:Tok) (s:qj) (Q:qx->qj->Prop) (E:qx->qj->Prop),Q (.bool (g i j)) s->qy (model X.prog X.w) X.A (f (.int i t) (.int j u)) Q E s) :
 cZ X f (jF λ i j=>.bl (g i j)):=by
 intro aB s σ H x y v u Q I rx ry h;obtain⟨i,j,rfl,rfl,q⟩:=h;obtain⟨t,rfl⟩:=rx;obtain⟨t',rfl⟩:=ry;exact rule i j t t' s _ _ ⟨.bl (g i j),H,I,rfl,q⟩
def aUN(i j:Int):Prop:=0<=j/\j<=1000000/\i.natAbs<2^64
theorem aLy(k:Nat):(0:Int)<=2^k:=by
 rw[two_pow_cast];exact yFv _
theorem aQU:cZ X (xz .Add) (jF λ i j=>.int (i+j)):=vL λ _ _ _ _ _ _ _ q=>add_int q
theorem aRE:cZ X (xz .Sub) (jF λ i j=>.int (i-j)):=vL λ _ _ _ _ _ _ _ q=>sub_int q
theorem aN1:cZ X (xz .Mod) (rI (λ _ j=>j≠0) λ i j=>.int (i.fmod j)):=wO λ _ _ _ _ _ _ _ hc q=>mod_int' hc q
theorem aRp:cZ X (xz .Pow) (rI aUN λ i j=>.int (i^j.toNat)):=wO λ _ _ _ _ _ _ _ hc q=>pow_int_small hc.1 hc.2.1 hc.2.2 q
theorem aRw:cZ X (xz .RShift) (rI (λ _ j=>0<=j) λ i j=>.int (i/2^j.toNat)):=wO λ i j _ _ _ _ _ hc q =>
 rshift_int hc (by rw[Int.fdiv_eq_ediv_of_nonneg i (aLy _)];exact q)
theorem aQ2:cZ X (xz .BitAnd) (jF λ i j=>.int (yDy i j)):=vL λ _ _ _ _ _ _ _ q=>and_int q
theorem aS6:cZ X (xz .BitOr) (jF λ i j=>.int (yGh i j)):=vL λ _ _ _ _ _ _ _ q=>or_int q
theorem aPW:cZ X (xz .BitXor) (jF λ i j=>.int (yGa i j)):=vL λ _ _ _ _ _ _ _ q=>xor_int q
theorem unI{f:qx->Sem qx}{g:Int->Int}
 (rule:∀ (i:Int) (t:Tok) (s:qj) (Q:qx->qj->Prop) (E:qx->qj->Prop),Q (.int (g i) s.toks) {s with toks:=s.toks+1 }->qy (model X.prog X.w) X.A (f (.int i t)) Q E s) :
 UnR X f (rU λ i=>.int (g i)):=by
 intro aB s σ H x v Q I rx h;obtain⟨i,rfl,q⟩:=h;obtain⟨t,rfl⟩:=rx;exact rule i t s _ _ ⟨.int (g i),H,I.tok _,⟨_,rfl⟩,q⟩
theorem aSc:UnR X (unaryOp .USub) (rU λ i=>.int (-i)):=unI λ _ _ _ _ _ q=>neg_int q
theorem aRM:UnR X (unaryOp .Invert) (rU λ i=>.int (yBn i)):=unI λ _ _ _ _ _ q=>invert_int q
end
section
variable {X : Cx}{a b c : qw}{ta tb tc : TE}{pos : Pos}
theorem aH6{aB:List (qv×Obj)}{σ:St}{H:Hp}{s:qj}{Q:VK}{k k':Bool}(I:Inv X aB σ H s)(q:Q (.bl k) H)(e:k=k'):EP X aB σ Q (.bool k') s:=by
 subst e;exact⟨.bl k,H,I,rfl,q⟩
theorem aTM:cZ X (jx .Lt) (jF λ i j=>.bl (decide (i<j))):=aAz λ _ _ _ _ _ _ _ q=>lt_int q
theorem aSR:cZ X (jx .LtE) (jF λ i j=>.bl (decide (i<=j))):=aAz λ _ _ _ _ _ _ _ q=>le_int q
theorem aSt:cZ X (jx .Gt) (jF λ i j=>.bl (decide (j<i))):=aAz λ _ _ _ _ _ _ _ q=>gt_int q
theorem aUu:cZ X (jx .GtE) (jF λ i j=>.bl (decide (j<=i))):=aAz λ _ _ _ _ _ _ _ q=>ge_int q
theorem aQB:cZ X (jx .Is) (λ x y H Q=>y=.non/\Q (.bl (decide (x=.non))) H):=by
 intro aB s σ H x y v u Q I rx ry h;obtain⟨rfl,q⟩:=h;cases ry;refine is_none_gen (aH6 I q ?_);cases x<;>first
  | (cases rx;rfl)
  | (obtain⟨t,rfl⟩:=rx;rfl)
theorem aPb:cZ X (jx .IsNot) (λ x y H Q=>y=.non/\Q (.bl (!decide (x=.non))) H):=by
 intro aB s σ H x y v u Q I rx ry h;obtain⟨rfl,q⟩:=h;cases ry;refine isnot_none_gen (aH6 I q ?_);cases x<;>first
  | (cases rx;rfl)
  | (obtain⟨t,rfl⟩:=rx;rfl)
theorem aVV(b:qw){op:vk}(h:op≠.In:=by decide)(h2:op≠.NotIn:=by decide):vz op b=false:=by
 have e1:(op==CmpOp.In)=false:=by cases op<;>first | rfl | exact absurd rfl h
 have e2:(op==CmpOp.NotIn)=false:=by cases op<;>first | rfl | exact absurd rfl h2
 cases b<;>simp[vz,e1,e2]
theorem aOZ{op:vk}{r:R2}(ho:cZ X (jx op) r)(ha:PE X a ta)(hb:PE X b tb)(hm:vz op b=false):PE X (.Compare a [op] [b] pos) (wF r ta tb):=by
 intro aB s σ H Q I h;exact wpAny_Compare1 (aDG ha hb I h λ v u s2 x y H2 I2 rx ry q=>ho aB s2 σ H2 x y v u Q I2 rx ry q) hm
noncomputable def aTu(t:TE):TT:=λ σ H Q=>t σ H λ x H'=>∃ k,x=.bl k/\Q k H'
theorem aNT{op:vk}{r:R2}(ho:cZ X (jx op) r)(ha:PE X a ta)(hb:PE X b tb)(hm:vz op b=false):PT X (.Compare a [op] [b] pos) (aTu (wF r ta tb)):=by
 intro aB s σ H Q I h;refine wpAny_isTrue_Compare1 (bD (ha aB s σ H _ I h) λ v s1 ⟨x,H1,I1,r1,q1⟩=>bD (hb aB s1 σ H1 _ I1 q1) λ u s2 ⟨y,H2,I2,r2,q2⟩ =>
  bD (ho aB s2 σ H2 x y v u _ I2 r1 r2 q2) λ c s3 ⟨z,H3,I3,r3,k,e,q3⟩=>?_) hm
 subst e;cases r3;exact jv ⟨H3,I3,q3⟩
def aDh(K:FrG)(x:V)(H:Hp)(k:Bool):Prop:=
 match x with
 | .non=>k=false
 | .bl b=>k=b
 | .int i=>k=(i != 0)
 | .str y=>y.length<=qk/\k=((y.length:Int) != 0)
 | .byt y=>y.size<=qk/\k=((y.size:Int) != 0)
 | .ref p=>(∃ xs,bW K H p xs/\k = !xs.isEmpty)\/(∃ xs,bZ K H p xs/\k = !xs.isEmpty)\/∃ aX,H p=qq (.dK aX)/\k = !aX.isEmpty
 | _=>False
theorem aLH{κ:Type}{aX:List (κ×V)}{vs:List (κ×qx)}(r:KV aX vs):(!vs.isEmpty) = !aX.isEmpty:=by
 cases r<;>rfl
theorem aE1{xs:List V}{aG:List qx}(r:aZ xs aG):(!aG.toArray.isEmpty) = !xs.isEmpty:=by
 cases r<;>simp
theorem oS:(qk:Nat)<2^63:=by rw[zv];decide
theorem aQr:aVL X (λ x H Q=>∃ k,aDh X.K x H k/\Q k H):=by
 intro aB s σ H x v Q I rx h;obtain⟨k,e,q⟩:=h;have hl:=oS;have hs:qk=16777216:=zv;cases x with
 | non =>
   cases rx;have e':k=false:=e;subst e';exact truthy_none ⟨H,I,q⟩
 | bl b =>
   cases rx;have e':k=b:=e;subst e';exact jv ⟨H,I,q⟩
 | int i =>
   obtain⟨t,rfl⟩:=rx;have e':k=(i != 0):=e;subst e';exact PySem.P.truthy_int ⟨H,I,q⟩
 | str y =>
   obtain⟨t,rfl⟩:=rx;obtain⟨hy,e'⟩:y.length<=qk/\k=((y.length:Int) != 0):=e;subst e';exact PySem.P.truthy_str (by omega) ⟨H,I.tok _,q⟩
 | byt y =>
   obtain⟨t,rfl⟩:=rx;obtain⟨hy,e'⟩:y.size<=qk/\k=((y.size:Int) != 0):=e;subst e';exact PySem.W.truthy_bytes (by omega) ⟨H,I.tok _,q⟩
 | ref p =>
   cases rx;have e':(∃ xs,bW X.K H p xs/\k = !xs.isEmpty)\/(∃ xs,bZ X.K H p xs/\k = !xs.isEmpty)\/∃ aX,H p=qq (.dK aX)/\k = !aX.isEmpty:=e;rcases e' with ⟨xs,hx,e'⟩ | ⟨xs,hx,e'⟩ | ⟨aX,hx,e'⟩
   ·subst e';obtain⟨aG,r,pl,hz⟩:=I.list hx;have cT:=r.length;exact wpAny_truthy_list pl.isList (by simp only[yAg];omega) ⟨H,I.tok _,by rw[aE1 r];exact q⟩
   ·subst e';obtain⟨aG,r,pl,hz⟩:=I.tuple hx;have cT:=r.length;exact truthy_tuple pl (by simp only[yAg];omega) ⟨H,I.tok _,by rw[aE1 r];exact q⟩
   ·subst e';obtain⟨hz,hS,vs,r,m⟩:aX.length<=qk/\(p==sysModules)=false/\∃ vs,KV aX vs/\s.heap.DictOf (mZ X.prog X.w) p vs:=I.hok p _ hx;have cT:aX.length=vs.length:=Paired.length r;exact wpAny_truthy_dict hS m (by omega) ⟨H,I.tok _,by rw[aLH r];exact q⟩
 | _=>exact(show False from e).elim
theorem aNP(ha:PE X a ta)(he:∀ fJ,isTrue a X.env fJ=(do let v <- fJ;standAt a.pos;holding [v] (truthy v))) :
 PT X a (λ σ H Q=>ta σ H λ x H'=>∃ k,aDh X.K x H' k/\Q k H'):=by
 intro aB s σ H Q I h;exact isTrue_plain (bD (ha aB s σ H _ I h) λ v s1 ⟨x,H1,I1,r1,q1⟩=>aQr aB s1 σ H1 x v Q I1 r1 q1) (he _)
theorem aLc:cZ X (xz .Add) (λ x y H Q=>∃ i j,x=.str i/\y=.str j/\i.length+j.length<=qk/\Q (.str (i++j)) H):=by
 intro aB s σ H x y v u Q I rx ry h;obtain⟨i,j,rfl,rfl,hz,q⟩:=h;obtain⟨t,rfl⟩:=rx;obtain⟨t',rfl⟩:=ry;exact add_str (λ t' tk=>⟨.str (i++j),H,I.tok _,⟨_,rfl⟩,q⟩) hz
theorem jA{x:V}{us:List qx}(r:aZ [x] us):∃ u,us=[u]/\bC x u:=by
 cases r with
 | cons r1 r2=>cases r2;exact⟨_,rfl,r1⟩
theorem aAn{x y:V}{us:List qx}(r:aZ [x,y] us):∃ u w',us=[u,w']/\bC x u/\bC y w':=by
 cases r with
 | cons r1 r2 =>
   cases r2 with
   | cons r3 r4=>cases r4;exact⟨_,_,rfl,r1,r3⟩
theorem aM3:eQ X (.builtin "abs") (λ xs H Q=>∃ i,xs=[.int i]/\Q (.int (if i<0 then -i else i)) H):=by
 intro aB s σ H xs us Q I r h;obtain⟨i,rfl,q⟩:=h;obtain⟨u,rfl,t,rfl⟩:=jA r;exact call_abs_int λ u tk=>⟨.int (if i<0 then -i else i),H,I.tok _,⟨_,rfl⟩,q⟩
theorem aLT(hc:X.calm=true):eQ X (.builtin "max") (λ xs H Q=>∃ i j,xs=[.int i,.int j]/\Q (.int (if j>i then j else i)) H):=by
 intro aB s σ H xs us Q I r h;obtain⟨i,j,rfl,q⟩:=h;obtain⟨u,w',rfl,⟨t,rfl⟩,⟨t',rfl⟩⟩:=aAn r;refine max_two_ints (I.ok.hd hc) λ h' tk k=>⟨_,H,I.kept k,?_,q⟩
 by_cases hj:j>i
 ·rw[if_pos hj,if_pos hj];exact⟨_,rfl⟩
 ·rw[if_neg hj,if_neg hj];exact⟨_,rfl⟩
theorem aL8(hc:X.calm=true):eQ X (.builtin "min") (λ xs H Q=>∃ i j,xs=[.int i,.int j]/\Q (.int (if j<i then j else i)) H):=by
 intro aB s σ H xs us Q I r h;obtain⟨i,j,rfl,q⟩:=h;obtain⟨u,w',rfl,⟨t,rfl⟩,⟨t',rfl⟩⟩:=aAn r;refine min_two_ints (I.ok.hd hc) λ h' tk k=>⟨_,H,I.kept k,?_,q⟩
 by_cases hj:j<i
 ·rw[if_pos hj,if_pos hj];exact⟨_,rfl⟩
 ·rw[if_neg hj,if_neg hj];exact⟨_,rfl⟩
theorem aFu:eQ X (.type "int") (λ xs H Q=>(∃ i,xs=[.int i]/\Q (.int i) H)\/∃ k,xs=[.bl k]/\Q (.int (if k then 1 else 0)) H):=by
 intro aB s σ H xs us Q I r h;rcases h with ⟨i,rfl,q⟩ | ⟨k,rfl,q⟩
 ·obtain⟨u,rfl,t,rfl⟩:=jA r;exact call_int_int ⟨.int i,H,I,⟨_,rfl⟩,q⟩
 ·obtain⟨u,rfl,r1⟩:=jA r;cases r1;exact call_int_bool ⟨.int (if k then 1 else 0),H,I.tok _,⟨_,rfl⟩,q⟩
end
end L2
namespace L2
open PySem PySem.Spec PyProof.Rows
structure ObjM(h:Heap)(x dx C:qv)(mA:Str->Option qx):Prop where
 obj:h.get? x=qq (PySem.W.instObj C dx)
 ns:h.Ns1 dx mA
 ne:dx≠x
section
variable {prog : zq}{w : zw}{A : zy}{E : qx -> qj -> Prop}{s : qj}{K : FrG}{x dx C f : qv}{mA : Str -> Option qx}{name : Str}{v : qx}
end
section
variable {P : zq}{w : zw}{H H' : Hp}{h h' : Heap}{a C dx : qv}{fs fs' : List (Str×V)}
end
structure Cls(K:FrG)(C:qv):Prop where
 pg:PySem.W.plainGet K C Str.empty=true
 hd:PySem.W.hasDictIn K C=true
 po:PySem.W.plainOver K C=true
 sa:yFc K (.ref C) "__setattr__" = qq (qq (.builtin "object.__setattr__"))
structure Con(K:FrG)(C:qv)(f:Str)(v:V)(u:qx):Prop where
 at_:yFc K (.ref C) f=qq (qq u)
 rel:bC v u
 get:PySem.W.specialIn K u "__get__" = qq qz
 cp:PySem.W.copiedNames.contains f=false
structure Meth(K:FrG)(C:qv)(m:Str)(f:qv):Prop where
 at_:yFc K (.ref C) m=qq (qq (.ref f))
 fn:PySem.W.isFn K (.ref f)=true
 kp:yCw K (.ref f)=true
section
variable {X : Cx}{aB : List (qv×Obj)}{σ : St}{H : Hp}{s : qj}{a C dx : qv}{fs : List (Str×V)}{f : Str}{v : V}{A : zy}{E : qx -> qj -> Prop}
end
section
variable {X : Cx}{o e value : qw}{f : Str}{pos pos' tpos : Pos}{ta tv : TE}
end
section
variable {X : Cx}{aB : List (qv×Obj)}{σ : St}{H : Hp}{s : qj}{A : zy}{E : qx -> qj -> Prop}{Q : qx -> qj -> Prop}{c : qx}{b : Bool}
inductive TyOf (K:FrG) (H:Hp):V->qx->Prop where
 | non:TyOf K H .non (.type "NoneType")
 | bl (x:Bool):TyOf K H (.bl x) (.type "bool")
 | int (i:Int):TyOf K H (.int i) (.type "int")
 | str (x:Str):TyOf K H (.str x) (.type "str")
 | flt (x:UInt64):TyOf K H (.flt x) (.type "float")
 | lst {a:qv}{xs:List V} (e:H a=qq (.lst xs)):TyOf K H (.ref a) (.type "list")
 | frz {a:qv}{o:Obj}{xs:List V} (e:H a=qq (.frz o (.lst xs))):TyOf K H (.ref a) (.type "list")
 | tup {a:qv}{xs:List V} (e:H a=qq (.tup xs)):TyOf K H (.ref a) (.type "tuple")
 | dK {a:qv}{aX:List (fN×V)} (e:H a=qq (.dK aX)):TyOf K H (.ref a) (.type "dict")
 | dT {a:qv}{aX:List (List fN×V)} (e:H a=qq (.dT aX)):TyOf K H (.ref a) (.type "dict")
 | ins {a C dx:qv}{fs:List (Str×V)} (e:H a=qq (.ins C dx fs)) (cl:Cls K C) (ha:yFc K (.ref C) "__class__" = qq (qq (.builtin "object.__class__")))
    (hn:PySem.W.specialIn K (.builtin "object.__class__") "__get__" = qq (qq (.builtin "getset_descriptor.__get__"))) (htk:PySem.W.takesIn K (.builtin "object.__class__")=qq true)
    (hm:PySem.W.mroIn K C (.type "object")=qq true):TyOf K H (.ref a) (.ref C)
end
end L2
namespace L2
open PySem PySem.Spec PyProof.Rows
structure Room(k:Nat)(A:zy):Prop where
 hd:A.handled=qz
 dp:A.depth+3*k+5<recursionLimit
 un:A.units+16*k+200<cLine
theorem Room.deeper{k:Nat}{A:zy}(r:Room (k+1) A)(env:Env):Room k (A.deeper env):=
 ⟨r.hd,by have:=r.dp;show A.depth+1+3*k+5<_;omega,by have:=r.un;show A.units+3+16*k+200<_;omega⟩
theorem Room.depth{k:Nat}{A:zy}(r:Room k A):A.depth<recursionLimit:=by have:=r.dp;omega
theorem Room.units{k:Nat}{A:zy}(r:Room k A):A.units+64<cLine:=by have:=r.un;omega
noncomputable def aJV:TA:=λ _ H Q=>Q [] H
noncomputable def aSw(ta:TE)(tr:TA):TA:=λ σ H Q=>ta σ H λ x H1=>tr σ H1 λ xs H2=>Q (x::xs) H2
section
variable {X : Cx}{e : qw}{es : List qw}{te : TE}{t : TA}{pos : Pos}
theorem aQ1:PA X [] aJV:=λ _ _ _ _ H Q I h=>Calls.spliced_nil ⟨[],H,I,.nil,h⟩
theorem aOo(ha:PE X e te)(hr:PA X es t)(hs:qo (e::es) X.env=(false,eval e X.env)::qo es X.env:=by rfl):PA X (e::es) (aSw te t):=by
 intro pos aB s σ H Q I h;rw[hs];show qy _ _ (spliced ((false,eval e X.env)::backTo pos (qo es X.env))) _ _ s;refine Calls.spliced_cons (bD (ha aB s σ H _ I h) λ u s1 hPq24=>?_)
 obtain⟨x,H1,I1,r1,q1⟩:=hPq24;exact bD (hr pos aB s1 σ H1 _ I1 q1) λ us s2 ⟨xs,H2,I2,r2,q2⟩=>⟨x::xs,H2,I2,.cons r1 r2,q2⟩
noncomputable def aUX(t:TA):TE:=λ σ H Q=>t σ H λ xs H1=>xs.length<=qk/\∀ p,H1 p=qz->Q (.ref p) (bE H1 p (.tup xs))
noncomputable def aVq(t:TA):TE:=λ σ H Q=>t σ H λ xs H1=>xs.length<=qk/\∀ p,H1 p=qz->Q (.ref p) (bE H1 p (.lst xs))
theorem aSl{x1}(h:PA X es t):PE X (.Tuple es x1 pos) (aUX t):=by
 intro aB s σ H Q I hq;refine wpAny_Tuple_spliced (bD (h pos aB s σ H _ I hq) λ us s1 ⟨xs,H1,I1,r,z,q⟩=>⟨by rw[<- r.length];exact z,?_⟩)
 have hf:H1 s1.heap.objs.size=qz:=I1.hok.fresh (yAc _);refine⟨.ref s1.heap.objs.size,bE H1 s1.heap.objs.size (.tup xs),I1.laid (t':=s1.toks) (λ b u e=>hpS _ e) (yAc _) ?_,rfl,q _ hf⟩
 exact⟨z,us,r,⟨_,xAd _ rfl,rfl,_,rfl⟩⟩
theorem aQo(h:PA X es t):PE X (.List es pos) (aVq t):=by
 intro aB s σ H Q I hq;refine wpAny_List_spliced (bD (h pos aB s σ H _ I hq) λ us s1 ⟨xs,H1,I1,r,z,q⟩=>⟨by rw[<- r.length];exact z,?_⟩)
 have hf:H1 s1.heap.objs.size=qz:=I1.hok.fresh (yAc _);refine⟨.ref s1.heap.objs.size,bE H1 s1.heap.objs.size (.lst xs),I1.laid (t':=s1.toks) (λ b u e=>hpS _ e) (yAc _) ?_,rfl,q _ hf⟩
 exact⟨z,us,0,r,xAd _ rfl⟩
end
noncomputable abbrev Sp:=List V->Hp->VK->XK->Prop
noncomputable abbrev kU:=List Env->Hp->qj->XK->qx->qj->Prop
structure Env0(P:zq)(w:zw)(K:FrG)(mg:Str->Option qx)(base:Heap)(A:zy)(outer:List Env)(s:qj)(H:Hp):Prop where
 frames:A.frames=qq outer
 mod:Mod K mg base
 bs:∀ b o,base.get? b=qq o->s.heap.get? b=qq o/\H b=qz
 bsz:base.objs.size<=s.heap.objs.size
 funs:s.heap.FunFrames base outer
 frf:∀ b∈iE outer,H b=qz
 hok:dS P w H s.heap
 bare:AllBare s.gens
def CE(outer:List Env)(P:zq)(w:zw)(H:Hp)(s:qj)(Q:VK)(u:qx)(s':qj):Prop:=
 ∃ v H',s'.os=s.os/\AllBare s'.gens/\Un (iE outer) [] H H' s.heap s'.heap/\dS P w H' s'.heap/\bC v u/\Q v H'
def CR(CX:kU)(outer:List Env)(P:zq)(w:zw)(H:Hp)(s:qj)(Q:VK)(E:XK)(r:Result)(s':qj):Prop:=
 match r with
 | .ok (.ret u)=>CE outer P w H s Q u s'
 | .ok _=>False
 | .error e=>CX outer H s E e s'
structure FnOk(P:zq)(w:zw)(K:FrG)(mg:Str->Option qx)(base:Heap)(CX:kU)(k:Nat)(f:qv)(fd:wu)(ps:List Str)(sp:Sp):Prop where
 len:∀ vs H Q E,sp vs H Q E->vs.length=ps.length
 run:∀ (A:zy) (outer:List Env) (s:qj) (H:Hp) (args:Args) (us:List qx) (vs:List V) (Q:VK) (E:XK),Room k A->Env0 P w K mg base A outer s H->BindsTo s fd args (ps.zip us)->aZ vs us->sp vs H Q E ->
  vo (model P w) A (.call (.ref f) args) (CR CX outer P w H s Q E) s
section
variable {X : Cx}{aB : List (qv×Obj)}{σ : St}{H : Hp}{s s' : qj}
theorem Inv.env0(I:Inv X aB σ H s):Env0 X.prog X.w X.K X.mg X.base X.A X.stack s H:=
 ⟨I.ok.frames,I.ok.mod,I.bs,xAh I.ok.bsz I.sz,I.stack,I.stkFree,I.hok,I.bare⟩
theorem Inv.after{Q:VK}{u:qx}(I:Inv X aB σ H s)(h:CE X.stack X.prog X.w H s Q u s'):EP X aB σ Q u s':=by
 obtain⟨v,H',os,bare,un,hok,r,q⟩:=h;obtain⟨hh,g,d,t,os'⟩:=s';obtain rfl:os'=s.os:=os;exact⟨v,H',I.call (h':=hh) (g':=g) (d':=d) (t':=t) (ch:=[]) un hok bare (λ b z=>absurd z (by simp)),r,q⟩
end
noncomputable def aAg(sp:Sp)(dvs:List V)(E:XK)(t:TA):TE:=λ σ H Q=>t σ H λ vs H1=>sp (vs++dvs) H1 Q E
def lP(K:FrG)(fd:wu)(ps:List Str)(ds:List qx):Prop:=
 ∀ (s:qj) (us:List qx),K.In s.heap->(us++ds).length=ps.length->BindsTo s fd ⟨us,[]⟩ (ps.zip (us++ds))
theorem lP.all{K:FrG}{fd:wu}{ps:List Str}(h:∀ us:List qx,us.length=ps.length->bindArgs fd ⟨us,[]⟩=pure (ps.zip us)):lP K fd ps []:=λ s us _ hl=>by
 rw[yDm] at hl ⊢;exact .of_eq (h us hl)
def zV(CX:kU)(X:Cx)(E:XK):Prop:=∀ (aB:List (qv×Obj)) (σ:St) (H:Hp) (s:qj) (e:qx) (s':qj),Inv X aB σ H s->CX X.stack H s E e s'->X.xe e s'
section
variable {X : Cx}{CX : kU}{k : Nat}{f C : qv}{fd : wu}{ps : List Str}{sp : Sp}{dvs : List V}{ds : List qx}{E : XK}{x m : Str}{p pos apos : Pos}{e o : qw}{es : List qw}{ta : TE}{t : TA}
theorem aHU{aB:List (qv×Obj)}{σ:St}{H:Hp}{s:qj}{Q:VK}{us:List qx}{vs:List V}(F:FnOk X.prog X.w X.K X.mg X.base CX k f fd ps sp)(hr:Room k X.A)(hb:lP X.K fd ps ds)(hd:aZ dvs ds)(hx:zV CX X E)
 (I:Inv X aB σ H s) (r:aZ vs us) (h:sp (vs++dvs) H Q E):qy (model X.prog X.w) X.A (call (.ref f) us) (EP X aB σ Q) X.xe s:=by
 have r2:aZ (vs++dvs) (us++ds):=r.append hd;have hl:(us++ds).length=ps.length:=by rw[<- r2.length];exact F.len _ _ _ _ h
 refine wpAny_call (codeAny_mono (F.run X.A X.stack s H ⟨us,[]⟩ (us++ds) (vs++dvs) Q E hr I.env0 (hb s us I.kIn hl) r2 h) λ r s' hq=>?_)
 cases r with
 | error e=>exact hx aB σ H s e s' I hq
 | ok fl =>
   cases fl with
   | ret u=>exact I.after hq
   | next=>exact False.elim hq
   | brk=>exact False.elim hq
   | cont=>exact False.elim hq
theorem aPB(F:FnOk X.prog X.w X.K X.mg X.base CX k f fd ps sp)(hr:Room k X.A)(hg:Gl X x)(hm:X.mg x=qq (.ref f))(hk:yCw X.K (.ref f)=true)(hb:lP X.K fd ps ds)(hd:aZ dvs ds)(hx:zV CX X E)
 (ha:PA X (e::es) t) (hdb:(x==("__debug__" : Str))=false:=by decide) (he:qo (e::es) X.env=(false,eval e X.env)::qo es X.env:=by rfl) (hpl:(backTo pos (qo es X.env)).any (·.1)=false:=by rfl) :
 PE X (.Call (.Name x p) (e::es) [] pos) (aAg sp dvs E t):=by
 intro aB s σ H Q I h;refine xk (aCj I hg hm ?_ hdb);refine PySem.W.callWith_K (h₀:=X.base) I.ok.mod.kin hk (bD (ha pos aB s σ H _ I h) λ us s1 ⟨vs,H1,I1,r,q⟩=>⟨I1.kIn,?_⟩) he hpl
 exact aHU F hr hb hd hx I1 r q
theorem aMQ(F:FnOk X.prog X.w X.K X.mg X.base CX k f fd ps sp)(hr:Room k X.A)(hg:Gl X x)(hm:X.mg x=qq (.ref f))(hk:yCw X.K (.ref f)=true)(hb:lP X.K fd ps ds)(hd:aZ dvs ds)(hx:zV CX X E)
 (hdb:(x==("__debug__" : Str))=false:=by decide):PE X (.Call (.Name x p) [] [] pos) (aAg sp dvs E aJV):=by
 intro aB s σ H Q I h;refine xk (aCj I hg hm ?_ hdb);exact PySem.W.callWith_K0 I.kIn hk (aHU (us:=[]) F hr hb hd hx I .nil h)
structure Mk(K:FrG)(C f:qv):Prop where
 makes:PySem.W.makesIn K C=true
 init:yFc K (.ref C) "__init__" = qq (qq (.ref f))
 fn:PySem.W.isFn K (.ref f)=true
 kp:yCw K (.ref C)=true
end
section
variable {X : Cx}{CX : kU}{k : Nat}{f C : qv}{fd : wu}{ps ks : List Str}{sp : Sp}{E : XK}{x m : Str}{p pos apos kpos : Pos}{e o : qw}{es : List qw}{kws : List Keyword}{te ta : TE}{t tk : TA}{nm : Option Str}
structure KBinds(K:FrG)(fd:wu)(ps ks:List Str)(g:List qx->List qx->List qx)(gV:List V->List V->List V):Prop where
 to:∀ (s:qj) (us ws:List qx),K.In s.heap->(g us ws).length=ps.length->BindsTo s fd ⟨us,ks.zip ws⟩ (ps.zip (g us ws))
 rel:∀ {vs:List V}{us:List qx}{zs:List V}{ws:List qx},aZ vs us->aZ zs ws->aZ (gV vs zs) (g us ws)
variable {g : List qx -> List qx -> List qx}{gV : List V -> List V -> List V}
end
structure FnScope(N P:List Str)(sc:zk):Prop where
 kind:sc.kind=.function
 co:sc.isCoroutine=false
 gen:sc.isGenerator=false
 nd:N.Nodup
 pre:N.take P.length=P
 par:∀ x∈P,sc.names.lookup x=qq .local\/sc.names.lookup x=qq .cell
 nofree:∀ y∈sc.names,y.2≠.free
theorem aFd{kindOf:Str->Option vv}{x:Str}:∀ {binds:List (Str×qx)}{m:Str->Option qx},(∀ v,(x,v) ∉ binds)->bindL kindOf binds m x=m x
 | [],_,_=>rfl
 | (n,v)::r,m,h=>by
   unfold bindL;rw[aFd λ w hw=>h w (xAf _ hw)]
   split
   ·have:x≠n:=by rintro rfl;exact h v xAc
    simp[this]
   ·rfl
theorem aFv{kindOf:Str->Option vv}{x:Str}:∀ {binds:List (Str×qx)}{m:Str->Option qx},(∀ v,(x,v) ∉ binds)->bindC kindOf binds m x=m x
 | [],_,_=>rfl
 | (n,v)::r,m,h=>by
   unfold bindC;rw[aFv λ w hw=>h w (xAf _ hw)]
   split
   ·rfl
   ·have:x≠n:=by rintro rfl;exact h v xAc
    simp[this]
theorem aFr{kindOf:Str->Option vv}{x:Str}{v:qx}:∀ {P:List Str}{vs:List qx}{i:Nat}{m:Str->Option qx},P.Nodup->P[i]? = qq x->vs[i]? = qq v->kindOf x=qq .local ->
 bindL kindOf (P.zip vs) m x=qq v
 | [],_,_,_,_,h,_,_=>by simp at h
 | _::_,[],_,_,_,_,h,_=>by simp at h
 | p::P,w::vs,0,m,nd,h1,h2,hk=>by
   simp at h1 h2;subst h1;subst h2;show bindL kindOf ((p,w)::P.zip vs) m p=_;unfold bindL;rw[aFd λ v hv=>(List.nodup_cons.mp nd).1 (List.of_mem_zip hv).1,if_pos hk]
   simp
 | p::P,w::vs,i+1,m,nd,h1,h2,hk=>by
   show bindL kindOf ((p,w)::P.zip vs) m x=_;unfold bindL;exact aFr (i:=i) (List.nodup_cons.mp nd).2 (by simpa using h1) (by simpa using h2) hk
theorem aFy{kindOf:Str->Option vv}{x:Str}{v:qx}:∀ {P:List Str}{vs:List qx}{i:Nat}{m:Str->Option qx},P.Nodup->P[i]? = qq x->vs[i]? = qq v->kindOf x≠qq .local ->
 bindC kindOf (P.zip vs) m x=qq v
 | [],_,_,_,_,h,_,_=>by simp at h
 | _::_,[],_,_,_,_,h,_=>by simp at h
 | p::P,w::vs,0,m,nd,h1,h2,hk=>by
   simp at h1 h2;subst h1;subst h2;show bindC kindOf ((p,w)::P.zip vs) m p=_;unfold bindC;rw[aFv λ v hv=>(List.nodup_cons.mp nd).1 (List.of_mem_zip hv).1,if_neg hk]
   simp
 | p::P,w::vs,i+1,m,nd,h1,h2,hk=>by
   show bindC kindOf ((p,w)::P.zip vs) m x=_;unfold bindC;exact aFy (i:=i) (List.nodup_cons.mp nd).2 (by simpa using h1) (by simpa using h2) hk
noncomputable def start(N:List Str)(vs:List V):St:=vs.map qq++yAb (N.length-vs.length) qz
noncomputable def rV(CX:kU)(P:zq)(w:zw)(K:FrG)(mg:Str->Option qx)(base:Heap)(N:List Str)(cO:Str)(scope:zk)(f:qv)(cd:qx)(A:zy)(outer:List Env)(s:qj)(H:Hp)(E:XK):Cx where
 prog:=P
 w:=w
 K:=K
 mg:=mg
 base:=base
 A:=A.deeper (envOfC cO scope s.heap.objs.size f cd)
 N:=N
 s₀:=s
 H₀:=H
 env:=envOfC cO scope s.heap.objs.size f cd
 outer:=outer
 stack:=envOfC cO scope s.heap.objs.size f cd::outer
 ex:=[]
 calm:=true
 fn:=λ _=>true
 pn:=[]
 xe:=λ e s'=>qy (model P w) (A.deeper (envOfC cO scope s.heap.objs.size f cd)) (leaving (envOfC cO scope s.heap.objs.size f cd) e) (λ _ s''=>CX outer H s E e s'') (λ e' s''=>CX outer H s E e' s'') s'
theorem aGh{sc:zk}{n:Nat}{x:Str}(h:sc.names.lookup x=qq .cell):∃ c,(cellsFrom n sc.names []).lookup x=qq c:=by
 have q:=PySem.W.cellsFrom_some sc.names n [] (.inl h);exact Option.isSome_iff_exists.mp q
theorem aMC{CX:kU}{P:zq}{w:zw}{K:FrG}{mg:Str->Option qx}{base:Heap}{N ps:List Str}{cO:Str}{scope:zk}{f:qv}{cd:qx}{A:zy}{outer:List Env}{s s1:qj}{H:Hp}{E:XK}{us:List qx}{vs:List V}
 (S:FnScope N ps scope) (hd:A.handled=qz) (e0:Env0 P w K mg base A outer s H) (hl:vs.length=ps.length) (r:aZ vs us)
 (x:InCallC s s.heap.objs.size (bindL (envOfC cO scope s.heap.objs.size f cd).kindOf (ps.zip us) λ _=>qz) (cellsFrom (s.heap.objs.size+1) scope.names []) (bindC (envOfC cO scope s.heap.objs.size f cd).kindOf (ps.zip us) λ _=>qz) s1) :
 Inv (rV CX P w K mg base N cO scope f cd A outer s H E) [] (start N vs) H s1:=by
 have hpl:ps.length<=N.length:=by have:=congrArg List.length S.pre;rw[yBz] at this;omega
 obtain⟨h1,tk,rfl,hk⟩:=x.done;have noA:∀ b:qv,b ∉ (rV CX P w K mg base N cO scope f cd A outer s H E).ex:=λ b z=>absurd (show b∈([]:List qv) from z) (by simp)
 refine⟨⟨e0.mod,S.kind,rfl,rfl,yAc _,λ y z c h1 h2=>?_,λ y hy=>?_,λ y c _ h=>?_,λ _=>hd,Around.frames_deeper e0.frames,.inr ⟨rfl,rfl⟩,λ b z=>absurd z (noA b),e0.bs,e0.bsz,λ b _ _=>noA b,λ b z=>absurd z (noA b),e0.funs,e0.frf⟩,
  rfl,e0.bare,Un.kept hk,⟨_,x.toInCall.ns,λ i y v h1 h2 h3=>?_⟩,λ y c h=>⟨_,x.cell y c h⟩,e0.hok.fresh (yAc _),λ y c h=>?_,λ p hp=>absurd (show p∈([]:List (qv×Obj)) from hp) (by simp),e0.hok.kept hk,?_⟩
 ·exact name_of_addr x.apart (PySem.mem_of_lookup h1) (PySem.mem_of_lookup h2)
 ·have hy:scope.names.lookup y=qq .cell\/scope.names.lookup y=qq .free:=hy;rcases hy with hy | hy
  ·exact aGh hy
  ·exact absurd rfl (S.nofree _ (PySem.mem_of_lookup hy))
 ·exact yFg (x.above y c (PySem.mem_of_lookup h))
 ·have hi:i<vs.length:=by
   unfold start at h2
   by_cases hi:i<vs.length
   ·exact hi
   ·rw[yAh (by simpa using hi)] at h2
    rw[yCr] at h2
    split at h2<;>cases h2
  have ha:vs[i]? = qq v:=by
   unfold start at h2;rw[xAm (by simpa using hi),yAe] at h2
   cases e:vs[i]? with
   | none=>rw[e] at h2;cases h2
   | some a=>rw[e] at h2;cases h2;rfl
  obtain⟨u,hu,rv⟩:=r.get ha;have hp:ps[i]? = qq y:=by
   rw[<- S.pre,yDn (by omega)];exact h1
  have ndP:ps.Nodup:=by rw[<- S.pre];exact S.nd.sublist (List.take_sublist _ _)
  refine⟨u,rv,?_⟩;rcases S.par y (xAk hp) with k | k
  ·exact .inl ⟨k,aFr ndP hp hu k⟩
  ·obtain⟨c,e⟩:=aGh (n:=s.heap.objs.size+1) k;refine .inr ⟨.inl k,c,e,?_⟩;have q:=x.cell y c e;rw[aFy ndP hp hu (by show scope.names.lookup y≠_;rw[k];decide)] at q
   exact q
 ·exact e0.hok.fresh (yFg (x.above y c (PySem.mem_of_lookup h)))
 ·unfold start;show _=N.length;rw[xAn,yAf,yBp];omega
theorem aTI{CX:kU}{P:zq}{w:zw}{K:FrG}{mg:Str->Option qx}{base:Heap}{k:Nat}{f:qv}{name cO:Str}{params:Arguments}{body:List jz}{scope:zk}{dV kV doc pm cdv ct oc:qx}{an od:Option qv}
 {osl:Array (Option qx)}{N ps:List Str}{sp:Sp} (lk:K.lookup f=qq ⟨oc,od,.func (yDe name cO params body scope dV kV doc pm an cdv ct),osl⟩) (hcd:yFd K cdv cO=true) (S:FnScope N ps scope)
 (len:∀ vs H Q E,sp vs H Q E->vs.length=ps.length)
 (hbody:∀ (A:zy) (outer:List Env) (s:qj) (H:Hp) (vs:List V) (Q:VK) (E:XK),Room k (A.deeper (envOfC cO scope s.heap.objs.size f cdv))->sp vs H Q E ->
   ∃ t,dZ (rV CX P w K mg base N cO scope f cdv A outer s H E) body t/\t {nx:=λ _ H'=>Q .non H',rt:=Q } (start N vs) H) :
 FnOk P w K mg base CX (k+1) f (yDe name cO params body scope dV kV doc pm an cdv ct) ps sp:=by
 refine⟨len,λ A outer s H args us vs Q E hr e0 hb r hsp=>?_⟩
 have hl:=len _ _ _ _ hsp;have KX:K.In s.heap:=e0.mod.kin.keeps λ b o e=>(e0.bs b o e).1
 have lim:s.heap.NoLimit:=e0.mod.nolimit.keeps λ b o e=>(e0.bs b o e).1
 have hkind:∀ y∈ps.zip us,scope.names.lookup y.1=qq .local\/(scope.names.lookup y.1=qq .cell/\((cellsFrom (s.heap.objs.size+1) scope.names []).lookup y.1).isSome=true):=λ aQ hy=>by
  obtain⟨n,v⟩:=aQ;rcases S.par n (List.of_mem_zip hy).1 with q | q
  ·exact .inl q
  ·exact .inr ⟨q,PySem.W.cellsFrom_some _ _ _ (.inl q)⟩
 refine codeAny_call_function hr.depth (KX _ _ lk) rfl S.co S.gen rfl (PySem.W.codeRec_of KX hcd) (hb _ _ _ _ ?_);refine wpAny_newFunctionEnv_cells S.kind hkind λ env he s1 x=>?_
 subst he;refine⟨lim.keeps x.toInCall.keep,codeAny_func ?_⟩;obtain⟨t,ht,hq⟩:=hbody A outer s H vs Q E (hr.deeper _) hsp;have I:Inv (rV CX P w K mg base N cO scope f cdv A outer s H E) [] (start N vs) H s1:=aMC S hr.hd e0 hl r x;refine wpAny_mono (ht [] s1 (start N vs) H _ I hq) (λ fl s' hs=>?_) λ e s' hs=>hs
 have bX:∀ {σ':St}{H':Hp}{v:V}{u:qx},Inv (rV CX P w K mg base N cO scope f cdv A outer s H E) [] σ' H' s'->bC v u->Q v H'->CE outer P w H s Q u s':=
  λ {σ' H' v u} J rv q=>⟨v,H',J.os,J.bare,J.base,J.hok,rv,q⟩
 cases fl with
 | ret u =>
   obtain⟨v,σ',H',J,rv,q⟩:=hs;exact bX J rv q
 | next =>
   obtain⟨σ',H',J,q⟩:=hs;exact bX (v:=V.non) (u:=Value.none) J rfl q
 | brk =>
   obtain⟨_,_,_,q⟩:=hs;exact False.elim q
 | cont =>
   obtain⟨_,_,_,q⟩:=hs;exact False.elim q
end L2
namespace L2
open PySem PySem.Spec PyProof.Rows
section
variable {X : Cx}{x : Str}{p pos : Pos}{e : qw}{es : List qw}{t : TA}{id T : String}{r : List V -> Hp -> VK -> Prop}
noncomputable def tCB(r:List V->Hp->VK->Prop)(t:TA):TE:=λ σ H Q=>t σ H λ vs H1=>r vs H1 Q
theorem oO(hc:eQ X (.builtin id) r)(hg:Gl X x)(hm:X.mg x=qz)(hv:vw x=qq (.builtin id))(ha:PA X (e::es) t)(hn:x ≠ "__name__":=by decide)(hdb:(x==("__debug__" : Str))=false:=by decide)
 (he:qo (e::es) X.env=(false,eval e X.env)::qo es X.env:=by rfl) (hpl:(backTo pos (qo es X.env)).any (·.1)=false:=by rfl):PE X (.Call (.Name x p) (e::es) [] pos) (tCB r t):=by
 intro aB s σ H Q I h;refine xk (jN I hg hm hv ?_ hn hdb);exact PyProof.Rows.callWith_builtin1 (bD (ha pos aB s σ H _ I h) λ us s1 ⟨vs,H1,I1,r1,q1⟩=>hc aB s1 σ H1 vs us Q I1 r1 q1) he hpl
theorem aFL(hc:eQ X (.type T) r)(hg:Gl X x)(hm:X.mg x=qz)(hv:vw x=qq (.type T))(ha:PA X (e::es) t)(hn:x ≠ "__name__":=by decide)(hdb:(x==("__debug__" : Str))=false:=by decide)
 (he:qo (e::es) X.env=(false,eval e X.env)::qo es X.env:=by rfl) (hpl:(backTo pos (qo es X.env)).any (·.1)=false:=by rfl):PE X (.Call (.Name x p) (e::es) [] pos) (tCB r t):=by
 intro aB s σ H Q I h;refine xk (jN I hg hm hv ?_ hn hdb);exact yAv (bD (ha pos aB s σ H _ I h) λ us s1 ⟨vs,H1,I1,r1,q1⟩=>hc aB s1 σ H1 vs us Q I1 r1 q1) he hpl
end
end L2
namespace HT
open PySem PyProof.Rows
section
open PySem.SeqAt
open PySem.AutoSeq1 (wpAny_loadPart')
open PySem.MeetsSeq PySem.MeetsSeq2 PySem.MeetsSeq3
end
section
variable {prog : zq}{w : zw}{A : zy}{E : qx -> qj -> Prop}{s : qj}
theorem cat_tup{t b:qv}{vs ws:List qx}{Q:qx->qj->Prop}(ht:IsTup s.heap t vs.toArray)(hb:IsTup s.heap b ws.toArray)(hv:vs≠[])
 (h1:ws=[]->Q (.ref t) s) (h2:ws≠[]->Q (.ref s.heap.objs.size) {s with heap:=s.heap.push {cls:=.type "tuple",data:=.seq (vs++ws).toArray } })
 (hsz:vs.length+ws.length<=qk):qy (model prog w) A (xz .Add (.ref t) (.ref b)) Q E s:=by
 obtain⟨⟨cls,dd,data,sl⟩,ho,hc,n,hd⟩:=id ht;obtain⟨⟨cls2,dd2,data2,sl2⟩,ho2,hc2,n2,hd2⟩:=id hb;simp only at hc hd hc2 hd2;subst hc hd hc2 hd2;have e:vs.toArray++ws.toArray=(vs++ws).toArray:=by simp
 by_cases hw:ws=[]
 ·exact concat_meets ⟨_,ho,rfl⟩ ⟨_,ho2,rfl⟩ noFill_tuple_add seq_tuple_add yEz yEt (yEm _ _)
   (tuple_addW1 t b vs.toArray ws.toArray n n2 dd dd2 sl sl2 (by simpa using hv) (by simp[hw])) ⟨ho,ho2,h1 hw⟩
 ·refine concat_meets ⟨_,ho,rfl⟩ ⟨_,ho2,rfl⟩ noFill_tuple_add seq_tuple_add yEz yEt (yEm _ _)
   (tuple_addW2 t b vs.toArray ws.toArray n n2 dd dd2 sl sl2 (by simpa using hv) (by simpa using hw) (by rw[yAg,yAg];exact hsz)) ⟨ho,ho2,?_⟩
  rw[e];exact h2 hw
noncomputable def sIx(n d:Nat):Option Int->Nat
 | none=>d
 | some v=>if v<0 then (v+(n:Int)).toNat else min v.toNat n
theorem sIx_nat(n d k:Nat):sIx n d (qq (k:Int))=min k n:=by
 show(if (k:Int)<0 then ((k:Int)+(n:Int)).toNat else min (k:Int).toNat n)=min k n
 rw[if_neg (by omega),yAq]
theorem aSd(n d:Nat)(hd:d<=n)(o:Option Int):sIx n d o<=n:=by
 cases o with
 | none=>exact hd
 | some v =>
   show(if v<0 then (v+(n:Int)).toNat else min v.toNat n)<=n
   by_cases hv:v<0
   ·rw[if_pos hv];omega
   ·rw[if_neg hv];exact Nat.min_le_right _ _
theorem aHi(v:Int)(n d:Nat):(if v<0 then max (v+(n:Int)) 0 else min v (n:Int))=((sIx n d (qq v):Nat):Int):=by
 show(if v<0 then max (v+(n:Int)) 0 else min v (n:Int))=(((if v<0 then (v+(n:Int)).toNat else min v.toNat n):Nat):Int)
 by_cases hv:v<0
 ·simp only[if_pos hv];omega
 ·simp only[if_neg hv];omega
theorem aLF(lo hi:Option Int)(n:Nat):yEh lo hi 1 (n:Int)=(((sIx n 0 lo:Nat):Int),((sIx n n hi:Nat):Int)):=by
 have h1:¬ ((1:Int)<0):=by omega
 unfold yEh;simp only[h1,if_false];refine Prod.ext ?_ ?_
 ·cases lo with
  | none=>rfl
  | some v=>exact aHi v n 0
 ·cases hi with
  | none=>rfl
  | some v=>exact aHi v n n
theorem aLe(i j:Nat):yDg (i:Int) (j:Int) 1=j-i:=by
 unfold yDg;have h1:(1:Int)>0:=by omega
 simp only[h1,if_true,Int.ediv_one]
 split<;>omega
theorem aE2{v:qx}{o:Option Int}{Q:Option Int->qj->Prop}(p:IsPart v o)(h:Q o s):qy (model prog w) A (Builtin.Slice.slicePartIndex v) Q E s:=by
 cases p with
 | none=>exact slicePart_none h
 | int i t=>exact slicePart_int h
theorem sliceApplied_gen{sl:qv}{vl vu:qx}{lo hi:Option Int}{n:Nat}{Q:Int×Int×Nat->qj->Prop}(hs:s.heap.IsSliceOf sl vl vu .none)(pl:IsPart vl lo)(pu:IsPart vu hi)
 (h:Q (((sIx n 0 lo:Nat):Int),1,sIx n n hi-sIx n 0 lo) s):qy (model prog w) A (yFr (.ref sl) (pure (n:Int))) Q E s:=by
 obtain⟨os,hos,hcs,hds⟩:=id hs;unfold yFr Builtin.Slice.sliceFields;refine wB (wB (qu hos hds (x:=vl) rfl (wB (qu hos hds (x:=vu) rfl (wB (qu hos hds (x:=.none) rfl (wP ?_)))))));refine wB (slicePart_none ?_);show qy _ _ (if ((1:Int)==0)=true then _ else _) _ _ s
 rw[if_neg (by decide)]
 refine wB (aE2 pl (wB (aE2 pu (wB (wP ?_)))));show qy _ _ (match yEh lo hi 1 (n:Int) with | (lo,hi)=>pure (lo,(1:Int),yDg lo hi 1)) _ _ s
 rw[aLF lo hi n];show qy _ _ (pure (((sIx n 0 lo:Nat):Int),(1:Int),yDg ((sIx n 0 lo:Nat):Int) ((sIx n n hi:Nat):Int) 1)) _ _ s;rw[aLe];exact wP h
theorem aNE(xs:Array qx)(i k:Nat):((yBk k).filterMap λ(m:Nat)=>xs[((i:Int)+(m:Int)*1).toNat]?).toArray=((xs.toList.drop i).take k).toArray:=by
 have e:(λ(m:Nat)=>xs[((i:Int)+(m:Int)*1).toNat]?)=λ m=>xs[i+m]?:=by
  funext m
  have:((i:Int)+(m:Int)*1).toNat=i+m:=by omega
  rw[this]
 rw[e];have:=pick_run xs i k;rw[List.filterMap_map] at this;have e2:((λ x=>xs[x]?) ∘ λ x=>i+x)=λ m=>xs[i+m]?:=rfl
 rw[e2] at this;rw[this]
theorem getItem_tuple_cut{t sl:qv}{aO:Array qx}{vl vu:qx}{lo hi:Option Int}{Q:qx->qj->Prop}(ht:IsTup s.heap t aO)(hs:s.heap.IsSliceOf sl vl vu .none)(pl:IsPart vl lo)(pu:IsPart vu hi)
 (hw:¬ (sIx aO.size 0 lo=0/\sIx aO.size aO.size hi=aO.size))
 (h:Q (.ref s.heap.objs.size) {s with heap:=s.heap.push {cls:=.type "tuple",data:=.seq ((aO.toList.drop (sIx aO.size 0 lo)).take (sIx aO.size aO.size hi-sIx aO.size 0 lo)).toArray } })
 (hsz:aO.size<=qk):qy (model prog w) A (getItem (.ref t) (.ref sl)) Q E s:=by
 have htake:sizeOk (.seq ((aO.toList.drop (sIx aO.size 0 lo)).take (sIx aO.size aO.size hi-sIx aO.size 0 lo)).toArray):=by
  show((aO.toList.drop (sIx aO.size 0 lo)).take (sIx aO.size aO.size hi-sIx aO.size 0 lo)).toArray.size<=qk;rw[yAg,yBz,List.length_drop,yDu];omega
 have hj:sIx aO.size aO.size hi<=aO.size:=aSd _ _ (yAc _) hi;obtain⟨os,hos,hcs,hds⟩:=id hs;have hTs:s.TypeIs (.ref sl) "slice":=⟨os,hos,hcs⟩;unfold getItem
 try with_reducible refine zu ?_
 first | refine wB (wP ?_) | skip
 refine wB (wpAny_sequenceKey ht.typeIs (by decide) ?_)
 refine wB (wpAny_callSpecial?_slot (name:=Str.ofString "__getitem__") ht.typeIs yCf
  (zo yCf ht.typeIs entry_tuple_getitem ?_ (args_tuple_getitem _ _)))
 show qy _ _ (yFs (.ref t) >>= _) _ _ s;refine wB (tupleItemsOf_ ht ?_);refine wB (wpAny_typeOf hTs ?_);rw[if_pos (by decide)]
 refine wB (sliceApplied_gen hs pl pu ?_);have hno:¬ ((((sIx aO.size 0 lo:Nat):Int)==0&&(1:Int)==1&&(sIx aO.size aO.size hi-sIx aO.size 0 lo)==aO.size)=true):=by
  intro q;rw[yBb,yBb] at q;have q1:((sIx aO.size 0 lo:Nat):Int)=0:=eq_of_beq q.1.1;have q2:sIx aO.size aO.size hi-sIx aO.size 0 lo=aO.size:=eq_of_beq q.2;exact hw ⟨by omega,by omega⟩
 show qy _ _ (if (((sIx aO.size 0 lo:Nat):Int)==0&&(1:Int)==1&&(sIx aO.size aO.size hi-sIx aO.size 0 lo)==aO.size)=true then _ else _) _ _ s
 rw[if_neg hno,aNE]
 first
  | exact wB (m:=yCp _) (xw (wP ⟨_,rfl,wP h⟩) htake)
  | exact wB (m:=yCp _) (xw (wB (wP (wP ⟨_,rfl,wP h⟩))) htake)
  | exact wB (wB (m:=yCp _) (xw (wP (wP ⟨_,rfl,wP h⟩)) htake))
  | exact wB (wB (m:=yCp _) (xw (wP ⟨_,rfl,wP h⟩) htake))
end
end HT
namespace L2
open PySem PySem.Spec PyProof.Rows
noncomputable abbrev TO:=St->Hp->(Option Int->Hp->Prop)->Prop
def PO(X:Cx)(e:Option qw)(t:TO):Prop:=
 ∀ (aB:List (qv×Obj)) (s:qj) (σ:St) (H:Hp) (Q:Option Int->Hp->Prop),Inv X aB σ H s->t σ H Q ->
  qy (model X.prog X.w) X.A (evalPart e X.env) (λ u s'=>∃ o H',Inv X aB σ H' s'/\IsPart u o/\Q o H') X.xe s
noncomputable def aPP:TO:=λ _ H Q=>Q qz H
noncomputable def aS9(t:TE):TO:=λ σ H Q=>t σ H λ x H1=>∃ i,x=.int i/\Q (qq i) H1
section
variable {X : Cx}{e : qw}{te : TE}{lo hi : Option qw}{tl th : TO}{pos p2 : Pos}
theorem aPs:PO X qz aPP:=by
 intro aB s σ H Q I h;rw[evalPart_none];exact wP ⟨qz,H,I,.none,h⟩
theorem aOc(h:PE X e te):PO X (qq e) (aS9 te):=by
 intro aB s σ H Q I hw;rw[evalPart_some];refine bD (h aB s σ H _ I hw) λ u s1 hPq25=>?_
 obtain⟨x,H1,I1,r1,q1⟩:=hPq25;obtain⟨i,rfl,q⟩:=q1;obtain⟨t,rfl⟩:=r1;exact⟨qq i,H1,I1,.int i t,q⟩
def SlR(X:Cx)(r:V->Option Int->Option Int->Hp->VK->Prop):Prop:=
 ∀ (aB:List (qv×Obj)) (s:qj) (σ:St) (H:Hp) (x:V) (v vl vu:qx) (lo hi:Option Int) (sl:qv) (Q:VK),Inv X aB σ H s->bC x v->s.heap.IsSliceOf sl vl vu .none->IsPart vl lo->IsPart vu hi->r x lo hi H Q ->
  ∃ T id,typeLookup (.type T) "__getitem__" = pure (qq (.builtin id))/\s.TypeIs v T/\qy (model X.prog X.w) X.A (getItem v (.ref sl)) (EP X aB σ Q) X.xe s
noncomputable def tSl(r:V->Option Int->Option Int->Hp->VK->Prop)(te:TE)(tl th:TO):TE:=λ σ H Q=>te σ H λ x H1=>tl σ H1 λ l H2=>th σ H2 λ u H3=>r x l u H3 Q
theorem aF3{r:V->Option Int->Option Int->Hp->VK->Prop}(hr:SlR X r)(he:PE X e te)(hl:PO X lo tl)(hu:PO X hi th):PE X (.Subscript e (.Slice lo hi qz p2) pos) (tSl r te tl th):=by
 intro aB s σ H Q I h;refine Subscript_ (bD (he aB s σ H _ I h) λ v s1 hPq26=>?_)
 obtain⟨x,H1,I1,r1,q1⟩:=hPq26;refine wpAny_Slice (bD (hl aB s1 σ H1 _ I1 q1) λ vl s2 ⟨l,H2,I2,pl,q2⟩=>bD (hu aB s2 σ H2 _ I2 q2) λ vu s3 hPq27=>?_)
 obtain⟨u,H3,I3,pu,q3⟩:=hPq27;rw[evalPart_none];refine wP ?_;have I4:Inv X aB σ H3 {s3 with heap:=s3.heap.push {cls:=.type "slice",data:=.fields #[vl,vu,.none] } }:=I3.kept (t':=s3.toks) λ b ob q=>hpS _ q
 obtain⟨T,id,hT,ht,hg⟩:=hr aB {s3 with heap:=s3.heap.push {cls:=.type "slice",data:=.fields #[vl,vu,.none] } } σ H3 x v vl vu l u s3.heap.objs.size Q I4 r1 (Heap.IsSliceOf.new ..) pl pu q3
 show qy (model X.prog X.w) X.A (subscriptTail e (.Slice lo hi qz p2) v (.ref s3.heap.objs.size)) (EP X aB σ Q) X.xe {s3 with heap:=s3.heap.push {cls:=.type "slice",data:=.fields #[vl,vu,.none] } }
 exact tail_any (ops:=[.ref s3.heap.objs.size,v]) ht hT hg (by with_unfolding_all rfl)
noncomputable def lZ(xs:List V)(lo hi:Option Int):List V:=(xs.drop (HT.sIx xs.length 0 lo)).take (HT.sIx xs.length xs.length hi-HT.sIx xs.length 0 lo)
theorem aEw(xs:List V)(lo hi:Option Int):(lZ xs lo hi).length<=xs.length:=by
 unfold lZ;rw[yBz,List.length_drop];omega
noncomputable def aVw(K:FrG):V->Option Int->Option Int->Hp->VK->Prop:=λ x lo hi H Q=>∃ a xs,x=.ref a/\bZ K H a xs /\
 ¬ (HT.sIx xs.length 0 lo=0/\HT.sIx xs.length xs.length hi=xs.length)/\∀ p,H p=qz->Q (.ref p) (bE H p (.tup (lZ xs lo hi)))
theorem aQq:SlR X (aVw X.K):=by
 intro aB s σ H x v vl vu lo hi sl Q I rx hs pl pu h;obtain⟨a,xs,rfl,hx,hw,q⟩:=h;cases rx;obtain⟨aG,r,ht,hz⟩:=I.tuple hx;have cT:aG.toArray.size=xs.length:=by rw[yAg];exact r.length.symm
 refine⟨"tuple",_,PyProof.Rows.slot_tuple_getitem.lookup,ht.typeIs,?_⟩;refine HT.getItem_tuple_cut ht hs pl pu (by rw[cT];exact hw) ?_ (by rw[cT];exact hz)
 rw[cT];refine⟨.ref s.heap.objs.size,_,I.laid (t':=s.toks) (o:=.tup (lZ xs lo hi)) (λ b ob q=>hpS _ q) (yAc _) ?_,rfl,q _ (I.hok.fresh (yAc _))⟩
 exact⟨xAh (aEw xs lo hi) hz,_,(r.drop (HT.sIx xs.length 0 lo)).take (HT.sIx xs.length xs.length hi-HT.sIx xs.length 0 lo),IsTup.new _ _⟩
noncomputable def aT0(K:FrG):R2:=λ x y H Q=>∃ a b xs ys,x=.ref a/\y=.ref b/\bZ K H a xs/\bZ K H b ys/\xs≠[]/\xs.length+ys.length<=qk /\
 (ys=[]->Q (.ref a) H)/\(ys≠[]->∀ p,H p=qz->Q (.ref p) (bE H p (.tup (xs++ys))))
theorem aZ.nil_iff{xs:List V}{us:List qx}(r:aZ xs us):us=[] ↔ xs=[]:=by
 cases r with
 | nil=>simp
 | cons _ _=>simp
theorem aOF:cZ X (xz .Add) (aT0 X.K):=by
 intro aB s σ H x y v u Q I rx ry h;obtain⟨a,b,xs,ys,rfl,rfl,ha,hb,hx,hz,q1,q2⟩:=h;cases rx;cases ry;obtain⟨aG,r1,p1,_⟩:=I.tuple ha;obtain⟨dA,r2,p2,_⟩:=I.tuple hb;refine HT.cat_tup p1 p2 (λ z=>hx (r1.nil_iff.mp z)) (λ z=>⟨.ref a,H,I,rfl,q1 (r2.nil_iff.mp z)⟩) (λ z=>?_) (by rw[<- r1.length,<- r2.length];exact hz)
 refine⟨.ref s.heap.objs.size,_,I.laid (t':=s.toks) (o:=.tup (xs++ys)) (λ b ob q=>hpS _ q) (yAc _) ?_,rfl,q2 (λ w=>z (r2.nil_iff.mpr w)) _ (I.hok.fresh (yAc _))⟩
 exact⟨by rw[xAn];exact hz,_,r1.append r2,IsTup.new _ _⟩
end
end L2
namespace L2
open PySem PySem.Spec PyProof.Rows
noncomputable def jG(n:Nat)(i:Int):Option Nat:=if 0<=i then (if i<n then qq i.toNat else qz) else if -(n:Int)<=i then qq (i+n).toNat else qz
noncomputable def kE{α:Type}(xs:List α)(i:Int):Option α:=(jG xs.length i).bind λ j=>xs[j]?
theorem aHj{n:Nat}{i:Int}{j:Nat}(h:jG n i=qq j):seqIndex? i n=qq j/\j<n /\ -(n:Int)<=i/\i<n:=by
 unfold jG at h
 by_cases h0:0<=i
 ·rw[if_pos h0] at h
  by_cases h1:i<n
  ·rw[if_pos h1] at h;have e:i.toNat=j:=Option.some.inj h;exact⟨by rw[seqIndex_of h0 h1,e],by omega,by omega,h1⟩
  ·rw[if_neg h1] at h;cases h
 ·rw[if_neg h0] at h
  by_cases h1 : -(n:Int)<=i
  ·rw[if_pos h1] at h;have e:(i+n).toNat=j:=Option.some.inj h;exact⟨by rw[seqIndex_neg (by omega) h1,e],by omega,h1,by omega⟩
  ·rw[if_neg h1] at h;cases h
theorem aCs{α:Type}{xs:List α}{i:Int}{v:α}(h:kE xs i=qq v):∃ j,seqIndex? i xs.length=qq j/\xs[j]? = qq v/\j<xs.length /\ -(xs.length:Int)<=i/\i<xs.length:=by
 unfold kE at h;cases e:jG xs.length i with
 | none=>rw[e] at h;cases h
 | some j =>
   rw[e] at h;obtain⟨h1,h2,h3,h4⟩:=aHj e;exact⟨j,h1,h,h2,h3,h4⟩
def zA(b:qw):Prop:=∀ o i,subscripted b false o i=operate [o,i] (getItem o i)
def sJ(X:Cx)(r:R2):Prop:=
 ∀ (value lA:qw) (aB:List (qv×Obj)) (s:qj) (σ:St) (H:Hp) (x y:V) (v u:qx) (Q:VK),Inv X aB σ H s->bC x v->bC y u->r x y H Q ->
  subscripted lA false v u=operate [v,u] (getItem v u)->qy (model X.prog X.w) X.A (subscriptTail value lA v u) (EP X aB σ Q) X.xe s
def MtR(X:Cx)(id:String)(r:V->List V->Hp->VK->Prop):Prop:=
 ∀ (aB:List (qv×Obj)) (s:qj) (σ:St) (H:Hp) (x:V) (xs:List V) (v:qx) (us:List qx) (Q:VK),Inv X aB σ H s->bC x v->aZ xs us->r x xs H Q ->
  qy (model X.prog X.w) X.A (call (.builtin id) (v::us)) (EP X aB σ Q) X.xe s
section
variable {X : Cx}{a b : qw}{ta tb : TE}{pos : Pos}
theorem aJb{r:R2}(hr:sJ X r)(ha:PE X a ta)(hb:PE X b tb)(hs:zA b):PE X (.Subscript a b pos) (wF r ta tb):=by
 intro aB s σ H Q I h;exact Subscript_ (aDG ha hb I h λ v u s2 x y H2 I2 rx ry q=>hr a b aB s2 σ H2 x y v u Q I2 rx ry q (hs _ _))
noncomputable def aVl(K:FrG):R2:=λ x y H Q=>∃ p xs i v,x=.ref p/\y=.int i/\bW K H p xs/\kE xs i=qq v/\Q v H
noncomputable def aUR(K:FrG):R2:=λ x y H Q=>∃ p xs i v,x=.ref p/\y=.int i/\bZ K H p xs/\kE xs i=qq v/\Q v H
noncomputable def aUO:R2:=λ x y H Q=>∃ z i c,x=.str z/\y=.int i/\z.length<=qk/\kE z.cps.toList i=qq c/\Q (.str ⟨#[c]⟩) H
theorem aOD:sJ X (aVl X.K):=by
 intro value lA aB s σ H x y v u Q I rx ry h hs;obtain⟨p,xs,i,z,rfl,rfl,hq,he,q⟩:=h;cases rx;obtain⟨t,rfl⟩:=ry;obtain⟨aG,r,pl,hz⟩:=I.list hq;obtain⟨j,h1,h2,h3,h4,h5⟩:=aCs he;obtain⟨w,ew,rw'⟩:=r.get h2;have hl:=r.length;have hn:=oS;have bX:EP X aB σ Q w s:=⟨z,H,I,rw',q⟩
 by_cases h0:0<=i
 ·have hj:i.toNat=j:=by
   rw[seqIndex_of h0 h5] at h1;exact Option.some.inj h1
  exact item_listR pl.isList h0 (by omega) (by rw[hj];simpa using ew) bX hs
 ·have hj:(i+(aG.toArray.size:Int)).toNat=j:=by
   rw[seqIndex_neg (by omega) h4] at h1
   rw[yAg,<- hl];exact Option.some.inj h1
  exact subscriptTail_builtinR (x:=w) pl.isList.typeIs slot_list_getitem.lookup
   (wpAny_getItem_list_neg (Q:=λ r s'=>r=w/\EP X aB σ Q r s') pl.isList (by omega) (by rw[yAg]<;>omega) (by omega) (by rw[hj];simpa using ew) ⟨rfl,bX⟩) hs
theorem aQp:sJ X (aUR X.K):=by
 intro value lA aB s σ H x y v u Q I rx ry h hs;obtain⟨p,xs,i,z,rfl,rfl,hq,he,q⟩:=h;cases rx;obtain⟨t,rfl⟩:=ry;obtain⟨aG,r,pl,hz⟩:=I.tuple hq;obtain⟨j,h1,h2,h3,h4,h5⟩:=aCs he;obtain⟨w,ew,rw'⟩:=r.get h2;have hl:=r.length;have hn:=oS;have bX:EP X aB σ Q w s:=⟨z,H,I,rw',q⟩;exact subscriptTail_builtinR (x:=w) pl.typeIs slot_tuple_getitem.lookup
  (getItem_tuple (j:=j) (Q:=λ r s'=>r=w/\EP X aB σ Q r s') pl (by omega) (by omega) (by rw[yAg,<- hl];exact h1) (by simpa using ew) ⟨rfl,bX⟩) hs
theorem aQw:sJ X aUO:=by
 intro value lA aB s σ H x y v u Q I rx ry h hs;obtain⟨z,i,c,rfl,rfl,hz,he,q⟩:=h;obtain⟨t,rfl⟩:=rx;obtain⟨t',rfl⟩:=ry;obtain⟨j,h1,h2,h3,h4,h5⟩:=aCs he;have hl:z.cps.toList.length=z.length:=by simp[Str.length]
 rw[hl] at h1 h4 h5;have hn:=oS;exact tail_any (typeIs_str s z t) slot_str_getitem.lookup (getItem_str (c:=c) (by
  have e1:decide (i < -(2^63:Int))=false:=dqF (by omega)
  have e2:decide (i ≥ 2^63)=false:=dqF (by omega)
  rw[e1,e2,yEu]) (by rw[h1];simpa using h2) ⟨.str ⟨#[c]⟩,H,I.tok _,⟨_,rfl⟩,q⟩) hs
theorem aLr(aG:List qx)(n j:Nat)(u:qx):Obj.mapSeq (·.setIfInBounds j u) {cls:=.type "list",data:=.seq aG.toArray n }={cls:=.type "list",data:=.seq (aG.set j u).toArray n }:=by
 simp[Obj.mapSeq]
theorem Inv.lst{aB:List (qv×Obj)}{σ:St}{H:Hp}{s:qj}{p:qv}{xs:List V}(I:Inv X aB σ H s)(h:H p=qq (.lst xs)) :
 ∃ (aG:List qx) (n:Nat),aZ xs aG/\s.heap.get? p=qq {cls:=.type "list",data:=.seq aG.toArray n }/\xs.length<=qk:=by
 obtain⟨z,aG,n,r,e⟩:=I.hok p _ h;exact⟨aG,n,r,e,z⟩
theorem Inv.lstUpd{aB:List (qv×Obj)}{σ:St}{H:Hp}{s:qj}{p:qv}{xs ys:List V}{aG its':List qx}{n n':Nat}{f:Obj->Obj}(I:Inv X aB σ H s)(h:H p=qq (.lst xs))
 (ho:s.heap.get? p=qq {cls:=.type "list",data:=.seq aG.toArray n }) (hf:f {cls:=.type "list",data:=.seq aG.toArray n }={cls:=.type "list",data:=.seq its'.toArray n' }) (r:aZ ys its') (hz:ys.length<=qk) (t:Nat) :
 Inv X aB σ (bE H p (.lst ys)) {s with heap:=s.heap.update p f,toks:=t }:=by
 have e:(s.heap.update p f).get? p=qq {cls:=.type "list",data:=.seq its'.toArray n' }:=by
  rw[yCm f ho (by rw[hf]<;>rfl),hf]
 refine I.write (x:=p) (e:=p) (by rw[h];trivial) (.inl rfl) (λ b u hb q=>(yBw _ _ (Ne.symm hb)).trans q) ⟨_,e⟩ ?_
 exact⟨hz,its',n',r,e⟩
noncomputable def aJf:V->V->V->Hp->(Hp->Prop)->Prop:=λ o i v H Q=>∃ p xs k j,o=.ref p/\i=.int k/\H p=qq (.lst xs)/\jG xs.length k=qq j/\Q (bE H p (.lst (xs.set j v)))
theorem aNR:aJO X aJf:=by
 intro aB s σ H o i v ov iv u Q I ro ri rv h;obtain⟨p,xs,k,j,rfl,rfl,hp,hj,q⟩:=h;cases ro;obtain⟨t,rfl⟩:=ri;obtain⟨aG,n,r,ho,hz⟩:=I.lst hp;obtain⟨h1,h2,h3,h4⟩:=aHj hj;have hl:=r.length;have hn:=oS;have I':Inv X aB σ (bE H p (.lst (xs.set j v))) {s with heap:=s.heap.update p (Obj.mapSeq (·.setIfInBounds j u)) }:=
  I.lstUpd hp ho (aLr aG n j u) (r.set rv j) (by rw[yBc];exact hz) s.toks
 by_cases h0:0<=k
 ·have hk:k.toNat=j:=by
   rw[seqIndex_of h0 h4] at h1;exact Option.some.inj h1
  exact PySem.W.ki_setAt ho h0 (by omega) (by rw[yAg,<- hl];exact h4) (by rw[hk];exact⟨_,I',q⟩)
 ·have hk:(k+(aG.toArray.size:Int)).toNat=j:=by
   rw[seqIndex_neg (by omega) h3] at h1
   rw[yAg,<- hl];exact Option.some.inj h1
  exact PySem.W.ki_setBack ho (by omega) (by rw[yAg,<- hl];exact h3) (by omega) (by rw[hk];exact⟨_,I',q⟩)
theorem aKN(lo hi:Option Int)(n:Nat):(ww lo hi qz n).1=((HT.sIx n 0 lo:Nat):Int)/\(ww lo hi qz n).2.1=((HT.sIx n n hi:Nat):Int)/\(ww lo hi qz n).2.2=1:=by
 refine⟨?_,?_,rfl⟩
 ·cases lo with
  | none=>simp[ww,HT.sIx]
  | some i =>
    simp only[ww,HT.sIx,yGk,show(1:Int)>0 by decide,if_true]
    by_cases h:i<0
    ·simp only[h,if_true]<;>omega
    ·simp only[h,if_false]<;>omega
 ·cases hi with
  | none=>simp[ww,HT.sIx]
  | some i =>
    simp only[ww,HT.sIx,yGk,show(1:Int)>0 by decide,if_true]
    by_cases h:i<0
    ·simp only[h,if_true]<;>omega
    ·simp only[h,if_false]<;>omega
theorem aKL(aG:List qx)(lo hi:Option Int):slicePick aG.toArray lo hi qz=((aG.drop (HT.sIx aG.length 0 lo)).take (HT.sIx aG.length aG.length hi-HT.sIx aG.length 0 lo)).toArray:=by
 obtain⟨h1,h2,h3⟩:=aKN lo hi aG.toArray.size;unfold slicePick;rw[h1,h2,h3];simp only[sliceRange_one,pick_run,yAg]<;>rfl
noncomputable def aU8(K:FrG):V->Option Int->Option Int->Hp->VK->Prop:=λ x lo hi H Q=>∃ a xs,x=.ref a/\bW K H a xs/\∀ p,H p=qz->Q (.ref p) (bE H p (.lst (lZ xs lo hi)))
theorem aN9:SlR X (aU8 X.K):=by
 intro aB s σ H x v vl vu lo hi sl Q I rx hs pl pu h;obtain⟨a,xs,rfl,hx,q⟩:=h;cases rx;obtain⟨aG,r,ht,hz⟩:=I.list hx;have cT:=r.length;refine⟨"list",_,slot_list_getitem.lookup,ht.isList.typeIs,?_⟩;refine wpAny_getItem_list_slice ht.isList hs pl pu .none (by simp) ?_ (by rw[yAg]<;>omega)
 rw[aKL,<- cT];refine⟨.ref s.heap.objs.size,_,I.laid (t':=s.toks) (o:=.lst (lZ xs lo hi)) (λ b ob q=>hpS _ q) (yAc _) ?_,rfl,q _ (I.hok.fresh (yAc _))⟩
 exact⟨xAh (aEw xs lo hi) hz,_,0,(r.drop (HT.sIx xs.length 0 lo)).take (HT.sIx xs.length xs.length hi-HT.sIx xs.length 0 lo),xAd _ rfl⟩
noncomputable def kP:V->Bool
 | .non=>true
 | .bl _=>true
 | .int _=>true
 | .str _=>true
 | _=>false
noncomputable def mF:V->V->Bool
 | .non,.non=>true
 | .bl a,.bl b=>a==b
 | .bl a,.int b=>(if a then 1 else 0)==b
 | .int a,.bl b=>a==(if b then 1 else 0)
 | .int a,.int b=>a==b
 | .str a,.str b=>a==b
 | _,_=>false
theorem aRB{A:zy}{s:qj}{y x:V}{u v:qx}(ry:bC y u)(rx:bC x v)(fy:kP y=true)(fx:kP x=true):SeqAt.EqAt A s u v (mF y x):=by
 cases y with
 | non =>
   cases ry;cases x with
   | non=>cases rx;exact SeqAt.EqAt.same _
   | bl b=>cases rx;exact SeqAt.EqAt.none_bool b
   | int b=>obtain⟨t,rfl⟩:=rx;exact SeqAt.EqAt.none_int b t
   | str b=>obtain⟨t,rfl⟩:=rx;exact SeqAt.EqAt.none_str b t
   | _=>exact absurd (show false=true from fx) yBf
 | bl a =>
   cases ry;cases x with
   | non=>cases rx;exact SeqAt.EqAt.bool_none a
   | bl b=>cases rx;exact SeqAt.EqAt.bool_bool a b
   | int b=>obtain⟨t,rfl⟩:=rx;exact SeqAt.EqAt.bool_int a b t
   | str b=>obtain⟨t,rfl⟩:=rx;exact SeqAt.EqAt.bool_str a b t
   | _=>exact absurd (show false=true from fx) yBf
 | int a =>
   obtain⟨t',rfl⟩:=ry;cases x with
   | non=>cases rx;exact SeqAt.EqAt.int_none a t'
   | bl b=>cases rx;exact SeqAt.EqAt.int_bool a t' b
   | int b=>obtain⟨t,rfl⟩:=rx;exact SeqAt.EqAt.int_int a t' b t
   | str b=>obtain⟨t,rfl⟩:=rx;exact SeqAt.EqAt.int_str a t' b t
   | _=>exact absurd (show false=true from fx) yBf
 | str a =>
   obtain⟨t',rfl⟩:=ry;cases x with
   | non=>cases rx;exact SeqAt.EqAt.str_none a t'
   | bl b=>cases rx;exact SeqAt.EqAt.str_bool a t' b
   | int b=>obtain⟨t,rfl⟩:=rx;exact SeqAt.EqAt.str_int a t' b t
   | str b=>obtain⟨t,rfl⟩:=rx;exact SeqAt.EqAt.str_str a t' b t
   | _=>exact absurd (show false=true from fx) yBf
 | _=>exact absurd (show false=true from fy) yBf
noncomputable def gR(x:V)(u:qx):Bool:=match u with
 | .none=>mF .non x
 | .bool b=>mF (.bl b) x
 | .int i _=>mF (.int i) x
 | .str z _=>mF (.str z) x
 | _=>false
theorem aHV{x y:V}{u:qx}(r:bC y u)(f:kP y=true):gR x u=mF y x:=by
 cases y with
 | non=>cases r;rfl
 | bl b=>cases r;rfl
 | int i=>obtain⟨t,rfl⟩:=r;rfl
 | str z=>obtain⟨t,rfl⟩:=r;rfl
 | _=>exact absurd (show false=true from f) yBf
theorem uA{x:V}:∀ {xs:List V}{us:List qx},aZ xs us->xs.all kP=true->us.any (gR x)=xs.any λ y=>mF y x
 | _,_,.nil,_=>rfl
 | y::xs,u::us,.cons r t,f=>by
   rw[List.all_cons,yBb] at f;rw[List.any_cons,List.any_cons,aHV r f.1,uA t f.2]
theorem tL{A:zy}{s:qj}{x:V}{v:qx}(rx:bC x v)(fx:kP x=true):∀ {xs:List V}{us:List qx},aZ xs us->xs.all kP=true->∀ u∈us,SeqAt.EqAt A s u v (gR x u)
 | _,_,.nil,_=>λ u hu=>by cases hu
 | y::xs,u::us,.cons r t,f=>λ u' hu=>by
   rw[List.all_cons,yBb] at f;rcases List.mem_cons.mp hu with rfl | hu
   ·rw[aHV r f.1];exact aRB r rx f.1 fx
   ·exact tL rx fx t f.2 u' hu
noncomputable def sB(x:V)(xs:List V):Bool:=xs.any λ y=>mF y x
noncomputable def rIn(K:FrG)(neg:Bool):R2:=λ x y H Q=>∃ p xs,y=.ref p/\(bW K H p xs\/bZ K H p xs)/\kP x=true/\xs.all kP=true/\Q (.bl (if neg then !sB x xs else sB x xs)) H
theorem aLP:cZ X (jx .In) (rIn X.K false):=by
 intro aB s σ H x y v u Q I rx ry h;obtain⟨p,xs,rfl,hq,fx,fs,q⟩:=h;cases ry;rcases hq with hq | hq
 ·obtain⟨aG,r,pl,hz⟩:=I.list hq;refine SeqAt.in_listAt (gR x) pl.isList (λ w hw=>tL rx fx r fs w (by simpa using hw)) ⟨.bl _,H,I,rfl,?_⟩
  rw[show aG.toArray.any (gR x)=aG.any (gR x) by simp,uA r fs]
  exact q
 ·obtain⟨aG,r,pl,hz⟩:=I.tuple hq;refine SeqAt.in_tupleAt (gR x) pl (λ w hw=>tL rx fx r fs w (by simpa using hw)) ⟨.bl _,H,I,rfl,?_⟩
  rw[show aG.toArray.any (gR x)=aG.any (gR x) by simp,uA r fs]
  exact q
theorem aKS:cZ X (jx .NotIn) (rIn X.K true):=by
 intro aB s σ H x y v u Q I rx ry h;obtain⟨p,xs,rfl,hq,fx,fs,q⟩:=h;cases ry;rcases hq with hq | hq
 ·obtain⟨aG,r,pl,hz⟩:=I.list hq;refine SeqAt.notIn_listAt (gR x) pl.isList (λ w hw=>tL rx fx r fs w (by simpa using hw)) ⟨.bl _,H,I,rfl,?_⟩
  rw[show aG.toArray.any (gR x)=aG.any (gR x) by simp,uA r fs]
  exact q
 ·obtain⟨aG,r,pl,hz⟩:=I.tuple hq;refine SeqAt.notIn_tupleAt (gR x) pl (λ w hw=>tL rx fx r fs w (by simpa using hw)) ⟨.bl _,H,I,rfl,?_⟩
  rw[show aG.toArray.any (gR x)=aG.any (gR x) by simp,uA r fs]
  exact q
theorem aEs:eQ X (.builtin "len") (λ xs H Q=>∃ p ys,xs=[.ref p]/\(bW X.K H p ys\/bZ X.K H p ys)/\Q (.int ys.length) H):=by
 intro aB s σ H xs us Q I r h;obtain⟨p,ys,rfl,hq,q⟩:=h;obtain⟨u,rfl,rx⟩:=jA r;cases rx;have hn:=oS;rcases hq with hq | hq
 ·obtain⟨aG,r',pl,hz⟩:=I.list hq;have cT:=r'.length;exact Calls.call_len_list pl.isList (by simp only[yAg]<;>omega) ⟨.int ys.length,H,I.tok _,⟨s.toks+1,by rw[yAg,cT]⟩,q⟩
 ·obtain⟨aG,r',pl,hz⟩:=I.tuple hq;have cT:=r'.length;exact len_tuple pl (by simp only[yAg]<;>omega) ⟨.int ys.length,H,I.tok _,⟨s.toks+1,by rw[yAg,cT]⟩,q⟩
theorem aKW:eQ X (.builtin "len") (λ xs H Q=>∃ z,xs=[.str z]/\z.length<=qk/\Q (.int z.length) H):=by
 intro aB s σ H xs us Q I r h;obtain⟨z,rfl,hz,q⟩:=h;obtain⟨u,rfl,t,rfl⟩:=jA r;have hn:=oS;exact len_str (by omega) ⟨.int z.length,H,I.tok _,⟨_,rfl⟩,q⟩
theorem aEk:eQ X (.type "tuple") (λ xs H Q=>∃ p ys,xs=[.ref p]/\((bW X.K H p ys/\∀ l,H l=qz->Q (.ref l) (bE H l (.tup ys)))\/(bZ X.K H p ys/\Q (.ref p) H))):=by
 intro aB s σ H xs us Q I r h;obtain⟨p,ys,rfl,h⟩:=h;obtain⟨u,rfl,rx⟩:=jA r;cases rx;rcases h with ⟨hq,q⟩ | ⟨hq,q⟩
 ·obtain⟨aG,r',pl,hz⟩:=I.list hq;have cT:=r'.length;refine call_tuple_list pl.isList (λ h' kp=>?_) (by simp only[yAg]<;>omega)
  have I1:Inv X aB σ H {s with heap:=h' }:=I.kept (t':=s.toks) kp
  have I2:Inv X aB σ (bE H h'.objs.size (.tup ys)) {s with heap:=h'.push {cls:=.type "tuple",data:=.seq aG.toArray } }:=
   I1.laid (t':=s.toks) (λ b o e=>hpS _ e) (yAc _) (show hU X.prog X.w _ _ _ (.tup ys) from ⟨hz,aG,r',IsTup.new _ _⟩)
  exact⟨.ref h'.objs.size,_,I2,rfl,q _ (I1.hok.fresh (yAc _))⟩
 ·obtain⟨aG,r',pl,hz⟩:=I.tuple hq;exact call_tuple_same pl ⟨.ref p,H,I,rfl,q⟩
def tyV(K:FrG)(T:String)(x:V)(H:Hp):Prop:=match x with
 | .str _=>T = "str"
 | .int _=>T = "int"
 | .ref p=>(T = "list" /\ ∃ xs,bW K H p xs)\/(T = "tuple" /\ ∃ o,K.lookup p=qq o/\o.cls=.type "tuple" /\ o.dict=qz) \/
    (T = "dict" /\ ((∃ aX,H p=qq (.dK aX))\/∃ aX,H p=qq (.dT aX)))\/(T = "set" /\ ∃ S n,H p=qq (.set S n))
 | _=>False
theorem aIa{aB:List (qv×Obj)}{σ:St}{H:Hp}{s:qj}{T:String}{x:V}{v:qx}(I:Inv X aB σ H s)(r:bC x v)(ty:tyV X.K T x H) :
 s.TypeIs v T/\∀ a,v=.ref a->∃ ob,s.heap.get? a=qq ob/\ob.dict=qz:=by
 cases x with
 | str z =>
   obtain⟨t,rfl⟩:=r;cases (show T = "str" from ty)
   exact⟨typeIs_str s z t,λ _ e=>nomatch e⟩
 | int i =>
   obtain⟨t,rfl⟩:=r;cases (show T = "int" from ty)
   exact⟨kz s i t,λ _ e=>nomatch e⟩
 | ref p =>
   cases r;rcases ty with ⟨rfl,xs,hq⟩ | ⟨rfl,o,hk,hc,hd⟩ | ⟨rfl,hk⟩ | ⟨rfl,S,n,hk⟩
   ·obtain⟨aG,_,pl,_⟩:=I.list hq;refine⟨pl.isList.typeIs,λ a e=>?_⟩
    cases e;obtain⟨o,n,e,c,hd,_⟩:=pl;exact⟨o,e,hd⟩
   ·refine⟨⟨o,I.kIn p o hk,hc⟩,λ a e=>?_⟩
    cases e;exact⟨o,I.kIn _ o hk,hd⟩
   ·have z:∃ o,s.heap.get? p=qq o/\o.ExactDict:=by
     rcases hk with ⟨aX,hk⟩ | ⟨aX,hk⟩
     ·obtain⟨_,_,_,_,o,_,_,e,ex,_⟩:=I.hok p _ hk;exact⟨o,e,ex⟩
     ·obtain⟨_,_,_,_,o,_,_,e,ex,_⟩:=I.hok p _ hk;exact⟨o,e,ex⟩
    obtain⟨o,e,ex⟩:=z;refine⟨⟨o,e,ex.1⟩,λ a e2=>?_⟩
    cases e2;exact⟨o,e,ex.2.1⟩
   ·obtain⟨o,_,_,_,e,ex,_⟩:=I.hok p _ hk;refine⟨⟨o,e,ex.1⟩,λ a e2=>?_⟩
    cases e2;exact⟨o,e,ex.2.1⟩
 | _=>exact False.elim ty
noncomputable def aVu(K:FrG)(T:String)(r:V->List V->Hp->VK->Prop)(to:TE):TE:=λ σ H Q=>to σ H λ x H1=>tyV K T x H1/\r x [] H1 Q
noncomputable def tBM(K:FrG)(T:String)(r:V->List V->Hp->VK->Prop)(to:TE)(t:TA):TE:=λ σ H Q=>to σ H λ x H1=>tyV K T x H1/\t σ H1 λ xs H2=>r x xs H2 Q
variable {o e : qw}{es : List qw}{to : TE}{t : TA}{name : Str}{apos cpos : Pos}{T id : String}{r : V -> List V -> Hp -> VK -> Prop}
theorem aQD(pa:PlainAttrs T)(slot:Slot T name id)(hty:typeOf (.builtin id)=pure (.type "method_descriptor"))(hm:MtR X id r)(ho:PE X o to)
 (hbase:attributeBase o name X.env (eval o X.env)=eval o X.env:=by rfl) (hline:(apos.endLine==cpos.line)=true:=by rfl):PE X (.Call (.Attribute o name apos) [] [] cpos) (aVu X.K T r to):=by
 intro aB s σ H Q I h;refine wpAny_Call_method0_late hbase hline (bD (ho aB s σ H _ I h) λ v s1 hPq28=>?_)
 obtain⟨x,H1,I1,r1,ty,q1⟩:=hPq28;obtain⟨h1,h2⟩:=aIa I1 r1 ty;exact⟨T,id,pa,slot,hty,h1,h2,Calls.callWith_builtin rfl (PySem.evalArgs_none (hm aB s1 σ H1 x [] v [] Q I1 r1 .nil q1))⟩
theorem aSB(pa:PlainAttrs T)(slot:Slot T name id)(hty:typeOf (.builtin id)=pure (.type "method_descriptor"))(hm:MtR X id r)(ho:PE X o to)(ha:PA X (e::es) t)
 (hbase:attributeBase o name X.env (eval o X.env)=eval o X.env:=by rfl)
 (hfew:((backTo cpos (qo (e::es) X.env)).all (λ x=>!x.1)&&(backToKw cpos (keywordEach [] X.env)).all (λ x=>x.1.isSome)
   && decide ((e::es).length+([]:List Keyword).length+(if ([]:List Keyword).isEmpty then 0 else 1)<30))=true:=by rfl)
 (hline:(apos.endLine==cpos.line)=true:=by rfl) (hs:qo (e::es) X.env=(false,eval e X.env)::qo es X.env:=by rfl) (hplain:(backTo cpos (qo es X.env)).any (·.1)=false:=by rfl) :
 PE X (.Call (.Attribute o name apos) (e::es) [] cpos) (tBM X.K T r to t):=by
 intro aB s σ H Q I h;refine wpAny_Call_method_late hbase hfew hline rfl (bD (ho aB s σ H _ I h) λ v s1 hPq29=>?_)
 obtain⟨x,H1,I1,r1,ty,q1⟩:=hPq29;obtain⟨h1,h2⟩:=aIa I1 r1 ty;refine⟨T,id,pa,slot,hty,h1,h2,?_⟩;have hA:=ha cpos aB s1 σ H1 _ I1 q1;rw[hs] at hA ⊢;refine Calls.callWith_builtin (by show(false||(backTo cpos (qo es X.env)).any (·.1))=false;rw[hplain]<;>rfl) (Calls.evalArgs_plain ?_)
 exact bD hA λ us s2 ⟨vs,H2,I2,r2,q2⟩=>hm aB s2 σ H2 x vs v us Q I2 r1 r2 q2
end
end L2
namespace L2
open PySem PySem.Spec PyProof.Rows
def MtM(X:Cx)(id:String)(r:V->List V->Hp->VK->Prop):Prop:=
 ∀ (aB:List (qv×Obj)) (s:qj) (σ:St) (H:Hp) (x:V) (xs:List V) (v:qx) (us:List qx) (Q:VK),Inv X aB σ H s->bC x v->aZ xs us->r x xs H Q ->
  qy (model X.prog X.w) X.A (call (.builtin id) (v::us)) (EP X aB σ Q) X.xe s
theorem aZ.one:∀ {x:V}{us:List qx},aZ [x] us->∃ u,us=[u]/\bC x u
 | _,_,.cons r .nil=>⟨_,rfl,r⟩
theorem aZ.rep{xs:List V}{us:List qx}(h:aZ xs us):∀ k:Nat,aZ (yAb k xs).flatten (yAb k us).flatten
 | 0=>.nil
 | k+1=>by
   rw[yAw,yAw,yCy,yCy];exact aZ.append h (aZ.rep h k)
theorem yR(aG:List qx):∀ (k:Nat) (aF:List qx),
 List.foldl (λ x1 x2=>x1++x2) aF.toArray (yAb k aG.toArray)=(aF++(yAb k aG).flatten).toArray
 | 0,aF=>by simp
 | k+1,aF=>by
   have e:aF.toArray++aG.toArray=(aF++aG).toArray:=by simp
   have e2:(aF++aG)++(yAb k aG).flatten=aF++(yAb (k+1) aG).flatten:=by
    rw[yAw,yCy,yBa]
   rw[<- e2,<- yR aG k (aF++aG),<- e,yAw,yBl]
section
variable {X : Cx}{aB : List (qv×Obj)}{σ : St}{H : Hp}{s : qj}{l b : qv}{xs ys zs : List V}
theorem Inv.lset{aG its':List qx}{n:Nat}{f:Array qx->Array qx}{t':Nat}(I:Inv X aB σ H s)(hH:H l=qq (.lst xs))
 (e:s.heap.get? l=qq {cls:=.type "list",data:=.seq aG.toArray n }) (hf:f aG.toArray=its'.toArray) (hv:aZ ys its') (hz:ys.length<=qk) :
 Inv X aB σ (bE H l (.lst ys)) {s with heap:=s.heap.update l (Obj.mapSeq f),toks:=t' }:=by
 have q:=PySem.IsL.update e f;rw[hf] at q;refine I.write (x:=l) (e:=l) (by rw[hH];exact trivial) (.inl rfl) (λ b' u hb hu=>(yBw s.heap (Obj.mapSeq f) (Ne.symm hb)).trans hu) ⟨_,q⟩ ?_
 exact⟨hz,its',_,hv,q⟩
theorem Inv.lnew{aG:List qx}{t':Nat}(I:Inv X aB σ H s)(hv:aZ ys aG)(hz:ys.length<=qk) :
 Inv X aB σ (bE H s.heap.objs.size (.lst ys)) {s with heap:=s.heap.push {cls:=.type "list",data:=.seq aG.toArray },toks:=t' }:=
 I.laid (λ _ _ q=>hpS _ q) (yAc _) ⟨hz,aG,0,hv,xAd _ rfl⟩
theorem Inv.fresh(I:Inv X aB σ H s):H s.heap.objs.size=qz:=I.hok.fresh (yAc _)
theorem Inv.lstM(I:Inv X aB σ H s)(hH:H l=qq (.lst xs)):xs.length<=qk/\∃ (aG:List qx) (n:Nat),aZ xs aG/\xs.length=aG.length/\s.heap.get? l=qq {cls:=.type "list",data:=.seq aG.toArray n }:=by
 obtain⟨z,aG,n,r,e⟩:=I.hok l _ hH;exact⟨z,aG,n,r,r.length,e⟩
end
section
variable {X : Cx}
noncomputable def aGx:V->List V->Hp->VK->Prop:=λ x vs H Q=>∃ l xs y,x=.ref l/\vs=[y]/\H l=qq (.lst xs)/\xs.length<qk/\Q .non (bE H l (.lst (xs++[y])))
theorem aFt:MtM X "list.append" aGx:=by
 intro aB s σ H x vs v us Q I rx rv h;obtain⟨l,xs,y,rfl,rfl,hH,hz,q⟩:=h;cases rx;obtain⟨u,rfl,ru⟩:=rv.one;obtain⟨z,aG,n,r,hl,e⟩:=I.lstM hH;refine wj F.slot_list_append ⟨_,e,rfl⟩ F.entry_list_append (F.args_list_append_2 _ _) (PySem.list_append l aG.toArray n u (by rw[yAg];omega)) ⟨e,?_⟩
 refine⟨.non,_,I.lset (its':=aG++[u]) hH e (by simp) (r.append (.cons ru .nil)) ?_,rfl,q⟩
 rw[xAn,List.length_singleton];omega
theorem aOQ{α:Type}(xs:List α)(k:Nat):(yAb k xs).flatten.length=k*xs.length:=by
 induction k with
 | zero=>simp
 | succ k ih=>rw[yAw,yCy,xAn,ih,Nat.succ_mul,yDr]
end
section
variable {prog : zq}{w : zw}{A : zy}{E : qx -> qj -> Prop}{s : qj}
end
section
variable {X : Cx}
end
end L2
namespace Att
open PySem PySem.W PySem.Calls PyProof.Rows
theorem aKu{P:Params}{h:Heap}:∀ (ns:List Int) (vs:List qx),WellAll P h vs (ns.map WData.int)->IntsAre vs ns:=by
 intro ns
 induction ns with
 | nil =>
   intro vs w;rw[yFw] at w;cases w;exact .nil
 | cons n ns ih =>
   intro vs w;rw[yBg] at w;cases w with
   | cons a b =>
     cases a;exact .cons _ _ (ih _ b)
theorem script_of{l:OpenLaw}{n:Nat}(hn:l.most=qq n){P:Params}{h:Heap}{args:List WData}{vals:List qx}
 (hpre:l.row.toRowW.claim.pre args=true) (hwl:WellAll P h vals args) :
 ∃ a vs ns,vals=[Value.ref a]/\args=[WData.list (ns.map WData.int)]/\h.get? a=qq {cls:=.type "list",data:=.seq vs.toArray }/\IntsAre vs ns/\ns.length<=n:=by
 have hsh:WShape.hasAll [] args [.list .int]=true:=(pre_splitW hpre).1;have hc:l.pre.holds [] {args:=args }=true:=(pre_splitW hpre).2;obtain⟨d,r,rfl,h1,h2⟩:=hasAllW_cons hsh;obtain rfl:=hasAllW_nil h2;obtain⟨xs,rfl,h3⟩:=hasW_list h1;obtain⟨ns,rfl⟩:=items_int h3;have cT:ns.length<=n:=by
  unfold OpenLaw.pre at hc;have h4:(WTm.not (.lt (.lit (.int (n:Int))) (.len (.arg 0)))).holds [] {args:=[.list (ns.map .int)] }=true:=by
   have h4:=(holds_andW hc).1;rw[hn] at h4;exact h4
  have h5:=condW_of h4 (w_not (w_lt w_lit (w_len_list (w_arg rfl))));rw[yAf] at h5;refine yFi λ q=>?_
  have q':(n:Int)<((ns.length:Nat):Int):=by omega
  first
   | (rw[dqT q'] at h5;exact absurd h5 (by decide))
   | (simp at h5;omega)
 cases hwl with
 | cons w1 w2 =>
   cases w2;cases w1 with
   | list ho hall=>exact⟨_,_,ns,rfl,rfl,ho,aKu ns _ hall,cT⟩
theorem post_true(l:OpenLaw)(args:List WData):l.row.toRowW.claim.post args (.bool true) args=true:=
 postW_of (r:=l.row.toRowW) (X:=(true==true))
  (show WShape.has [] (.bool true) .bool=true by first | rfl | decide | simp[WShape.has,WShape.arms,WShape.armsAll])
  (show(WTm.eq .res (.lit (.bool true))).value [] {args:=args,res:=qq (.bool true),after:=args }=qq (.bool (true==true)) from w_eq_bool (w_res rfl) w_lit) rfl
section
variable {prog : zq}{w : zw}{A : zy}{E : qx -> qj -> Prop}{s : qj}{K : Frag}
noncomputable def aVU(h:Heap)(L d:qv):List (qv×Obj):=(yBk h.objs.size).filterMap λ a=>if a=L\/a=d then qz else (h.get? a).map λ o=>(a,o)
end
end Att
namespace L2
open PySem PySem.Spec PyProof.Rows
theorem aFJ:∀ {vs:List qx}{ns:List Int},IntsAre vs ns->aZ (ns.map V.int) vs
 | _,_,.nil=>.nil
 | _,_,.cons n t h=>.cons ⟨t,rfl⟩ (aFJ h)
def aJJ(H:Hp):Prop:=∀ b,H b=qz\/∃ o xs,H b=qq (.frz o (.lst xs))
theorem law_call{P:zq}{w:zw}{K:FrG}{mg mb:Str->Option qx}{CX:kU}{k:Nat}{fa a:qv}{fd:wu}{x:Str}{sp:Sp}{s₁:qj}{vs:List qx}{ns:List Int}
 (KX:K.In s₁.heap) (hns:s₁.heap.Ns jq mg) (hb:s₁.heap.Ns builtinsNs mb) (hbb:∀ x:Str,x ≠ "__name__" -> mb x=vw x) (hlim:s₁.heap.NoLimit) (hg:s₁.gens = #[])
 (ha:s₁.heap.get? a=qq {cls:=.type "list",data:=.seq vs.toArray }) (hi:IntsAre vs ns) (hl:ns.length<=qk) (hr:Room k callerA)
 (F:∀ base:Heap,K.In base->base.Ns jq mg->FnOk P w K mg base CX k fa fd [x] sp) (hbind:∀ (s:qj) (u:qx),BindsTo s fd ⟨[u],[]⟩ [(x,u)])
 (hsp:∀ H:Hp,aJJ H->bW K H a (ns.map V.int)->sp [.ref a] H (λ v _=>v=.bl true) λ _ _ _=>False)
 (hCX:∀ H e s',CX [] H s₁ (λ _ _ _=>False) e s'->False) :
 vo (model P w) callerA (.call (.ref fa) ⟨[.ref a],[]⟩) (λ r s'=>r=.ok (.ret (.bool true))/\OldK s₁.heap s'.heap/\s'.os=s₁.os/\AllBare s'.gens) s₁:=by
 have rv:=aFJ hi;have lenV:=hi.length;have core:∀ H:Hp,aJJ H->bW K H a (ns.map V.int)->dS P w H s₁.heap->(∀ b,H b≠qz->b=a)->(H a≠qz->K.lookup a=qz) ->
  vo (model P w) callerA (.call (.ref fa) ⟨[.ref a],[]⟩) (λ r s'=>r=.ok (.ret (.bool true))/\OldK s₁.heap s'.heap/\s'.os=s₁.os/\AllBare s'.gens) s₁:=by
  intro H hO hS hok hA hK;have tZ:∀ {b:qv}{o:Obj},s₁.heap.get? b=qq o->H b=qz->(lV s₁.heap H).get? b=qq o:=λ e n=>aMG e n
  have noA:∀ {b:qv}{o:Obj}{es:Array DictEntry}{ep:Nat},s₁.heap.get? b=qq o->o.data=.dict es ep->H b=qz:=λ {b o es ep} e d=>by
   cases q:H b with
   | none=>rfl
   | some u =>
     have e':b=a:=hA b (by rw[q];simp)
     subst e';rw[ha] at e;cases e;have d':Data.seq vs.toArray _=Data.dict es ep:=d;cases d'
  have nsK:∀ {b:qv}{m:Str->Option qx},s₁.heap.Ns b m->(lV s₁.heap H).Ns b m:=λ {b m} ⟨o,es,ep,e,d,r⟩=>⟨o,es,ep,tZ e (noA e d),d,r⟩
  have hKb:K.In (lV s₁.heap H):=λ b o e=>tZ (KX b o e) (by
   cases q:H b with
   | none=>rfl
   | some u =>
     have e':b=a:=hA b (by rw[q];simp)
     subst e';rw[hK (by rw[q];simp)] at e;cases e)
  have hM:Mod K mg (lV s₁.heap H):=⟨hKb,nsK hns,⟨mb,nsK hb,hbb⟩,let ⟨mc,h1,h2⟩:=hlim;⟨mc,nsK h1,h2⟩⟩;have e0:Env0 P w K mg (lV s₁.heap H) callerA [] s₁ H:=⟨rfl,hM,λ b o e=>aPw e,yFx (aMf _ _),trivial,λ b hb=>absurd (show b∈([]:List qv) from hb) (by simp),hok,.of_eq hg⟩
  refine codeAny_mono ((F _ hKb (nsK hns)).run callerA [] s₁ H ⟨[.ref a],[]⟩ [.ref a] [.ref a] _ _ hr e0 (hbind s₁ (.ref a)) (.cons rfl .nil) (hsp H hO hS)) λ r s' h=>?_
  cases r with
  | error e=>exact(hCX H e s' h).elim
  | ok fl =>
    cases fl with
    | next=>exact False.elim h
    | brk=>exact False.elim h
    | cont=>exact False.elim h
    | ret u =>
      obtain⟨v,H',os,bare,un,hok',r',q⟩:=h;have q':v=.bl true:=q;subst q';obtain rfl:u=Value.bool true:=r';refine⟨rfl,OldK.of_keep λ b o e=>?_,os,bare⟩
      cases q:H b with
      | none=>exact un.keep b o e q (by intro z;exact absurd (show b∈([]:List qv) from z) (by simp)) (by simp)
      | some u =>
        rcases hO b with z | ⟨ob,xs,z⟩
        ·rw[q] at z;cases z
        ·have z2:=un.frzs b ob _ z;obtain⟨e1,_⟩:=hok b _ z;obtain⟨e2,_⟩:=hok' b _ z2;rw[e] at e1;cases e1;exact e2
 cases hk:K.lookup a with
 | some o =>
   have e:=KX a o hk;rw[ha] at e;cases e;refine core (λ _=>qz) (λ _=>.inl rfl) (.inr ⟨_,vs.toArray,_,hk,rfl,rfl,rfl,by rw[yAg,lenV];exact hl,by simpa using rv⟩) (λ b u z=>by have z':(qz:Option HO)=qq u:=z;cases z') (λ b z=>absurd rfl z) λ z=>absurd rfl z
 | none =>
   refine core (λ b=>if b=a then qq (.frz {cls:=.type "list",data:=.seq vs.toArray } (.lst (ns.map V.int))) else qz) (λ b=>?_) (.inl (.inr ⟨{cls:=.type "list",data:=.seq vs.toArray },if_pos rfl⟩)) (λ b u z=>?_) (λ b z=>?_) λ _=>hk
   ·by_cases hb:b=a
    ·exact .inr ⟨_,_,if_pos hb⟩
    ·exact .inl (if_neg hb)
   ·by_cases hb:b=a
    ·have z':=(if_pos hb).symm.trans z;cases z';subst hb;exact⟨ha,by rw[yAf];exact hl,vs,_,rv,ha⟩
    ·have z':=(if_neg hb).symm.trans z;cases z'
   ·by_cases hb:b=a
    ·exact hb
    ·exact absurd (if_neg hb) z
end L2
namespace L2
open PySem PySem.Spec PyProof.Rows
noncomputable abbrev KOf{K:FrG}{h:Heap}(_:K.In h):FrG:=K
end L2
namespace L2
open PySem PySem.Spec PyProof.Rows
noncomputable def mW(s:jz):Arguments:=match s with
 | .FunctionDef _ a _ _ _ _ _ _ _ _=>a
 | _=>{posonlyargs:=[],args:=[],vararg:=qz,kwonlyargs:=[],kw_defaults:=[],kwarg:=qz,defaults:=[] }
noncomputable def kG(s:jz):List jz:=match s with
 | .FunctionDef _ _ b _ _ _ _ _ _ _=>b
 | _=>[]
noncomputable def eW(s:jz):zk:=match s with
 | .FunctionDef _ _ _ _ _ _ sc _ _ _=>sc
 | _=>{kind:=.function,names:=[],isGenerator:=false,isCoroutine:=false }
noncomputable abbrev sD:kU:=λ _ _ _ _ _ _=>False
noncomputable abbrev E0:XK:=λ _ _ _=>False
theorem aIw{X:Cx}:zV sD X E0:=λ _ _ _ _ _ _ _ h=>h.elim
structure Fun(K:FrG)(x cO:Str)(st:jz)(f:qv)(fd:wu):Prop where
 ex:∃ (oc:qx) (od:Option qv) (kV doc pm:qx) (an:Option qv) (cdv ct:qx) (osl:Array (Option qx)),
  fd=yDe x cO (mW st) (kG st) (eW st) .none kV doc pm an cdv ct/\K.lookup f=qq ⟨oc,od,.func fd,osl⟩/\yFd K cdv cO=true
 kp:yCw K (.ref f)=true
section
variable {P : zq}{w : zw}{K : FrG}{mg : Str -> Option qx}{base : Heap}
theorem Fun.ok{x cO:Str}{st:jz}{f:qv}{fd:wu}{N ps:List Str}{k:Nat}{sp:Sp}(F:Fun K x cO st f fd)(S:FnScope N ps (eW st))(len:∀ vs H Q E,sp vs H Q E->vs.length=ps.length)
 (hbody:∀ (cdv:qx) (A:zy) (outer:List Env) (s:qj) (H:Hp) (vs:List V) (Q:VK) (E:XK),Room k (A.deeper (envOfC cO (eW st) s.heap.objs.size f cdv))->sp vs H Q E ->
   ∃ t,dZ (rV sD P w K mg base N cO (eW st) f cdv A outer s H E).nox (kG st) t/\t {nx:=λ _ H'=>Q .non H',rt:=Q } (start N vs) H):FnOk P w K mg base sD (k+1) f fd ps sp:=by
 obtain⟨oc,od,kV,doc,pm,an,cdv,ct,osl,rfl,lk,hcd⟩:=F.ex;refine aTI lk hcd S len λ A outer s H vs Q E hr hsp=>?_
 obtain⟨t,h,q⟩:=hbody cdv A outer s H vs Q E hr hsp;exact⟨t,h.nox,q⟩
theorem Fun.binds{x cO:Str}{st:jz}{f:qv}{fd:wu}{ps:List Str}(F:Fun K x cO st f fd)
 (h:∀ (kV doc pm:qx) (an:Option qv) (cdv ct:qx) (us:List qx),us.length=ps.length->bindArgs (yDe x cO (mW st) (kG st) (eW st) .none kV doc pm an cdv ct) ⟨us,[]⟩=pure (ps.zip us)):lP K fd ps []:=by
 obtain⟨oc,od,kV,doc,pm,an,cdv,ct,osl,rfl,lk,hcd⟩:=F.ex;exact .all (h kV doc pm an cdv ct)
theorem aRC{x cO:Str}{st:jz}{f:qv}{oc:qx}{od an:Option qv}{osl:Array (Option qx)}{kV doc pm cdv ct:qx}(l:K.lookup f=qq ⟨oc,od,.func (yDe x cO (mW st) (kG st) (eW st) .none kV doc pm an cdv ct),osl⟩)
 (c:yFd K cdv cO=true) (k:yCw K (.ref f)=true):Fun K x cO st f (yDe x cO (mW st) (kG st) (eW st) .none kV doc pm an cdv ct):=⟨⟨oc,od,kV,doc,pm,an,cdv,ct,osl,rfl,l,c⟩,k⟩
end
section
variable {X : Cx}
end
theorem rL{A B:Prop}(h:B):if false=true then A else B:=by
 rw[if_neg yBf];exact h
theorem rP{A B:Prop}(h:A):if true=true then A else B:=by
 rw[if_pos rfl];exact h
def cC(H H':Hp):Prop:=∀ b o,H b=qq o->H' b=qq o
theorem cC.refl(H:Hp):cC H H:=λ _ _ h=>h
theorem cC.trans{H H1 H2:Hp}(a:cC H H1)(b:cC H1 H2):cC H H2:=λ c o h=>b c o (a c o h)
theorem cC.free{H H':Hp}(e:cC H H'){l:qv}(h:H' l=Option.none):H l=Option.none:=by
 cases q:H l with
 | none=>rfl
 | some o =>
   rw[e l o q] at h;cases h
theorem cC.seq{K:FrG}{H H':Hp}{a:qv}{xs:List V}(e:cC H H')(h:bW K H a xs):bW K H' a xs:=by
 rcases h with (h | ⟨o,h⟩) | h
 ·exact .inl (.inl (e _ _ h))
 ·exact .inl (.inr ⟨o,e _ _ h⟩)
 ·exact .inr h
end L2
set_option maxHeartbeats 4000000
namespace EV
open PySem L2 PySem.Spec PyProof.Rows
noncomputable abbrev D:=PyData
inductive W where
 | d (x:D) | loc (n:Nat)
noncomputable abbrev aD:=List (Option (List D))
noncomputable abbrev aW:=List (Option W)
noncomputable abbrev St:=L2.St
section
variable (K : FrG)(F : Hp)
mutual
inductive Den:D->V->Prop
 | non:Den .none .non
 | bl (b:Bool):Den (.bool b) (.bl b)
 | int (i:Int):Den (.int i) (.int i)
 | str (x:Str):Den (.str x) (.str x)
 | lst {a:qv}{xs:List V}{ds:List D}:bW K F a xs->DenL ds xs->Den (.list ds) (.ref a)
 | tup {a:qv}{xs:List V}{ds:List D}:bZ K F a xs->DenL ds xs->Den (.tuple ds) (.ref a)
inductive DenL:List D->List V->Prop
 | nil:DenL [] []
 | cons {d:D}{ds:List D}{x:V}{xs:List V}:Den d x->DenL ds xs->DenL (d::ds) (x::xs)
end
end
theorem iL{K:FrG}{H H':Hp}{a:qv}{xs:List V}(e:cC H H')(h:bZ K H a xs):bZ K H' a xs:=by
 rcases h with (h | ⟨o,h⟩) | h
 ·exact .inl (.inl (e _ _ h))
 ·exact .inl (.inr ⟨o,e _ _ h⟩)
 ·exact .inr h
section
variable {K : FrG}{F F' : Hp}
mutual
theorem Den.mono(e:cC F F'):∀ {d:D}{v:V},Den K F d v->Den K F' d v
 | _,_,.non=>.non
 | _,_,.bl b=>.bl b
 | _,_,.int i=>.int i
 | _,_,.str x=>.str x
 | _,_,.lst h r=>.lst (e.seq h) (DenL.mono e r)
 | _,_,.tup h r=>.tup (iL e h) (DenL.mono e r)
theorem DenL.mono(e:cC F F'):∀ {ds:List D}{xs:List V},DenL K F ds xs->DenL K F' ds xs
 | _,_,.nil=>.nil
 | _,_,.cons h r=>.cons (Den.mono e h) (DenL.mono e r)
end
theorem DenL.length:∀ {ds:List D}{xs:List V},DenL K F ds xs->ds.length=xs.length
 | _,_,.nil=>rfl
 | _,_,.cons _ r=>congrArg (· + 1) (DenL.length r)
theorem DenL.get:∀ {ds:List D}{xs:List V}{i:Nat}{d:D},DenL K F ds xs->ds[i]? = qq d->∃ x,xs[i]? = qq x/\Den K F d x
 | _,_,_,_,.nil,e=>by simp at e
 | _,_,0,_,.cons h _,e=>by simp at e;subst e;exact⟨_,rfl,h⟩
 | _,_,i+1,d,.cons _ r,e=>by
   obtain⟨x,h1,h2⟩:=DenL.get (i:=i) (d:=d) r (by simpa using e)
   exact⟨x,by simpa using h1,h2⟩
theorem DenL.append:∀ {ds es:List D}{xs ys:List V},DenL K F ds xs->DenL K F es ys->DenL K F (ds++es) (xs++ys)
 | _,_,_,_,.nil,s=>s
 | _,_,_,_,.cons h r,s=>.cons h (DenL.append r s)
theorem DenL.take:∀ {ds:List D}{xs:List V} (n:Nat),DenL K F ds xs->DenL K F (ds.take n) (xs.take n)
 | _,_,0,_=>.nil
 | _,_,_+1,.nil=>.nil
 | _,_,n+1,.cons h r=>.cons h (DenL.take n r)
theorem DenL.drop:∀ {ds:List D}{xs:List V} (n:Nat),DenL K F ds xs->DenL K F (ds.drop n) (xs.drop n)
 | _,_,0,r=>r
 | _,_,_+1,.nil=>.nil
 | _,_,n+1,.cons _ r=>DenL.drop n r
theorem DenL.set:∀ {ds:List D}{xs:List V} (i:Nat) {d:D}{x:V},DenL K F ds xs->Den K F d x->DenL K F (ds.set i d) (xs.set i x)
 | _,_,_,_,_,.nil,_=>.nil
 | _,_,0,_,_,.cons _ r,h=>.cons h r
 | _,_,i+1,_,_,.cons q r,h=>.cons q (DenL.set i r h)
theorem DenL.rep{ds:List D}{xs:List V}(h:DenL K F ds xs):∀ n:Nat,DenL K F (yAb n ds).flatten (yAb n xs).flatten
 | 0=>.nil
 | n+1=>by
   rw[yAw,yAw,yCy,yCy];exact h.append (DenL.rep h n)
theorem DenL.of_ints:∀ (ns:List Int),DenL K F (ns.map yAp) (ns.map V.int)
 | []=>.nil
 | n::r=>.cons (.int n) (DenL.of_ints r)
end
structure Rel(K:FrG)(F:Hp)(L:List qv)(S:aD)(H:Hp):Prop where
 sub:cC F H
 nd:L.Nodup
 len:L.length=S.length
 loc:∀ (n:Nat) (a:qv) (ds:List D),L[n]? = qq a->S[n]? = qq (qq ds)->F a=qz/\∃ xs,H a=qq (.lst xs)/\DenL K F ds xs
 tr:∀ (n:Nat) (a:qv),L[n]? = qq a->∃ xs,H a=qq (.lst xs)
noncomputable def eU(K:FrG)(F:Hp)(L:List qv):W->V->Prop
 | .d x,v=>Den K F x v
 | .loc n,v=>∃ a,L[n]? = qq a/\v=.ref a
structure EnvR(K:FrG)(F:Hp)(L:List qv)(env:aW)(σ:St):Prop where
 len:env.length=σ.length
 get:∀ (i:Nat) (w:W),env[i]? = qq (qq w)->∃ v,σ[i]? = qq (qq v)/\eU K F L w v
structure Gr(F:Hp)(L:List qv)(F':Hp)(L':List qv):Prop where
 f:cC F F'
 l:∃ M,L'=L++M
section
variable {K : FrG}{F F' F'' H H' : Hp}{L L' L'' : List qv}{S S' : aD}
theorem Gr.refl:Gr F L F L:=⟨cC.refl _,[],by simp⟩
theorem Gr.trans(a:Gr F L F' L')(b:Gr F' L' F'' L''):Gr F L F'' L'':=by
 obtain⟨f1,M,rfl⟩:=a;obtain⟨f2,N,rfl⟩:=b;exact⟨f1.trans f2,M++N,by rw[yBa]⟩
theorem Gr.get(g:Gr F L F' L'){n:Nat}{a:qv}(h:L[n]? = qq a):L'[n]? = qq a:=by
 obtain⟨_,M,rfl⟩:=g;rw[xAm (gIm h).1];exact h
theorem eU.mono(g:Gr F L F' L'){w:W}{v:V}(h:eU K F L w v):eU K F' L' w v:=by
 cases w with
 | d x=>exact Den.mono g.f h
 | loc n=>obtain⟨a,e,r⟩:=h;exact⟨a,g.get e,r⟩
theorem EnvR.mono(g:Gr F L F' L'){env:aW}{σ:St}(h:EnvR K F L env σ):EnvR K F' L' env σ:=
 ⟨h.len,λ i w e=>let ⟨v,e1,r⟩:=h.get i w e;⟨v,e1,r.mono g⟩⟩
theorem EnvR.set{env:aW}{σ:St}(h:EnvR K F L env σ)(i:Nat){w:W}{v:V}(r:eU K F L w v):EnvR K F L (env.set i (qq w)) (σ.set i (qq v)):=by
 refine⟨by rw[yBc,yBc];exact h.len,λ j u e=>?_⟩
 by_cases hj:i=j
 ·subst hj;have hl:i<env.length:=by
   rcases Nat.lt_or_ge i env.length with q | q
   ·exact q
   ·rw[yDf (by rw[yBc];exact q)] at e;cases e
  rw[yAx hl] at e;cases e;exact⟨v,yAx (by rw[<- h.len];exact hl),r⟩
 ·rw[yAy hj] at e;obtain⟨x,e1,r1⟩:=h.get j u e;exact⟨x,by rw[yAy hj];exact e1,r1⟩
theorem dB{p:qv}{o:HO}(h:H p=qz):cC H (bE H p o):=λ b u q=>by rw[bM (eH q h)];exact q
theorem Rel.new(r:Rel K F L S H){p:qv}{o:HO}(h:H p=qz):Rel K (bE F p o) L S (bE H p o):=by
 have hF:F p=qz:=r.sub.free h;refine⟨λ b u q=>?_,r.nd,r.len,λ n a ds e1 e2=>?_,λ n a e=>?_⟩
 ·by_cases hb:b=p
  ·subst hb;rw[dE] at q ⊢;exact q
  ·rw[bM hb] at q ⊢;exact r.sub _ _ q
 ·obtain⟨f,xs,e3,dl⟩:=r.loc n a ds e1 e2;have ne:a≠p:=eH e3 h;exact⟨by rw[bM ne];exact f,xs,by rw[bM ne];exact e3,DenL.mono (dB hF) dl⟩
 ·obtain⟨xs,hx⟩:=r.tr n a e;exact⟨xs,by rw[bM (eH hx h)];exact hx⟩
theorem Gr.new{p:qv}{o:HO}(h:F p=qz):Gr F L (bE F p o) L:=⟨dB h,[],by simp⟩
theorem Rel.newLoc(r:Rel K F L S H){p:qv}{xs:List V}{ds:List D}(h:H p=qz)(dl:DenL K F ds xs):Rel K F (L++[p]) (S++[qq ds]) (bE H p (.lst xs)):=by
 have hF:F p=qz:=r.sub.free h;refine⟨λ b u q=>?_,?_,by rw[xAn,xAn,r.len]<;>rfl,λ n a es e1 e2=>?_,λ n a e=>?_⟩
 ·rw[bM (eH q hF)];exact r.sub _ _ q
 ·rw[yGd];refine⟨r.nd,by simp,λ a ha b hb=>?_⟩
  rw[yBu] at hb;subst hb;obtain⟨n,hn⟩:=yFl ha;obtain⟨xs,hx⟩:=r.tr n a hn;exact eH hx h
 ·by_cases hn:n<L.length
  ·rw[xAm hn] at e1;rw[xAm (by rw[<- r.len];exact hn)] at e2
   obtain⟨f,ys,e3,dl'⟩:=r.loc n a es e1 e2;exact⟨f,ys,by rw[bM (eH e3 h)];exact e3,dl'⟩
  ·rw[yAh (by omega)] at e1
   rw[yAh (by rw[<- r.len];omega)] at e2
   have z:n-L.length=0:=by
    have:=(gIm e1).1;simp at this;omega
   rw[<- r.len] at e2;rw[z] at e1 e2;simp at e1 e2;subst e1 e2;exact⟨hF,xs,dE,dl⟩
 ·by_cases hn:n<L.length
  ·rw[xAm hn] at e;obtain⟨ys,hy⟩:=r.tr n a e;exact⟨ys,by rw[bM (eH hy h)];exact hy⟩
  ·rw[yAh (by omega)] at e
   have z:a=p:=by
    have h1:=xAk e;simpa using h1
   exact⟨xs,by rw[z];exact dE⟩
theorem Rel.lay(r:Rel K F L S H){p:qv}{o:HO}(h:H p=qz):Rel K F L S (bE H p o):=by
 refine⟨λ b u q=>by rw[bM (eH q (r.sub.free h))];exact r.sub _ _ q,r.nd,r.len,λ n a ds e1 e2=>?_,λ n a e=>?_⟩
 ·obtain⟨f,xs,e3,dl⟩:=r.loc n a ds e1 e2;exact⟨f,xs,by rw[bM (eH e3 h)];exact e3,dl⟩
 ·obtain⟨xs,hx⟩:=r.tr n a e;exact⟨xs,by rw[bM (eH hx h)];exact hx⟩
theorem Rel.notin(r:Rel K F L S H){p:qv}(h:H p=qz):p ∉ L:=λ hp=>by
 obtain⟨n,hn⟩:=yFl hp;obtain⟨xs,hx⟩:=r.tr n p hn;rw[h] at hx;cases hx
theorem Rel.adopt(r:Rel K F L S H){p:qv}{xs:List V}(hF:F p=qz)(hL:p ∉ L)(hH:H p=qq (.lst xs)):Rel K (bE F p (.lst xs)) L S H:=by
 refine⟨λ b u q=>?_,r.nd,r.len,λ n a ds e1 e2=>?_,r.tr⟩
 ·by_cases hb:b=p
  ·subst hb;rw[dE] at q;rw[hH];exact q
  ·rw[bM hb] at q;exact r.sub _ _ q
 ·obtain⟨f,ys,e3,dl⟩:=r.loc n a ds e1 e2;have ne:a≠p:=λ z=>hL (by rw[<- z];exact xAk e1)
  exact⟨by rw[bM ne];exact f,ys,e3,dl.mono (dB hF)⟩
theorem Rel.adoptLoc(r:Rel K F L S H){p:qv}{xs:List V}{ds:List D}(hF:F p=qz)(hL:p ∉ L)(hH:H p=qq (.lst xs))(dl:DenL K F ds xs):Rel K F (L++[p]) (S++[qq ds]) H:=by
 refine⟨r.sub,?_,by rw[xAn,xAn,r.len]<;>rfl,λ n a es e1 e2=>?_,λ n a e=>?_⟩
 ·rw[yGd];refine⟨r.nd,by simp,λ a ha b hb=>?_⟩
  rw[yBu] at hb;subst hb;exact λ z=>hL (z▸ha)
 ·by_cases hn:n<L.length
  ·rw[xAm hn] at e1;rw[xAm (by rw[<- r.len];exact hn)] at e2
   exact r.loc n a es e1 e2
  ·rw[yAh (by omega)] at e1
   rw[yAh (by rw[<- r.len];omega)] at e2
   have z:n-L.length=0:=by
    have:=(gIm e1).1;simp at this;omega
   rw[<- r.len] at e2;rw[z] at e1 e2;simp at e1 e2;subst e1 e2;exact⟨hF,xs,hH,dl⟩
 ·by_cases hn:n<L.length
  ·rw[xAm hn] at e;exact r.tr n a e
  ·rw[yAh (by omega)] at e
   have z:a=p:=by
    have h1:=xAk e;simpa using h1
   exact⟨xs,by rw[z];exact hH⟩
theorem Gr.newLoc{p:qv}:Gr F L F (L++[p]):=⟨cC.refl _,[p],rfl⟩
theorem Rel.put(r:Rel K F L S H){n:Nat}{a:qv}{ys:List V}{es:List D}(e:L[n]? = qq a)(hF:F a=qz)(dl:DenL K F es ys):Rel K F L (S.set n (qq es)) (bE H a (.lst ys)):=by
 refine⟨λ b u q=>by rw[bM (eH q hF)];exact r.sub _ _ q,r.nd,by rw[yBc];exact r.len,λ m b fs e1 e2=>?_,λ m b e1=>?_⟩
 ·by_cases hm:n=m
  ·subst hm;rw[e] at e1;cases e1;have hl:n<S.length:=by rw[<- r.len];exact(gIm e).1
   rw[yAx hl] at e2;cases e2;exact⟨hF,ys,dE,dl⟩
  ·rw[yAy hm] at e2;have ne:b≠a:=λ z=>by
    subst z;have h1:=(gIm e);have h2:=(gIm e1);obtain⟨l1,g1⟩:=h1;obtain⟨l2,g2⟩:=h2;exact hm ((yGj r.nd).mp (g1.trans g2.symm))
   obtain⟨f,xs,e3,d3⟩:=r.loc m b fs e1 e2;exact⟨f,xs,by rw[bM ne];exact e3,d3⟩
 ·by_cases hb:b=a
  ·exact⟨ys,by rw[hb];exact dE⟩
  ·obtain⟨zs,hz⟩:=r.tr m b e1;exact⟨zs,by rw[bM hb];exact hz⟩
theorem Rel.freeze(r:Rel K F L S H){n:Nat}{a:qv}{ds:List D}(e:L[n]? = qq a)(es:S[n]? = qq (qq ds)) :
 ∃ F',Gr F L F' L/\Rel K F' L (S.set n qz) H/\Den K F' (.list ds) (.ref a):=by
 obtain⟨hF,xs,e3,dl⟩:=r.loc n a ds e es;refine⟨bE F a (.lst xs),Gr.new hF,⟨λ b u q=>?_,r.nd,by rw[yBc];exact r.len,λ m b fs e1 e2=>?_,r.tr⟩,.lst (bW.of dE) (dl.mono (dB hF))⟩
 ·by_cases hb:b=a
  ·subst hb;rw[dE] at q;rw[e3];exact q
  ·rw[bM hb] at q;exact r.sub _ _ q
 ·by_cases hm:n=m
  ·subst hm;have hl:n<S.length:=(gIm es).1;rw[yAx hl] at e2;cases e2
  ·rw[yAy hm] at e2;have ne:b≠a:=λ z=>by
    subst z;obtain⟨l1,g1⟩:=gIm e;obtain⟨l2,g2⟩:=gIm e1;exact hm ((yGj r.nd).mp (g1.trans g2.symm))
   obtain⟨f,ys,e4,d4⟩:=r.loc m b fs e1 e2;exact⟨by rw[bM ne];exact f,ys,e4,d4.mono (dB hF)⟩
theorem Rel.cut{M:List qv}(r:Rel K F (L++M) S H):Rel K F L (S.take L.length) H:=by
 have hl:L.length<=S.length:=by have:=r.len;rw[xAn] at this;omega
 refine⟨r.sub,(List.nodup_append.mp r.nd).1,by rw[yBz];omega,λ n a ds e1 e2=>?_,λ n a e1=>?_⟩
 ·have hn:n<L.length:=(gIm e1).1;rw[yDn hn] at e2;exact r.loc n a ds (by rw[xAm hn];exact e1) e2
 ·have hn:n<L.length:=(gIm e1).1;exact r.tr n a (by rw[xAm hn];exact e1)
end
def bR(K:FrG)(F H:Hp)(x:D)(v:V):Prop:=Den K F x v\/∃ ds a xs,x=.list ds/\v=.ref a/\H a=qq (.lst xs)/\DenL K F ds xs
noncomputable def dr(S:aD):W->Option D
 | .d x=>qq x
 | .loc n=>match S[n]? with
   | some (qq ds)=>qq (.list ds)
   | _=>qz
theorem kK{K:FrG}{F H:Hp}{L:List qv}{S:aD}{w:W}{x:D}{v:V}(r:Rel K F L S H)(h:eU K F L w v)(e:dr S w=qq x):bR K F H x v:=by
 cases w with
 | d y=>cases e;exact .inl h
 | loc n =>
   obtain⟨a,e1,rfl⟩:=h;cases e2:S[n]? with
   | none=>simp[dr,e2] at e
   | some o =>
     cases o with
     | none=>simp[dr,e2] at e
     | some ds =>
       simp[dr,e2] at e;subst e;obtain⟨f,xs,e3,dl⟩:=r.loc n a ds e1 e2;exact .inr ⟨ds,a,xs,rfl,rfl,e3,dl⟩
section
variable {K : FrG}{F H : Hp}{v : V}
theorem bR.non(h:bR K F H .none v):v=.non:=by
 rcases h with h | ⟨_,_,_,e,_⟩
 ·cases h;rfl
 ·cases e
theorem bR.bl{b:Bool}(h:bR K F H (.bool b) v):v=.bl b:=by
 rcases h with h | ⟨_,_,_,e,_⟩
 ·cases h;rfl
 ·cases e
theorem bR.int{i:Int}(h:bR K F H (.int i) v):v=.int i:=by
 rcases h with h | ⟨_,_,_,e,_⟩
 ·cases h;rfl
 ·cases e
theorem bR.str{x:Str}(h:bR K F H (.str x) v):v=.str x:=by
 rcases h with h | ⟨_,_,_,e,_⟩
 ·cases h;rfl
 ·cases e
theorem bR.lst{ds:List D}(s:cC F H)(h:bR K F H (.list ds) v):∃ a xs,v=.ref a/\bW K H a xs/\DenL K F ds xs:=by
 rcases h with h | ⟨_,a,xs,e,e2,e3,dl⟩
 ·cases h with
  | lst q r=>exact⟨_,_,rfl,s.seq q,r⟩
 ·cases e;exact⟨a,xs,e2,bW.of e3,dl⟩
theorem bR.tup{ds:List D}(s:cC F H)(h:bR K F H (.tuple ds) v):∃ a xs,v=.ref a/\bZ K H a xs/\DenL K F ds xs:=by
 rcases h with h | ⟨_,_,_,e,_⟩
 ·cases h with
  | tup q r=>exact⟨_,_,rfl,iL s q,r⟩
 ·cases e
theorem bR.dict{aX:List (D×D)}(h:bR K F H (.dict aX) v):False:=by
 rcases h with h | ⟨_,_,_,e,_⟩
 ·cases h
 ·cases e
end
theorem aKo:fillsNumberSlot (.type "tuple") "mul" = pure false:=
 PySem.fillsNumberSlot_seq (id:="tuple.__mul__") (r:=qq (.builtin "tuple.__rmul__")) PySem.F.slot_tuple_mul.lookup (by decide +kernel) PySem.F.slot_tuple_rmul.lookup (by decide +kernel)
theorem aKO:seqRepeat? (.type "tuple")=pure (qq (.builtin "tuple.__mul__")):=by
 unfold seqRepeat?;rw[PySem.seqSlot_of (T:="tuple") (name:="__mul__") (id:="tuple.__mul__") PySem.F.slot_tuple_mul.lookup (by decide +kernel),PySem.seqSlot_of (T:="tuple") (name:="__rmul__") (id:="tuple.__rmul__") PySem.F.slot_tuple_rmul.lookup (by decide +kernel)]
 rfl
theorem aKD(a:Int)(t:Tok)(l:qv)(aO:Array qx)(n:Nat)(d:Option qv)(sl:Array (Option qx)) :
 Meets (Builtin.«int.__rmul__» ⟨[.int a t,.ref l],[]⟩) (λ _ R s=>s.heap.get? l=qq {cls:=.type "tuple",dict:=d,data:=.seq aO n,slots:=sl }/\R (.ok (.ret Value.notImplemented)) s):=
 .of_wp λ prog w A R s h=>by obtain⟨hp,g,d,tk,os⟩:=s;obtain⟨hl,h⟩:=h;wp_walk;exact⟨_,rfl,h⟩
theorem aKH(l:qv)(aO:Array qx)(n:Nat)(d:Option qv)(sl:Array (Option qx))(t:Tok) :
 Meets (Builtin.«tuple.__mul__» ⟨[.ref l,.int 1 t],[]⟩) (λ _ R s=>s.heap.get? l=qq {cls:=.type "tuple",dict:=d,data:=.seq aO n,slots:=sl }/\R (.ok (.ret (.ref l))) s):=
 .of_wp λ prog w A R s h=>by
  obtain⟨hp,g,d,tk,os⟩:=s;obtain⟨hl,h⟩:=h
  wp_walk
  exact⟨_,rfl,h⟩
theorem aKz(l:qv)(x:qx)(n:Nat)(d:Option qv)(sl:Array (Option qx))(t:Tok) :
 Meets (Builtin.«tuple.__mul__» ⟨[.ref l,.int 0 t],[]⟩) (λ _ R s=>s.heap.get? l=qq {cls:=.type "tuple",dict:=d,data:=.seq #[x] n,slots:=sl }/\R (.ok (.ret (.ref s.heap.objs.size))) {s with heap:=s.heap.push {cls:=.type "tuple",data:=.seq #[] } }):=
 .of_wp λ prog w A R s h=>by
  obtain⟨hp,g,d,tk,os⟩:=s;obtain⟨hl,h⟩:=h
  wp_walk
  exact⟨_,rfl,h⟩
theorem yR(x:qx):∀ (k:Nat) (aF:Array qx),(yAb k #[x]).foldl (· ++ ·) aF=aF++(yAb k x).toArray
 | 0,aF=>by simp
 | k+1,aF=>by
   rw[yAw,yBl,yR x k];apply Array.ext';simp[yAw]
theorem aKF(l:qv)(x:qx)(n:Nat)(d:Option qv)(sl:Array (Option qx))(k:Nat)(hk:2<=k)(hk2:k<=1000)(t:Tok) :
 Meets (Builtin.«tuple.__mul__» ⟨[.ref l,.int (k:Nat) t],[]⟩) (λ _ R s=>s.heap.get? l=qq {cls:=.type "tuple",dict:=d,data:=.seq #[x] n,slots:=sl }/\R (.ok (.ret (.ref s.heap.objs.size))) {s with heap:=s.heap.push {cls:=.type "tuple",data:=.seq (yAb k x).toArray } }):=
 .of_wp λ prog w A R s h=>by
  obtain⟨hp,g,d,tk,os⟩:=s;obtain⟨hl,h⟩:=h;have c1:(decide (((k:Nat):Int) < -(2^63))||decide (((k:Nat):Int) ≥ 2^63))=false:=by simp;omega
  have c2:(((k:Nat):Int)==1)=false:=by rw[beq_eq_false_iff_ne];omega
  have c3:decide (((k:Nat):Int)<=0)=false:=dqF (by omega)
  have c4:((#[x]:Array qx).isEmpty||(((k:Nat):Int)==1))=false:=by rw[c2];rfl
  have c5:(decide (((k:Nat):Int)<=0)||(#[x]:Array qx).isEmpty)=false:=by rw[c3];rfl
  have c6:¬ (((#[x]:Array qx).size:Int)*((k:Nat):Int)>(2^63-1)/8):=by
   show ¬ (((1:Nat):Int)*((k:Nat):Int)>(2^63-1)/8);omega
  have hsz:qk=16777216:=by decide
  have c7:yFt (((#[x]:Array qx).size:Int)*((k:Nat):Int))=false:=by
   unfold yFt;refine dqF ?_;show ¬ (((1:Nat):Int)*((k:Nat):Int)>((qk:Nat):Int));omega
  wp_walk
  rw[if_neg (by rw[c1];exact yBf)]
  refine wB (wpAny_tupleItemsOf hl rfl ?_);simp only[c4,c5,c6,c7,yAu,if_false];rw[yAq,yR,show(#[]:Array qx)++(yAb k x).toArray=(yAb k x).toArray by simp]
  refine wB (m:=yCp _) (xw (wP ⟨_,rfl,h⟩) ?_);show(yAb k x).toArray.size<=qk;rw[yAg,yBp,hsz];omega
section
variable {X : Cx}{aB : List (qv×Obj)}{σ : L2.St}{H : Hp}{s : qj}{Q : VK}
theorem aGj{x:V}{u:qx}(r:bC x u):∀ k:Nat,aZ (yAb k x) (yAb k u)
 | 0=>.nil
 | k+1=>.cons r (aGj r k)
theorem aVE{a:qv}{x:V}{k:Nat}{t:Tok}(I:Inv X aB σ H s)(ha:bZ X.K H a [x])(hk:k<=1000)
 (q1:k=1->Q (.ref a) H) (q:∀ p,H p=qz->Q (.ref p) (bE H p (.tup (yAb k x)))):qy (model X.prog X.w) X.A (xz .Mult (.ref a) (.int (k:Nat) t)) (EP X aB σ Q) X.xe s:=by
 obtain⟨aG,r1,p1,_⟩:=I.tuple ha;obtain⟨u,rfl,ru⟩:∃ u,aG=[u]/\bC x u:=by
  cases r1 with
  | cons r r'=>cases r';exact⟨_,rfl,r⟩
 obtain⟨⟨cls,d,data,sl⟩,ho,hcl,n,hd⟩:=p1;simp only at hcl hd;subst hcl hd;have hsz:qk=16777216:=by decide
 have bX:∀ (aG:List qx),aG=yAb k u->EP X aB σ Q (.ref s.heap.objs.size) {s with heap:=s.heap.push {cls:=.type "tuple",data:=.seq aG.toArray } }:=λ aG e=>by
  subst e;exact⟨.ref _,_,I.laid (t':=s.toks) (o:=.tup (yAb k x)) (λ b ob q=>hpS _ q) (yAc _) ⟨by rw[yBp,hsz];omega,_,aGj ru k,⟨_,xAd _ rfl,rfl,0,rfl⟩⟩,rfl,q _ (I.hok.fresh (yAc _))⟩
 refine kv (T:="tuple") (U:="int") (by decide) ⟨_,ho,rfl⟩ (λ s'=>kz s' k t) aKo PySem.F.fills_int_mul yEb aKO PySem.F.slot_int_index.lookup
  (wj yEb (kz s k t) PySem.F.entry_int_rmul (PySem.F.args_int_rmul_2 _ _) (aKD k t a _ n d sl)
    ⟨ho,rfl,⟨_,ho,rfl⟩,?_⟩)
 by_cases h1:k=1
 ·subst h1;exact wj yFa ⟨_,ho,rfl⟩ yEv (yEn _ _) (aKH a _ n d sl t) ⟨ho,.ref a,H,I,rfl,q1 rfl⟩
 ·by_cases h0:k=0
  ·subst h0;exact wj yFa ⟨_,ho,rfl⟩ yEv (yEn _ _) (aKz a u n d sl t) ⟨ho,bX [] rfl⟩
  ·exact wj yFa ⟨_,ho,rfl⟩ yEv (yEn _ _) (aKF a u n d sl k (by omega) hk t) ⟨ho,bX _ rfl⟩
end
noncomputable def nM(i j:Int):Bool:=!(decide (yAn i>yu)&&decide (yAn j>yu)&&Builtin.Int.intTooBig (yAn i+yAn j))
noncomputable def wD{α:Type}(n:Nat)(xs:List α):List α:=(yAb n xs).flatten
noncomputable def aDg:D->D->Option D
 | .int i,.int j=>qq (.int (i+j))
 | .str x,.str y=>if x.length+y.length<=qk then qq (.str (x++y)) else qz
 | .tuple [],.tuple ys=>qq (.tuple ys)
 | .tuple xs,.tuple ys=>if xs.isEmpty=false/\xs.length+ys.length<=qk then qq (.tuple (xs++ys)) else qz
 | .list xs,.list ys=>if xs.length+ys.length<=qk then qq (.list (xs++ys)) else qz
 | _,_=>qz
noncomputable def aDB:D->D->Option D
 | .int i,.int j=>if nM i j=true then qq (.int (i*j)) else qz
 | .list xs,.int k=>if k<2^63 /\ -(2^63)<=k/\xs.length*k.toNat<=qk then qq (.list (wD k.toNat xs)) else qz
 | .tuple [x],.int k=>if 0<=k/\k<=1000 then qq (.tuple (yAb k.toNat x)) else qz
 | _,_=>qz
noncomputable def i2{α:Type}(f:Int->Int->Option α):D->D->Option α
 | .int i,.int j=>f i j
 | _,_=>qz
theorem kM{α:Type}{f:Int->Int->Option α}{i j:Int}:i2 f (.int i) (.int j)=f i j:=rfl
theorem iG{α:Type}{f:Int->Int->Option α}{x y:D}{z:α}(h:i2 f x y=qq z):∃ i j,x=.int i/\y=.int j/\f i j=qq z:=by
 cases x<;>first | (cases h;done) | skip
 cases y<;>first | (cases h;done) | exact⟨_,_,rfl,rfl,h⟩
noncomputable def qY:D->Bool
 | .none=>true
 | _=>false
theorem aGi{x:D}(h:qY x=true):x=.none:=by cases x<;>first | rfl | cases h
noncomputable def cG(op:vj)(x y:D):Option D:=match op with
 | .Add=>aDg x y
 | .Sub=>i2 (λ i j=>qq (.int (i-j))) x y
 | .Mult=>aDB x y
 | .MatMult=>qz
 | .Div=>qz
 | .Mod=>i2 (λ i j=>if j≠0 then qq (.int (i.fmod j)) else qz) x y
 | .Pow=>i2 (λ i j=>if 0<=j/\j<=1000000/\i.natAbs<2^64 then qq (.int (i^j.toNat)) else qz) x y
 | .LShift=>i2 (λ i j=>if 0<=j/\(yAn i:Int)+j<=2^27 then qq (.int (i*2^j.toNat)) else qz) x y
 | .RShift=>i2 (λ i j=>if 0<=j then qq (.int (i/2^j.toNat)) else qz) x y
 | .BitOr=>i2 (λ i j=>qq (.int (yGh i j))) x y
 | .BitXor=>i2 (λ i j=>qq (.int (yGa i j))) x y
 | .BitAnd=>i2 (λ i j=>qq (.int (yDy i j))) x y
 | .FloorDiv=>i2 (λ i j=>if j≠0/\yCs i j=false then qq (.int (i.fdiv j)) else qz) x y
noncomputable def pP:kq->D->Option D
 | .USub,.int i=>qq (.int (-i))
 | .Invert,.int i=>qq (.int (yBn i))
 | _,_=>qz
noncomputable def iZ:D->Bool
 | .none | .bool _ | .int _ | .str _=>true
 | _=>false
noncomputable def oQ:List D->Bool
 | []=>true
 | d::r=>iZ d&&oQ r
noncomputable def inD(x:D):List D->Bool
 | []=>false
 | y::r=>yEo y x||inD x r
noncomputable def aC2:D->Option (List D)
 | .list xs=>qq xs
 | .tuple xs=>qq xs
 | _=>qz
noncomputable def rM(op:vk)(x y:D):Option Bool:=match op with
 | .Eq=>if x.canLay0=true/\y.canLay0=true/\x.depth<=60 then qq (yEo x y) else qz
 | .NotEq=>if x.canLay0=true/\y.canLay0=true/\x.depth<=60 then qq (!yEo x y) else qz
 | .Lt=>i2 (λ i j=>qq (decide (i<j))) x y
 | .LtE=>i2 (λ i j=>qq (decide (i<=j))) x y
 | .Gt=>i2 (λ i j=>qq (decide (j<i))) x y
 | .GtE=>i2 (λ i j=>qq (decide (j<=i))) x y
 | .Is=>if qY y=true then qq (qY x) else qz
 | .IsNot=>if qY y=true then qq (!qY x) else qz
 | .In=>(aC2 y).bind λ ys=>if iZ x=true/\oQ ys=true then qq (inD x ys) else qz
 | .NotIn=>(aC2 y).bind λ ys=>if iZ x=true/\oQ ys=true then qq (!inD x ys) else qz
noncomputable def pL:D->Option Bool
 | .none=>qq false
 | .bool b=>qq b
 | .int i=>qq (i != 0)
 | .str x=>if x.length<=qk then qq ((x.length:Int) != 0) else qz
 | .list xs=>qq (!xs.isEmpty)
 | .tuple xs=>qq (!xs.isEmpty)
 | .dict _=>qz
section
variable {X : Cx}{aB : List (qv×Obj)}{s : qj}{σ : L2.St}{H : Hp}{x y : V}{v u : qx}{Q : VK}{F : Hp}{L : List qv}{S : aD}{dx dy z : D}
abbrev gJ(X:Cx)(F:Hp)(L:List qv)(S:aD)(z:D)(Q:VK):Prop:=∀ F' H' r,cC F F'->Rel X.K F' L S H'->Den X.K F' z r->Q r H'
abbrev aAx(X:Cx)(F:Hp)(H:Hp)(zs:List D)(Q:VK):Prop:=∀ p xs,H p=qz->DenL X.K F zs xs->Q (.ref p) (bE H p (.lst xs))
theorem gJ.here(R:Rel X.K F L S H)(q:gJ X F L S z Q){r:V}(h:Den X.K F z r):Q r H:=q F H r (cC.refl _) R h
theorem aAx.out{zs:List D}(R:Rel X.K F L S H)(q:gJ X F L S (.list zs) Q):aAx X F H zs Q:=λ p xs hp dl =>
 q _ _ _ (dB (R.sub.free hp)) (R.new hp) (.lst (bW.of dE) (dl.mono (dB (R.sub.free hp))))
theorem gJ.tup{zs:List D}(R:Rel X.K F L S H)(q:gJ X F L S (.tuple zs) Q){p:qv}{xs:List V}(hp:H p=qz)(dl:DenL X.K F zs xs):Q (.ref p) (bE H p (.tup xs)):=
 q _ _ _ (dB (R.sub.free hp)) (R.new hp) (.tup (bZ.of dE) (dl.mono (dB (R.sub.free hp))))
theorem aUJ{a b:qv}{xs ys:List V}(I:Inv X aB σ H s)(ha:bW X.K H a xs)(hb:bW X.K H b ys)(hz:xs.length+ys.length<=qk)
 (q:∀ p,H p=qz->Q (.ref p) (bE H p (.lst (xs++ys)))):qy (model X.prog X.w) X.A (xz .Add (.ref a) (.ref b)) (EP X aB σ Q) X.xe s:=by
 obtain⟨aG,r1,p1,_⟩:=I.list ha;obtain⟨dA,r2,p2,_⟩:=I.list hb;obtain⟨⟨cls,dd,data,sl⟩,ho,hc,n,hd⟩:=p1.isList;obtain⟨⟨cls2,dd2,data2,sl2⟩,ho2,hc2,n2,hd2⟩:=p2.isList;simp only at hc hd hc2 hd2;subst hc hd hc2 hd2;have e:aG.toArray++dA.toArray=(aG++dA).toArray:=by simp
 refine concat_meets ⟨_,ho,rfl⟩ ⟨_,ho2,rfl⟩ noFill_list_add seq_list_add PySem.F.slot_list_add PySem.F.entry_list_add (PySem.F.args_list_add_2 _ _) (list_addW a b aG.toArray dA.toArray n n2 dd dd2 sl sl2 (by rw[yAg,yAg,<- r1.length,<- r2.length];exact hz)) ⟨ho,ho2,?_⟩
 rw[e];exact⟨.ref _,_,I.lnew (t':=s.toks) (r1.append r2) (by rw[xAn];omega),rfl,q _ I.fresh⟩
theorem aJR{a:qv}{xs:List V}{k:Int}{t:Tok}(I:Inv X aB σ H s)(ha:bW X.K H a xs)(h1 : -(2^63)<=k)(h2:k<2^63)(hz:xs.length*k.toNat<=qk)
 (q:∀ p,H p=qz->Q (.ref p) (bE H p (.lst (yAb k.toNat xs).flatten))):qy (model X.prog X.w) X.A (xz .Mult (.ref a) (.int k t)) (EP X aB σ Q) X.xe s:=by
 obtain⟨aG,r1,p1,_⟩:=I.list ha;obtain⟨⟨cls,d,data,sl⟩,ho,hcl,n,hd⟩:=p1.isList;simp only at hcl hd;subst hcl hd;have hsz:aG.toArray.size*k.toNat<=2^24:=by
  rw[yAg,<- r1.length];have:qk=2^24:=rfl;rw[<- this];exact hz
 refine kv (T:="list") (U:="int") (by decide) ⟨_,ho,rfl⟩ (λ s'=>kz s' k t) noFill_list_mul PySem.F.fills_int_mul yEb repeat_list PySem.F.slot_int_index.lookup
  (wj yEb (kz s k t) PySem.F.entry_int_rmul (PySem.F.args_int_rmul_2 _ _) (lm_int_rmul_list_any k t a aG.toArray n d sl)
    ⟨ho,rfl,⟨_,ho,rfl⟩,wj PySem.F.slot_list_mul ⟨_,ho,rfl⟩ PySem.F.entry_list_mul (PySem.F.args_list_mul_2 _ _)
     (lm_list_mul_any a aG.toArray n d sl k t (by simp[Builtin.List.listFitsIndex];omega) (by omega) (by simp[Builtin.List.listTooLong,qk];simpa using hsz))
     ⟨ho,?_⟩⟩)
 rw[listMul_foldl_if];exact⟨.ref _,_,I.lnew (t':=s.toks) (r1.rep k.toNat) (by rw[aOQ,yGq];exact hz),rfl,q _ I.fresh⟩
theorem aTS{a b:qv}{ys:List V}(I:Inv X aB σ H s)(ha:bZ X.K H a [])(hb:bZ X.K H b ys)(q:Q (.ref b) H):qy (model X.prog X.w) X.A (xz .Add (.ref a) (.ref b)) (EP X aB σ Q) X.xe s:=by
 obtain⟨aG,r1,p1,_⟩:=I.tuple ha;obtain⟨dA,r2,p2,_⟩:=I.tuple hb;cases r1;obtain⟨⟨cls,dd,data,sl⟩,ho,hc,n,hd⟩:=p1;obtain⟨⟨cls2,dd2,data2,sl2⟩,ho2,hc2,n2,hd2⟩:=p2;simp only at hc hd hc2 hd2;subst hc hd hc2 hd2;exact concat_meets ⟨_,ho,rfl⟩ ⟨_,ho2,rfl⟩ noFill_tuple_add seq_tuple_add yEz yEt (yEm _ _) (tuple_addW0 a b _ dA.toArray n n2 dd dd2 sl sl2 rfl) ⟨ho,ho2,⟨.ref b,H,I,rfl,q⟩⟩
theorem aSe(I:Inv X aB σ H s)(rx:bC x v)(ry:bC y u)(R:Rel X.K F L S H)(nx:bR X.K F H dx x)(ny:bR X.K F H dy y)(e:aDg dx dy=qq z)(q:gJ X F L S z Q) :
 qy (model X.prog X.w) X.A (xz .Add v u) (EP X aB σ Q) X.xe s:=by
 unfold aDg at e
 split at e
 ·rename_i i j;cases e;exact aQU aB s σ H x y v u Q I rx ry ⟨i,j,nx.int,ny.int,q.here R (.int _)⟩
 ·rename_i a b
  split at e
  ·rename_i c;cases e;exact aLc aB s σ H x y v u Q I rx ry ⟨a,b,nx.str,ny.str,c,q.here R (.str _)⟩
  ·cases e
 ·rename_i ys;cases e;obtain⟨a,vs,rfl,h1,d1⟩:=nx.tup R.sub;obtain⟨b,ws,rfl,h2,d2⟩:=ny.tup R.sub;cases d1;cases rx;cases ry;refine aTS I h1 h2 (q F H _ (cC.refl _) R ?_);rcases ny with ny | ⟨_,_,_,e,_⟩
  ·exact ny
  ·cases e
 ·rename_i xs ys _
  split at e
  ·rename_i c;cases e;obtain⟨a,vs,rfl,h1,d1⟩:=nx.tup R.sub;obtain⟨b,ws,rfl,h2,d2⟩:=ny.tup R.sub;have hne:vs≠[]:=λ z=>by
    have:=d1.length;rw[z] at this;cases xs with
    | nil=>simp at c
    | cons _ _=>simp at this
   refine aOF aB s σ H _ _ v u Q I rx ry ⟨a,b,vs,ws,rfl,rfl,h1,h2,hne,by rw[<- d1.length,<- d2.length];exact c.2,λ z=>?_,λ z p hp=>?_⟩
   ·have:ys=[]:=by
     have h:=d2.length;rw[z] at h;exact List.eq_nil_of_length_eq_zero h
    subst this;refine q F H _ (cC.refl _) R ?_;rw[yDm];rcases nx with nx | ⟨_,_,_,e,_⟩
    ·exact nx
    ·cases e
   ·exact q.tup R hp (d1.append d2)
  ·cases e
 ·rename_i xs ys
  split at e
  ·rename_i c;cases e;obtain⟨a,vs,rfl,h1,d1⟩:=nx.lst R.sub;obtain⟨b,ws,rfl,h2,d2⟩:=ny.lst R.sub;cases rx;cases ry;exact aUJ I h1 h2 (by rw[<- d1.length,<- d2.length];exact c) λ p hp=>aAx.out R q p _ hp (d1.append d2)
  ·cases e
 ·cases e
theorem aHm{K:FrG}{F:Hp}{x:D}{v:V}(h:Den K F x v):∀ k:Nat,DenL K F (yAb k x) (yAb k v)
 | 0=>.nil
 | k+1=>.cons h (aHm h k)
theorem aRo(I:Inv X aB σ H s)(rx:bC x v)(ry:bC y u)(R:Rel X.K F L S H)(nx:bR X.K F H dx x)(ny:bR X.K F H dy y)(e:aDB dx dy=qq z)(q:gJ X F L S z Q) :
 qy (model X.prog X.w) X.A (xz .Mult v u) (EP X aB σ Q) X.xe s:=by
 unfold aDB at e
 split at e
 ·rename_i i j
  split at e
  ·rename_i c;cases e;obtain rfl:=nx.int;obtain rfl:=ny.int;obtain⟨t,rfl⟩:=rx;obtain⟨t',rfl⟩:=ry;refine PyProof.Rows.mul_int ⟨.int (i*j),H,I.tok _,⟨_,rfl⟩,q.here R (.int _)⟩ ?_;unfold IntMulOk;unfold nM at c;intro z;rw[z] at c;cases c
  ·cases e
 ·rename_i xs k
  split at e
  ·rename_i c;cases e;obtain⟨a,vs,rfl,h1,d1⟩:=nx.lst R.sub;obtain rfl:=ny.int;cases rx;obtain⟨t',rfl⟩:=ry;exact aJR I h1 c.2.1 c.1 (by rw[<- d1.length];exact c.2.2) λ p hp=>aAx.out R q p _ hp (d1.rep _)
  ·cases e
 ·rename_i xd k
  split at e
  ·rename_i c;cases e;obtain⟨a,vs,rfl,h1,d1⟩:=nx.tup R.sub;obtain rfl:=ny.int;cases rx;obtain⟨t',rfl⟩:=ry;obtain⟨kk,rfl⟩:∃ kk:Nat,k=(kk:Nat):=⟨k.toNat,by omega⟩
   rw[yAq] at q;cases d1 with
   | cons dx dn =>
     cases dn;refine aVE I h1 (by omega) (λ hk=>?_) λ p hp=>gJ.tup R q hp (aHm dx kk)
     subst hk;refine q F H _ (cC.refl _) R ?_;rcases nx with nx | ⟨_,_,_,z,_⟩
     ·exact nx
     ·cases z
  ·cases e
 ·cases e
theorem uR{op:vj}{C:Int->Int->Prop}{g:Int->Int->Int}(rule:cZ X (xz op) (rI C λ i j=>.int (g i j))){i j:Int}(c:C i j)(I:Inv X aB σ H s)(rx:bC x v)(ry:bC y u)(R:Rel X.K F L S H)
 (nx:bR X.K F H (.int i) x) (ny:bR X.K F H (.int j) y) (q:gJ X F L S (.int (g i j)) Q) :
 qy (model X.prog X.w) X.A (xz op v u) (EP X aB σ Q) X.xe s:=
 rule aB s σ H x y v u Q I rx ry ⟨i,j,nx.int,ny.int,c,q.here R (.int _)⟩
theorem zB{op:vj}{g:Int->Int->Int}(rule:cZ X (xz op) (jF λ i j=>.int (g i j))){i j:Int}(I:Inv X aB σ H s)(rx:bC x v)(ry:bC y u)(R:Rel X.K F L S H)
 (nx:bR X.K F H (.int i) x) (ny:bR X.K F H (.int j) y) (q:gJ X F L S (.int (g i j)) Q) :
 qy (model X.prog X.w) X.A (xz op v u) (EP X aB σ Q) X.xe s:=
 rule aB s σ H x y v u Q I rx ry ⟨i,j,nx.int,ny.int,q.here R (.int _)⟩
theorem aPz:cZ X (xz .FloorDiv) (rI (λ i j=>j≠0/\yCs i j=false) λ i j=>.int (i.fdiv j)):=wO λ _ _ _ _ _ _ _ hc q=>floordiv_int hc.1 q (.inl hc.2)
theorem aSZ:cZ X (xz .LShift) (rI (λ i j=>0<=j/\(yAn i:Int)+j<=2^27) λ i j=>.int (i*2^j.toNat)):=wO λ _ _ _ _ _ _ _ hc q=>lshift_int hc.1 hc.2 q
theorem bind_some{α β:Type}{o:Option α}{f:α->Option β}{b:β}(h:o.bind f=qq b):∃ a,o=qq a/\f a=qq b:=by
 cases o with
 | none=>cases h
 | some a=>exact⟨a,rfl,h⟩
theorem jQ{α:Type}{p:Prop} [Decidable p]{a z:α}(h:(if p then qq a else qz)=qq z):p/\a=z:=by
 split at h
 ·rename_i c;cases h;exact⟨c,rfl⟩
 ·cases h
theorem aP6{op:vj}(I:Inv X aB σ H s)(rx:bC x v)(ry:bC y u)(R:Rel X.K F L S H)(nx:bR X.K F H dx x)(ny:bR X.K F H dy y)(e:cG op dx dy=qq z)(q:gJ X F L S z Q) :
 qy (model X.prog X.w) X.A (xz op v u) (EP X aB σ Q) X.xe s:=by
 cases op with
 | Add=>exact aSe I rx ry R nx ny e q
 | Mult=>exact aRo I rx ry R nx ny e q
 | MatMult=>cases e
 | Div=>cases e
 | Sub=>obtain⟨i,j,rfl,rfl,e⟩:=iG e;cases e;exact zB aRE I rx ry R nx ny q
 | BitAnd=>obtain⟨i,j,rfl,rfl,e⟩:=iG e;cases e;exact zB aQ2 I rx ry R nx ny q
 | BitOr=>obtain⟨i,j,rfl,rfl,e⟩:=iG e;cases e;exact zB aS6 I rx ry R nx ny q
 | BitXor=>obtain⟨i,j,rfl,rfl,e⟩:=iG e;cases e;exact zB aPW I rx ry R nx ny q
 | FloorDiv=>obtain⟨i,j,rfl,rfl,e⟩:=iG e;obtain⟨c,rfl⟩:=jQ e;exact uR aPz c I rx ry R nx ny q
 | Mod=>obtain⟨i,j,rfl,rfl,e⟩:=iG e;obtain⟨c,rfl⟩:=jQ e;exact uR aN1 c I rx ry R nx ny q
 | Pow=>obtain⟨i,j,rfl,rfl,e⟩:=iG e;obtain⟨c,rfl⟩:=jQ e;exact uR aRp c I rx ry R nx ny q
 | LShift=>obtain⟨i,j,rfl,rfl,e⟩:=iG e;obtain⟨c,rfl⟩:=jQ e;exact uR aSZ c I rx ry R nx ny q
 | RShift=>obtain⟨i,j,rfl,rfl,e⟩:=iG e;obtain⟨c,rfl⟩:=jQ e;exact uR aRw c I rx ry R nx ny q
theorem aUe{op:kq}(I:Inv X aB σ H s)(rx:bC x v)(R:Rel X.K F L S H)(nx:bR X.K F H dx x)(e:pP op dx=qq z)(q:gJ X F L S z Q) :
 qy (model X.prog X.w) X.A (unaryOp op v) (EP X aB σ Q) X.xe s:=by
 unfold pP at e
 split at e
 ·cases e;exact aSc aB s σ H x v Q I rx ⟨_,nx.int,q.here R (.int _)⟩
 ·cases e;exact aRM aB s σ H x v Q I rx ⟨_,nx.int,q.here R (.int _)⟩
 ·cases e
mutual
theorem aFn(I:Inv X aB σ H s)(sb:cC F H):∀ {d:D}{x:V}{v:qx},Den X.K F d x->bC x v->∃ as,Reads s.heap v d as
 | _,_,v,.non,r=>by cases (show v=Value.none from r);exact⟨_,.none⟩
 | _,_,v,.bl b,r=>by cases (show v=Value.bool b from r);exact⟨_,.bool b⟩
 | _,_,v,.int i,r=>by obtain⟨t,rfl⟩:=(show ∃ t,v=Value.int i t from r);exact⟨_,.int i t⟩
 | _,_,v,.str y,r=>by obtain⟨t,rfl⟩:=(show ∃ t,v=Value.str y t from r);exact⟨_,.str y t⟩
 | _,_,v,.lst (a:=a) h dl,r=>by
   cases (show v=Value.ref a from r)
   obtain⟨aG,rv,p1,_⟩:=I.list (sb.seq h);obtain⟨o,ho,hc,n,hd⟩:=p1.isList;obtain⟨as,ra⟩:=xQ I sb dl rv;exact⟨_,.list ho hc hd (by simpa using ra)⟩
 | _,_,v,.tup (a:=a) h dl,r=>by
   cases (show v=Value.ref a from r)
   obtain⟨aG,rv,p1,_⟩:=I.tuple (iL sb h);obtain⟨o,ho,hc,n,hd⟩:=p1;obtain⟨as,ra⟩:=xQ I sb dl rv;exact⟨_,.tuple ho hc hd (by simpa using ra)⟩
theorem xQ(I:Inv X aB σ H s)(sb:cC F H):∀ {ds:List D}{xs:List V}{us:List qx},DenL X.K F ds xs->aZ xs us->∃ as,ReadsAll s.heap us ds as
 | _,_,_,.nil,r=>by cases r;exact⟨_,.nil⟩
 | _,_,_,.cons h dl,.cons r rs=>by
   obtain⟨as,ra⟩:=aFn I sb h r;obtain⟨bs,rb⟩:=xQ I sb dl rs;exact⟨_,.cons ra rb⟩
end
theorem yQ(I:Inv X aB σ H s)(R:Rel X.K F L S H)(rx:bC x v)(nx:bR X.K F H dx x):∃ as,Reads s.heap v dx as:=by
 rcases nx with nx | ⟨ds,a,xs,rfl,rfl,e,dl⟩
 ·exact aFn I R.sub nx rx
 ·cases rx;obtain⟨aG,rv,p1,_⟩:=I.list (bW.of e);obtain⟨o,ho,hc,n,hd⟩:=p1.isList;obtain⟨as,ra⟩:=xQ I R.sub dl rv;exact⟨_,.list ho hc hd (by simpa using ra)⟩
theorem aTX(hu:X.A.units+64<cLine)(I:Inv X aB σ H s)(rx:bC x v)(ry:bC y u)(R:Rel X.K F L S H)(nx:bR X.K F H dx x)(ny:bR X.K F H dy y)
 (c1:dx.canLay0=true) (c2:dy.canLay0=true) (c3:dx.depth<=60) (q:Q (.bl (yEo dx dy)) H):qy (model X.prog X.w) X.A (jx .Eq v u) (EP X aB σ Q) X.xe s:=by
 obtain⟨as,ra⟩:=yQ I R rx nx;obtain⟨bs,rb⟩:=yQ I R ry ny;refine SeqAt.compareEq_reads ra rb c1 c2 ?_ ⟨.bl _,H,I,rfl,q⟩;have:min dx.depth dy.depth<=dx.depth:=Nat.min_le_left _ _;omega
theorem aTn(hu:X.A.units+64<cLine)(I:Inv X aB σ H s)(rx:bC x v)(ry:bC y u)(R:Rel X.K F L S H)(nx:bR X.K F H dx x)(ny:bR X.K F H dy y)
 (c1:dx.canLay0=true) (c2:dy.canLay0=true) (c3:dx.depth<=60) (q:Q (.bl (!yEo dx dy)) H):qy (model X.prog X.w) X.A (jx .NotEq v u) (EP X aB σ Q) X.xe s:=by
 obtain⟨as,ra⟩:=yQ I R rx nx;obtain⟨bs,rb⟩:=yQ I R ry ny;refine SeqAt.compareNe_reads ra rb c1 c2 ?_ ⟨.bl _,H,I,rfl,q⟩;have:min dx.depth dy.depth<=dx.depth:=Nat.min_le_left _ _;omega
end
theorem aMJ{K:FrG}{F:Hp}{d e:D}{x y:V}(h1:Den K F d x)(h2:Den K F e y)(f1:iZ d=true)(f2:iZ e=true):mF x y=yEo d e:=by
 cases h1<;>first | (simp[iZ] at f1;done) | skip
 all_goals cases h2<;>first | (simp[iZ] at f2;done) | rfl | skip
theorem aBG{K:FrG}{F:Hp}{d:D}{x:V}(h1:Den K F d x)(f1:iZ d=true):kP x=true:=by
 cases h1<;>first | rfl | (simp[iZ] at f1;done)
theorem aBP{K:FrG}{F:Hp}:∀ {ds:List D}{xs:List V},DenL K F ds xs->oQ ds=true->xs.all kP=true
 | _,_,.nil,_=>rfl
 | _,_,.cons h r,f=>by
   simp only[oQ,yBb] at f;rw[List.all_cons,aBG h f.1,aBP r f.2];rfl
theorem aCf{K:FrG}{F:Hp}{e:D}{y:V}(h2:Den K F e y)(f2:iZ e=true):∀ {ds:List D}{xs:List V},DenL K F ds xs->oQ ds=true->sB y xs=inD e ds
 | _,_,.nil,_=>rfl
 | _,_,.cons h r,f=>by
   simp only[oQ,yBb] at f;have ih:=aCf h2 f2 r f.2;unfold sB at ih ⊢;rw[List.any_cons,ih,aMJ h h2 f.1 f2];rfl
section
variable {X : Cx}{aB : List (qv×Obj)}{s : qj}{σ : L2.St}{H : Hp}{x y : V}{v u : qx}{Q : VK}{F : Hp}{L : List qv}{S : aD}{dx dy : D}{b : Bool}
theorem bR.flat{d:D}{z:V}(h:bR X.K F H d z)(f:iZ d=true):Den X.K F d z:=by
 rcases h with h | ⟨ds,_,_,rfl,_⟩
 ·exact h
 ·simp[iZ] at f
theorem aHn{d:D}{ys:List D}{z:V}(sb:cC F H)(h:bR X.K F H d z)(e:aC2 d=qq ys):∃ p xs,z=.ref p/\(bW X.K H p xs\/bZ X.K H p xs)/\DenL X.K F ys xs:=by
 cases d with
 | list l=>cases e;obtain⟨a,xs,e1,q,dl⟩:=h.lst sb;exact⟨a,xs,e1,.inl q,dl⟩
 | tuple l=>cases e;obtain⟨a,xs,e1,q,dl⟩:=h.tup sb;exact⟨a,xs,e1,.inr q,dl⟩
 | _=>cases e
theorem aGC(R:Rel X.K F L S H)(nx:bR X.K F H dx x):decide (x=.non)=qY dx:=by
 cases dx with
 | none=>rw[nx.non];rfl
 | bool c=>rw[nx.bl];rfl
 | int c=>rw[nx.int];rfl
 | str c=>rw[nx.str];rfl
 | list c=>obtain⟨a,xs,rfl,_⟩:=nx.lst R.sub;rfl
 | tuple c=>obtain⟨a,xs,rfl,_⟩:=nx.tup R.sub;rfl
 | dict c=>exact nx.dict.elim
theorem aRh{op:vk}(hu:X.A.units+64<cLine)(I:Inv X aB σ H s)(rx:bC x v)(ry:bC y u)(R:Rel X.K F L S H)(nx:bR X.K F H dx x)(ny:bR X.K F H dy y)(e:rM op dx dy=qq b)(q:Q (.bl b) H) :
 qy (model X.prog X.w) X.A (jx op v u) (EP X aB σ Q) X.xe s:=by
 cases op with
 | Lt=>obtain⟨i,j,rfl,rfl,e⟩:=iG e;cases e;exact aTM aB s σ H x y v u Q I rx ry ⟨_,_,nx.int,ny.int,q⟩
 | LtE=>obtain⟨i,j,rfl,rfl,e⟩:=iG e;cases e;exact aSR aB s σ H x y v u Q I rx ry ⟨_,_,nx.int,ny.int,q⟩
 | Gt=>obtain⟨i,j,rfl,rfl,e⟩:=iG e;cases e;exact aSt aB s σ H x y v u Q I rx ry ⟨_,_,nx.int,ny.int,q⟩
 | GtE=>obtain⟨i,j,rfl,rfl,e⟩:=iG e;cases e;exact aUu aB s σ H x y v u Q I rx ry ⟨_,_,nx.int,ny.int,q⟩
 | Eq=>obtain⟨c,rfl⟩:=jQ e;exact aTX hu I rx ry R nx ny c.1 c.2.1 c.2.2 q
 | NotEq=>obtain⟨c,rfl⟩:=jQ e;exact aTn hu I rx ry R nx ny c.1 c.2.1 c.2.2 q
 | Is =>
   obtain⟨c,rfl⟩:=jQ e;cases aGi c;exact aQB aB s σ H x y v u Q I rx ry ⟨ny.non,by rw[aGC R nx];exact q⟩
 | IsNot =>
   obtain⟨c,rfl⟩:=jQ e;cases aGi c;exact aPb aB s σ H x y v u Q I rx ry ⟨ny.non,by rw[aGC R nx];exact q⟩
 | In =>
   obtain⟨ys,hs,e⟩:=bind_some e;obtain⟨c,rfl⟩:=jQ e;obtain⟨p,xs,e1,sq,dl⟩:=aHn R.sub ny hs;refine aLP aB s σ H x y v u Q I rx ry ⟨p,xs,e1,sq,aBG (nx.flat c.1) c.1,aBP dl c.2,?_⟩;show Q (.bl (sB x xs)) H;rw[aCf (nx.flat c.1) c.1 dl c.2];exact q
 | NotIn =>
   obtain⟨ys,hs,e⟩:=bind_some e;obtain⟨c,rfl⟩:=jQ e;obtain⟨p,xs,e1,sq,dl⟩:=aHn R.sub ny hs;refine aKS aB s σ H x y v u Q I rx ry ⟨p,xs,e1,sq,aBG (nx.flat c.1) c.1,aBP dl c.2,?_⟩;show Q (.bl (!sB x xs)) H;rw[aCf (nx.flat c.1) c.1 dl c.2];exact q
theorem aEG{K:FrG}{ds:List D}{xs:List V}(h:DenL K F ds xs):xs.isEmpty=ds.isEmpty:=by cases h<;>rfl
theorem aOg{b:Bool}(R:Rel X.K F L S H)(nx:bR X.K F H dx x)(e:pL dx=qq b):aDh X.K x H b:=by
 cases dx with
 | none=>cases e;rw[nx.non];exact rfl
 | bool c=>cases e;rw[nx.bl];exact rfl
 | int c=>cases e;rw[nx.int];exact rfl
 | str c =>
   rw[nx.str];have e':(if c.length<=qk then qq ((c.length:Int) != 0) else qz)=qq b:=e
   split at e'
   ·rename_i h;cases e';exact⟨h,rfl⟩
   ·cases e'
 | list c=>cases e;obtain⟨a,xs,rfl,sq,dl⟩:=nx.lst R.sub;exact .inl ⟨xs,sq,by rw[aEG dl]⟩
 | tuple c=>cases e;obtain⟨a,xs,rfl,sq,dl⟩:=nx.tup R.sub;exact .inr (.inl ⟨xs,sq,by rw[aEG dl]⟩)
 | dict c=>cases e
end
noncomputable abbrev FE:=aW->aD->Option (W×aD)
noncomputable abbrev FT:=aW->aD->Option (Bool×aD)
noncomputable abbrev FA:=aW->aD->Option (List W×aD)
noncomputable abbrev FL:=aW->aD->Option (List D×aD)
inductive Fl where
 | nx (env:aW) | rt (w:W) | bk (env:aW) | ct (env:aW)
noncomputable abbrev FS:=aW->aD->Option (Fl×aD)
inductive WDenL (K:FrG) (F:Hp) (L:List qv):List W->List V->Prop
 | nil:WDenL K F L [] []
 | cons {w:W}{ws:List W}{x:V}{xs:List V}:eU K F L w x->WDenL K F L ws xs->WDenL K F L (w::ws) (x::xs)
theorem WDenL.length{K:FrG}{F:Hp}{L:List qv}:∀ {ws:List W}{xs:List V},WDenL K F L ws xs->ws.length=xs.length
 | _,_,.nil=>rfl
 | _,_,.cons _ r=>congrArg (· + 1) r.length
section
variable (K : FrG)
noncomputable def aY(f:FE):TE:=λ σ H Q=>∃ F L S env w S',Rel K F L S H/\EnvR K F L env σ/\f env S=qq (w,S')/\∀ F' L' H' v,Gr F L F' L'->Rel K F' L' S' H'->eU K F' L' w v->Q v H'
noncomputable def fM(f:FT):TT:=λ σ H Q=>∃ F L S env b S',Rel K F L S H/\EnvR K F L env σ/\f env S=qq (b,S')/\∀ F' L' H',Gr F L F' L'->Rel K F' L' S' H'->Q b H'
noncomputable def fW(f:FA):TA:=λ σ H Q=>∃ F L S env ws S',Rel K F L S H/\EnvR K F L env σ/\f env S=qq (ws,S')/\∀ F' L' H' vs,Gr F L F' L'->Rel K F' L' S' H'->WDenL K F' L' ws vs->Q vs H'
noncomputable def iU(f:FL):TE:=λ σ H Q=>∃ F L S env ds S',Rel K F L S H/\EnvR K F L env σ/\f env S=qq (ds,S')/\∀ F' L' H' p xs,Gr F L F' L'->Rel K F' L' S' H'->F' p=qz->p ∉ L'->H' p=qq (.lst xs)->DenL K F' ds xs->Q (.ref p) H'
noncomputable def dQ(f:FS):TS:=λ D σ H=>∃ F L S env fl S',Rel K F L S H/\EnvR K F L env σ/\f env S=qq (fl,S')/\∀ F' L' H',Gr F L F' L'->Rel K F' L' S' H'->match fl with
 | .nx aJ=>∀ σ',EnvR K F' L' aJ σ'->D.nx σ' H'
 | .rt w=>∀ v,eU K F' L' w v->D.rt v H'
 | .bk aJ=>∀ σ',EnvR K F' L' aJ σ'->D.bk σ' H'
 | .ct aJ=>∀ σ',EnvR K F' L' aJ σ'->D.ct σ' H'
end
section
variable {X : Cx}
theorem PE.weak{e:qw}{t t':TE}(h:PE X e t)(w:∀ σ H Q,t' σ H Q->t σ H Q):PE X e t':=λ aB s σ H Q I q=>h aB s σ H Q I (w σ H Q q)
theorem PT.weak{e:qw}{t t':TT}(h:PT X e t)(w:∀ σ H Q,t' σ H Q->t σ H Q):PT X e t':=λ aB s σ H Q I q=>h aB s σ H Q I (w σ H Q q)
theorem PW.weak{e:qw}{t t':TT}(h:PW X e t)(w:∀ σ H Q,t' σ H Q->t σ H Q):PW X e t':=λ wh aB s σ H Q I q=>h wh aB s σ H Q I (w σ H Q q)
theorem PA.weak{e:List qw}{t t':TA}(h:PA X e t)(w:∀ σ H Q,t' σ H Q->t σ H Q):PA X e t':=λ pos aB s σ H Q I q=>h pos aB s σ H Q I (w σ H Q q)
theorem PS.weak{e:jz}{t t':TS}(h:PS X e t)(w:∀ D σ H,t' D σ H->t D σ H):PS X e t':=λ aB s σ H D I q=>h aB s σ H D I (w D σ H q)
theorem dZ.weak{e:List jz}{t t':TS}(h:dZ X e t)(w:∀ D σ H,t' D σ H->t D σ H):dZ X e t':=λ aB s σ H D I q=>h aB s σ H D I (w D σ H q)
abbrev rO(K:FrG)(F:Hp)(L:List qv)(S':aD)(w:W)(Q:VK):Prop:=∀ F' L' H' v,Gr F L F' L'->Rel K F' L' S' H'->eU K F' L' w v->Q v H'
noncomputable def f2(fa fb:FE)(g:aD->W->W->Option (W×aD)):FE:=λ env S=>(fa env S).bind λ p=>(fb env p.2).bind λ q=>g q.2 p.1 q.1
noncomputable def f1(fa:FE)(g:aD->W->Option (W×aD)):FE:=λ env S=>(fa env S).bind λ p=>g p.2 p.1
theorem aAv{K:FrG}{fa fb:FE}{g:aD->W->W->Option (W×aD)}{r:R2}
 (hr:∀ F L S H x y wx wy w S' Q,Rel K F L S H->eU K F L wx x->eU K F L wy y->g S wx wy=qq (w,S')->rO K F L S' w Q->r x y H Q)
 (σ:St) (H:Hp) (Q:VK) (h:aY K (f2 fa fb g) σ H Q):wF r (aY K fa) (aY K fb) σ H Q:=by
 obtain⟨F,L,S,env,w,S',R,E,e,q⟩:=h;unfold f2 at e;cases ea:fa env S with
 | none=>rw[ea] at e;cases e
 | some p =>
   obtain⟨wx,S1⟩:=p;rw[ea] at e;dsimp only[yDh] at e;cases eb:fb env S1 with
   | none=>rw[eb] at e;cases e
   | some p2 =>
     obtain⟨wy,S2⟩:=p2;rw[eb] at e;dsimp only at e;refine⟨F,L,S,env,wx,S1,R,E,ea,λ F1 L1 H1 x g1 R1 d1=>⟨F1,L1,S1,env,wy,S2,R1,E.mono g1,eb,λ F2 L2 H2 y g2 R2 d2=>?_⟩⟩
     exact hr F2 L2 S2 H2 x y wx wy w S' Q R2 (d1.mono g2) d2 e λ F3 L3 H3 v g3 R3 d3=>q F3 L3 H3 v ((g1.trans g2).trans g3) R3 d3
theorem aUI{K:FrG}{fa:FE}{g:aD->W->Option (W×aD)}{r:V->Hp->VK->Prop}
 (hr:∀ F L S H x wx w S' Q,Rel K F L S H->eU K F L wx x->g S wx=qq (w,S')->rO K F L S' w Q->r x H Q)
 (σ:St) (H:Hp) (Q:VK) (h:aY K (f1 fa g) σ H Q):tUn r (aY K fa) σ H Q:=by
 obtain⟨F,L,S,env,w,S',R,E,e,q⟩:=h;unfold f1 at e;cases ea:fa env S with
 | none=>rw[ea] at e;cases e
 | some p =>
   obtain⟨wx,S1⟩:=p;rw[ea] at e;dsimp only[yDh] at e;refine⟨F,L,S,env,wx,S1,R,E,ea,λ F1 L1 H1 x g1 R1 d1=>?_⟩
   exact hr F1 L1 S1 H1 x wx w S' Q R1 d1 e λ F3 L3 H3 v g3 R3 d3=>q F3 L3 H3 v (g1.trans g3) R3 d3
noncomputable def iQ(i:Nat):FE:=λ env S=>match env[i]? with
 | some (qq w)=>qq (w,S)
 | _=>qz
theorem aLV{i:Nat}{env:aW}{S S':aD}{w:W}(h:iQ i env S=qq (w,S')):env[i]? = qq (qq w)/\S'=S:=by
 unfold iQ at h
 split at h
 ·rename_i w' e;cases h;exact⟨e,rfl⟩
 ·cases h
theorem aSL{i:Nat}{x:Str}{pos:Pos}(hN:X.N[i]? = qq x)(hv:wN X.env.scope x)(hd:(x==("__debug__" : Str))=false)(hcd:(x==("__classdict__" : Str))=false):PE X (.Name x pos) (aY X.K (iQ i)):=
 PE.weak (aQJ hN hv hd hcd) λ σ H Q aQ=>by
  obtain⟨F,L,S,env,w,S',R,E,e,q⟩:=aQ;obtain⟨e1,rfl⟩:=aLV e;obtain⟨v,e2,d⟩:=E.get i w e1;exact⟨v,e2,q F L H v Gr.refl R d⟩
noncomputable def fC(d:D):FE:=λ _ S=>qq (.d d,S)
theorem aUt{i j pos}:PE X (.Constant (.int i) j pos) (aY X.K (fC (.int i))):=
 PE.weak aR7 λ σ H Q aQ=>by obtain⟨F,L,S,env,w,S',R,E,e,q⟩:=aQ;cases e;exact q F L H _ Gr.refl R (.int i)
theorem aVa{b j pos}:PE X (.Constant (.bool b) j pos) (aY X.K (fC (.bool b))):=
 PE.weak aTW λ σ H Q aQ=>by obtain⟨F,L,S,env,w,S',R,E,e,q⟩:=aQ;cases e;exact q F L H _ Gr.refl R (.bl b)
theorem aTP{j pos}:PE X (.Constant .none j pos) (aY X.K (fC .none)):=
 PE.weak aRb λ σ H Q aQ=>by obtain⟨F,L,S,env,w,S',R,E,e,q⟩:=aQ;cases e;exact q F L H _ Gr.refl R .non
theorem aUC{x j pos}:PE X (.Constant (.str x) j pos) (aY X.K (fC (.str x))):=
 PE.weak aQA λ σ H Q aQ=>by obtain⟨F,L,S,env,w,S',R,E,e,q⟩:=aQ;cases e;exact q F L H _ Gr.refl R (.str x)
noncomputable def gS(g:D->D->Option D)(S:aD)(x y:W):Option (W×aD):=(dr S x).bind λ a=>(dr S y).bind λ b=>(g a b).bind λ z=>qq (.d z,S)
noncomputable def mJ(g:D->Option D)(S:aD)(x:W):Option (W×aD):=(dr S x).bind λ a=>(g a).bind λ z=>qq (.d z,S)
theorem aFU{g:D->D->Option D}{S S':aD}{x y w:W}(h:gS g S x y=qq (w,S')):∃ a b z,dr S x=qq a/\dr S y=qq b/\g a b=qq z/\w=.d z/\S'=S:=by
 unfold gS at h;cases e1:dr S x with
 | none=>rw[e1] at h;cases h
 | some a =>
   cases e2:dr S y with
   | none=>rw[e1,e2] at h;cases h
   | some b =>
     rw[e1,e2] at h;dsimp only[yDh] at h;cases e3:g a b with
     | none=>rw[e3] at h;cases h
     | some z=>rw[e3] at h;cases h;exact⟨a,b,z,rfl,rfl,e3,rfl,rfl⟩
theorem aBR{g:D->Option D}{S S':aD}{x w:W}(h:mJ g S x=qq (w,S')):∃ a z,dr S x=qq a/\g a=qq z/\w=.d z/\S'=S:=by
 unfold mJ at h;cases e1:dr S x with
 | none=>rw[e1] at h;cases h
 | some a =>
   rw[e1] at h;dsimp only[yDh] at h;cases e3:g a with
   | none=>rw[e3] at h;cases h
   | some z=>rw[e3] at h;cases h;exact⟨a,z,rfl,e3,rfl,rfl⟩
theorem aB7{K:FrG}{F:Hp}{L:List qv}{S:aD}{z:D}{Q:VK}(X:Cx)(hK:X.K=K)(q:rO K F L S (.d z) Q):gJ X F L S z Q:=λ F' H' r sf R d=>by
 subst hK;exact q F' L H' r ⟨sf,[],by simp⟩ R d
noncomputable def rD2(X:Cx)(g:D->D->Option D):R2:=λ x y H Q=>∃ F L S dx dy z,Rel X.K F L S H/\bR X.K F H dx x/\bR X.K F H dy y/\g dx dy=qq z/\gJ X F L S z Q
theorem zU{g:D->D->Option D}(F:Hp)(L:List qv)(S:aD)(H:Hp)(x y:V)(wx wy w:W)(S':aD)(Q:VK)(R:Rel X.K F L S H)(h1:eU X.K F L wx x)(h2:eU X.K F L wy y)(e:gS g S wx wy=qq (w,S'))(q:rO X.K F L S' w Q):rD2 X g x y H Q:=by
 obtain⟨a,b,z,e1,e2,e3,rfl,rfl⟩:=aFU e;exact⟨F,L,S',a,b,z,R,kK R h1 e1,kK R h2 e2,e3,aB7 X rfl q⟩
noncomputable def pI(op:vj)(fa fb:FE):FE:=f2 fa fb (gS (cG op))
theorem aSQ{a b:qw}{op:vj}{pos:Pos}{fa fb:FE}(ha:PE X a (aY X.K fa))(hb:PE X b (aY X.K fb)):PE X (.BinOp a op b pos) (aY X.K (pI op fa fb)):=
 PE.weak (aIM (r:=rD2 X (cG op)) (λ aB s σ H x y v u Q I rx ry hPr0=>by obtain⟨F,L,S,dx,dy,z,R,nx,ny,e,q⟩:=hPr0;exact aP6 I rx ry R nx ny e q) ha hb) (aAv zU)
noncomputable def wG(op:kq)(fa:FE):FE:=f1 fa (mJ (pP op))
theorem aVo{a:qw}{op:kq}{pos:Pos}{fa:FE}(ha:PE X a (aY X.K fa)):PE X (.UnaryOp op a pos) (aY X.K (wG op fa)):=
 PE.weak (aSG (r:=λ x H Q=>∃ F L S dx z,Rel X.K F L S H/\bR X.K F H dx x/\pP op dx=qq z/\gJ X F L S z Q) (λ aB s σ H x v Q I rx hPr1=>by obtain⟨F,L,S,dx,z,R,nx,e,q⟩:=hPr1;exact aUe I rx R nx e q) ha)
  (aUI λ F L S H x wx w S' Q R d e q=>by
    obtain⟨a,z,e1,e3,rfl,rfl⟩:=aBR e;exact⟨F,L,S',a,z,R,kK R d e1,e3,aB7 X rfl q⟩)
noncomputable def bH(op:vk)(x y:D):Option D:=(rM op x y).map yDi
theorem aGn{op:vk}(hu:X.A.units+64<cLine):cZ X (jx op) (rD2 X (bH op)):=λ aB s σ H x y v u Q I rx ry aQ=>by
 obtain⟨F,L,S,dx,dy,z,R,nx,ny,e,q⟩:=aQ;unfold bH at e;cases ec:rM op dx dy with
 | none=>rw[ec] at e;cases e
 | some b=>rw[ec] at e;cases e;exact aRh hu I rx ry R nx ny ec (q.here R (.bl b))
noncomputable def lY(op:vk)(fa fb:FE):FE:=f2 fa fb (gS (bH op))
theorem aSu{a b:qw}{op:vk}{pos:Pos}{fa fb:FE}(hu:X.A.units+64<cLine)(ha:PE X a (aY X.K fa))(hb:PE X b (aY X.K fb))(hm:vz op b=false):PE X (.Compare a [op] [b] pos) (aY X.K (lY op fa fb)):=
 PE.weak (aOZ (aGn hu) ha hb hm) (aAv zU)
noncomputable def dP(fa:FE):FT:=λ env S=>(fa env S).bind λ p=>(dr p.2 p.1).bind λ d=>(pL d).bind λ b=>qq (b,p.2)
theorem aE7{fa:FE}{env:aW}{S S':aD}{b:Bool}(h:dP fa env S=qq (b,S')):∃ w d,fa env S=qq (w,S')/\dr S' w=qq d/\pL d=qq b:=by
 unfold dP at h;cases ea:fa env S with
 | none=>rw[ea] at h;cases h
 | some p =>
   obtain⟨w,S1⟩:=p;rw[ea] at h;dsimp only[yDh] at h;cases e1:dr S1 w with
   | none=>rw[e1] at h;cases h
   | some d =>
     rw[e1] at h;dsimp only at h;cases e2:pL d with
     | none=>rw[e2] at h;cases h
     | some c=>rw[e2] at h;cases h;exact⟨w,d,rfl,e1,e2⟩
theorem aUw{a:qw}{fa:FE}(ha:PE X a (aY X.K fa))(he:∀ fJ,isTrue a X.env fJ=(do let v <- fJ;standAt a.pos;holding [v] (truthy v))):PT X a (fM X.K (dP fa)):=
 PT.weak (aNP ha he) λ σ H Q aQ=>by
  obtain⟨F,L,S,env,b,S',R,E,e,q⟩:=aQ;obtain⟨w,d,e1,e2,e3⟩:=aE7 e;exact⟨F,L,S,env,w,S',R,E,e1,λ F1 L1 H1 v g1 R1 d1=>⟨b,aOg R1 (kK R1 d1 e2) e3,q F1 L1 H1 g1 R1⟩⟩
theorem aR1{a b:qw}{op:vk}{pos:Pos}{fa fb:FE}(hu:X.A.units+64<cLine)(ha:PE X a (aY X.K fa))(hb:PE X b (aY X.K fb))(hm:vz op b=false):PT X (.Compare a [op] [b] pos) (fM X.K (dP (lY op fa fb))):=
 PT.weak (aNT (aGn hu) ha hb hm) λ σ H Q aQ=>by
  obtain⟨F,L,S,env,b,S',R,E,e,q⟩:=aQ;obtain⟨w,d,e1,e2,e3⟩:=aE7 e;refine aAv (fa:=fa) (fb:=fb) (g:=gS (bH op)) zU σ H _ ⟨F,L,S,env,w,S',R,E,e1,λ F1 L1 H1 v g1 R1 d1=>?_⟩
  have hc:∃ c,w=.d (.bool c):=by
   unfold lY f2 at e1;cases ea:fa env S with
   | none=>rw[ea] at e1;cases e1
   | some p =>
     rw[ea] at e1;dsimp only[yDh] at e1;cases eb:fb env p.2 with
     | none=>rw[eb] at e1;cases e1
     | some p2 =>
       rw[eb] at e1;dsimp only at e1;obtain⟨_,_,z,_,_,e6,rfl,_⟩:=aFU e1;unfold bH at e6;cases e7:rM op _ _ with
       | none=>rw[e7] at e6;cases e6
       | some c=>rw[e7] at e6;cases e6;exact⟨c,rfl⟩
  obtain⟨c,rfl⟩:=hc;cases e2;cases e3;have hv:v=.bl b:=by cases (show Den X.K F1 (.bool b) v from d1);rfl
  exact⟨b,hv,q F1 L1 H1 g1 R1⟩
end
section
variable {X : Cx}{pos : Pos}
noncomputable def vK(fa fb:FT):FT:=λ env S=>(fa env S).bind λ p=>if p.1=true then fb env p.2 else qq (false,p.2)
noncomputable def wI(fa fb:FT):FT:=λ env S=>(fa env S).bind λ p=>if p.1=true then qq (true,p.2) else fb env p.2
noncomputable def vN(fa:FT):FT:=λ env S=>(fa env S).bind λ p=>qq (!p.1,p.2)
theorem aI0{K:FrG}{fa fb:FT}(σ:St)(H:Hp)(Q:Bool->Hp->Prop)(h:fM K (vK fa fb) σ H Q):aJT (fM K fa) (fM K fb) σ H Q:=by
 obtain⟨F,L,S,env,b,S',R,E,e,q⟩:=h;obtain⟨⟨c,S1⟩,e1,e2⟩:=bind_some e;refine⟨F,L,S,env,c,S1,R,E,e1,λ F1 L1 H1 g1 R1=>?_⟩
 dsimp only at e2;cases c with
 | true=>exact rP ⟨F1,L1,S1,env,b,S',R1,E.mono g1,by simpa using e2,λ F2 L2 H2 g2 R2=>q F2 L2 H2 (g1.trans g2) R2⟩
 | false =>
   have e3:qq (false,S1)=qq (b,S'):=by simpa using e2
   cases e3;exact rL (q F1 L1 H1 g1 R1)
theorem aJL{K:FrG}{fa fb:FT}(σ:St)(H:Hp)(Q:Bool->Hp->Prop)(h:fM K (wI fa fb) σ H Q):tOr (fM K fa) (fM K fb) σ H Q:=by
 obtain⟨F,L,S,env,b,S',R,E,e,q⟩:=h;obtain⟨⟨c,S1⟩,e1,e2⟩:=bind_some e;refine⟨F,L,S,env,c,S1,R,E,e1,λ F1 L1 H1 g1 R1=>?_⟩
 dsimp only at e2;cases c with
 | false=>exact rL ⟨F1,L1,S1,env,b,S',R1,E.mono g1,by simpa using e2,λ F2 L2 H2 g2 R2=>q F2 L2 H2 (g1.trans g2) R2⟩
 | true =>
   have e3:qq (true,S1)=qq (b,S'):=by simpa using e2
   cases e3;exact rP (q F1 L1 H1 g1 R1)
theorem aUx{a:qw}{fa:FT}(ha:PT X a (fM X.K fa)):PT X (.UnaryOp .Not a pos) (fM X.K (vN fa)):=
 PT.weak (aQk ha) λ σ H Q aQ=>by
  obtain⟨F,L,S,env,b,S',R,E,e,q⟩:=aQ;obtain⟨⟨c,S1⟩,e1,e2⟩:=bind_some e;cases e2;exact⟨F,L,S,env,c,S1,R,E,e1,q⟩
noncomputable def uT(fa fb:FE):FE:=λ env S=>(fa env S).bind λ p=>match p.1 with
 | .d (.bool true)=>fb env p.2
 | .d (.bool false)=>qq (.d (.bool false),p.2)
 | _=>qz
noncomputable def vW(fa fb:FE):FE:=λ env S=>(fa env S).bind λ p=>match p.1 with
 | .d (.bool false)=>fb env p.2
 | .d (.bool true)=>qq (.d (.bool true),p.2)
 | _=>qz
noncomputable def uZ(fa:FE):FE:=λ env S=>(fa env S).bind λ p=>match p.1 with
 | .d (.bool b)=>qq (.d (.bool (!b)),p.2)
 | _=>qz
theorem uV{K:FrG}{F:Hp}{L:List qv}{b:Bool}{v:V}(h:eU K F L (.d (.bool b)) v):v=.bl b:=by cases (show Den K F (.bool b) v from h);rfl
theorem aHM{K:FrG}{fa fb:FE}(σ:St)(H:Hp)(Q:VK)(h:aY K (uT fa fb) σ H Q):aJe (aY K fa) (aY K fb) σ H Q:=by
 obtain⟨F,L,S,env,w,S',R,E,e,q⟩:=h;obtain⟨⟨c,S1⟩,e1,e2⟩:=bind_some e;dsimp only at e2
 split at e2
 ·exact⟨F,L,S,env,_,S1,R,E,e1,λ F1 L1 H1 v g1 R1 d1=>⟨true,uV d1,rP ⟨F1,L1,S1,env,w,S',R1,E.mono g1,e2,λ F2 L2 H2 v2 g2 R2 d2=>q F2 L2 H2 v2 (g1.trans g2) R2 d2⟩⟩⟩
 ·cases e2;exact⟨F,L,S,env,_,_,R,E,e1,λ F1 L1 H1 v g1 R1 d1=>⟨false,uV d1,rL (q F1 L1 H1 _ g1 R1 (Den.bl false))⟩⟩
 ·cases e2
theorem aIN{K:FrG}{fa fb:FE}(σ:St)(H:Hp)(Q:VK)(h:aY K (vW fa fb) σ H Q):aJj (aY K fa) (aY K fb) σ H Q:=by
 obtain⟨F,L,S,env,w,S',R,E,e,q⟩:=h;obtain⟨⟨c,S1⟩,e1,e2⟩:=bind_some e;dsimp only at e2
 split at e2
 ·exact⟨F,L,S,env,_,S1,R,E,e1,λ F1 L1 H1 v g1 R1 d1=>⟨false,uV d1,rL ⟨F1,L1,S1,env,w,S',R1,E.mono g1,e2,λ F2 L2 H2 v2 g2 R2 d2=>q F2 L2 H2 v2 (g1.trans g2) R2 d2⟩⟩⟩
 ·cases e2;exact⟨F,L,S,env,_,_,R,E,e1,λ F1 L1 H1 v g1 R1 d1=>⟨true,uV d1,rP (q F1 L1 H1 _ g1 R1 (Den.bl true))⟩⟩
 ·cases e2
theorem aQG{a:qw}{fa:FE}(ha:PE X a (aY X.K fa)):PE X (.UnaryOp .Not a pos) (aY X.K (uZ fa)):=
 PE.weak (aRH ha) λ σ H Q aQ=>by
  obtain⟨F,L,S,env,w,S',R,E,e,q⟩:=aQ;obtain⟨⟨c,S1⟩,e1,e2⟩:=bind_some e;dsimp only at e2
  split at e2
  ·cases e2;exact⟨F,L,S,env,_,_,R,E,e1,λ F1 L1 H1 v g1 R1 d1=>⟨_,uV d1,q F1 L1 H1 _ g1 R1 (Den.bl _)⟩⟩
  ·cases e2
noncomputable def vP(fc:FT)(fa fb:FE):FE:=λ env S=>(fc env S).bind λ p=>if p.1=true then fa env p.2 else fb env p.2
theorem aUj{c a b:qw}{fc:FT}{fa fb:FE}(hc:PT X c (fM X.K fc))(ha:PE X a (aY X.K fa))(hb:PE X b (aY X.K fb)):PE X (.IfExp c a b pos) (aY X.K (vP fc fa fb)):=
 PE.weak (aMX hc ha hb) λ σ H Q aQ=>by
  obtain⟨F,L,S,env,w,S',R,E,e,q⟩:=aQ;obtain⟨⟨c,S1⟩,e1,e2⟩:=bind_some e;refine⟨F,L,S,env,c,S1,R,E,e1,λ F1 L1 H1 g1 R1=>?_⟩
  dsimp only at e2;cases c with
  | true=>exact rP ⟨F1,L1,S1,env,w,S',R1,E.mono g1,by simpa using e2,λ F2 L2 H2 v g2 R2 d2=>q F2 L2 H2 v (g1.trans g2) R2 d2⟩
  | false=>exact rL ⟨F1,L1,S1,env,w,S',R1,E.mono g1,by simpa using e2,λ F2 L2 H2 v g2 R2 d2=>q F2 L2 H2 v (g1.trans g2) R2 d2⟩
noncomputable def hZ:FA:=λ _ S=>qq ([],S)
noncomputable def dH(fa:FE)(fr:FA):FA:=λ env S=>(fa env S).bind λ p=>(fr env p.2).bind λ q=>qq (p.1::q.1,q.2)
theorem aC4:PA X [] (fW X.K hZ):=PA.weak aQ1 λ σ H Q aQ=>by obtain⟨F,L,S,env,ws,S',R,E,e,q⟩:=aQ;cases e;exact q F L H [] Gr.refl R .nil
theorem lI{e:qw}{es:List qw}{fa:FE}{fr:FA}(ha:PE X e (aY X.K fa))(hr:PA X es (fW X.K fr))(hs:qo (e::es) X.env=(false,eval e X.env)::qo es X.env):PA X (e::es) (fW X.K (dH fa fr)):=
 PA.weak (aOo ha hr hs) λ σ H Q aQ=>by
  obtain⟨F,L,S,env,ws,S',R,E,e,q⟩:=aQ;obtain⟨⟨w,S1⟩,e1,e2⟩:=bind_some e;obtain⟨⟨wr,S2⟩,e3,e4⟩:=bind_some e2;cases e4;exact⟨F,L,S,env,w,S1,R,E,e1,λ F1 L1 H1 v g1 R1 d1=>⟨F1,L1,S1,env,wr,S2,R1,E.mono g1,e3,λ F2 L2 H2 vs g2 R2 d2=>q F2 L2 H2 _ (g1.trans g2) R2 (.cons (d1.mono g2) d2)⟩⟩
noncomputable def pH:List W->Option (List D)
 | []=>qq []
 | .d x::r=>(pH r).bind λ l=>qq (x::l)
 | .loc _::_=>qz
theorem aBE{K:FrG}{F:Hp}{L:List qv}:∀ {ws:List W}{xs:List V}{ds:List D},WDenL K F L ws xs->pH ws=qq ds->DenL K F ds xs
 | _,_,_,.nil,e=>by cases e;exact .nil
 | .d x::r,_,_,.cons h t,e=>by
   obtain⟨l,e1,e2⟩:=bind_some e;cases e2;exact .cons h (aBE t e1)
 | .loc _::_,_,_,.cons _ _,e=>by cases e
noncomputable def vU(fs:FA):FE:=λ env S=>(fs env S).bind λ p=>(pH p.1).bind λ ds=>if ds.length<=qk then qq (.d (.tuple ds),p.2) else qz
theorem aSY{es:List qw}{k:Nat}{fs:FA}(h:PA X es (fW X.K fs)):PE X (.Tuple es k pos) (aY X.K (vU fs)):=
 PE.weak (aSl h) λ σ H Q aQ=>by
  obtain⟨F,L,S,env,w,S',R,E,e,q⟩:=aQ;obtain⟨⟨ws,S1⟩,e1,e2⟩:=bind_some e;obtain⟨ds,e3,e4⟩:=bind_some e2
  split at e4
  ·rename_i hz;cases e4;refine⟨F,L,S,env,ws,_,R,E,e1,λ F1 L1 H1 vs g1 R1 d1=>?_⟩
   have dl:=aBE d1 e3;refine⟨by rw[<- dl.length];exact hz,λ p hp=>?_⟩
   exact q _ L1 _ _ (g1.trans (Gr.new (R1.sub.free hp))) (R1.new hp) (Den.tup (bZ.of dE) (dl.mono (dB (R1.sub.free hp))))
  ·cases e4
noncomputable def vX(fs:FA):FL:=λ env S=>(fs env S).bind λ p=>(pH p.1).bind λ ds=>if ds.length<=qk then qq (ds,p.2) else qz
theorem aTk{es:List qw}{fs:FA}(h:PA X es (fW X.K fs)):PE X (.List es pos) (iU X.K (vX fs)):=
 PE.weak (aQo h) λ σ H Q aQ=>by
  obtain⟨F,L,S,env,ds,S',R,E,e,q⟩:=aQ;obtain⟨⟨ws,S1⟩,e1,e2⟩:=bind_some e;obtain⟨ds',e3,e4⟩:=bind_some e2
  split at e4
  ·rename_i hz;cases e4;refine⟨F,L,S,env,ws,_,R,E,e1,λ F1 L1 H1 vs g1 R1 d1=>?_⟩
   have dl:=aBE d1 e3;exact⟨by rw[<- dl.length];exact hz,λ p hp=>q F1 L1 _ p vs g1 (R1.lay hp) (R1.sub.free hp) (R1.notin hp) dE dl⟩
  ·cases e4
noncomputable def jZ(f:FL):FE:=λ env S=>(f env S).bind λ p=>qq (.d (.list p.1),p.2)
theorem aJk{e:qw}{f:FL}(h:PE X e (iU X.K f)):PE X e (aY X.K (jZ f)):=
 PE.weak h λ σ H Q aQ=>by
  obtain⟨F,L,S,env,w,S',R,E,e,q⟩:=aQ;obtain⟨⟨ds,S1⟩,e1,e2⟩:=bind_some e;cases e2;exact⟨F,L,S,env,ds,_,R,E,e1,λ F1 L1 H1 p xs g1 R1 hF hL hH dl=>q _ L1 _ _ (g1.trans (Gr.new hF)) (R1.adopt hF hL hH) (Den.lst (bW.of dE) (dl.mono (dB hF)))⟩
noncomputable def fD(f:FL):FE:=λ env S=>(f env S).bind λ p=>qq (.loc p.2.length,p.2++[qq p.1])
theorem aSq{e:qw}{f:FL}(h:PE X e (iU X.K f)):PE X e (aY X.K (fD f)):=
 PE.weak h λ σ H Q aQ=>by
  obtain⟨F,L,S,env,w,S',R,E,e,q⟩:=aQ;obtain⟨⟨ds,S1⟩,e1,e2⟩:=bind_some e;cases e2;refine⟨F,L,S,env,ds,_,R,E,e1,λ F1 L1 H1 p xs g1 R1 hF hL hH dl=>q _ _ _ _ (g1.trans Gr.newLoc) (R1.adoptLoc hF hL hH dl) ⟨p,?_,rfl⟩⟩
  dsimp only;rw[<- R1.len,yAh (yAc _)];simp
noncomputable def aI:D->D->Option D
 | .list xs,.int i=>kE xs i
 | .tuple xs,.int i=>kE xs i
 | .str z,.int i=>if z.length<=qk then (kE z.cps.toList i).bind λ c=>qq (.str ⟨#[c]⟩) else qz
 | _,_=>qz
theorem aGH{K:FrG}{F:Hp}{ds:List D}{xs:List V}{i:Int}{d:D}(h:DenL K F ds xs)(e:kE ds i=qq d):∃ x,kE xs i=qq x/\Den K F d x:=by
 unfold kE at e ⊢;rw[<- h.length];obtain⟨j,e1,e2⟩:=bind_some e;obtain⟨x,e3,dx⟩:=h.get e2;exact⟨x,by rw[e1];exact e3,dx⟩
theorem aOq:sJ X (rD2 X aI):=λ value lA aB s σ H x y v u Q I rx ry aQ hs=>by
 obtain⟨F,L,S,dx,dy,z,R,nx,ny,e,q⟩:=aQ;unfold aI at e
 split at e
 ·obtain⟨a,xs,rfl,sq,dl⟩:=nx.lst R.sub;obtain⟨r,e1,d1⟩:=aGH dl e;exact aOD value lA aB s σ H _ y v u Q I rx ry ⟨a,xs,_,r,rfl,ny.int,sq,e1,q.here R d1⟩ hs
 ·obtain⟨a,xs,rfl,sq,dl⟩:=nx.tup R.sub;obtain⟨r,e1,d1⟩:=aGH dl e;exact aQp value lA aB s σ H _ y v u Q I rx ry ⟨a,xs,_,r,rfl,ny.int,sq,e1,q.here R d1⟩ hs
 ·split at e
  ·rename_i hz;obtain⟨c,e1,e2⟩:=bind_some e;cases e2;exact aQw value lA aB s σ H x y v u Q I rx ry ⟨_,_,c,nx.str,ny.int,hz,e1,q.here R (.str _)⟩ hs
  ·cases e
 ·cases e
noncomputable def oA(fa fb:FE):FE:=f2 fa fb (gS aI)
theorem aVs{a b:qw}{fa fb:FE}(ha:PE X a (aY X.K fa))(hb:PE X b (aY X.K fb))(hs:zA b):PE X (.Subscript a b pos) (aY X.K (oA fa fb)):=
 PE.weak (aJb aOq ha hb hs) (aAv zU)
noncomputable abbrev FO:=aW->aD->Option (Option Int×aD)
noncomputable def wU:FO:=λ _ S=>qq (qz,S)
noncomputable def nJ(fa:FE):FO:=λ env S=>(fa env S).bind λ p=>match p.1 with
 | .d (.int i)=>qq (qq i,p.2)
 | _=>qz
noncomputable def kS(K:FrG)(f:FO):TO:=λ σ H Q=>∃ F L S env o S',Rel K F L S H/\EnvR K F L env σ/\f env S=qq (o,S')/\∀ F' L' H',Gr F L F' L'->Rel K F' L' S' H'->Q o H'
theorem aUV:PO X qz (kS X.K wU):=λ aB s σ H Q I aQ=>by
 obtain⟨F,L,S,env,o,S',R,E,e,q⟩:=aQ;cases e;exact aPs aB s σ H Q I (q F L H Gr.refl R)
theorem aP8{a:qw}{fa:FE}(ha:PE X a (aY X.K fa)):PO X (qq a) (kS X.K (nJ fa)):=λ aB s σ H Q I aQ=>by
 obtain⟨F,L,S,env,o,S',R,E,e,q⟩:=aQ;obtain⟨⟨w,S1⟩,e1,e2⟩:=bind_some e;dsimp only at e2
 split at e2
 ·cases e2;refine aOc ha aB s σ H Q I ⟨F,L,S,env,_,_,R,E,e1,λ F1 L1 H1 v g1 R1 d1=>?_⟩
  cases (show Den X.K F1 (.int _) v from d1)
  exact⟨_,rfl,q F1 L1 H1 g1 R1⟩
 ·cases e2
noncomputable def iA(xs:List D)(lo hi:Option Int):List D:=(xs.drop (HT.sIx xs.length 0 lo)).take (HT.sIx xs.length xs.length hi-HT.sIx xs.length 0 lo)
theorem aHv{K:FrG}{F:Hp}{ds:List D}{xs:List V}(h:DenL K F ds xs)(lo hi:Option Int):DenL K F (iA ds lo hi) (lZ xs lo hi):=by
 unfold iA lZ;rw[h.length];exact(h.drop _).take _
noncomputable def slL:D->Option Int->Option Int->Option (List D)
 | .list xs,lo,hi=>qq (iA xs lo hi)
 | _,_,_=>qz
noncomputable def aJu(fa:FE)(fl fh:FO):FL:=λ env S=>(fa env S).bind λ p=>(fl env p.2).bind λ q=>(fh env q.2).bind λ r=>(dr r.2 p.1).bind λ d=>(slL d q.1 r.1).bind λ z=>qq (z,r.2)
theorem aTT{a:qw}{lo hi:Option qw}{p2:Pos}{fa:FE}{fl fh:FO}(ha:PE X a (aY X.K fa))(hl:PO X lo (kS X.K fl))(hh:PO X hi (kS X.K fh)):PE X (.Subscript a (.Slice lo hi qz p2) pos) (iU X.K (aJu fa fl fh)):=
 PE.weak (aF3 aN9 ha hl hh) λ σ H Q aQ=>by
  obtain⟨F,L,S,env,ds,S',R,E,e,q⟩:=aQ;obtain⟨⟨w,S1⟩,e1,e⟩:=bind_some e;obtain⟨⟨l,S2⟩,e2,e⟩:=bind_some e;obtain⟨⟨h,S3⟩,e3,e⟩:=bind_some e;obtain⟨d,e4,e⟩:=bind_some e;obtain⟨z,e5,e⟩:=bind_some e;cases e;refine⟨F,L,S,env,w,S1,R,E,e1,λ F1 L1 H1 v g1 R1 d1=>⟨F1,L1,S1,env,l,S2,R1,E.mono g1,e2,λ F2 L2 H2 g2 R2=>⟨F2,L2,S2,env,h,S3,R2,E.mono (g1.trans g2),e3,λ F3 L3 H3 g3 R3=>?_⟩⟩⟩
  have n:=kK R3 (d1.mono (g2.trans g3)) e4;cases d with
  | list xs =>
    cases e5;obtain⟨a,vs,rfl,sq,dl⟩:=n.lst R3.sub;exact⟨a,vs,rfl,sq,λ p hp=>q F3 L3 _ p _ ((g1.trans g2).trans g3) (R3.lay hp) (R3.sub.free hp) (R3.notin hp) dE (aHv dl l h)⟩
  | _=>cases e5
noncomputable def rZ(K:FrG)(np:Nat)(call:List W->aD->Option (W×aD)):Sp:=λ vs H Q _=>∃ F L S ws w S',ws.length=np/\Rel K F L S H/\WDenL K F L ws vs/\call ws S=qq (w,S')/\rO K F L S' w Q
noncomputable def aAk(fs:FA)(np:Nat)(call:List W->aD->Option (W×aD)):FE:=λ env S=>(fs env S).bind λ p=>if p.1.length=np then call p.1 p.2 else qz
theorem aQ0{K:FrG}{fs:FA}{np:Nat}{call:List W->aD->Option (W×aD)}(σ:St)(H:Hp)(Q:VK)(h:aY K (aAk fs np call) σ H Q):aAg (rZ K np call) [] E0 (fW K fs) σ H Q:=by
 obtain⟨F,L,S,env,w,S',R,E,e,q⟩:=h;obtain⟨⟨ws,S1⟩,e1,e⟩:=bind_some e
 split at e
 ·rename_i hn;refine⟨F,L,S,env,ws,S1,R,E,e1,λ F1 L1 H1 vs g1 R1 d1=>⟨F1,L1,S1,ws,w,S',hn,R1,by rw[yDm];exact d1,e,λ F2 L2 H2 v g2 R2 d2=>q F2 L2 H2 v (g1.trans g2) R2 d2⟩⟩
 ·cases e
inductive NowL (K:FrG) (F H:Hp):List D->List V->Prop
 | nil:NowL K F H [] []
 | cons {d:D}{ds:List D}{x:V}{xs:List V}:bR K F H d x->NowL K F H ds xs->NowL K F H (d::ds) (x::xs)
noncomputable def mE(S:aD):List W->Option (List D)
 | []=>qq []
 | w::r=>(dr S w).bind λ d=>(mE S r).bind λ l=>qq (d::l)
theorem aGV{K:FrG}{F H:Hp}{L:List qv}{S:aD}(R:Rel K F L S H):∀ {ws:List W}{xs:List V}{ds:List D},WDenL K F L ws xs->mE S ws=qq ds->NowL K F H ds xs
 | _,_,_,.nil,e=>by cases e;exact .nil
 | _,_,_,.cons h t,e=>by
   obtain⟨d,e1,e⟩:=bind_some e;obtain⟨l,e2,e⟩:=bind_some e;cases e;exact .cons (kK R h e1) (aGV R t e2)
noncomputable def kZ(X:Cx)(g:List D->Option D):List V->Hp->VK->Prop:=λ xs H Q=>∃ F L S ds z,Rel X.K F L S H/\NowL X.K F H ds xs/\g ds=qq z/\gJ X F L S z Q
noncomputable def pF(fs:FA)(g:List D->Option D):FE:=λ env S=>(fs env S).bind λ p=>(mE p.2 p.1).bind λ ds=>(g ds).bind λ z=>qq (.d z,p.2)
theorem lT{fs:FA}{g:List D->Option D}(σ:St)(H:Hp)(Q:VK)(h:aY X.K (pF fs g) σ H Q):tCB (kZ X g) (fW X.K fs) σ H Q:=by
 obtain⟨F,L,S,env,w,S',R,E,e,q⟩:=h;obtain⟨⟨ws,S1⟩,e1,e⟩:=bind_some e;obtain⟨ds,e2,e⟩:=bind_some e;obtain⟨z,e3,e⟩:=bind_some e;cases e;refine⟨F,L,S,env,ws,_,R,E,e1,λ F1 L1 H1 vs g1 R1 d1=>⟨F1,L1,S1,ds,z,R1,aGV R1 d1 e2,e3,aB7 X rfl λ F2 L2 H2 v g2 R2 d2=>q F2 L2 H2 v (g1.trans g2) R2 d2⟩⟩
end
section
variable {prog : zq}{w : zw}{A : zy}{E : qx -> qj -> Prop}{s : qj}
theorem aFo{it t:qv}{aO:Array qx}(hne:t≠it):∀ (n i:Nat) (s:qj) (Q:List qx->qj->Prop),s.heap.IsListIter it t i->s.heap.IsList t aO->i+n<=aO.size ->
 (∀ h',h'.IsListIter it t (i+n)->yCu it s.heap h'->Q ((aO.toList.drop i).take n) {s with heap:=h' })->qy (model prog w) A (draw (.ref it) n) Q E s
 | 0,i,s,Q,hit,_,_,hQ=>wP (by simpa using hQ s.heap hit (Heap.SameBut.refl _ _))
 | n+1,i,s,Q,hit,hl,hle,hQ=>by
   have hlt:i<aO.size:=by omega
   show qy _ _ (jk (.ref it) >>= _) Q E s;refine wB (yq hit hl (x:=aO[i]) (by simp[hlt]) λ h1 hit1 hs1=>?_)
   refine wB (zu (aFo hne n (i+1) _ _ hit1 (hl.extBut hs1.extBut hne) (by omega) λ h2 hit2 hs2=>wP ?_))
   have q:=hQ h2 (by rw[show i+(n+1)=i+1+n by omega];exact hit2) (hs1.trans hs2)
   rw[yDj (by simpa using hlt),List.take_succ_cons] at q
   exact q
theorem aK1{env:Env}{elts:List qw}{x1}{pos:Pos}{t:qv}{aO:Array qx}{Q:Unit->qj->Prop}(hh:A.handled=qz)(hl:s.heap.IsList t aO)
 (hn:(xj elts env).length=aO.size) (hstar:(xj elts env).findIdx? (·.1)=qz)
 (h:∀ h',Heap.ExtBut s.heap.objs.size s.heap h'->qy (model prog w) A (assignInOrder ((xj elts env).map (·.2)) aO.toList) Q E {s with heap:=h' }) :
 qy (model prog w) A (assign (.Tuple elts x1 pos) env (.ref t)) Q E s:=by
 have hlt:t≠s.heap.objs.size:=by obtain⟨o,ho,_⟩:=hl;exact xAj (xAa ho)
 have hl1:∀ o,(s.heap.push o).IsList t aO:=λ o=>let ⟨u,hu,r⟩:=hl;⟨u,hpS _ hu,r⟩
 rw[arm_assign_Tuple];refine wB (ko ?_);unfold unpack;rw[hn,hstar];refine wB (zu ?_);unfold unpackItems;refine wB ?_;unfold notIterableAtAll;refine wB (yo hl.typeIs slot_list_iter.lookup (wP ?_));simp only[yAu,if_false];refine wB (zu (jw hl ?_));refine wB (zu (aFo hlt aO.size 0 _ _ ⟨_,xAd _ rfl,rfl,rfl⟩ (hl1 _) (by omega) λ h1 hit1 hs1=>?_))
 rw[show yDx aO.size (List.drop 0 aO.toList)=aO.toList by rw[yFe];exact yDc (by simp)]
 rw[if_neg (by simp)]
 have hl2:h1.IsList t aO:=(hl1 _).extBut hs1.extBut hlt;refine wB (zu (yj hh hit1 hl2 (by simp) λ h2 he2=>?_))
 simp only[Option.isSome_none,yAu,if_false];exact wP (h h2 λ b o hb e=>he2 b o hb (hs1.extBut b o hb (hpS _ e)))
end
section
variable {X : Cx}
noncomputable def aDz(K:FrG)(n:Nat)(t:iV):TG:=λ v σ H Q=>∃ a xs,v=.ref a/\(bZ K H a xs\/bW K H a xs)/\xs.length=n/\t xs σ H Q
theorem aRs{es:List qw}{k:Nat}{t:iV}{n:Nat}{pos:Pos}(hc:X.calm=true)(h:pV X es t)(hn:(xj es X.env).length=n)(hst:(xj es X.env).findIdx? (·.1)=qz):PG X (.Tuple es k pos) (aDz X.K n t):=by
 intro aB s σ H v u Q I r hw;obtain⟨a,xs,e1,hq,hl,hw⟩:=hw;rcases hq with hq | hq
 ·exact aRP hc h hn hst aB s σ H v u Q I r ⟨a,xs,e1,hq,hl,hw⟩
 ·subst e1;cases r;obtain⟨aG,rv,pl,hz⟩:=I.list hq;refine aK1 (I.ok.hd hc) pl.isList (by simp[hn,<- hl,rv.length]) hst λ h' hx=>?_
  have I1:Inv X aB σ H {s with heap:=h' }:=I.kept (t':=s.toks) λ b o e=>hx b o (xAj (xAa e)) e
  exact h aB _ σ H xs _ Q I1 (by simpa using rv) hw
end
section
variable {X : Cx}{pos : Pos}
noncomputable def aJU(K:FrG)(D:Ends)(F':Hp)(L':List qv)(H':Hp):Fl->Prop
 | .nx aJ=>∀ σ',EnvR K F' L' aJ σ'->D.nx σ' H'
 | .rt w=>∀ v,eU K F' L' w v->D.rt v H'
 | .bk aJ=>∀ σ',EnvR K F' L' aJ σ'->D.bk σ' H'
 | .ct aJ=>∀ σ',EnvR K F' L' aJ σ'->D.ct σ' H'
theorem lJ{K:FrG}{f:FS}{D:Ends}{σ:St}{H F:Hp}{L:List qv}{S:aD}{env:aW}{fl:Fl}{S':aD}(R:Rel K F L S H)(E:EnvR K F L env σ)(e:f env S=qq (fl,S'))
 (q:∀ F' L' H',Gr F L F' L'->Rel K F' L' S' H'->aJU K D F' L' H' fl):dQ K f D σ H:=⟨F,L,S,env,fl,S',R,E,e,λ F' L' H' g R'=>by
 have:=q F' L' H' g R';cases fl<;>exact this⟩
theorem lD{K:FrG}{f:FS}{D:Ends}{σ:St}{H:Hp}(h:dQ K f D σ H):∃ F L S env fl S',Rel K F L S H/\EnvR K F L env σ/\f env S=qq (fl,S')/\∀ F' L' H',Gr F L F' L'->Rel K F' L' S' H'->aJU K D F' L' H' fl:=by
 obtain⟨F,L,S,env,fl,S',R,E,e,q⟩:=h;exact⟨F,L,S,env,fl,S',R,E,e,λ F' L' H' g R'=>by
  have:=q F' L' H' g R';cases fl<;>exact this⟩
noncomputable def rD:FS:=λ env S=>qq (.nx env,S)
theorem aP5:dZ X [] (dQ X.K rD):=dZ.weak aPR λ D σ H h=>by
 obtain⟨F,L,S,env,fl,S',R,E,e,q⟩:=lD h;cases e;exact q F L H Gr.refl R σ E
noncomputable def dY(fa fb:FS):FS:=λ env S=>(fa env S).bind λ p=>match p.1 with
 | .nx e=>fb e p.2
 | fl=>qq (fl,p.2)
theorem aUi{a:jz}{b:List jz}{fa fb:FS}(ha:PS X a (dQ X.K fa))(hb:dZ X b (dQ X.K fb)):dZ X (a::b) (dQ X.K (dY fa fb)):=dZ.weak (aNm ha hb) λ D σ H h=>by
 obtain⟨F,L,S,env,fl,S',R,E,e,q⟩:=lD h;obtain⟨⟨f1,S1⟩,e1,e2⟩:=bind_some e;cases f1 with
 | nx e'=>exact lJ R E e1 λ F1 L1 H1 g1 R1 σ1 E1=>lJ R1 E1 e2 λ F2 L2 H2 g2 R2=>q F2 L2 H2 (g1.trans g2) R2
 | rt w=>cases e2;exact lJ R E e1 λ F1 L1 H1 g1 R1=>q F1 L1 H1 g1 R1
 | bk e'=>cases e2;exact lJ R E e1 λ F1 L1 H1 g1 R1=>q F1 L1 H1 g1 R1
 | ct e'=>cases e2;exact lJ R E e1 λ F1 L1 H1 g1 R1=>q F1 L1 H1 g1 R1
noncomputable def vE(fa:FE):FS:=λ env S=>(fa env S).bind λ p=>qq (.nx env,p.2)
theorem aQy{e:qw}{fa:FE}(h:PE X e (aY X.K fa))(hs:swapsWith e qz pos.line X.env=pure false):PS X (.Expr e pos) (dQ X.K (vE fa)):=PS.weak (aOm h hs) λ D σ H h=>by
 obtain⟨F,L,S,env,fl,S',R,E,e,q⟩:=lD h;obtain⟨⟨w,S1⟩,e1,e2⟩:=bind_some e;cases e2;exact⟨F,L,S,env,w,_,R,E,e1,λ F1 L1 H1 v g1 R1 d1=>q F1 L1 H1 g1 R1 σ (E.mono g1)⟩
noncomputable def nX(fa:FE):FS:=λ env S=>(fa env S).bind λ p=>qq (.rt p.1,p.2)
theorem aT3{e:qw}{fa:FE}(h:PE X e (aY X.K fa)):PS X (.Return (qq e) pos) (dQ X.K (nX fa)):=PS.weak (aQY h) λ D σ H h=>by
 obtain⟨F,L,S,env,fl,S',R,E,e,q⟩:=lD h;obtain⟨⟨w,S1⟩,e1,e2⟩:=bind_some e;cases e2;exact⟨F,L,S,env,w,_,R,E,e1,λ F1 L1 H1 v g1 R1 d1=>q F1 L1 H1 g1 R1 v d1⟩
noncomputable def aSV:FS:=λ env S=>qq (.rt (.d .none),S)
noncomputable def mD(fc:FT)(fa fb:FS):FS:=λ env S=>(fc env S).bind λ p=>if p.1=true then fa env p.2 else fb env p.2
theorem aU2{c:qw}{a b:List jz}{fc:FT}{fa fb:FS}(hc:PT X c (fM X.K fc))(ha:dZ X a (dQ X.K fa))(hb:dZ X b (dQ X.K fb)):PS X (.If c a b pos) (dQ X.K (mD fc fa fb)):=PS.weak (aT4 hc ha hb) λ D σ H h=>by
 obtain⟨F,L,S,env,fl,S',R,E,e,q⟩:=lD h;obtain⟨⟨c,S1⟩,e1,e2⟩:=bind_some e;refine⟨F,L,S,env,c,S1,R,E,e1,λ F1 L1 H1 g1 R1=>?_⟩
 cases c with
 | true=>exact rP (lJ R1 (E.mono g1) (by simpa using e2) λ F2 L2 H2 g2 R2=>q F2 L2 H2 (g1.trans g2) R2)
 | false=>exact rL (lJ R1 (E.mono g1) (by simpa using e2) λ F2 L2 H2 g2 R2=>q F2 L2 H2 (g1.trans g2) R2)
noncomputable def jD(i:Nat)(fa:FE):FS:=λ env S=>(fa env S).bind λ p=>qq (.nx (env.set i (qq p.1)),p.2)
theorem aIX{K:FrG}{i:Nat}{fa:FE}(D:Ends)(σ:St)(H:Hp)(h:dQ K (jD i fa) D σ H):vV (aY K fa) (nL i) D σ H:=by
 obtain⟨F,L,S,env,fl,S',R,E,e,q⟩:=lD h;obtain⟨⟨w,S1⟩,e1,e2⟩:=bind_some e;cases e2;exact⟨F,L,S,env,w,_,R,E,e1,λ F1 L1 H1 v g1 R1 d1=>q F1 L1 H1 g1 R1 _ ((E.mono g1).set i d1)⟩
theorem aIU{i:Nat}{x:Str}{e:qw}{fa:FE}{pos':Pos}(hN:X.N.Nodup)(hi:X.N[i]? = qq x)(hx:Loc X.env.scope x)(he:PE X e (aY X.K fa))(hs:swapsWith e (qq (.Name x pos')) pos.line X.env=pure false)(hf:X.fn x=true\/X.env.scope.names.lookup x=qq .local) :
 PS X (.Assign [.Name x pos'] e pos) (dQ X.K (jD i fa)):=PS.weak (aRa hN hi hx he hs hf) aIX
noncomputable def nA:List Nat->List D->aW->Option aW
 | [],[],env=>qq env
 | i::is,d::ds,env=>nA is ds (env.set i (qq (.d d)))
 | _,_,_=>qz
inductive Tg where
 | one (i:Nat) | many (is:List Nat)
noncomputable def Tg.put:Tg->D->aW->Option aW
 | .one i,d,env=>qq (env.set i (qq (.d d)))
 | .many is,.tuple ds,env=>nA is ds env
 | .many is,.list ds,env=>nA is ds env
 | .many _,_,_=>qz
def GA(K:FrG)(t:Tg)(g:TG):Prop:=∀ (d:D) (x:V) (σ:St) (H F:Hp) (L:List qv) (S:aD) (env aJ:aW) (Q:St->Hp->Prop),
 Rel K F L S H->EnvR K F L env σ->Den K F d x->t.put d env=qq aJ->(∀ σ',EnvR K F L aJ σ'->Q σ' H)->g x σ H Q
theorem aSi{K:FrG}(i:Nat):GA K (.one i) (nL i):=λ d x σ H F L S env aJ Q R E dn e q=>by
 cases e;exact q _ (E.set i (w:=.d d) dn)
def wT(K:FrG)(is:List Nat)(g:iV):Prop:=∀ (ds:List D) (xs:List V) (σ:St) (H F:Hp) (L:List qv) (S:aD) (env aJ:aW) (Q:St->Hp->Prop),
 Rel K F L S H->EnvR K F L env σ->DenL K F ds xs->nA is ds env=qq aJ->(∀ σ',EnvR K F L aJ σ'->Q σ' H)->g xs σ H Q
theorem aOf{K:FrG}:wT K [] aDC:=λ ds xs σ H F L S env aJ Q R E dn e q=>by
 cases dn with
 | nil=>cases e;exact⟨rfl,q σ E⟩
 | cons _ _=>cases e
theorem aMM{K:FrG}{i:Nat}{is:List Nat}{g:iV}(h:wT K is g):wT K (i::is) (aC3 (nL i) g):=λ ds xs σ H F L S env aJ Q R E dn e q=>by
 cases dn with
 | nil=>cases e
 | cons d1 dr=>exact⟨_,_,rfl,h _ _ _ H F L S _ aJ Q R (E.set i (w:=.d _) d1) dr e q⟩
theorem aBu:∀ {is:List Nat}{ds:List D}{env aJ:aW},nA is ds env=qq aJ->is.length=ds.length
 | [],[],_,_,_=>rfl
 | _::is,_::ds,_,_,e=>congrArg (· + 1) (aBu (is:=is) (ds:=ds) e)
 | [],_::_,_,_,e=>by cases e
 | _::_,[],_,_,e=>by cases e
theorem aOM{K:FrG}{is:List Nat}{g:iV}(h:wT K is g):GA K (.many is) (aDz K is.length g):=λ d x σ H F L S env aJ Q R E dn e q=>by
 cases d with
 | tuple ds =>
   cases dn with
   | tup sq dl=>exact⟨_,_,rfl,.inl (iL R.sub sq),by rw[<- dl.length];exact(aBu e).symm,h _ _ σ H F L S env aJ Q R E dl e q⟩
 | list ds =>
   cases dn with
   | lst sq dl=>exact⟨_,_,rfl,.inr (R.sub.seq sq),by rw[<- dl.length];exact(aBu e).symm,h _ _ σ H F L S env aJ Q R E dl e q⟩
 | _=>cases e
noncomputable def aAi(t:Tg)(fa:FE):FS:=λ env S=>(fa env S).bind λ p=>match p.1 with
 | .d d=>(t.put d env).bind λ e=>qq (.nx e,p.2)
 | _=>qz
theorem aQi{K:FrG}{t:Tg}{g:TG}{fa:FE}(hg:GA K t g)(D:Ends)(σ:St)(H:Hp)(h:dQ K (aAi t fa) D σ H):vV (aY K fa) g D σ H:=by
 obtain⟨F,L,S,env,fl,S',R,E,e,q⟩:=lD h;obtain⟨⟨w,S1⟩,e1,e2⟩:=bind_some e;dsimp only at e2
 split at e2
 ·obtain⟨e',e3,e4⟩:=bind_some e2;cases e4;exact⟨F,L,S,env,_,_,R,E,e1,λ F1 L1 H1 v g1 R1 d1=>hg _ v σ H1 F1 L1 _ env e' _ R1 (E.mono g1) d1 e3 λ σ' E'=>q F1 L1 H1 g1 R1 σ' E'⟩
 ·cases e2
noncomputable def hJ(S:aD):W->W->W->Option aD
 | .loc n,.d (.int k),.d x=>match S[n]? with
   | some (qq ds)=>(jG ds.length k).bind λ j=>qq (S.set n (qq (ds.set j x)))
   | _=>qz
 | _,_,_=>qz
noncomputable def iO(fo fi fe:FE):FS:=λ env S=>(fe env S).bind λ p=>(fo env p.2).bind λ q=>(fi env q.2).bind λ r=>(hJ r.2 q.1 r.1 p.1).bind λ S'=>qq (.nx env,S')
theorem aLk{S S':aD}{o i x:W}(h:hJ S o i x=qq S'):∃ n k d ds j,o=.loc n/\i=.d (.int k)/\x=.d d/\S[n]? = qq (qq ds)/\jG ds.length k=qq j/\S'=S.set n (qq (ds.set j d)):=by
 unfold hJ at h
 split at h
 ·split at h
  ·rename_i ds e;obtain⟨j,e1,e2⟩:=bind_some h;cases e2;exact⟨_,_,_,ds,j,rfl,rfl,rfl,e,e1,rfl⟩
  ·cases h
 ·cases h
theorem aSD{K:FrG}{fo fi fe:FE}(D:Ends)(σ:St)(H:Hp)(h:dQ K (iO fo fi fe) D σ H):vV (aY K fe) (aJ0 (aY K fo) (aY K fi) aJf) D σ H:=by
 obtain⟨F,L,S,env,fl,S',R,E,e,q⟩:=lD h;obtain⟨⟨we,S1⟩,e1,e⟩:=bind_some e;obtain⟨⟨wo,S2⟩,e2,e⟩:=bind_some e;obtain⟨⟨wi,S3⟩,e3,e⟩:=bind_some e;obtain⟨S4,e4,e⟩:=bind_some e;cases e;obtain⟨n,k,d,ds,j,rfl,rfl,rfl,e5,e6,rfl⟩:=aLk e4;refine⟨F,L,S,env,_,S1,R,E,e1,λ F1 L1 H1 v g1 R1 d1=>⟨F1,L1,S1,env,_,S2,R1,E.mono g1,e2,λ F2 L2 H2 o g2 R2 d2=>⟨F2,L2,S2,env,_,S3,R2,E.mono (g1.trans g2),e3,λ F3 L3 H3 i g3 R3 d3=>?_⟩⟩⟩
 obtain⟨a,ea,rfl⟩:=d2.mono g3;obtain⟨fa,xs,ha,dl⟩:=R3.loc n a ds ea e5;have hi:i=.int k:=by cases (show Den K F3 (.int k) i from d3);rfl
 refine⟨a,xs,k,j,rfl,hi,ha,by rw[<- dl.length];exact e6,?_⟩
 exact q F3 L3 _ ((g1.trans g2).trans g3) (R3.put ea fa (dl.set j (show Den K F3 d v from d1.mono (g2.trans g3)))) σ (E.mono ((g1.trans g2).trans g3))
theorem aT9{o i e:qw}{fo fi fe:FE}{pos':Pos}(ho:PE X o (aY X.K fo))(hi:PE X i (aY X.K fi))(he:PE X e (aY X.K fe))(ha:∀ v,assign (.Subscript o i pos') X.env v=(do
 let ov <- holding [v] (eval o X.env)
 let iv <- holding [v,ov] (eval i X.env)
 standAt pos'
 holding [v,ov,iv] (setItem ov iv v)
 release [v,ov,iv] [])) (hs:swapsWithSole [.Subscript o i pos'] e pos.line X.env=pure false) (hw:ku [.Subscript o i pos'] e X.env=pure qz):PS X (.Assign [.Subscript o i pos'] e pos) (dQ X.K (iO fo fi fe)):=
 PS.weak (aIf he (aPV ho hi aNR ha) hs hw) aSD
noncomputable def eJ(S:aD):W->W->Option (W×aD)
 | .loc n,.d x=>match S[n]? with
   | some (qq ds)=>if ds.length<qk then qq (.d .none,S.set n (qq (ds++[x]))) else qz
   | _=>qz
 | _,_=>qz
theorem aFO{S S':aD}{o x w:W}(h:eJ S o x=qq (w,S')):∃ n d ds,o=.loc n/\x=.d d/\S[n]? = qq (qq ds)/\ds.length<qk/\w=.d .none/\S'=S.set n (qq (ds++[d])):=by
 unfold eJ at h
 split at h
 ·split at h
  ·rename_i ds e
   split at h
   ·rename_i hz;cases h;exact⟨_,_,ds,rfl,rfl,e,hz,rfl,rfl⟩
   ·cases h
  ·cases h
 ·cases h
noncomputable def gQ(fo fe:FE):FE:=f2 fo fe eJ
theorem aUl{K:FrG}{fo fe:FE}(σ:St)(H:Hp)(Q:VK)(h:aY K (gQ fo fe) σ H Q):tBM K "list" aGx (aY K fo) (fW K (dH fe hZ)) σ H Q:=by
 obtain⟨F,L,S,env,w,S',R,E,e,q⟩:=h;obtain⟨⟨wo,S1⟩,e1,e⟩:=bind_some e;obtain⟨⟨we,S2⟩,e2,e⟩:=bind_some e;obtain⟨n,d,ds,rfl,rfl,e5,hz,rfl,rfl⟩:=aFO e;refine⟨F,L,S,env,_,S1,R,E,e1,λ F1 L1 H1 o g1 R1 d1=>?_⟩
 obtain⟨a,ea,rfl⟩:=d1;refine⟨.inl ⟨rfl,?_⟩,F1,L1,S1,env,[.d d],S2,R1,E.mono g1,?_,λ F2 L2 H2 vs g2 R2 d2=>?_⟩
 ·obtain⟨xs,hx⟩:=R1.tr n a ea;exact⟨xs,bW.of hx⟩
 ·unfold dH;rw[e2];rfl
 ·cases d2 with
  | cons dd dr =>
    cases dr;have ea2:=g2.get ea;obtain⟨fa,xs,ha,dl⟩:=R2.loc n a ds ea2 e5;exact⟨a,xs,_,rfl,rfl,ha,by rw[<- dl.length];exact hz,q F2 L2 _ _ (g1.trans g2) (R2.put ea2 fa (dl.append (.cons dd .nil))) Den.non⟩
end
section
variable {X : Cx}{pos : Pos}
structure Wk(K:FrG)(F:Hp)(L:List qv)(J:It)(ds:List D):Prop where
 go:∀ (i:Nat) (H:Hp),cC F H->i<ds.length->J.go i H
 stop:∀ (H:Hp),cC F H->J.stop ds.length H
 yld:∀ (i:Nat) (H F1:Hp) (L1:List qv) (S:aD) (x:V) (H':Hp) (d:D),Gr F L F1 L1->Rel K F1 L1 S H->ds[i]? = qq d->J.yld i H x H'->∃ F2,cC F1 F2/\Rel K F2 L1 S H'/\Den K F2 d x
noncomputable def iC(K:FrG)(f:FL):TI:=λ σ H R=>∃ F L S env ds S',Rel K F L S H/\EnvR K F L env σ/\f env S=qq (ds,S')/\∀ F' L' H' J,Gr F L F' L'->Rel K F' L' S' H'->Wk K F' L' J ds->R J H'
theorem PI.weak{tg iter:qw}{t t':TI}(h:PI X tg iter t)(w:∀ σ H R,t' σ H R->t σ H R):PI X tg iter t':=λ aB s σ H R I q=>h aB s σ H R I (w σ H R q)
theorem aOn{K:FrG}{F:Hp}{L:List qv}{a:qv}{xs:List V}{ds:List D}(sq:bW K F a xs)(dl:DenL K F ds xs):Wk K F L (Itl K a) ds where
 go:=λ i H s hi=>⟨xs,xs[i]'(by rw[<- dl.length];exact hi),s.seq sq,by simp[dl.length▸hi]⟩
 stop:=λ H s=>⟨xs,s.seq sq,yFx dl.length.symm⟩
 yld:=λ i H F1 L1 S x H' d g R e y=>by
  obtain⟨e1,y⟩:=y;subst e1;have h:=y xs ((g.f.trans R.sub).seq sq);obtain⟨x',e2,dx⟩:=dl.get e;rw[h] at e2;cases e2;exact⟨F1,cC.refl _,R,dx.mono g.f⟩
theorem aSa{K:FrG}{F:Hp}{L:List qv}{a:qv}{xs:List V}{ds:List D}(sq:bZ K F a xs)(dl:DenL K F ds xs):Wk K F L (Itt K a) ds where
 go:=λ i H s hi=>⟨xs,xs[i]'(by rw[<- dl.length];exact hi),iL s sq,by simp[dl.length▸hi]⟩
 stop:=λ H s=>⟨xs,iL s sq,yFx dl.length.symm⟩
 yld:=λ i H F1 L1 S x H' d g R e y=>by
  obtain⟨e1,y⟩:=y;subst e1;have h:=y xs (iL (g.f.trans R.sub) sq);obtain⟨x',e2,dx⟩:=dl.get e;rw[h] at e2;cases e2;exact⟨F1,cC.refl _,R,dx.mono g.f⟩
noncomputable def kT(lo:Int):Nat->List D
 | 0=>[]
 | n+1=>.int lo::kT (lo+1) n
theorem aBj(n:Nat):∀ lo:Int,(kT lo n).length=n:=by
 induction n with
 | zero=>intro lo;rfl
 | succ n ih=>intro lo;simp[kT,ih]
theorem aF7:∀ (n:Nat) (lo:Int) (i:Nat),i<n->(kT lo n)[i]? = qq (.int (lo+i))
 | 0,_,_,h=>by omega
 | n+1,lo,0,_=>by simp[kT]
 | n+1,lo,i+1,h=>by
   rw[kT,yDv,aF7 n (lo+1) i (by omega)]
   congr 2
   push_cast
   omega
theorem aNO{K:FrG}{F:Hp}{L:List qv}(lo:Int)(n:Nat):Wk K F L (Itr lo n) (kT lo n) where
 go:=λ i H s hi=>by rw[aBj] at hi;exact hi
 stop:=λ H s=>by rw[aBj];exact yAc _
 yld:=λ i H F1 L1 S x H' d g R e y=>by
  obtain⟨rfl,rfl⟩:=y;have hi:i<n:=by
   have:=(gIm e).1;rw[aBj] at this;exact this
  rw[aF7 n lo i hi] at e;cases e;exact⟨F1,cC.refl _,R,.int _⟩
noncomputable def aJK(fa:FE):FL:=λ env S=>(fa env S).bind λ p=>match p.1 with
 | .d (.list ds)=>qq (ds,p.2)
 | _=>qz
noncomputable def aJv(fa:FE):FL:=λ env S=>(fa env S).bind λ p=>match p.1 with
 | .d (.tuple ds)=>qq (ds,p.2)
 | _=>qz
theorem aUD{tg a:qw}{fa:FE}(ha:PE X a (aY X.K fa)):PI X tg a (iC X.K (aJK fa)):=PI.weak (aOV ha) λ σ H Rr aQ=>by
 obtain⟨F,L,S,env,ds,S',R,E,e,q⟩:=aQ;obtain⟨⟨w,S1⟩,e1,e2⟩:=bind_some e;dsimp only at e2
 split at e2
 ·cases e2;refine⟨F,L,S,env,_,_,R,E,e1,λ F1 L1 H1 v g1 R1 d1=>?_⟩
  cases (show Den X.K F1 (.list ds) v from d1) with
  | lst sq dl=>exact⟨_,rfl,⟨_,R1.sub.seq sq⟩,q F1 L1 H1 _ g1 R1 (aOn sq dl)⟩
 ·cases e2
theorem aTG{tg a:qw}{fa:FE}(ha:PE X a (aY X.K fa)):PI X tg a (iC X.K (aJv fa)):=PI.weak (aR4 ha) λ σ H Rr aQ=>by
 obtain⟨F,L,S,env,ds,S',R,E,e,q⟩:=aQ;obtain⟨⟨w,S1⟩,e1,e2⟩:=bind_some e;dsimp only at e2
 split at e2
 ·cases e2;refine⟨F,L,S,env,_,_,R,E,e1,λ F1 L1 H1 v g1 R1 d1=>?_⟩
  cases (show Den X.K F1 (.tuple ds) v from d1) with
  | tup sq dl=>exact⟨_,rfl,⟨_,iL R1.sub sq⟩,q F1 L1 H1 _ g1 R1 (aSa sq dl)⟩
 ·cases e2
noncomputable def vB(fa:FE):FL:=λ env S=>(fa env S).bind λ p=>match p.1 with
 | .d (.int j)=>if -(2^62)<=j/\j<2^62 then qq (kT 0 j.toNat,p.2) else qz
 | _=>qz
theorem aQL{K:FrG}{fa:FE}(σ:St)(H:Hp)(Rr:It->Hp->Prop)(h:iC K (vB fa) σ H Rr):aIH (fW K (dH fa hZ)) σ H Rr:=by
 obtain⟨F,L,S,env,ds,S',R,E,e,q⟩:=h;obtain⟨⟨w,S1⟩,e1,e2⟩:=bind_some e;dsimp only at e2
 split at e2
 ·split at e2
  ·rename_i j c;cases e2;refine⟨F,L,S,env,[.d (.int j)],_,R,E,by unfold dH;rw[e1];rfl,λ F1 L1 H1 vs g1 R1 d1=>?_⟩
   cases d1 with
   | cons dd dr =>
     cases dr;cases (show Den K F1 (.int j) _ from dd)
     exact⟨j,rfl,c.1,c.2,q F1 L1 H1 _ g1 R1 (aNO 0 j.toNat)⟩
  ·cases e2
 ·cases e2
noncomputable def gO(t:Tg)(fb:FS):List D->FS
 | []=>λ env S=>qq (.nx env,S)
 | d::ds=>λ env S=>(t.put d env).bind λ e1=>(fb e1 S).bind λ q=>(match q.1 with
    | .nx e=>gO t fb ds e q.2
    | .ct e=>gO t fb ds e q.2
    | .bk e=>qq (.nx e,q.2)
    | .rt w=>qq (.rt w,q.2))
noncomputable def dX(t:Tg)(fi:FL)(fb:FS):FS:=λ env S=>(fi env S).bind λ p=>gO t fb p.1 env p.2
theorem aUE{tg iter:qw}{b:List jz}{t:Tg}{g:TG}{fi:FL}{fb:FS}(hp:PassesOwn (model X.prog X.w) X.A X.env X.xe)(hc:X.calm=true)(hi:PI X tg iter (iC X.K fi))(hg:PG X tg g)(ga:GA X.K t g)(hb:dZ X b (dQ X.K fb))
 (hs:∀ x,jj iter X.env x=pure x):PS X (.For tg iter b [] pos) (dQ X.K (dX t fi fb)):=PS.weak (aP9 hp hc hi hg hb hs) λ D σ H h=>by
 obtain⟨F,L,S,env,fl,S',R,E,e,q⟩:=lD h;obtain⟨⟨ds,S1⟩,e1,e2⟩:=bind_some e;refine⟨F,L,S,env,ds,S1,R,E,e1,λ F0 L0 H0 J g0 R0 wk=>?_⟩
 dsimp only at e2;refine⟨λ i m σ1 H1=>i+m=ds.length/\∃ F1 L1 S1 env1,Gr F0 L0 F1 L1/\Rel X.K F1 L1 S1 H1/\EnvR X.K F1 L1 env1 σ1/\gO t fb (ds.drop i) env1 S1=qq (fl,S'),
  ⟨ds.length,yDs _,F0,L0,S1,env,Gr.refl,R0,E.mono g0,by rw[yFe];exact e2⟩,?_⟩
 rintro i m σ1 H1 ⟨him,F1,L1,S1',env1,g1,R1,E1,e3⟩;cases m with
 | zero =>
   have hi:i=ds.length:=by omega
   subst hi;rw[yFj] at e3;cases e3;exact .inl ⟨wk.stop H1 (g1.f.trans R1.sub),q F1 L1 H1 (g0.trans g1) R1 σ1 E1⟩
 | succ m =>
   have hi:i<ds.length:=by omega
   refine .inr ⟨wk.go i H1 (g1.f.trans R1.sub) hi,λ σ3 H3=>∃ F3 L3 S3 env3,Gr F0 L0 F3 L3/\Rel X.K F3 L3 S3 H3/\EnvR X.K F3 L3 env3 σ3/\gO t fb (ds.drop (i+1)) env3 S3=qq (fl,S'),
    λ σ3 H3 h3=>⟨m,yGl m,by omega,h3⟩,λ x H2 y=>?_⟩
   rw[yDj hi] at e3;obtain⟨env2,e4,e5⟩:=bind_some e3;obtain⟨⟨f6,S6⟩,e6,e7⟩:=bind_some e5;obtain⟨F2,s2,R2,d2⟩:=wk.yld i H1 F1 L1 S1' x H2 ds[i] g1 R1 (yAa hi) y;have g2:Gr F1 L1 F2 L1:=⟨s2,[],by simp⟩
   refine ga ds[i] x σ1 H2 F2 L1 S1' env1 env2 _ R2 (E1.mono g2) d2 e4 λ σ2 E2=>?_
   refine lJ R2 E2 e6 λ F3 L3 H3 g3 R3=>?_
   have g03:=(g1.trans g2).trans g3;cases f6 with
   | nx e'=>exact λ σ3 E3=>⟨F3,L3,S6,e',g03,R3,E3,e7⟩
   | ct e'=>exact λ σ3 E3=>⟨F3,L3,S6,e',g03,R3,E3,e7⟩
   | bk e'=>cases e7;exact λ σ3 E3=>q F3 L3 H3 (g0.trans g03) R3 σ3 E3
   | rt w=>cases e7;exact λ v d=>q F3 L3 H3 (g0.trans g03) R3 v d
noncomputable def kQ(k:Nat)(S:aD):W->Option (W×aD)
 | .d x=>qq (.d x,S.take k)
 | .loc m=>if m<k then qq (.loc m,S.take k) else match S[m]? with
   | some (qq ds)=>qq (.d (.list ds),S.take k)
   | _=>qz
noncomputable def eX(fb:FS)(n:Nat)(ws:List W)(S:aD):Option (W×aD):=(fb (ws.map qq++yAb (n-ws.length) qz) S).bind λ p=>match p.1 with
 | .rt w=>kQ S.length p.2 w
 | .nx _=>qq (.d .none,p.2.take S.length)
 | _=>qz
theorem aLC{K:FrG}{F:Hp}{L:List qv}{N:List Str}:∀ {ws:List W}{vs:List V},WDenL K F L ws vs->EnvR K F L (ws.map qq++yAb (N.length-ws.length) qz) (L2.start N vs):=by
 intro ws vs h;unfold L2.start;rw[h.length];generalize N.length-vs.length=k;refine⟨by simp[h.length],?_⟩
 induction h with
 | nil =>
   intro i w e;have:=xAk e;simp at this
 | cons hd tl ih =>
   intro i w e;cases i with
   | zero=>simp at e;subst e;exact⟨_,rfl,hd⟩
   | succ i =>
     obtain⟨v,e1,d⟩:=ih i w (by simpa using e)
     exact⟨v,by simpa using e1,d⟩
theorem aH7{K:FrG}{F F1 H1:Hp}{L L1:List qv}{S S1:aD}{w w':W}{S':aD}{v:V}{Q:VK}(R:L.length=S.length)(g:Gr F L F1 L1)(R1:Rel K F1 L1 S1 H1)(d:eU K F1 L1 w v)(e:kQ S.length S1 w=qq (w',S'))(q:rO K F L S' w' Q):Q v H1:=by
 obtain⟨sf,M,rfl⟩:=g;cases w with
 | d x =>
   cases e;have R2:=R1.cut;rw[R] at R2;exact q F1 L H1 v ⟨sf,[],by simp⟩ R2 d
 | loc m =>
   have e':(if m<S.length then qq (W.loc m,S1.take S.length) else match S1[m]? with | some (qq ds)=>qq (W.d (.list ds),S1.take S.length) | _=>qz)=qq (w',S'):=e
   split at e'
   ·rename_i hm;cases e';have R2:=R1.cut;rw[R] at R2;obtain⟨a,ea,rfl⟩:=d;rw[xAm (by rw[R];exact hm)] at ea
    exact q F1 L H1 _ ⟨sf,[],by simp⟩ R2 ⟨a,ea,rfl⟩
   ·rename_i hm
    split at e'
    ·rename_i ds es;cases e';obtain⟨a,ea,rfl⟩:=d;obtain⟨F2,g2,R2,d2⟩:=R1.freeze ea es;have R3:=R2.cut;rw[R,List.take_set,yEp (by rw[yBz];omega)] at R3
     exact q F2 L H1 _ ⟨sf.trans g2.f,[],by simp⟩ R3 d2
    ·cases e'
theorem aPX{K:FrG}{fb:FS}{N:List Str}{np:Nat}{vs:List V}{H:Hp}{Q:VK}{E:XK}(h:rZ K np (eX fb N.length) vs H Q E):dQ K fb {nx:=λ _ H'=>Q .non H',rt:=Q } (L2.start N vs) H:=by
 obtain⟨F,L,S,ws,w,S',hn,R,dl,e,q⟩:=h;obtain⟨⟨fl,S1⟩,e1,e2⟩:=bind_some e;refine lJ R (aLC dl) e1 λ F1 L1 H1 g1 R1=>?_
 cases fl with
 | nx aJ =>
   cases e2;exact λ σ' E'=>aH7 (w:=.d .none) R.len g1 R1 Den.non rfl q
 | rt w'=>exact λ v d=>aH7 R.len g1 R1 d e2 q
 | bk aJ=>cases e2
 | ct aJ=>cases e2
end
theorem aEp{α β:Type}{f:α->β->Sem (ForInStep β)}{g:α->β->β}:∀ (l:List α) (c:β),(∀ x∈l,∀ c,f x c=pure (ForInStep.yield (g x c)))->forIn l c f=pure (l.foldl (λ c x=>g x c) c)
 | [],c,_=>rfl
 | x::l,c,h=>by
   rw[yDo,h x xAc c,pure_bind];exact aEp l (g x c) λ y hy=>h y (xAf _ hy)
noncomputable def jM(env:Env)(x:Str×vv)(cs:List (Str×qv)):List (Str×qv):=if (x.2==NameKind.free)=true then (x.1,(env.cells.lookup x.1).getD 0)::cs else cs
noncomputable def vJ(scope:zk)(env:Env):List (Str×qv):=scope.names.foldl (λ c x=>jM env x c) []
theorem aLj{scope:zk}{env:Env}(h:∀ x∈scope.names,x.2=.free->∃ c,env.cells.lookup x.1=qq c):closureFor scope env=pure (vJ scope env):=by
 unfold closureFor vJ;dsimp only;rw[aEp (g:=jM env) scope.names [] (λ x hx c=>?_)]
 ·rfl
 ·obtain⟨n,k⟩:=x;unfold jM;dsimp only
  by_cases hk:k=.free
  ·obtain⟨a,ha⟩:=h (n,k) hx hk;rw[if_pos (by simp[hk]),if_pos (by simp[hk])]
   have:cellOf env n=pure a:=by unfold cellOf;rw[ha]
   rw[this,pure_bind,ha];rfl
  ·rw[if_neg (by simp[hk]),if_neg (by simp[hk])]
theorem aFS{env:Env}:∀ (l:List (Str×vv)) (aF:List (Str×qv)),(∀ x∈l,x.2=.free->∃ c,env.cells.lookup x.1=qq c)->(∀ x c,aF.lookup x=qq c->env.cells.lookup x=qq c) ->
 ∀ x c,(l.foldl (λ c x=>jM env x c) aF).lookup x=qq c->env.cells.lookup x=qq c
 | [],aF,_,ha,x,c,e=>ha x c e
 | y::l,aF,h,ha,x,c,e=>by
   refine aFS l (jM env y aF) (λ z hz=>h z (xAf _ hz)) (λ z d ez=>?_) x c e
   unfold jM at ez
   split at ez
   ·rename_i hk;obtain⟨a,hy⟩:=h y xAc (by simpa using hk)
    rw[yCa] at ez
    split at ez
    ·rename_i hz;cases ez;have:z=y.1:=by simpa using hz
     rw[this,hy];rfl
    ·exact ha z d ez
   ·exact ha z d ez
theorem aCF{env:Env}:∀ (l:List (Str×vv)) (aF:List (Str×qv)) (x:Str),((∃ k,(x,k)∈l/\k=.free)\/∃ c,aF.lookup x=qq c)->∃ c,(l.foldl (λ c x=>jM env x c) aF).lookup x=qq c
 | [],aF,x,h=>by
   rcases h with ⟨k,hk,_⟩ | h
   ·simp at hk
   ·exact h
 | y::l,aF,x,h=>by
   refine aCF l (jM env y aF) x ?_;have step:(∃ c,aF.lookup x=qq c)->∃ c,(jM env y aF).lookup x=qq c:=λ aQ=>by
    obtain⟨c,e⟩:=aQ;unfold jM
    split
    ·rw[yCa]
     split
     ·exact⟨_,rfl⟩
     ·exact⟨c,e⟩
    ·exact⟨c,e⟩
   rcases h with ⟨k,hk,e⟩ | h
   ·rcases List.mem_cons.mp hk with z | z
    ·right
     subst z e;unfold jM;rw[if_pos (by simp)]
     exact⟨(env.cells.lookup x).getD 0,by rw[yCa];simp⟩
    ·exact .inl ⟨k,z,e⟩
   ·exact .inr (step h)
theorem aEy{x:Str}(h:Str->vv->vv):∀ l:List (Str×vv),(l.map λ p=>(p.1,h p.1 p.2)).lookup x=(l.lookup x).map (h x)
 | []=>rfl
 | (n,k)::r=>by
   have ih:=aEy (x:=x) h r;rw[yBg,yCa,yCa];cases hx:x==n with
   | true =>
     have e:x=n:=by simpa using hx
     subst e;rfl
   | false=>exact ih
theorem aKx{env:Env}{x:Str}(names:List (Str×vv)) :
 (names.map λ(n,k)=>if (k==NameKind.free&&env.scope.kind==.function&&env.kindOf n==qq .cell) then (n,NameKind.cell) else (n,k)).lookup x =
   (names.lookup x).map λ k=>if (k==NameKind.free&&env.scope.kind==.function&&env.kindOf x==qq .cell) then NameKind.cell else k:=by
 have e:(λ(p:Str×vv)=>match p with | (n,k)=>if (k==NameKind.free&&env.scope.kind==.function&&env.kindOf n==qq .cell)=true then (n,NameKind.cell) else (n,k)) =
  λ p=>(p.1,if (p.2==NameKind.free&&env.scope.kind==.function&&env.kindOf p.1==qq .cell)=true then NameKind.cell else p.2):=funext λ aQ=>by
  obtain⟨n,k⟩:=aQ;dsimp only
  split<;>rfl
 rw[e];exact aEy (λ n k=>if (k==NameKind.free&&env.scope.kind==.function&&env.kindOf n==qq .cell)=true then NameKind.cell else k) names
section
variable {prog : zq}{w : zw}{A : zy}{R : Result -> qj -> Prop}{s : qj}
theorem aKU{elt target iter:qw}{ifs:List qw}{scope:zk}{pos:Pos}{it aF:qx}{env:Env}(I:Nat->qj->Prop)
 (turn:∀ n s,I n s->qy (model prog w) A (jk it) (λ r s₁=>match r with
   | none=>R (.ok .next) s₁
   | some v=>qy (model prog w) A (yk target it v) (λ _ s₀=>qy (model prog w) A (assign target env v) (λ _ s₂ =>
      qy (model prog w) A (forIn ifs true λ c r=>if r=true then do let ok <- isTrue c env (eval c env);pure (ForInStep.yield ok) else pure (ForInStep.yield r)) (λ ok s₃ =>
       if ok=true then qy (model prog w) A (eval elt env) (λ x s₄ =>
        qy (model prog w) A (call (.builtin "list.append") [aF,x]) (λ _ s₅=>∃ m,m<n/\I m s₅) (λ _ _=>False) s₄) (λ _ _=>False) s₃
       else ∃ m,m<n/\I m s₃) (λ _ _=>False) s₂) (λ _ _=>False) s₀) (λ _ _=>False) s₁) (λ _ _=>False) s)
 (n:Nat) (h:I n s):vo (model prog w) A (.compLoop (.ListComp elt [⟨target,iter,ifs,0⟩] scope pos) 0 it aF env) R s:=by
 have up:∀ {α:Type}{t:Sem α}{Q Q':α->qj->Prop}{E:qx->qj->Prop}{s:qj},qy (model prog w) A t Q (λ _ _=>False) s->(∀ a s,Q a s->Q' a s)->qy (model prog w) A t Q' E s:=
  λ h hq=>wpAny_mono h hq λ _ _ f=>f.elim
 refine codeAny_loop rfl I (λ n s hI=>?_) n h
 show qy _ A ((compTurn (.ListComp elt [⟨target,iter,ifs,0⟩] scope pos) 0 it aF env).onRaise (λ x=>do noteFrame x env;theTreesLotGoes x)) _ _ s
 refine wpAny_noted ?_;rw[compTurn_list];refine wB (ko (wB (up (turn n s hI) λ r s₁ h₁=>?_)))
 cases r with
 | none=>exact wP h₁
 | some v =>
   refine wB (up h₁ λ _ s₀ h₀=>?_)
   refine wB (up h₀ λ _ s₂ h₂=>wB (up h₂ λ ok s₃ h₃=>?_))
   cases ok with
   | false=>exact wP ⟨rfl,h₃⟩
   | true =>
     exact wB (wB (up h₃ λ x s₄ h₄=>wB (up h₄ λ _ s₅ h₅=>wP (wP ⟨rfl,h₅⟩))))
end
noncomputable def kA(X:Cx)(aB:List (qv×Obj))(fp:List qv)(scope:zk)(C:qv)(s₀:qj)(H₀:Hp):Cx:=
 {X with s₀:=s₀,H₀:=H₀,env:=compEnvC scope (vJ scope X.env) C X.env,outer:=X.stack,stack:=X.stack,ex:=fp,fn:=λ _=>false,pn:=X.pn++aB,xe:=λ _ _=>False }
def jP(X:Cx)(scope:zk)(Y:Cx):Prop:=∃ aB fp C s₀ H₀,Y=kA X aB fp scope C s₀ H₀
structure ScOk(scope osc:zk):Prop where
 kind:scope.kind=.function
 nocell:∀ x∈scope.names,x.2≠.cell
 free:∀ x∈scope.names,x.2=.free->osc.names.lookup x.1=qq .cell\/osc.names.lookup x.1=qq .free
 loc:∀ x∈scope.names,x.2=.local->scope.names.lookup x.1=qq .local
theorem mem_of_lookup{α:Type}{x:Str}{k:α}:∀ {l:List (Str×α)},l.lookup x=qq k->(x,k)∈l
 | [],h=>by simp at h
 | (n,j)::r,h=>by
   rw[yCa] at h
   split at h
   ·rename_i hx;cases h;have:x=n:=by simpa using hx
    subst this;exact xAc
   ·exact xAf _ (mem_of_lookup h)
section
variable {X : Cx}{aB : List (qv×Obj)}{σ : L2.St}{H : Hp}{s : qj}{scope : zk}{fp : List qv}
theorem aFH{C:qv}{s₀:qj}{H₀:Hp}{x:Str}:(kA X aB fp scope C s₀ H₀).env.kindOf x=(scope.names.lookup x).map λ k=>if (k==NameKind.free&&X.env.scope.kind==.function&&X.env.kindOf x==qq .cell) then NameKind.cell else k:=
 aKx scope.names
theorem aFD(ok:ScOk scope X.env.scope){C:qv}{s₀:qj}{H₀:Hp}{x:Str}(h:(kA X aB fp scope C s₀ H₀).env.kindOf x=qq .cell\/(kA X aB fp scope C s₀ H₀).env.kindOf x=qq .free):scope.names.lookup x=qq .free:=by
 rw[aFH] at h;cases e:scope.names.lookup x with
 | none=>rw[e] at h;simp at h
 | some k =>
   rw[e] at h;have nc:=ok.nocell (x,k) (mem_of_lookup e);cases k with
   | free=>rfl
   | cell=>exact absurd rfl nc
   | «local» => simp at h
   | globalExplicit=>simp at h
   | globalImplicit=>simp at h
theorem aG9(I:Inv X aB σ H s)(hfp:∀ b∈fp,gI X aB H b):∀ b∈fp,b ∉ iE X.stack:=λ b hb z=>by
 rcases List.mem_cons.mp (I.stkSub b z) with q | q
 ·exact(hfp b hb).2.1 q
 ·exact(hfp b hb).2.2.1 q
theorem aFg(I:Inv X aB σ H s)(ok:ScOk scope X.env.scope):∀ x∈scope.names,x.2=.free->∃ c,X.env.cells.lookup x.1=qq c:=λ x hx e=>by
 rcases ok.free x hx e with q | q
 ·exact I.ok.has x.1 (.inl q)
 ·exact I.ok.has x.1 (.inr q)
theorem oW(I:Inv X aB σ H s)(ok:ScOk scope X.env.scope){x:Str}{c:qv}(h:(vJ scope X.env).lookup x=qq c):X.env.cells.lookup x=qq c:=
 aFS scope.names [] (aFg I ok) (λ x c e=>by simp at e) x c h
theorem aPC(I:Inv X aB σ H s)(ok:ScOk scope X.env.scope)(hfp:∀ b∈fp,gI X aB H b)(hth:∀ b∈fp,b<s.heap.objs.size){C:qv}(hC:s.heap.objs.size<=C):(kA X aB fp scope C s H).Ok where
 mod:=I.ok.mod
 kind:=ok.kind
 glob:=I.ok.glob
 blt:=I.ok.blt
 above:=hC
 inj:=λ x y c h1 h2=>I.ok.inj x y c (oW I ok h1) (oW I ok h2)
 has:=λ x h=>aCF scope.names [] x (.inl ⟨.free,mem_of_lookup (aFD ok h),rfl⟩)
 cab:=λ x c h _=>nomatch h
 hd:=I.ok.hd
 frames:=I.ok.frames
 stk:=.inl rfl
 exf:=λ b hb=>⟨λ z=>absurd (xAb (hth b hb) hC) (by have z':b=C:=z;rw[z'];exact yCc _),λ x c h=>(hfp b hb).2.2.2.2.1 x c (oW I ok h)⟩
 bs:=I.bs
 bsz:=xAh I.ok.bsz I.sz
 noex:=λ b o e hb=>by
  rcases (hfp b hb).2.2.2.1 with z | z
  ·exact I.ok.noex b o e z
  ·exact absurd (xAb (xAa e) (xAh I.ok.bsz z)) (yCc _)
 exfs:=λ b hb=>aG9 I hfp b hb
 funs:=I.stack
 frf:=I.stkFree
end
noncomputable def clr{α:Type}(is:List Nat)(l:List (Option α)):List (Option α):=is.foldl (λ e i=>e.set i qz) l
theorem xY{α:Type}:∀ (is:List Nat) (l:List (Option α)),(clr is l).length=l.length
 | [],_=>rfl
 | i::is,l=>by
   show(clr is (l.set i qz)).length=_;rw[xY is,yBc]
theorem zC{α:Type}:∀ (is:List Nat) (l:List (Option α)) (j:Nat) (v:α),(clr is l)[j]? = qq (qq v)->l[j]? = qq (qq v)/\j ∉ is
 | [],_,_,_,h=>⟨h,by simp⟩
 | i::is,l,j,v,h=>by
   obtain⟨h1,h2⟩:=zC is (l.set i qz) j v h
   by_cases hj:i=j
   ·subst hj;rcases Nat.lt_or_ge i l.length with q | q
    ·rw[yAx q] at h1;cases h1
    ·rw[yDf (by rw[yBc];exact q)] at h1;cases h1
   ·rw[yAy hj] at h1;exact⟨h1,λ z=>(List.mem_cons.mp z).elim (λ e=>hj e.symm) h2⟩
theorem aGs{α:Type}:∀ (is:List Nat) (l:List (Option α)) (j:Nat),j ∉ is->(clr is l)[j]? = l[j]?
 | [],_,_,_=>rfl
 | i::is,l,j,h=>by
   show(clr is (l.set i qz))[j]? = _;rw[aGs is _ j (λ z=>h (xAf _ z)),yAy (λ z=>h (by rw[z];exact xAc))]
noncomputable def Tg.slots:Tg->List Nat
 | .one i=>[i]
 | .many is=>is
theorem EnvR.clr{K:FrG}{F:Hp}{L:List qv}{env:aW}{σ:St}(h:EnvR K F L env σ)(is:List Nat):EnvR K F L (EV.clr is env) (EV.clr is σ):=
 ⟨by rw[xY,xY];exact h.len,λ j w e=>by
  obtain⟨e1,hj⟩:=zC is env j w e;obtain⟨v,e2,d⟩:=h.get j w e1;exact⟨v,by rw[aGs is σ j hj];exact e2,d⟩⟩
theorem aBm:∀ {is:List Nat}{ds:List D}{env aJ:aW}{j:Nat},nA is ds env=qq aJ->j ∉ is->aJ[j]? = env[j]?
 | [],[],_,_,_,e,_=>by cases e;rfl
 | i::is,d::ds,env,aJ,j,e,h=>by
   rw[aBm (is:=is) (ds:=ds) e (λ z=>h (xAf _ z)),yAy (λ z=>h (by rw[z];exact xAc))]
 | [],_::_,_,_,_,e,_=>by cases e
 | _::_,[],_,_,_,e,_=>by cases e
theorem Tg.put_keep{t:Tg}{d:D}{env aJ:aW}{j:Nat}(e:t.put d env=qq aJ)(h:j ∉ t.slots):aJ[j]? = env[j]?:=by
 cases t with
 | one i=>cases e;exact yAy (λ z=>h (by rw[z];exact xAc))
 | many is =>
   cases d with
   | tuple ds=>exact aBm e h
   | list ds=>exact aBm e h
   | _=>cases e
theorem aA8:∀ {is:List Nat}{ds:List D}{env aJ:aW},nA is ds env=qq aJ->aJ.length=env.length
 | [],[],_,_,e=>by cases e;rfl
 | i::is,d::ds,env,aJ,e=>by rw[aA8 (is:=is) (ds:=ds) e,yBc]
 | [],_::_,_,_,e=>by cases e
 | _::_,[],_,_,e=>by cases e
theorem Tg.put_length{t:Tg}{d:D}{env aJ:aW}(e:t.put d env=qq aJ):aJ.length=env.length:=by
 cases t with
 | one i=>cases e;exact yBc
 | many is =>
   cases d with
   | tuple ds=>exact aA8 e
   | list ds=>exact aA8 e
   | _=>cases e
theorem EnvR.back{K:FrG}{F:Hp}{L:List qv}{env aJ:aW}{σ:St}{t:Tg}{d:D}(e:t.put d (EV.clr t.slots env)=qq aJ)(h:EnvR K F L aJ σ):EnvR K F L (EV.clr t.slots env) σ:=
 ⟨by rw[<- h.len,Tg.put_length e],λ j w q=>by
  obtain⟨_,hj⟩:=zC t.slots env j w q;exact h.get j w (by rw[Tg.put_keep e hj];exact q)⟩
noncomputable def hV(t:Tg)(fc:FT)(fe:FE)(n:Nat)(env:aW):List D->aD->Option aD
 | [],S=>qq S
 | d::ds,S=>(t.put d env).bind λ e1=>(fc e1 S).bind λ c=>if c.1=true then (fe e1 c.2).bind λ p=>(eJ p.2 (.loc n) p.1).bind λ r=>hV t fc fe n env ds r.2 else hV t fc fe n env ds c.2
noncomputable def hG(t:Tg)(fi:FL)(fc:FT)(fe:FE):FL:=λ env S=>(fi env S).bind λ p=>(hV t fc fe p.2.length (clr t.slots env) p.1 (p.2++[qq []])).bind λ S'=>match S'[p.2.length]? with
 | some (qq zs)=>qq (zs,S'.take p.2.length)
 | _=>qz
def lE(Y:Cx)(ifs:List qw)(fc:FT):Prop:=∀ (aB:List (qv×Obj)) (s:qj) (σ:St) (H:Hp) (Q:Bool->Hp->Prop),Inv Y aB σ H s->fM Y.K fc σ H Q ->
 qy (model Y.prog Y.w) Y.A (forIn ifs true λ c r=>if r=true then do let ok <- isTrue c Y.env (eval c Y.env);pure (ForInStep.yield ok) else pure (ForInStep.yield r)) (TP Y aB σ Q) Y.xe s
noncomputable def nZ:FT:=λ _ S=>qq (true,S)
theorem aFx{Y:Cx}:lE Y [] nZ:=λ aB s σ H Q I aQ=>by
 obtain⟨F,L,S,env,b,S',R,E,e,q⟩:=aQ;cases e;exact wpAny_tests_nil ⟨H,I,q F L H Gr.refl R⟩
theorem aFw{Y:Cx}{c:qw}{fc:FT}(h:PT Y c (fM Y.K fc)):lE Y [c] fc:=λ aB s σ H Q I q=>wpAny_tests_one (h aB s σ H Q I q)
def aC1(N:List Str)(scope:zk)(is:List Nat):Prop:=∀ (i:Nat) (x:Str),N[i]? = qq x->scope.names.lookup x=qq .local->i∈is
section
variable {X : Cx}{scope : zk}{tg iter elt : qw}{ifs : List qw}{pos : Pos}{t : Tg}{g : TG}{fi : FL}{fc : FT}{fe : FE}
theorem aFA(use:Option (qx->Sem Unit))(hc:X.calm=true)(ok:ScOk scope X.env.scope)(own:aC1 X.N scope t.slots)(hi:PI X tg iter (iC X.K fi))(hg:∀ Y,jP X scope Y->PG Y tg g)(ga:GA X.K t g)
 (ht:∀ Y,jP X scope Y->lE Y ifs fc) (he:∀ Y,jP X scope Y->PE Y elt (aY X.K fe)) (hs:∀ x,jj iter X.env x=pure x)
 {aB:List (qv×Obj)}{s:qj}{σ:St}{H:Hp}{Q:VK}{QQ:qx->qj->Prop}{pp:Pos} (I:Inv X aB σ H s) (h:iU X.K (hG t fi fc fe) σ H Q)
 (hend:∀ (p C:qv) (s1:qj) (H':Hp),gI X aB H' C->(∃ m,s1.heap.Ns C m)->(∀ h',yCu C s1.heap h'->Inv X aB σ H' {s1 with heap:=h' })->Q (.ref p) H' ->
   compPost (model X.prog X.w) X.A X.xe use QQ (.ref p) C (.ok .next) s1) :
 qy (model X.prog X.w) X.A (comprehension (.ListComp elt [⟨tg,iter,ifs,0⟩] scope pos) scope X.env pp (newList []) false (eval iter X.env) use) QQ X.xe s:=by
 obtain⟨F,L,S,env,zs,S',R,E,e,q⟩:=h;obtain⟨⟨ds,S1⟩,e1,e⟩:=bind_some e;obtain⟨S2,e2,e⟩:=bind_some e;dsimp only at e e2;have hz:S2[S1.length]? = qq (qq zs)/\S'=S2.take S1.length:=by
  split at e
  ·rename_i z ez;cases e;exact⟨ez,rfl⟩
  ·cases e
 obtain⟨hz,rfl⟩:=hz;refine wpAny_comprehension_free (use:=use) rfl hs (aLj (aFg I ok)) ok.kind ok.loc ?_;refine bD (hi aB s σ H (λ J H'=>∃ F' L',Gr F L F' L'/\Rel X.K F' L' S1 H'/\Wk X.K F' L' J ds) I ⟨F,L,S,env,ds,S1,R,E,e1,λ F' L' H' J g R' wk=>⟨F',L',g,R',wk⟩⟩) λ v s1 h1=>bD h1 λ itv s2 h2=>?_
 obtain⟨it,fp,tn,J,H2,rfl,I2,T,st2,f2,F1,L1,g1,R1,wk⟩:=h2;refine xw (wpAny_newFunctionEnv ok.nocell (by intro y hy;simp at hy) (λ h₁ hns₁ hsb₁=>?_) ok.kind)
 dsimp only at hns₁ hsb₁ ⊢;have I3:Inv X aB σ (bE H2 s2.heap.objs.size (.lst [])) {s2 with heap:=s2.heap.push {cls:=.type "list",dict:=qz,data:=.seq ([]:List qx).toArray } }:=I2.lnew (aG:=[]) (t':=s2.toks) .nil (yFb _)
 generalize hs3:({s2 with heap:=s2.heap.push {cls:=.type "list",dict:=qz,data:=.seq ([]:List qx).toArray } }:qj)=s3 at I3
 have hh3:s2.heap.push {cls:=.type "list",dict:=qz,data:=.seq ([]:List qx).toArray }=s3.heap:=by rw[<- hs3]
 generalize hD:s2.heap.objs.size=Dd at I3;generalize hH3:bE H2 Dd (.lst [])=H3 at I3;have hfr2:H2 Dd=qz:=by rw[<- hD];exact I2.fresh
 rw[hh3] at hns₁ hsb₁;rw[hh3];have hst:({heap:=h₁,gens:=s2.gens,drawn:=s2.drawn,toks:=s2.toks+([]:List (Str×qx)).length,os:=s2.os }:qj)={s3 with heap:=h₁,toks:=s3.toks+([]:List (Str×qx)).length }:=by rw[<- hs3]
 rw[hst];clear hst;generalize hC:s3.heap.objs.size=C at hns₁ hsb₁;have old:∀ b u,s3.heap.get? b=qq u->h₁.get? b=qq u:=λ b u q=>by
  have hb:b≠C:=by rw[<- hC];exact xAj (xAa q)
  exact hsb₁.extBut b u hb (hpS _ q)
 have lt2:∀ b∈fp,b<s2.heap.objs.size:=λ b hb=>by
  obtain⟨o,eo,_⟩:=T.obj 0 _ st2 b hb;exact xAa eo
 have up23:∀ b u,s2.heap.get? b=qq u->s3.heap.get? b=qq u:=λ b u q=>by rw[<- hh3];exact hpS _ q
 have lt3:∀ b∈fp,b<s3.heap.objs.size:=λ b hb=>by
  obtain⟨o,eo,_⟩:=T.obj 0 _ st2 b hb;exact xAa (up23 b o eo)
 have f3:∀ b∈fp,gI X aB H3 b:=λ b hb=>by
  refine⟨?_,(f2 b hb).2⟩;have ne:b≠Dd:=by rw[<- hD];exact xAj (lt2 b hb)
  rw[<- hH3,bM ne];exact(f2 b hb).1
 have okY:(kA X aB fp scope C s3 H3).Ok:=aPC I3 ok f3 lt3 (by rw[hC];exact yAc _)
 have hIC:jP X scope (kA X aB fp scope C s3 H3):=⟨aB,fp,C,s3,H3,rfl⟩;generalize hY:kA X aB fp scope C s3 H3=Y at okY hIC;have yE:Y.env=compEnvC scope (vJ scope X.env) C X.env:=by rw[<- hY];rfl
 have I4:Inv Y [] (clr t.slots σ) H3 {s3 with heap:=h₁,toks:=s3.toks+([]:List (Str×qx)).length }:=by
  rw[<- hY] at okY ⊢;refine⟨okY,rfl,I3.bare,Un.kept old,⟨_,hns₁,λ i x v a1 a2 a3=>?_⟩,λ x c a=>?_,?_,λ x c a=>I3.freeC x c (oW I3 ok a),λ p hp=>?_,I3.hok.kept old,by rw[xY];exact I3.len⟩
  ·obtain⟨a4,a5⟩:=zC t.slots σ i v a2;have nl:scope.names.lookup x≠qq .local:=λ z=>a5 (own i x a1 z)
   have pO:(kA X aB fp scope C s3 H3).env.kindOf x=qq .cell\/(kA X aB fp scope C s3 H3).env.kindOf x=qq .free:=by
    rcases a3 with z | z | z
    ·exfalso;have z':(kA X aB fp scope C s3 H3).env.kindOf x=qq .local:=z;rw[aFH] at z';cases ek:scope.names.lookup x with
     | none=>rw[ek] at z';cases z'
     | some k =>
       rw[ek] at z';cases k with
       | «local» => exact nl ek
       | free =>
         simp only[Option.map_some,Option.some.injEq] at z'
         split at z'<;>cases z'
       | cell=>exact ok.nocell (x,.cell) (mem_of_lookup ek) rfl
       | globalExplicit=>simp at z'
       | globalImplicit=>simp at z'
    ·exact .inl z
    ·exact .inr z
   have fr:=aFD ok pO;have ov:=ok.free (x,.free) (mem_of_lookup fr) rfl;obtain⟨m,hm,hl⟩:=I3.loc;obtain⟨u,ru,lk⟩:=hl i x v a1 a4 (ov.elim (λ z=>.inr (.inl z)) λ z=>.inr (.inr z))
   refine⟨u,ru,.inr ⟨pO,?_⟩⟩;obtain⟨c,hcl⟩:=aCF (env:=X.env) scope.names [] x (.inl ⟨.free,mem_of_lookup fr,rfl⟩);have hc2:=oW I3 ok hcl;rcases lk with ⟨z,_⟩ | ⟨_,c',e',o',ho',hd'⟩
   ·exfalso;have z':X.env.scope.names.lookup x=qq .local:=z;rcases ov with w | w
    ·rw[w] at z';cases z'
    ·rw[w] at z';cases z'
   ·rw[hc2] at e';cases e';exact⟨c,hcl,o',old _ _ ho',hd'⟩
  ·obtain⟨v,o,ho,hd⟩:=I3.cell x c (oW I3 ok a);exact⟨v,o,old _ _ ho,hd⟩
  ·show H3 C=qz;rw[<- hC];exact I3.fresh
  ·have hp':p∈X.pn++aB:=by
    have:p∈(X.pn++aB)++[]:=hp;rwa [yDm] at this
   obtain⟨b1,b2,b3,b4,b5⟩:=I3.pin p hp';refine⟨old _ _ b1,b2,?_,λ z=>?_,b5⟩
   ·show p.1≠C;rw[<- hC];exact xAj (xAa b1)
   ·rcases List.mem_cons.mp (I3.stkSub p.1 z) with w | w
    ·exact b3 w
    ·exact b4 w
 have fpY:∀ {H':Hp},(∀ b∈fp,H' b=qz)->∀ b∈fp,gI Y [] H' b:=λ hn b hb=>by
  rw[<- hY];refine⟨hn b hb,?_,aG9 I3 f3 b hb,.inl hb,λ x c a=>(f3 b hb).2.2.2.2.1 x c (oW I3 ok a),λ p hp=>?_⟩
  ·show b≠C;rw[<- hC];exact xAj (lt3 b hb)
  ·have hp':p∈X.pn++aB:=by
    have:p∈(X.pn++aB)++[]:=hp;rwa [yDm] at this
   exact(f3 b hb).2.2.2.2.2 p hp'
 have yA:Y.A=X.A:=by rw[<- hY];rfl
 have yP:Y.prog=X.prog:=by rw[<- hY];rfl
 have yW:Y.w=X.w:=by rw[<- hY];rfl
 have yK:Y.K=X.K:=by rw[<- hY];rfl
 have yC:Y.calm=true:=by rw[<- hY];exact hc
 have yX:Y.xe=λ _ _=>False:=by rw[<- hY];rfl
 have R3:Rel X.K F1 (L1++[Dd]) (S1++[qq []]) H3:=by rw[<- hH3];exact R1.newLoc hfr2 .nil
 obtain⟨PP,hPP⟩:∃ PP:Result->qj->Prop,PP=compPost (model X.prog X.w) X.A X.xe use QQ (.ref Dd) C:=⟨_,rfl⟩;have bX:∀ (s1:qj) (σ':L2.St) (H' F':Hp) (L':List qv),Inv Y [] σ' H' s1->Gr F1 (L1++[Dd]) F' L'->Rel X.K F' L' S2 H'->PP (.ok .next) s1:=by
  intro s1 σ' H' F' L' J' gg RR;rw[hPP];rw[<- hY] at J';obtain⟨m,hmC,_⟩:=J'.loc;have hCn:H' C=qz:=J'.free;have hfC:gI X aB H' C:=I3.fpOk (by rw[hC];exact yAc _) hCn
  obtain⟨sf,M,rfl⟩:=gg;have cT:L1.length=S1.length:=R1.len;have eL:((L1++[Dd])++M)[S1.length]? = qq Dd:=by
   rw[yBa,yAh (by rw[cT];exact yAc _),cT,yBe];rfl
  obtain⟨hF,xs,hx,dl⟩:=RR.loc S1.length Dd zs eL hz;have RR2:Rel X.K F' (L1++([Dd]++M)) S2 H':=by rw[<- yBa];exact RR
  have Rc:=RR2.cut;rw[cT] at Rc;have hnd:Dd ∉ L1:=λ z=>by
   have nd:=RR2.nd;rw[yGd] at nd;exact nd.2.2 Dd z Dd (by simp) rfl
  refine hend Dd C s1 H' hfC ⟨m,hmC⟩ (λ h' sb=>?_) (q F' L1 H' Dd xs (g1.trans ⟨sf,[],by simp⟩) Rc hF hnd hx dl)
  have neC:∀ b u,s3.heap.get? b=qq u->b≠C:=λ b u z=>by rw[<- hC];exact xAj (xAa z)
  have kp:∀ b u,b≠C->s1.heap.get? b=qq u->h'.get? b=qq u:=λ b u z w=>sb.extBut b u z w
  have bU:Un (iE X.stack) fp H3 H' s3.heap s1.heap:=J'.base;have u:Un (iE X.stack) fp H3 H' s3.heap h':=
   ⟨λ b o z n hb hx=>kp b o (neC b o z) (bU.keep b o z n hb hx),λ b o z n hb hx=>by obtain⟨sl,w⟩:=bU.slot b o z n hb hx;exact⟨sl,kp b _ (neC b o z) w⟩,bU.free,
    λ b o z hx=>by obtain⟨o',w⟩:=bU.there b o z hx;exact⟨o',kp b _ (neC b o z) w⟩,bU.tups,bU.frzs,bU.tbls⟩
  have hokY:dS X.prog X.w H' s1.heap:=J'.hok;have hok':dS X.prog X.w H' h':=λ b o z=>(hokY b o z).stay (λ c v hc2 w=>kp c v (λ zz=>by
   rcases hc2 with w2 | w2
   ·rw[w2] at zz;rw[zz,hCn] at z;cases z
   ·rw[zz,hCn] at w2;cases w2) w) (λ _ w=>w) λ _ _ w=>w
  have os1:s1.os=s3.os:=J'.os;exact I3.call' (s':={s1 with heap:=h' }) os1 u hok' J'.bare λ b hb=>⟨(f3 b hb).2.2.2.1,(f3 b hb).2.1,(f3 b hb).2.2.2.2.1,(f3 b hb).2.2.2.2.2⟩
 have loop:∀ s5:qj,Inv Y [] (clr t.slots σ) H3 s5->tn 0 s5.heap ->
  vo (model X.prog X.w) X.A (.compLoop (.ListComp elt [⟨tg,iter,ifs,0⟩] scope pos) 0 (.ref it) (.ref Dd) Y.env) PP s5:=by
  intro s5 I5 st5;have E0:EnvR X.K F1 (L1++[Dd]) (clr t.slots env) (clr t.slots σ):=(E.mono (g1.trans Gr.newLoc)).clr t.slots;obtain⟨Iv,hIv⟩:∃ Iv:Nat->qj->Prop,∀ n s',Iv n s' ↔ (∃ i σ' H' F' L' S',Inv Y [] σ' H' s'/\tn i s'.heap/\(∀ b∈fp,H' b=qz)/\Gr F1 (L1++[Dd]) F' L'/\Rel X.K F' L' S' H'/\EnvR X.K F' L' (clr t.slots env) σ'/\i+n=ds.length /\
   hV t fc fe S1.length (clr t.slots env) (ds.drop i) S'=qq S2):=⟨_,λ _ _=>Iff.rfl⟩
  refine aKU Iv ?_ ds.length ((hIv _ _).mpr ⟨0,clr t.slots σ,H3,F1,L1++[Dd],S1++[qq []],I5,st5,λ b hb=>(f3 b hb).1,Gr.refl,R3,E0,yDs _,by rw[yFe];exact e2⟩)
  intro n s6 h6;obtain⟨i,σ6,H6,F6,L6,S6,I6,st6,fr6,g6,R6,E6,hin,ec⟩:=(hIv _ _).mp h6;clear h6;have g16:Gr F1 L1 F6 L6:=Gr.newLoc.trans g6;have toA:∀ {α:Type}{tt:Sem α}{QQ:α->qj->Prop}{EE:qx->qj->Prop}{ss:qj},qy (model X.prog X.w) Y.A tt QQ EE ss->qy (model X.prog X.w) X.A tt QQ EE ss:=λ hh=>by rw[yA] at hh;exact hh
  cases n with
  | zero =>
    have hi':i=ds.length:=by omega
    subst hi';rw[yFj] at ec;cases ec;refine bD (toA (T.done Y yP yW yK yC ds.length [] s6 σ6 H6 _ I6 (fpY fr6) st6 (wk.stop H6 (g16.f.trans R6.sub)))) λ r s7 hPq30=>?_
    obtain⟨hr,I7⟩:=hPq30;subst hr;exact bX s7 σ6 H6 F6 L6 I7 g6 R6
  | succ n =>
    have hi':i<ds.length:=by omega
    refine bD (toA (T.item Y yP yW yK yC i [] s6 σ6 H6 _ I6 (fpY fr6) st6 (wk.go i H6 (g16.f.trans R6.sub) hi'))) λ r s7 hPq31=>?_
    obtain⟨u,hr,h7⟩:=hPq31;subst hr;refine bD (toA h7) λ _ s8 hPq32=>?_
    obtain⟨x,H8,I8,r8,y8,st8,fr8⟩:=hPq32;obtain⟨F8,sf8,R8,d8⟩:=wk.yld i H6 F6 L6 S6 x H8 ds[i] g16 R6 (yAa hi') y8;have g8:Gr F6 L6 F8 L6:=⟨sf8,[],by simp⟩
    rw[yDj hi'] at ec;obtain⟨env9,ep,ec⟩:=bind_some ec;obtain⟨⟨cb,S9⟩,et,ec⟩:=bind_some ec;have I8':=I8.pinned (fpY fr8) (T.obj _ _ st8);have toF:∀ {α:Type}{tt:Sem α}{QQ:α->qj->Prop}{ss:qj},qy (model Y.prog Y.w) Y.A tt QQ Y.xe ss->qy (model X.prog X.w) X.A tt QQ (λ _ _=>False) ss:=λ hh=>by rw[yX,yP,yW,yA] at hh;exact hh
    refine toF (bD (hg Y hIC _ s8 σ6 H8 x u (λ σ' H'=>H'=H8/\EnvR X.K F8 L6 env9 σ') I8' r8 (ga ds[i] x σ6 H8 F8 L6 S6 (clr t.slots env) env9 _ R8 (E6.mono g8) d8 ep λ σ' E'=>⟨rfl,E'⟩)) λ _ s9 hPq33=>?_)
    obtain⟨σ9,H9,I9,hH9,E9⟩:=hPq33;subst hH9;refine toF (bD (ht Y hIC _ s9 σ9 H9 (λ b H'=>∃ F' L',Gr F8 L6 F' L'/\Rel X.K F' L' S9 H'/\b=cb) I9 (by rw[yK];exact⟨F8,L6,S6,env9,cb,S9,R8,E9,et,λ F' L' H' g' R'=>⟨F',L',g',R',rfl⟩⟩)) λ ok2 s10 hPq34=>?_)
    obtain⟨H10,I10,F10,L10,g10,R10,hb10⟩:=hPq34;subst hb10;dsimp only at ec;have again:∀ {σ7:L2.St}{H7 F7:Hp}{L7:List qv}{S7:aD}{s7':qj},Inv Y ([]++uM fp s8.heap) σ7 H7 s7'->Gr F8 L6 F7 L7->Rel X.K F7 L7 S7 H7->EnvR X.K F7 L7 env9 σ7->hV t fc fe S1.length (clr t.slots env) (ds.drop (i+1)) S7=qq S2 ->
     ∃ m,m<n+1/\Iv m s7':=by
     intro σ7 H7 F7 L7 S7 s7' I7 g7 R7 E7 ec7;refine⟨n,yGl n,(hIv _ _).mpr ⟨i+1,σ7,H7,F7,L7,S7,I7.unpinned,T.keep _ _ _ st8 λ b hb o eo=>(I7.pin (b,o) (xAp _ (xAp _ (sV hb eo)))).1,λ b hb=>?_,(g6.trans g8).trans g7,R7,EnvR.back ep E7,by omega,ec7⟩⟩
     obtain⟨o,eo,_⟩:=T.obj _ _ st8 b hb;exact(I7.pin (b,o) (xAp _ (xAp _ (sV hb eo)))).2.1
    cases ok2 with
    | false =>
      rw[if_neg (by simp)] at ec
      rw[if_neg (by simp)]
      exact again I10 g10 R10 (E9.mono g10) ec
    | true =>
      rw[if_pos rfl] at ec;rw[if_pos rfl];obtain⟨⟨wv,S11⟩,ee,ec⟩:=bind_some ec;obtain⟨⟨wn,S12⟩,ea,ec⟩:=bind_some ec;obtain⟨n',dv,zs',hn',hw',es',hlt,hwn,rfl⟩:=aFO ea;cases hn';subst hw';refine toF (bD (he Y hIC _ s10 σ9 H10 (λ v H'=>∃ F' L',Gr F10 L10 F' L'/\Rel X.K F' L' S11 H'/\Den X.K F' dv v) I10 ⟨F10,L10,S9,env9,_,S11,R10,E9.mono g10,ee,λ F' L' H' v g' R' d'=>⟨F',L',g',R',d'⟩⟩) λ xv s11 hPq35=>?_)
      obtain⟨v11,H11,I11,r11,F11,L11,g11,R11,d11⟩:=hPq35;have gA:Gr F1 (L1++[Dd]) F11 L11:=((g6.trans g8).trans g10).trans g11;have eL:L11[S1.length]? = qq Dd:=gA.get (by rw[yAh (by rw[R1.len];exact yAc _),R1.len,yBe];rfl)
      obtain⟨hF,xs,hx,dl⟩:=R11.loc S1.length Dd zs' eL es';refine toF (bD (aFt (X:=Y) _ s11 σ9 H11 (.ref Dd) [v11] (.ref Dd) [xv] (λ _ H'=>Rel X.K F11 L11 (S11.set S1.length (qq (zs'++[dv]))) H') I11 rfl (.cons r11 .nil) ⟨Dd,xs,v11,rfl,rfl,hx,by rw[<- dl.length];exact hlt,R11.put eL hF (dl.append (.cons d11 .nil))⟩) λ _ s12 hPq36=>?_)
      obtain⟨_,H12,I12,_,R12⟩:=hPq36;exact again I12 (g10.trans g11) R12 (E9.mono (g10.trans g11)) ec
 rw[yE,hPP] at loop;have st4:tn 0 h₁:=T.keep 0 _ _ st2 λ b _ o eo=>old b o (up23 b o eo)
 exact codeAny_compStart_list (loop _ I4 st4) (T.self X.A 0 _ _ _ st4 (loop _ I4 st4))
theorem aHI(hc:X.calm=true)(ok:ScOk scope X.env.scope)(own:aC1 X.N scope t.slots)(hi:PI X tg iter (iC X.K fi))(hg:∀ Y,jP X scope Y->PG Y tg g)(ga:GA X.K t g)
 (ht:∀ Y,jP X scope Y->lE Y ifs fc) (he:∀ Y,jP X scope Y->PE Y elt (aY X.K fe)) (hs:∀ x,jj iter X.env x=pure x) :
 PE X (.ListComp elt [⟨tg,iter,ifs,0⟩] scope pos) (iU X.K (hG t fi fc fe)):=λ aB s σ H Q I h=>by
 rw[eval_ListComp];exact aFA qz hc ok own hi hg ga ht he hs I h λ p C s1 H' _ hm hI q=>hm.elim λ m hm=>⟨m,hm,λ h' sb=>⟨.ref p,H',hI h' sb,rfl,q⟩⟩
theorem aLJ{i:Nat}{x:Str}{pos' spos:Pos}{fa:FE}(hN:X.N.Nodup)(hx1:X.N[i]? = qq x)(hx2:L2.Loc X.env.scope x)(hf:X.fn x=true\/X.env.scope.names.lookup x=qq .local)
 (hc:X.calm=true) (ok:ScOk scope X.env.scope) (own:aC1 X.N scope t.slots) (hi:PI X tg iter (iC X.K fi)) (hg:∀ Y,jP X scope Y->PG Y tg g) (ga:GA X.K t g)
 (ht:∀ Y,jP X scope Y->lE Y ifs fc) (he:∀ Y,jP X scope Y->PE Y elt (aY X.K fe)) (hs:∀ x,jj iter X.env x=pure x)
 (hw:∀ σ H Q,aY X.K fa σ H Q->iU X.K (hG t fi fc fe) σ H Q) :
 PS X (.Assign [.Name x pos'] (.ListComp elt [⟨tg,iter,ifs,0⟩] scope pos) spos) (dQ X.K (jD i fa)):=by
 have hb:∃ b,swapsWith (.ListComp elt [⟨tg,iter,ifs,0⟩] scope pos) (qq (.Name x pos')) spos.line X.env=pure b:=⟨_,rfl⟩;obtain⟨b,hb⟩:=hb;cases b with
 | false=>exact aIU hN hx1 hx2 (PE.weak (aHI hc ok own hi hg ga ht he hs) hw) hb hf
 | true =>
   intro aB s σ H DD I h;have h2:=aIX DD σ H h;rw[exec_Assign_Name_used _ _ _ _ hb];refine wB (ko (wB ?_));show qy _ X.A (do let _ <- comprehension (.ListComp elt [⟨tg,iter,ifs,0⟩] scope pos) scope X.env _ (newList []) false (eval iter X.env) (qq (assign (.Name x pos') X.env))) _ _ s
   refine wB (bD (aFA (QQ:=λ _ s'=>SP X aB DD .next s') (qq (assign (.Name x pos') X.env)) hc ok own hi hg ga ht he hs I (hw _ _ _ h2) λ p C s1 H' hC hm hI q=>?_) λ _ s' hq=>wP (wP hq))
   obtain⟨m,hm⟩:=hm;have I1:Inv X aB σ H' s1:=hI s1.heap (Heap.SameBut.refl _ _);obtain⟨o,es,ep,ho,hd,r⟩:=hm;have I2:=I1.pinned (fp:=[C]) (λ b hb=>by rw[List.mem_singleton.mp hb];exact hC) λ b hb=>by rw[List.mem_singleton.mp hb];exact⟨o,ho,λ v z=>by rw[hd] at z;cases z⟩
   refine bD (aCi (pos:=pos') hN hx1 hx2 hf _ s1 σ H' (.ref p) (.ref p) _ I2 rfl q) λ _ s2 hPq37=>?_
   obtain⟨σ2,H2,I3,q3⟩:=hPq37;obtain⟨b1,b2,_⟩:=I3.pin (C,o) (xAp _ (xAp _ (sV (by simp) ho)))
   refine⟨m,⟨o,es,ep,b1,hd,r⟩,λ h' sb=>⟨σ2,H2,?_,q3⟩⟩
   exact I3.unpinned.turned (t':=s2.toks) (λ b o hb e=>sb.extBut b o hb e) b2 hC.2.1 hC.2.2.2.1 hC.2.2.2.2.1 hC.2.2.2.2.2
end
noncomputable def uJ:List D->Option (List Int)
 | []=>qq []
 | .int i::r=>(uJ r).bind λ l=>qq (i::l)
 | _::_=>qz
noncomputable def qK:List D->Option (List Bool)
 | []=>qq []
 | .bool i::r=>(qK r).bind λ l=>qq (i::l)
 | _::_=>qz
noncomputable def iN:List D->Option D
 | [.list xs]=>qq (.int xs.length)
 | [.tuple xs]=>qq (.int xs.length)
 | [.str z]=>if z.length<=qk then qq (.int z.length) else qz
 | _=>qz
noncomputable def pN:List D->Option D
 | [.int i,.int j]=>qq (.int (if j>i then j else i))
 | [.int i,.int j,.int k]=>qq (.int (if j>i then (if k>j then k else j) else (if k>i then k else i)))
 | [.list xs]=>match uJ xs with
   | some (i::r)=>qq (.int (r.foldl max i))
   | _=>qz
 | _=>qz
noncomputable def pG:List D->Option D
 | [.int i,.int j]=>qq (.int (if j<i then j else i))
 | [.list xs]=>match uJ xs with
   | some (i::r)=>qq (.int (r.foldl min i))
   | _=>qz
 | _=>qz
noncomputable def vM:List D->Option D
 | [.int i]=>qq (.int i)
 | [.bool k]=>qq (.int (if k then 1 else 0))
 | _=>qz
noncomputable def aDk:List D->Option D
 | [.int i]=>qq (.int (if i<0 then -i else i))
 | _=>qz
noncomputable def uN:List D->Option D
 | [.list xs]=>qq (.tuple xs)
 | [.tuple xs]=>qq (.tuple xs)
 | _=>qz
noncomputable def aDf:List D->Option D
 | [.list xs]=>(uJ xs).bind λ l=>qq (.int l.sum)
 | _=>qz
noncomputable def aDn:List D->Option D
 | [.list xs]=>(qK xs).bind λ l=>qq (.bool (l.all id))
 | _=>qz
noncomputable def pJ:List D->Option D
 | [.list xs]=>(qK xs).bind λ l=>qq (.bool (l.any id))
 | _=>qz
section
variable {X : Cx}
theorem iT{F H:Hp}{d:D}{xs:List V}(h:NowL X.K F H [d] xs):∃ x,xs=[x]/\bR X.K F H d x:=by
 cases h with
 | cons a b=>cases b;exact⟨_,rfl,a⟩
theorem aJr{F H:Hp}{d e:D}{xs:List V}(h:NowL X.K F H [d,e] xs):∃ x y,xs=[x,y]/\bR X.K F H d x/\bR X.K F H e y:=by
 cases h with
 | cons a b =>
   cases b with
   | cons c d=>cases d;exact⟨_,_,rfl,a,c⟩
theorem aVr{F H:Hp}{d e f:D}{xs:List V}(h:NowL X.K F H [d,e,f] xs):∃ x y z,xs=[x,y,z]/\bR X.K F H d x/\bR X.K F H e y/\bR X.K F H f z:=by
 cases h with
 | cons a b=>cases b with
   | cons c d=>cases d with
     | cons e f=>cases f;exact⟨_,_,_,rfl,a,c,e⟩
theorem aIJ{x y z:V}{us:List qx}(r:aZ [x,y,z] us):∃ u v w',us=[u,v,w']/\bC x u/\bC y v/\bC z w':=by
 cases r with
 | cons r1 r2=>cases r2 with
   | cons r3 r4=>cases r4 with
     | cons r5 r6=>cases r6;exact⟨_,_,_,rfl,r1,r3,r5⟩
theorem aLN(hc:X.calm=true):eQ X (.builtin "max") (λ xs H Q=>∃ i j k,xs=[.int i,.int j,.int k]/\Q (.int (if j>i then (if k>j then k else j) else (if k>i then k else i))) H):=by
 intro aB s σ H xs us Q I r h;obtain⟨i,j,k,rfl,q⟩:=h;obtain⟨u,v,w',rfl,⟨t,rfl⟩,⟨t',rfl⟩,⟨t2,rfl⟩⟩:=aIJ r;refine max_three_ints (I.ok.hd hc) λ h' tk kk=>⟨_,H,I.kept kk,?_,q⟩
 by_cases h1:j>i<;>by_cases h2:k>j<;>by_cases h3:k>i<;>simp only[h1,h2,h3,if_true,if_false]<;>exact⟨_,rfl⟩
theorem xZ{K:FrG}{F:Hp}:∀ {ds:List D}{xs:List V}{ns:List Int},DenL K F ds xs->uJ ds=qq ns->xs=ns.map V.int
 | _,_,_,.nil,e=>by cases e;rfl
 | .int i::r,_,_,.cons h t,e=>by
   obtain⟨l,e1,e2⟩:=bind_some e;cases e2;cases h;rw[yBg,xZ t e1]
 | .none::_,_,_,.cons _ _,e=>by cases e
 | .bool _::_,_,_,.cons _ _,e=>by cases e
 | .str _::_,_,_,.cons _ _,e=>by cases e
 | .list _::_,_,_,.cons _ _,e=>by cases e
 | .tuple _::_,_,_,.cons _ _,e=>by cases e
 | .dict _::_,_,_,.cons _ _,e=>by cases e
theorem aGZ:∀ (l:List Int) (i:Int),(l.foldl max i∈i::l)/\∀ a∈i::l,a<=l.foldl max i
 | [],i=>⟨List.mem_singleton.mpr rfl,λ a h=>by rw[List.mem_singleton.mp h];exact Int.le_refl _⟩
 | b::l,i=>by
   obtain⟨h1,h2⟩:=aGZ l (max i b);rw[yBl];refine⟨?_,λ a ha=>?_⟩
   ·rcases List.mem_cons.mp h1 with h | h
    ·rw[h];rcases Int.le_total i b with q | q
     ·rw[Int.max_eq_right q];simp
     ·rw[Int.max_eq_left q];simp
    ·simp[h]
   ·have h3:=h2 (max i b) xAc;simp only[yCh] at ha;rcases ha with rfl | rfl | ha
    ·exact yGr (Int.le_max_left _ _) h3
    ·exact yGr (Int.le_max_right _ _) h3
    ·exact h2 a (xAf _ ha)
theorem aHr:∀ (l:List Int) (i:Int),(l.foldl min i∈i::l)/\∀ a∈i::l,l.foldl min i<=a
 | [],i=>⟨List.mem_singleton.mpr rfl,λ a h=>by rw[List.mem_singleton.mp h];exact Int.le_refl _⟩
 | b::l,i=>by
   obtain⟨h1,h2⟩:=aHr l (min i b);rw[yBl];refine⟨?_,λ a ha=>?_⟩
   ·rcases List.mem_cons.mp h1 with h | h
    ·rw[h];rcases Int.le_total i b with q | q
     ·rw[Int.min_eq_left q];simp
     ·rw[Int.min_eq_right q];simp
    ·simp[h]
   ·have h3:=h2 (min i b) xAc;simp only[yCh] at ha;rcases ha with rfl | rfl | ha
    ·exact yGr h3 (Int.min_le_left _ _)
    ·exact yGr h3 (Int.min_le_right _ _)
    ·exact h2 a (xAf _ ha)
theorem aBs:∀ {l:List Int}{us:List qx},aZ (l.map V.int) us->∃ ps:List (Int×Tok),us=ps.map (λ p=>Value.int p.1 p.2)/\ps.map (·.1)=l
 | [],us,r=>by cases r;exact⟨[],rfl,rfl⟩
 | i::l,us,r=>by
   cases r with
   | cons h t =>
     obtain⟨tk,rfl⟩:=h;obtain⟨ps,rfl,rfl⟩:=aBs t;exact⟨(i,tk)::ps,rfl,rfl⟩
theorem aMa(hc:X.calm=true):eQ X (.builtin "max") (λ xs H Q=>∃ (a:qv) (l:List Int),xs=[.ref a]/\bW X.K H a (l.map V.int)/\0<l.length/\∀ M,M∈l->(∀ i∈l,i<=M)->Q (.int M) H):=by
 intro aB s σ H xs us Q I r h;obtain⟨a,l,rfl,sq,hl,q⟩:=h;obtain⟨u,rfl,ru⟩:=jA r;cases ru;obtain⟨aG,rv,pl,hz⟩:=I.list sq;obtain⟨ps,rfl,rfl⟩:=aBs rv;have hIL:s.heap.IsList a (intItems ps.toArray):=by
  have e:intItems ps.toArray=(ps.map (λ p=>Value.int p.1 p.2)).toArray:=by simp[intItems]
  rw[e];exact pl.isList
 refine max_intList (xs:=ps.toArray) (I.ok.hd hc) hIL (by simpa using hl) λ v h' tk hv hk=>?_
 obtain⟨t,rfl⟩:=intItems_at hv;obtain⟨h1,h2⟩:=argBest_gt (numAt ps.toArray) (ps.toArray.size-1);refine⟨.int _,H,I.kept hk,⟨_,rfl⟩,q _ ?_ λ i hi=>?_⟩
 ·rw[numAt_eq];have hz':0<ps.toArray.size:=by simpa using hl
  exact getD_mem (by rw[yAf,yDu];exact xAi h1 (Nat.sub_lt hz' Nat.one_pos))
 ·obtain⟨j,hj,rfl⟩:=mem_getD hi;rw[yAf] at hj;have:=h2 j (by rw[yAg];omega)
  rw[numAt_eq (j:=j)] at this;exact this
theorem aLL(hc:X.calm=true):eQ X (.builtin "min") (λ xs H Q=>∃ (a:qv) (l:List Int),xs=[.ref a]/\bW X.K H a (l.map V.int)/\0<l.length/\∀ M,M∈l->(∀ i∈l,M<=i)->Q (.int M) H):=by
 intro aB s σ H xs us Q I r h;obtain⟨a,l,rfl,sq,hl,q⟩:=h;obtain⟨u,rfl,ru⟩:=jA r;cases ru;obtain⟨aG,rv,pl,hz⟩:=I.list sq;obtain⟨ps,rfl,rfl⟩:=aBs rv;have hIL:s.heap.IsList a (intItems ps.toArray):=by
  have e:intItems ps.toArray=(ps.map (λ p=>Value.int p.1 p.2)).toArray:=by simp[intItems]
  rw[e];exact pl.isList
 refine min_intList (xs:=ps.toArray) (I.ok.hd hc) hIL (by simpa using hl) λ v h' tk hv hk=>?_
 obtain⟨t,rfl⟩:=intItems_at hv;obtain⟨h1,h2⟩:=argBest_lt (numAt ps.toArray) (ps.toArray.size-1);refine⟨.int _,H,I.kept hk,⟨_,rfl⟩,q _ ?_ λ i hi=>?_⟩
 ·rw[numAt_eq];have hz':0<ps.toArray.size:=by simpa using hl
  exact getD_mem (by rw[yAf,yDu];exact xAi h1 (Nat.sub_lt hz' Nat.one_pos))
 ·obtain⟨j,hj,rfl⟩:=mem_getD hi;rw[yAf] at hj;have:=h2 j (by rw[yAg];omega)
  rw[numAt_eq (j:=j)] at this;exact this
theorem aTv:eQ X (.builtin "len") (kZ X iN):=λ aB s σ H xs us Q I r aQ=>by
 obtain⟨F,L,S,ds,z,R,n,e,q⟩:=aQ;unfold iN at e
 split at e
 ·cases e;obtain⟨x,rfl,nx⟩:=iT n;obtain⟨a,ys,rfl,sq,dl⟩:=nx.lst R.sub;exact aEs aB s σ H _ us Q I r ⟨a,ys,rfl,.inl sq,by rw[<- dl.length];exact q.here R (.int _)⟩
 ·cases e;obtain⟨x,rfl,nx⟩:=iT n;obtain⟨a,ys,rfl,sq,dl⟩:=nx.tup R.sub;exact aEs aB s σ H _ us Q I r ⟨a,ys,rfl,.inr sq,by rw[<- dl.length];exact q.here R (.int _)⟩
 ·split at e
  ·rename_i hz;cases e;obtain⟨x,rfl,nx⟩:=iT n;exact aKW aB s σ H _ us Q I r ⟨_,by rw[nx.str],hz,q.here R (.int _)⟩
  ·cases e
 ·cases e
theorem aSy(hc:X.calm=true):eQ X (.builtin "max") (kZ X pN):=λ aB s σ H xs us Q I r aQ=>by
 obtain⟨F,L,S,ds,z,R,n,e,q⟩:=aQ;unfold pN at e
 split at e
 ·cases e;obtain⟨x,y,rfl,nx,ny⟩:=aJr n;exact aLT hc aB s σ H _ us Q I r ⟨_,_,by rw[nx.int,ny.int],q.here R (.int _)⟩
 ·cases e;obtain⟨x,y,u,rfl,nx,ny,nu⟩:=aVr n;exact aLN hc aB s σ H _ us Q I r ⟨_,_,_,by rw[nx.int,ny.int,nu.int],q.here R (.int _)⟩
 ·split at e
  ·rename_i xs' i r' hi;cases e;obtain⟨x,rfl,nx⟩:=iT n;obtain⟨a,ys,rfl,sq,dl⟩:=nx.lst R.sub;obtain rfl:=xZ dl hi;refine aMa hc aB s σ H _ us Q I r ⟨a,i::r',rfl,sq,by simp,λ M h1 h2=>?_⟩
   have f:=aGZ r' i;have:M=r'.foldl max i:=Int.le_antisymm (f.2 _ h1) (h2 _ f.1);rw[this];exact q.here R (.int _)
  ·cases e
 ·cases e
theorem aUq(hc:X.calm=true):eQ X (.builtin "min") (kZ X pG):=λ aB s σ H xs us Q I r aQ=>by
 obtain⟨F,L,S,ds,z,R,n,e,q⟩:=aQ;unfold pG at e
 split at e
 ·cases e;obtain⟨x,y,rfl,nx,ny⟩:=aJr n;exact aL8 hc aB s σ H _ us Q I r ⟨_,_,by rw[nx.int,ny.int],q.here R (.int _)⟩
 ·split at e
  ·rename_i xs' i r' hi;cases e;obtain⟨x,rfl,nx⟩:=iT n;obtain⟨a,ys,rfl,sq,dl⟩:=nx.lst R.sub;obtain rfl:=xZ dl hi;refine aLL hc aB s σ H _ us Q I r ⟨a,i::r',rfl,sq,by simp,λ M h1 h2=>?_⟩
   have f:=aHr r' i;have:M=r'.foldl min i:=Int.le_antisymm (h2 _ f.1) (f.2 _ h1);rw[this];exact q.here R (.int _)
  ·cases e
 ·cases e
theorem aTK:eQ X (.type "int") (kZ X vM):=λ aB s σ H xs us Q I r aQ=>by
 obtain⟨F,L,S,ds,z,R,n,e,q⟩:=aQ;unfold vM at e
 split at e
 ·cases e;obtain⟨x,rfl,nx⟩:=iT n;exact aFu aB s σ H _ us Q I r (.inl ⟨_,by rw[nx.int],q.here R (.int _)⟩)
 ·cases e;obtain⟨x,rfl,nx⟩:=iT n;exact aFu aB s σ H _ us Q I r (.inr ⟨_,by rw[nx.bl],q.here R (.int _)⟩)
 ·cases e
theorem aS2:eQ X (.builtin "abs") (kZ X aDk):=λ aB s σ H xs us Q I r aQ=>by
 obtain⟨F,L,S,ds,z,R,n,e,q⟩:=aQ;unfold aDk at e
 split at e
 ·cases e;obtain⟨x,rfl,nx⟩:=iT n;exact aM3 aB s σ H _ us Q I r ⟨_,by rw[nx.int],q.here R (.int _)⟩
 ·cases e
theorem aPA:eQ X (.type "tuple") (kZ X uN):=λ aB s σ H xs us Q I r aQ=>by
 obtain⟨F,L,S,ds,z,R,n,e,q⟩:=aQ;unfold uN at e
 split at e
 ·cases e;obtain⟨x,rfl,nx⟩:=iT n;obtain⟨a,ys,rfl,sq,dl⟩:=nx.lst R.sub;exact aEk aB s σ H _ us Q I r ⟨a,ys,rfl,.inl ⟨sq,λ l hl=>q.tup R hl dl⟩⟩
 ·cases e;obtain⟨x,rfl,nx⟩:=iT n;have nx':=nx;obtain⟨a,ys,rfl,sq,dl⟩:=nx.tup R.sub;refine aEk aB s σ H _ us Q I r ⟨a,ys,rfl,.inr ⟨sq,q.here R ?_⟩⟩;rcases nx' with nx | ⟨_,_,_,e,_⟩
  ·exact nx
  ·cases e
 ·cases e
theorem aBi{prog:zq}{w:zw}{A:zy}(hh:A.handled=qz)(I ax:qv)(hne:ax≠I)(aO:Array qx) :
 WalksS prog w A I [I,ax] [I] (λ a b=>b=a) aO.size (λ i v=>aO[i]? = qq v) (λ i s=>s.heap.IsListIter I ax i/\s.heap.IsList ax aO) where
 sub:=λ b hb=>by simp at hb;simp[hb]
 grefl:=λ _=>rfl
 gtrans:=λ _ _ _ h1 h2=>h2.trans h1
 frame:=λ _ _ _ _ st _ hk=>⟨st.1.at λ o e=>hk I (by simp) o e,st.2.at λ o e=>hk ax (by simp) o e⟩
 item:=λ i s Q E hi st hQ=>by
  refine yq st.1 st.2 (x:=aO[i]) (by simp[hi]) λ h' hit' hs'=>?_
  exact hQ _ _ (by simp[hi]) ⟨hit',st.2.extBut hs'.extBut hne⟩ ⟨λ b o hb e=>hs'.extBut b o (λ h=>hb (by simp[h])) e,rfl,rfl,rfl,yAc _⟩
 done:=λ s Q E st hQ=>yj hh st.1 st.2 (by simp) λ h' he'=>hQ _ ⟨λ b o hb e=>he' b o (λ h=>hb (by simp[h])) e,rfl,rfl,rfl,yAc _⟩
 self:=λ _ _ _ _ st hQ=>wpAny_pyIter_listiter st.1 hQ
theorem aEP:∀ (ns:List Int) (k:Nat),k<=ns.length->preSum (λ i=>ns.getD i 0) k=(ns.take k).sum
 | _,0,_=>by simp[preSum]
 | ns,k+1,h=>by
   rw[preSum,aEP ns k (by omega),yEy (by omega),List.sum_append]
   have:ns.getD k 0=ns[k]:=by simp[yGe,yAa (show k<ns.length by omega)]
   rw[this];simp
theorem aBf{K:FrG}{F:Hp}:∀ {ds:List D}{xs:List V}{ns:List Bool},DenL K F ds xs->qK ds=qq ns->xs=ns.map V.bl
 | _,_,_,.nil,e=>by cases e;rfl
 | .bool i::r,_,_,.cons h t,e=>by
   obtain⟨l,e1,e2⟩:=bind_some e;cases e2;cases h;rw[yBg,aBf t e1]
 | .none::_,_,_,.cons _ _,e=>by cases e
 | .int _::_,_,_,.cons _ _,e=>by cases e
 | .str _::_,_,_,.cons _ _,e=>by cases e
 | .list _::_,_,_,.cons _ _,e=>by cases e
 | .tuple _::_,_,_,.cons _ _,e=>by cases e
 | .dict _::_,_,_,.cons _ _,e=>by cases e
theorem aK6{ns:List Int}{us:List qx}(r:aZ (ns.map V.int) us){i:Nat}{v:qx}(e:us[i]? = qq v):∃ t,v=.int (ns.getD i 0) t:=by
 have hl:=r.length;rw[yAf] at hl;have hi:i<ns.length:=by rw[hl];exact(gIm e).1
 obtain⟨u,e1,ru⟩:=aZ.get r (i:=i) (x:=.int ns[i]) (by rw[yAe,yAa hi];rfl)
 rw[e] at e1;cases e1;obtain⟨t,rfl⟩:=ru;exact⟨t,by simp[yGe,yAa hi]⟩
theorem aEt{ns:List Bool}{us:List qx}(r:aZ (ns.map V.bl) us){i:Nat}{v:qx}(e:us[i]? = qq v):v=.bool (ns.getD i false):=by
 have hl:=r.length;rw[yAf] at hl;have hi:i<ns.length:=by rw[hl];exact(gIm e).1
 obtain⟨u,e1,ru⟩:=aZ.get r (i:=i) (x:=.bl ns[i]) (by rw[yAe,yAa hi];rfl)
 rw[e] at e1;cases e1;obtain rfl:=ru;simp[yGe,yAa hi]
theorem aTa(hc:X.calm=true):eQ X (.builtin "sum") (kZ X aDf):=λ aB s σ H xs us Q I r aQ=>by
 obtain⟨F,L,S,ds,z,R,n,e,q⟩:=aQ;unfold aDf at e
 split at e
 ·obtain⟨ns,e1,e2⟩:=bind_some e;cases e2;obtain⟨x,rfl,nx⟩:=iT n;obtain⟨a,ys,rfl,sq,dl⟩:=nx.lst R.sub;obtain rfl:=xZ dl e1;obtain⟨u,rfl,ru⟩:=jA r;cases ru;obtain⟨aG,rv,pl,hz⟩:=I.list sq;have hh:X.A.in1.handled=qz:=I.ok.hd hc;refine call_sum_walkAnyS (jw pl.isList ?_);have hne:a≠s.heap.objs.size:=by
   obtain⟨o,ho,_⟩:=pl.isList;exact xAj (xAa ho)
  have hl:=rv.length;rw[yAf] at hl;refine⟨_,_,_,_,_,_,_,λ i=>ns.getD i 0,rfl,aBi hh s.heap.objs.size a hne aG.toArray,⟨⟨_,xAd _ rfl,rfl,rfl⟩,?_⟩,λ b hb=>?_,λ i v e=>aK6 rv (by simpa using e),λ s' t' mv=>?_⟩
  ·obtain⟨o,ho,r'⟩:=pl.isList;exact⟨o,hpS _ ho,r'⟩
  ·obtain⟨o,ho,_⟩:=pl.isList;have h1:=xAa ho;simp only[yCh,yCe,or_false] at hb;rw[yBi];rcases hb with rfl | rfl
   ·exact yGl _
   ·exact yCz h1
  ·obtain⟨h',g',d',t2,o'⟩:=s';obtain⟨mh,mg,md,mo,mt⟩:=mv;dsimp only at mh mg md mo;subst mg md mo;have I':Inv X aB σ H {s with heap:=h',toks:=t2 }:=I.kept λ b o e=>mh b o (λ z=>by
    have:b=s.heap.objs.size:=by simpa using z
    exact yCc _ (this▸xAa e)) (hpS _ e)
   have e3:preSum (λ i=>ns.getD i 0) aG.toArray.size=ns.sum:=by
    rw[yAg,<- hl,aEP ns ns.length (yAc _),yAi]
   rw[e3];exact⟨.int ns.sum,H,I',⟨_,rfl⟩,q.here R (.int _)⟩
 ·cases e
theorem aER{prog:zq}{w:zw}{A:zy}{b:Bool}{s:qj}{Q:Bool->qj->Prop}{E:qx->qj->Prop}(h:Q b s):qy (model prog w) A (truthy (.bool b)) Q E s:=by
 first
  | exact jv h
  | exact PySem.wpAny_truthy_bool h
  | exact truthy_bool h
theorem aL1(bs:List Bool):(yBk bs.length).all (λ i=>bs.getD i false)=bs.all id:=by
 have h:(yBk bs.length).map (λ i=>bs.getD i false)=bs:=by
  apply List.ext_getElem
  ·simp
  ·intro i h1 h2;simp[yGe,yAa h2]
 have h2:bs.all id=((yBk bs.length).map (λ i=>bs.getD i false)).all id:=by rw[h]
 rw[h2,List.all_map];rfl
theorem aLQ(bs:List Bool):(yBk bs.length).any (λ i=>bs.getD i false)=bs.any id:=by
 have h:(yBk bs.length).map (λ i=>bs.getD i false)=bs:=by
  apply List.ext_getElem
  ·simp
  ·intro i h1 h2;simp[yGe,yAa h2]
 have h2:bs.any id=((yBk bs.length).map (λ i=>bs.getD i false)).any id:=by rw[h]
 rw[h2,List.any_map];rfl
theorem aTJ(hc:X.calm=true):eQ X (.builtin "all") (kZ X aDn):=λ aB s σ H xs us Q I r aQ=>by
 obtain⟨F,L,S,ds,z,R,n,e,q⟩:=aQ;unfold aDn at e
 split at e
 ·obtain⟨bs,e1,e2⟩:=bind_some e;cases e2;obtain⟨x,rfl,nx⟩:=iT n;obtain⟨a,ys,rfl,sq,dl⟩:=nx.lst R.sub;obtain rfl:=aBf dl e1;obtain⟨u,rfl,ru⟩:=jA r;cases ru;obtain⟨aG,rv,pl,hz⟩:=I.list sq;have hh:X.A.in1.handled=qz:=I.ok.hd hc;refine call_all_walkS (jw pl.isList ?_);have hne:a≠s.heap.objs.size:=by
   obtain⟨o,ho,_⟩:=pl.isList;exact xAj (xAa ho)
  have hl:=rv.length;rw[yAf] at hl;refine⟨_,_,_,_,_,_,_,λ i=>bs.getD i false,rfl,aBi hh s.heap.objs.size a hne aG.toArray,⟨⟨_,xAd _ rfl,rfl,rfl⟩,?_⟩,λ i v s' Q' E' e hq=>?_,λ s' mv=>?_⟩
  ·obtain⟨o,ho,r'⟩:=pl.isList;exact⟨o,hpS _ ho,r'⟩
  ·obtain rfl:=aEt rv (i:=i) (by simpa using e)
   exact aER hq
  ·obtain⟨h',g',d',t2,o'⟩:=s';obtain⟨mh,mg,md,mo,mt⟩:=mv;dsimp only at mh mg md mo;subst mg md mo;have I':Inv X aB σ H {s with heap:=h',toks:=t2 }:=I.kept λ b o e=>mh b o (λ z=>by
    have:b=s.heap.objs.size:=by simpa using z
    exact yCc _ (this▸xAa e)) (hpS _ e)
   rw[yAg,<- hl,aL1];exact⟨.bl (bs.all id),H,I',rfl,q.here R (.bl _)⟩
 ·cases e
theorem aTs(hc:X.calm=true):eQ X (.builtin "any") (kZ X pJ):=λ aB s σ H xs us Q I r aQ=>by
 obtain⟨F,L,S,ds,z,R,n,e,q⟩:=aQ;unfold pJ at e
 split at e
 ·obtain⟨bs,e1,e2⟩:=bind_some e;cases e2;obtain⟨x,rfl,nx⟩:=iT n;obtain⟨a,ys,rfl,sq,dl⟩:=nx.lst R.sub;obtain rfl:=aBf dl e1;obtain⟨u,rfl,ru⟩:=jA r;cases ru;obtain⟨aG,rv,pl,hz⟩:=I.list sq;have hh:X.A.in1.handled=qz:=I.ok.hd hc;refine call_any_walkS (jw pl.isList ?_);have hne:a≠s.heap.objs.size:=by
   obtain⟨o,ho,_⟩:=pl.isList;exact xAj (xAa ho)
  have hl:=rv.length;rw[yAf] at hl;refine⟨_,_,_,_,_,_,_,λ i=>bs.getD i false,rfl,aBi hh s.heap.objs.size a hne aG.toArray,⟨⟨_,xAd _ rfl,rfl,rfl⟩,?_⟩,λ i v s' Q' E' e hq=>?_,λ s' mv=>?_⟩
  ·obtain⟨o,ho,r'⟩:=pl.isList;exact⟨o,hpS _ ho,r'⟩
  ·obtain rfl:=aEt rv (i:=i) (by simpa using e)
   exact aER hq
  ·obtain⟨h',g',d',t2,o'⟩:=s';obtain⟨mh,mg,md,mo,mt⟩:=mv;dsimp only at mh mg md mo;subst mg md mo;have I':Inv X aB σ H {s with heap:=h',toks:=t2 }:=I.kept λ b o e=>mh b o (λ z=>by
    have:b=s.heap.objs.size:=by simpa using z
    exact yCc _ (this▸xAa e)) (hpS _ e)
   rw[yAg,<- hl,aLQ];exact⟨.bl (bs.any id),H,I',rfl,q.here R (.bl _)⟩
 ·cases e
noncomputable def aJc:D->Option D
 | .int i=>qq (.int ((yAn i:Nat):Int))
 | _=>qz
noncomputable def aDa(fa:FE):FE:=f1 fa (mJ aJc)
theorem aO9:MtR X "int.bit_length" (λ x xs H Q=>∃ i,x=.int i/\xs=[]/\Q (.int ((yAn i:Nat):Int)) H):=λ aB s σ H x xs v us Q I rx rs aQ=>by
 obtain⟨i,e1,e2,q⟩:=aQ;subst e1 e2;obtain⟨t,rfl⟩:=rx;cases rs;exact call_gives yFn (kz s i t) PySem.F.entry_int_bit_length (PySem.F.args_int_bit_length_1 _) (PySem.AutoIntG2.int_bit_length_int_0 i t) (show EP X aB σ Q _ _ from ⟨.int _,H,I.tok _,⟨_,rfl⟩,q⟩)
end
section
variable {X : Cx}{aB : List (qv×Obj)}{σ : L2.St}{H : Hp}{s : qj}{h' : Heap}
theorem sY{ch:List qv}{p:qv}{o:HO}{t':Nat}(I:Inv X aB σ H s)(hch:∀ b∈ch,gI X aB H b)(k:∀ b u,b ∉ ch->s.heap.get? b=qq u->h'.get? b=qq u)(hp:s.heap.objs.size<=p)
 (new:hU X.prog X.w (bE H p o) h' p o):Inv X aB σ (bE H p o) {s with heap:=h',toks:=t' }:=by
 have hn:=I.hok.fresh hp;have nch:∀ b u,H b=qq u->b ∉ ch:=λ b u e z=>by rw[(hch b z).1] at e;cases e
 have nep:∀ b u,s.heap.get? b=qq u->b≠p:=λ b u e z=>absurd (xAb (xAa e) hp) (by rw[z];exact yCc _)
 refine I.step (g':=s.gens) (d':=s.drawn) (ch:=ch) (λ b hb=>⟨(hch b hb).2.2.2.1,(hch b hb).2.1,(hch b hb).2.2.2.2.1,(hch b hb).2.2.2.2.2⟩) (λ b o _ _ hc e _=>k b o hc e) (λ b o _ _ hc e _=>⟨o.slots,k b o hc e⟩) (λ b o _ e n=>by rw[bM (nep b o e)];exact n)
  (λ b o hc e=>⟨o,k b o hc e⟩) (λ b xs e=>by rw[bM (eH e hn)];exact e) (λ b u v e=>by rw[bM (eH e hn)];exact e) (λ b ps e=>⟨#[],by rw[bM (eH e hn),e];simp⟩) (λ m hm=>?_) (λ b u e=>?_) I.bare
 ·obtain⟨o,es,ep,ho,r⟩:=hm;exact⟨o,es,ep,k _ o (λ z=>(hch _ z).2.1 rfl) ho,r⟩
 ·by_cases hb:b=p
  ·subst hb;rw[dE] at e;cases e;exact new
  ·rw[bM hb] at e;refine(I.hok b u e).stay (λ c v hc q=>k c v ?_ q) (λ c q=>by rw[bM (eH q hn)];exact q) λ c xs q=>by rw[bM (eH q hn)];exact q
   rcases hc with z | z
   ·rw[z];exact nch b u e
   ·exact nch c _ z
end
noncomputable def Ite(K:FrG)(a:qv):It:=
 ⟨λ i H=>∃ xs x,bW K H a xs/\xs[i]? = qq x,λ i H x H'=>∃ p y,H p=qz/\H'=bE H p (.tup [.int i,y])/\x=.ref p/\∀ xs,bW K H a xs->xs[i]? = qq y,λ i H=>∃ xs,bW K H a xs/\xs.length<=i⟩
theorem aL7{P:zq}{w:zw}{K:FrG}{elts:List qw}{k:Nat}{pos:Pos}(a e it:qv)(hei:e≠it):Turn P w K (.Tuple elts k pos) (Ite K a) [e,it] e (λ i h=>(∃ old,IsEnum h e it (i:Nat) old)/\h.IsListIter it a i) where
 mem:=xAc
 obj:=λ i h aQ b hb=>by
  obtain⟨⟨old,he⟩,⟨o,ho,hc,hd⟩⟩:=aQ;rcases List.mem_cons.mp hb with rfl | hb
  ·exact⟨_,he,λ v=>by intro z;cases z⟩
  ·rw[yBu] at hb;subst hb;exact⟨o,ho,λ v z=>by rw[hd] at z;cases z⟩
 keep:=λ i h h' ⟨⟨old,he⟩,hit⟩ q=>⟨⟨old,q e xAc _ he⟩,hit.at λ o e=>q it (by simp) o e⟩
 item:=λ X hP hW hK hc i aB s σ H E I hf aQ gU=>by
  obtain⟨⟨old,he⟩,hit⟩:=aQ;obtain⟨xs,x,hq,hx⟩:=gU;subst hP hW hK;obtain⟨aG,rv,pl,hz⟩:=I.list hq;obtain⟨u,hu,ru⟩:=rv.get hx;refine wpAny_pyNext_enum_item he hit pl.isList (by simpa using hu) hei λ h₁ heo hit₁ ht₁ hz₁ hk₁=>⟨_,rfl,?_⟩
  refine kj heo λ h₂ he₂ hs₂=>?_
  have hs2:yCu e h₁ h₂:=hs₂;have eLt:e<s.heap.objs.size:=xAa he;have iLt:it<s.heap.objs.size:=by obtain⟨o,ho,_⟩:=hit;exact xAa ho
  have ht₂:h₂.get? s.heap.objs.size=qq {cls:=.type "tuple",data:=.seq #[.int i s.toks,u] }:=hs2.extBut _ _ (yCv eLt) ht₁;have I2:Inv X aB σ (bE H s.heap.objs.size (.tup [.int i,x])) {s with heap:=h₂,toks:=s.toks+1 }:=by
   refine sY I hf (λ b o hb e'=>?_) (yAc _) ⟨by show 2<=qk;decide,[.int i s.toks,u],.cons ⟨_,rfl⟩ (.cons ru .nil),⟨_,ht₂,rfl,0,rfl⟩⟩
   have b1:b≠e:=λ z=>hb (by simp[z])
   have b2:b≠it:=λ z=>hb (by simp[z])
   exact hs2.extBut b o b1 (hk₁ b o b1 b2 e')
  refine⟨.ref s.heap.objs.size,_,I2,rfl,⟨s.heap.objs.size,x,I.fresh,rfl,rfl,λ ys hy=>by rw[I.list_inj hy hq];exact hx⟩,⟨⟨u,by have:=he₂;rw[show((i+1:Nat):Int)=(i:Int)+1 by omega];exact this⟩,hit₁.extBut hs2.extBut (Ne.symm hei)⟩,λ b hb=>?_⟩
  have:b<s.heap.objs.size:=by
   rcases List.mem_cons.mp hb with rfl | hb
   ·exact eLt
   ·rw[yBu] at hb;subst hb;exact iLt
  rw[bM (xAj this)];exact(hf b hb).1
 done:=λ X hP hW hK hc i aB s σ H E I hf aQ gU=>by
  obtain⟨⟨old,he⟩,hit⟩:=aQ;obtain⟨xs,hq,hx⟩:=gU;subst hP hW hK;obtain⟨aG,rv,pl,hz⟩:=I.list hq;refine wpAny_pyNext_enum_end (I.ok.hd hc) he hit pl.isList (by have:=rv.length;simp;omega) λ h₁ he₁=>⟨rfl,?_⟩
  obtain⟨f1,f2,f3,f4,f5,f6⟩:=hf it (by simp)
  exact I.turned (t':=s.toks) (λ b o hb e'=>he₁ b o hb e') f1 f2 f4 f5 f6
 self:=λ A i s Q E ⟨⟨old,he⟩,_⟩ hq=>yx he hq
section
variable {X : Cx}
noncomputable def iK(k:Int):List D->List D
 | []=>[]
 | d::r=>.tuple [.int k,d]::iK (k+1) r
theorem sQ:∀ (ds:List D) (k:Int),(iK k ds).length=ds.length
 | [],_=>rfl
 | _::r,k=>by simp[iK,sQ r]
theorem aBA:∀ (ds:List D) (k:Int) (i:Nat) (e:D),(iK k ds)[i]? = qq e->∃ d,ds[i]? = qq d/\e=.tuple [.int (k+i),d]
 | [],_,_,_,h=>by simp[iK] at h
 | d::r,k,0,e,h=>by simp[iK] at h;subst h;exact⟨d,rfl,by simp⟩
 | d::r,k,i+1,e,h=>by
   obtain⟨d',e1,e2⟩:=aBA r (k+1) i e (by simpa [iK] using h)
   refine⟨d',by simpa using e1,?_⟩
   rw[e2];congr 3
   push_cast
   omega
theorem aON{K:FrG}{F:Hp}{L:List qv}{a:qv}{xs:List V}{ds:List D}(sq:bW K F a xs)(dl:DenL K F ds xs):Wk K F L (Ite K a) (iK 0 ds) where
 go:=λ i H s hi=>by
  rw[sQ] at hi;exact⟨xs,xs[i]'(by rw[<- dl.length];exact hi),s.seq sq,by simp[dl.length▸hi]⟩
 stop:=λ H s=>⟨xs,s.seq sq,by rw[sQ];exact yFx dl.length.symm⟩
 yld:=λ i H F1 L1 S x H' d g R e y=>by
  obtain⟨p,y',hp,rfl,rfl,hy⟩:=y;obtain⟨d',e1,rfl⟩:=aBA ds 0 i d e;obtain⟨x',e2,dx⟩:=dl.get e1;have h:=hy xs ((g.f.trans R.sub).seq sq);rw[h] at e2;cases e2;have hF:F1 p=qz:=R.sub.free hp;refine⟨bE F1 p (.tup [.int i,y']),dB hF,R.new hp,.tup (bZ.of dE) ?_⟩;rw[Int.zero_add];exact .cons (.int _) (.cons (dx.mono (g.f.trans (dB hF))) .nil)
end
section
variable {prog : zq}{w : zw}{A : zy}{E : qx -> qj -> Prop}{s : qj}
theorem aKv{it t:qv}{i:Nat}{aO:Array qx}{x:qx}{Q:qx->qj->Prop}(hit:s.heap.IsTupleIter it t i)(ht:s.heap.IsTuple t aO)(hx:aO[i]? = qq x)
 (hQ:∀ h',h'.IsTupleIter it t (i+1)->yCu it s.heap h'->Q x {s with heap:=h' }):qy (model prog w) A (yAl (.ref it)) Q E s:=by
 obtain⟨o,ho,hc,hd⟩:=id hit;obtain⟨ol,hol,_,nl,hdl⟩:=ht;unfold yAl;refine wB (wpAny_callSpecial?_slot (name:=Str.ofString "__next__") hit.typeIs F.slot_tuple_iterator_next (zo F.slot_tuple_iterator_next hit.typeIs F.entry_tuple_iterator_next ?_ (F.args_tuple_iterator_next_1 _)));show qy _ _ (field (.ref it) 0 >>= _) _ _ s;refine wB (qu ho hd (x:=.ref t) rfl ?_);show qy _ _ (if (Value.ref t==Value.none)=true then _ else _) _ _ s
 rw[if_neg (show ¬ ((Value.ref t==Value.none)=true) from yBf)]
 show qy _ _ (field (.ref it) 1 >>= _) _ _ s;refine wB (qu ho hd (x:=.int i 0) rfl ?_);show qy _ _ (seqItems? (.ref t) >>= _) _ _ s;refine wB (zx hol hdl ?_);simp only[yAq,hx];refine wB (wpAny_setField ho hd (by simp) (wP ⟨x,rfl,wP (hQ _ ⟨_,yCm _ ho (Obj.isFreed_of_fields (Obj.data_mapFields hd _)),(Obj.cls_mapFields ..).trans hc,?_⟩ (Heap.SameBut.update ..))⟩))
 rw[Obj.data_mapFields hd];simp[jy]
theorem aEj{it t:qv}{i:Nat}{aO:Array qx}{Q:qx->qj->Prop}(hh:A.handled=qz)(hit:s.heap.IsTupleIter it t i)(ht:s.heap.IsTuple t aO)(hx:aO[i]? = qz)
 (hE:∀ h' e,Heap.ExtBut it s.heap h'->(∃ o,h'.get? e=qq o/\o.cls=.type "StopIteration")->E (.ref e) {s with heap:=h' }):qy (model prog w) A (yAl (.ref it)) Q E s:=by
 obtain⟨o,ho,hc,hd⟩:=id hit;obtain⟨ol,hol,_,nl,hdl⟩:=ht;unfold yAl;refine wB (wpAny_callSpecial?_slot (name:=Str.ofString "__next__") hit.typeIs F.slot_tuple_iterator_next (zo F.slot_tuple_iterator_next hit.typeIs F.entry_tuple_iterator_next ?_ (F.args_tuple_iterator_next_1 _)));show qy _ _ (field (.ref it) 0 >>= _) _ _ s;refine wB (qu ho hd (x:=.ref t) rfl ?_);show qy _ _ (if (Value.ref t==Value.none)=true then _ else _) _ _ s
 rw[if_neg (show ¬ ((Value.ref t==Value.none)=true) from yBf)]
 show qy _ _ (field (.ref it) 1 >>= _) _ _ s;refine wB (qu ho hd (x:=.int i 0) rfl ?_);show qy _ _ (seqItems? (.ref t) >>= _) _ _ s;refine wB (zx hol hdl ?_);simp only[yAq,hx];refine wB (vq (wB (wpAny_setField ho hd (by simp) ?_)))
 show qy _ _ (newExc (.type "StopIteration") [] >>= _) _ _ _;refine wB ?_;simp only[newExc,newTuple];refine wB (xw (wB (m:=firstArgMember _ _) (yw (a:=Value.none) (by first | rfl | (simp only[firstArgMember];rfl)) (xw ?_ (by size_fits)))) (by size_fits))
 simp only[raiseNew];refine wB (wpAny_handled ?_)
 first | rw[show A.in1.handled=qz from hh] | rw[hh]
 exact wB (wP (wpAny_throw (hE _ _ (((Heap.SameBut.update ..).extBut.push _).push _) ⟨_,xAd _ rfl,rfl⟩)))
theorem aKj{e it t:qv}{i:Nat}{aO:Array qx}{old:qx}{Q:Option qx->qj->Prop}(hh:A.in1.handled=qz)
 (he:IsEnum s.heap e it i old) (hit:s.heap.IsTupleIter it t i) (ht:s.heap.IsTuple t aO) (hx:aO[i]? = qz)
 (hQ:∀ h',Heap.ExtBut it s.heap h'->Q qz {s with heap:=h' }):qy (model prog w) A (jk (.ref e)) Q E s:=by
 have hT:s.TypeIs (.ref e) "enumerate":=⟨_,he,rfl⟩;unfold jk;refine wB (vx (wpAny_callSpecial?_slot (name:=Str.ofString "__next__") hT F.slot_enumerate_next (zo F.slot_enumerate_next hT F.entry_enumerate_next ?_ (F.args_enumerate_next_1 _))));show qy _ _ (field (.ref e) 2 >>= _) _ _ _;refine wB (qu he rfl (x:=.ref it) rfl (wB (aEj hh hit ht hx λ h' x he' hx'=>?_)))
 obtain⟨o,ho,hc⟩:=hx';exact wB (yv (T:="StopIteration") (b:=true) ⟨o,ho,hc⟩ kx (wP (hQ _ he')))
theorem aFK(hh:A.handled=qz)(it t:qv)(hne:t≠it)(aO:Array qx):Draws prog w A it [it,t] aO.size (λ i v=>aO[i]? = qq v) (λ i h=>h.IsTupleIter it t i/\h.IsTuple t aO) where
 live:=λ _ _ st=>let ⟨o,ho,_⟩:=st.1;⟨o,ho⟩
 frame:=λ _ _ _ st hk=>⟨st.1.at λ o e=>hk it (by simp) o e,let ⟨u,hu,r⟩:=st.2;⟨u,hk t (by simp) u hu,r⟩⟩
 item:=λ i s Q E hi st hQ=>aKv st.1 st.2 (x:=aO[i]) (by simp[hi]) λ h' hit' hs'=>hQ _ h' s.toks (by simp[hi]) ⟨hit',let ⟨u,hu,r⟩:=st.2;⟨u,hs'.extBut t u hne hu,r⟩⟩ hs'
 done:=λ s Q E st hE=>aEj hh st.1 st.2 (by simp) hE
theorem aLW(l:qv)(aO:Array qx)(n:Nat)(dct:Option qv)(sl:Array (Option qx)) :
 Meets (Builtin.«enumerate.__new__» ⟨[.type "enumerate",.ref l],[]⟩) (λ _ R s=>s.heap.get? l=qq {cls:=.type "tuple",dict:=dct,data:=.seq aO n,slots:=sl } /\
  R (.ok (.ret (.ref (s.heap.push {cls:=.type "tuple_iterator",data:=.fields #[.ref l,.int 0 0] }).objs.size)))
   {s with heap:=(s.heap.push {cls:=.type "tuple_iterator",data:=.fields #[.ref l,.int 0 0] }).push {cls:=.type "enumerate",data:=.fields #[.none,.bool false,.ref s.heap.objs.size,jy 0,.none,.none] } }):=
 .of_wp λ prog w A R s h=>by
  obtain⟨hp,g,d,tk,os⟩:=s;obtain⟨hl,h⟩:=h;have hsub:=sub_enumerate;have hL:Heap.IsTuple (Shared.heap ⟨hp,g,d,tk,os⟩) l aO:=⟨_,hl,rfl,n,rfl⟩
  wp_walk using AutoSeq1.wpAny_loadPart' hl
  refine wpAny_stack_any λ st=>wP ?_
  split
  ·rename_i c _ _ _ _ _;cases (c==Value.type "enumerate")
   ·wp_walk using AutoSeq1.wpAny_loadPart' hl,jo hL
    exact⟨_,rfl,h⟩
   ·wp_walk using AutoSeq1.wpAny_loadPart' hl,jo hL
    exact⟨_,rfl,h⟩
  ·wp_walk using AutoSeq1.wpAny_loadPart' hl,jo hL
   exact⟨_,rfl,h⟩
theorem aLt{l:qv}{aO:Array qx}{Q:qx->qj->Prop}(hL:s.heap.IsTuple l aO)
 (h:∀ h',IsEnum h' (s.heap.objs.size+1) s.heap.objs.size 0 .none->h'.IsTupleIter s.heap.objs.size l 0->h'.objs.size=s.heap.objs.size+2 ->
   (∀ b o,s.heap.get? b=qq o->h'.get? b=qq o)->Q (.ref (s.heap.objs.size+1)) {s with heap:=h' }) :
 qy (model prog w) A (call (.type "enumerate") [.ref l]) Q E s:=by
 obtain⟨⟨c,dct,dt,sl⟩,hl,hc,n,hd⟩:=hL
 replace hc:c=.type "tuple":=hc
 replace hd:dt=.seq aO n:=hd
 subst hc hd;refine callType_new F.called_enumerate (by decide) (F.typeCall_enumerate_1 _) (F.newCall_enumerate_1 _) (λ obj=>F.args_object_init_2 obj _) F.entry_enumerate_new (aLW l aO n dct sl) ⟨hl,?_⟩
 have hz:(s.heap.push {cls:=.type "tuple_iterator",data:=.fields #[.ref l,.int 0 0] }).objs.size=s.heap.objs.size+1:=yBi ..;show _/\_;rw[hz];have he:IsEnum ((s.heap.push {cls:=.type "tuple_iterator",data:=.fields #[.ref l,.int 0 0] }).push {cls:=.type "enumerate",data:=.fields #[.none,.bool false,.ref s.heap.objs.size,jy 0,.none,.none] }) (s.heap.objs.size+1) s.heap.objs.size 0 .none:=by
  have:=xAd (s.heap.push {cls:=.type "tuple_iterator",data:=.fields #[.ref l,.int 0 0] }) (o:={cls:=.type "enumerate",data:=.fields #[.none,.bool false,.ref s.heap.objs.size,jy 0,.none,.none] }) rfl;rw[hz] at this;exact this
 exact⟨⟨_,he,rfl⟩,h _ he ⟨_,hpS _ (xAd _ rfl),rfl,rfl⟩ (by rw[yBi,hz]) λ b o x=>hpS _ (hpS _ x)⟩
end
noncomputable def aDu(K:FrG)(a:qv):It:=
 ⟨λ i H=>∃ xs x,bZ K H a xs/\xs[i]? = qq x,λ i H x H'=>∃ p y,H p=qz/\H'=bE H p (.tup [.int i,y])/\x=.ref p/\∀ xs,bZ K H a xs->xs[i]? = qq y,λ i H=>∃ xs,bZ K H a xs/\xs.length<=i⟩
theorem aLx{P:zq}{w:zw}{K:FrG}{elts:List qw}{k:Nat}{pos:Pos}(a e it:qv)(hei:e≠it)(hea:e≠a)(hai:a≠it):Turn P w K (.Tuple elts k pos) (aDu K a) [e,it] e (λ i h=>(∃ old,IsEnum h e it (i:Nat) old)/\h.IsTupleIter it a i) where
 mem:=xAc
 obj:=λ i h aQ b hb=>by
  obtain⟨⟨old,he⟩,⟨o,ho,hc,hd⟩⟩:=aQ;rcases List.mem_cons.mp hb with rfl | hb
  ·exact⟨_,he,λ v=>by intro z;cases z⟩
  ·rw[yBu] at hb;subst hb;exact⟨o,ho,λ v z=>by rw[hd] at z;cases z⟩
 keep:=λ i h h' ⟨⟨old,he⟩,hit⟩ q=>⟨⟨old,q e xAc _ he⟩,hit.at λ o e=>q it (by simp) o e⟩
 item:=λ X hP hW hK hc i aB s σ H E I hf aQ gU=>by
  obtain⟨⟨old,he⟩,hit⟩:=aQ;obtain⟨xs,x,hq,hx⟩:=gU;subst hP hW hK;obtain⟨aG,rv,pl,hz⟩:=I.tuple hq;obtain⟨u,hu,ru⟩:=rv.get hx;have hlt:i<aG.toArray.size:=by
   rw[yAg];exact(gIm hu).1
  have hh:X.A.in1.handled=qz:=I.ok.hd hc;refine wpAny_pyNext_enum_itemD (aFK (prog:=X.prog) (w:=X.w) hh it a hai aG.toArray) he ⟨hit,pl⟩ hlt hei (by simp[hei,hea]) λ x' h₁ tk hP heo hit₁ ht₁ hz₁ hk₁=>⟨_,rfl,?_⟩
  have:x'=u:=by
   rw[yBq,hu] at hP;exact(Option.some.inj hP).symm
  subst this;refine kj heo λ h₂ he₂ hs₂=>?_
  have hs2:yCu e h₁ h₂:=hs₂;have eLt:e<s.heap.objs.size:=xAa he;have iLt:it<s.heap.objs.size:=by obtain⟨o,ho,_⟩:=hit;exact xAa ho
  have ht₂:h₂.get? s.heap.objs.size=qq {cls:=.type "tuple",data:=.seq #[.int i tk,x'] }:=hs2.extBut _ _ (yCv eLt) ht₁;have I2:Inv X aB σ (bE H s.heap.objs.size (.tup [.int i,x])) {s with heap:=h₂,toks:=tk+1 }:=by
   refine sY I hf (λ b o hb e'=>?_) (yAc _) ⟨by show 2<=qk;decide,[.int i tk,x'],.cons ⟨_,rfl⟩ (.cons ru .nil),⟨_,ht₂,rfl,0,rfl⟩⟩
   have b1:b≠e:=λ z=>hb (by simp[z])
   have b2:b≠it:=λ z=>hb (by simp[z])
   exact hs2.extBut b o b1 (hk₁ b o b1 b2 e')
  refine⟨.ref s.heap.objs.size,_,I2,rfl,⟨s.heap.objs.size,x,I.fresh,rfl,rfl,λ ys hy=>by rw[I.tuple_inj hy hq];exact hx⟩,⟨⟨x',by have:=he₂;rw[show((i+1:Nat):Int)=(i:Int)+1 by omega];exact this⟩,?_⟩,λ b hb=>?_⟩
  ·obtain⟨o,ho,r⟩:=hit₁.1;exact⟨o,hs2.extBut it o (Ne.symm hei) ho,r⟩
  ·have:b<s.heap.objs.size:=by
    rcases List.mem_cons.mp hb with rfl | hb
    ·exact eLt
    ·rw[yBu] at hb;subst hb;exact iLt
   rw[bM (xAj this)];exact(hf b hb).1
 done:=λ X hP hW hK hc i aB s σ H E I hf aQ gU=>by
  obtain⟨⟨old,he⟩,hit⟩:=aQ;obtain⟨xs,hq,hx⟩:=gU;subst hP hW hK;obtain⟨aG,rv,pl,hz⟩:=I.tuple hq;have hh:X.A.in1.handled=qz:=I.ok.hd hc;have hl:=rv.length;refine aKj hh he hit pl (by simp;omega) λ h₁ he₁=>⟨rfl,?_⟩
  obtain⟨f1,f2,f3,f4,f5,f6⟩:=hf it (by simp)
  exact I.turned (t':=s.toks) (λ b o hb e'=>he₁ b o hb e') f1 f2 f4 f5 f6
 self:=λ A i s Q E ⟨⟨old,he⟩,_⟩ hq=>yx he hq
section
variable {X : Cx}
noncomputable def aHG(K:FrG)(ta:TA):TI:=λ σ H R=>ta σ H λ vs H1=>∃ a,vs=[.ref a]/\(((∃ xs,bW K H1 a xs)/\R (Ite K a) H1)\/((∃ xs,bZ K H1 a xs)/\R (aDu K a) H1))
theorem aNL{elts:List qw}{k:Nat}{pp:Pos}{a:qw}{ta:TA}{p pos:Pos}(hg:Gl X "enumerate")(hm:X.mg "enumerate" = qz)(ha:PA X [a] ta)(hs:qo [a] X.env=[(false,eval a X.env)]):PI X (.Tuple elts k pp) (.Call (.Name "enumerate" p) [a] [] pos) (aHG X.K ta):=by
 intro aB s σ H R I h;refine Call_ (jN I hg hm boot_enumerate (yAv (bD (ha pos aB s σ H _ I h) λ us s1 hPq38=>?_) hs rfl))
 obtain⟨vs,H1,I1,r1,q1⟩:=hPq38;obtain⟨l,rfl,q1⟩:=q1;obtain⟨u,rfl,ru⟩:=jA r1;cases ru;have hb':∀ b∈[s1.heap.objs.size+1,s1.heap.objs.size],s1.heap.objs.size<=b:=λ b hb=>by
  rcases List.mem_cons.mp hb with rfl | hb
  ·exact Nat.le_succ _
  ·rw[yBu] at hb;rw[hb];exact yAc _
 rcases q1 with ⟨⟨xs,sq⟩,q⟩ | ⟨⟨xs,sq⟩,q⟩
 ·obtain⟨aG,rv,pl,hz⟩:=I1.list sq;refine call_enumerate_list pl.isList λ h' he hit hsz hk=>yx he ?_
  have I2:Inv X aB σ H1 {s1 with heap:=h' }:=I1.kept (t':=s1.toks) hk
  exact⟨s1.heap.objs.size+1,[s1.heap.objs.size+1,s1.heap.objs.size],_,_,H1,rfl,I2,aL7 l _ _ (Nat.succ_ne_self _),⟨⟨_,he⟩,hit⟩,λ b hb=>I1.fpOk (hb' b hb) (I1.hok.fresh (hb' b hb)),q⟩
 ·obtain⟨aG,rv,pl,hz⟩:=I1.tuple sq;have hlt:l<s1.heap.objs.size:=by obtain⟨o,ho,_⟩:=pl;exact xAa ho
  refine aLt pl λ h' he hit hsz hk=>yx he ?_
  have I2:Inv X aB σ H1 {s1 with heap:=h' }:=I1.kept (t':=s1.toks) hk
  exact⟨s1.heap.objs.size+1,[s1.heap.objs.size+1,s1.heap.objs.size],_,_,H1,rfl,I2,aLx l _ _ (Nat.succ_ne_self _) (yCv (yCz hlt)) (xAj hlt),⟨⟨_,he⟩,hit⟩,λ b hb=>I1.fpOk (hb' b hb) (I1.hok.fresh (hb' b hb)),q⟩
theorem aNg{K:FrG}{F:Hp}{L:List qv}{a:qv}{xs:List V}{ds:List D}(sq:bZ K F a xs)(dl:DenL K F ds xs):Wk K F L (aDu K a) (iK 0 ds) where
 go:=λ i H s hi=>by
  rw[sQ] at hi;exact⟨xs,xs[i]'(by rw[<- dl.length];exact hi),iL s sq,by simp[dl.length▸hi]⟩
 stop:=λ H s=>⟨xs,iL s sq,by rw[sQ];exact yFx dl.length.symm⟩
 yld:=λ i H F1 L1 S x H' d g R e y=>by
  obtain⟨p,y',hp,rfl,rfl,hy⟩:=y;obtain⟨d',e1,rfl⟩:=aBA ds 0 i d e;obtain⟨x',e2,dx⟩:=dl.get e1;have h:=hy xs (iL (g.f.trans R.sub) sq);rw[h] at e2;cases e2;have hF:F1 p=qz:=R.sub.free hp;refine⟨bE F1 p (.tup [.int i,y']),dB hF,R.new hp,.tup (bZ.of dE) ?_⟩;rw[Int.zero_add];exact .cons (.int _) (.cons (dx.mono (g.f.trans (dB hF))) .nil)
noncomputable def uH(fa:FE):FL:=λ env S=>(fa env S).bind λ p=>match p.1 with
 | .d (.list ds)=>qq (iK 0 ds,p.2)
 | .d (.tuple ds)=>qq (iK 0 ds,p.2)
 | _=>qz
theorem aO6{K:FrG}{fa:FE}(σ:St)(H:Hp)(Rr:It->Hp->Prop)(h:iC K (uH fa) σ H Rr):aHG K (fW K (dH fa hZ)) σ H Rr:=by
 obtain⟨F,L,S,env,ds,S',R,E,e,q⟩:=h;obtain⟨⟨w,S1⟩,e1,e2⟩:=bind_some e;dsimp only at e2
 split at e2
 ·rename_i ds';cases e2;refine⟨F,L,S,env,[.d (.list ds')],_,R,E,by unfold dH;rw[e1];rfl,λ F1 L1 H1 vs g1 R1 d1=>?_⟩
  cases d1 with
  | cons dd dr =>
    cases dr;cases (show Den K F1 (.list ds') _ from dd) with
    | lst sq dl=>exact⟨_,rfl,.inl ⟨⟨_,R1.sub.seq sq⟩,q F1 L1 H1 _ g1 R1 (aON sq dl)⟩⟩
 ·rename_i ds';cases e2;refine⟨F,L,S,env,[.d (.tuple ds')],_,R,E,by unfold dH;rw[e1];rfl,λ F1 L1 H1 vs g1 R1 d1=>?_⟩
  cases d1 with
  | cons dd dr =>
    cases dr;cases (show Den K F1 (.tuple ds') _ from dd) with
    | tup sq dl=>exact⟨_,rfl,.inr ⟨⟨_,iL R1.sub sq⟩,q F1 L1 H1 _ g1 R1 (aNg sq dl)⟩⟩
 ·cases e2
end
inductive Tv where
 | int (i:Int) | str (x:Str) | bool (b:Bool)
 deriving DecidableEq
noncomputable def Tv.d:Tv->D
 | .int i=>.int i | .str x=>.str x | .bool b=>.bool b
noncomputable def Tv.v:Tv->V
 | .int i=>.int i | .str x=>.str x | .bool b=>.bl b
theorem Tv.den{K:FrG}{F:Hp}(t:Tv):Den K F t.d t.v:=by
 cases t
 ·exact .int _
 ·exact .str _
 ·exact .bl _
noncomputable def rG(w:zw):List DictEntry->List (Str×Tv)->Prop
 | [],[]=>True
 | e::r,(x,v)::aX=>e.hash=hashStr w x/\(∃ t,e.key=.str x t)/\bC v.v e.val/\rG w r aX
 | _,_=>False
def uW(K:FrG)(w:zw)(a:qv)(aX:List (Str×Tv)):Prop:=∃ es ep,K.lookup a=qq {cls:=.type "dict",data:=.dict es ep }/\rG w es.toList aX
noncomputable def aAD(aX:List (Str×Tv)):D->Option D
 | .str x=>(aX.lookup x).map Tv.d
 | _=>qz
theorem aFT{P:zq}{w:zw}:∀ {l:List DictEntry}{aX:List (Str×Tv)},rG w l aX->∀ e∈l,∃ k,(mZ P w).is k e.key=true/\e.hash=(mZ P w).hash k
 | [],[],_,e,h=>by cases h
 | e::r,(x,v)::aX,ok,e',h=>by
   obtain⟨h1,⟨t,h2⟩,_,h4⟩:=ok;rcases List.mem_cons.mp h with rfl | h
   ·exact⟨.inr x,by rw[h2];exact aFm x t,h1⟩
   ·exact aFT h4 e' h
 | [],_::_,ok,_,_=>ok.elim
 | _::_,[],ok,_,_=>ok.elim
theorem aNu(x y:Str)(t:Tok):pB (.inr x) (.str y t)=(x==y):=by
 have h:(y==x)=(x==y):=by
  rw[yEc];constructor<;>intro z<;>simp at z ⊢ <;> exact z.symm
 simp[pB,Value.isStrOf,h]
theorem aF6{w:zw}{k:Str}{v:Tv}:∀ {l:List DictEntry}{aX:List (Str×Tv)},rG w l aX->aX.lookup k=qq v->∃ u,(l.find? λ e=>pB (.inr k) e.key).map (·.val)=qq u/\bC v.v u
 | [],[],_,h=>by cases h
 | e::r,(x,v')::aX,ok,h=>by
   obtain⟨h1,⟨t,h2⟩,h3,h4⟩:=ok;rw[yCa] at h;rw[List.find?_cons,h2,aNu];cases q:k==x with
   | true =>
     rw[q] at h;cases h;exact⟨e.val,rfl,h3⟩
   | false =>
     rw[q] at h;exact aF6 h4 h
 | [],_::_,ok,_=>ok.elim
 | _::_,[],ok,_=>ok.elim
section
variable {X : Cx}
theorem aRO{aX:List (Str×Tv)}:sJ X (λ x y H Q=>∃ a k v,x=.ref a/\uW X.K X.w a aX/\y=.str k/\aX.lookup k=qq v/\Q v.v H):=by
 intro value lA aB s σ H x y v u Q I rx ry h hs;obtain⟨a,k,tv,rfl,⟨es,ep,hl,ok⟩,rfl,hv,q⟩:=h;cases rx;obtain⟨t,rfl⟩:=ry;obtain⟨z,e1,e2⟩:=aF6 ok hv;have hm:s.heap.MapOf (mZ X.prog X.w) a (λ k=>findBy (mZ X.prog X.w).is es k):=⟨_,es,ep,I.kIn a _ hl,⟨rfl,rfl,rfl⟩,rfl,λ e he=>aFT ok e (by simpa using he),λ _=>rfl⟩
 have hz:findBy (mZ X.prog X.w).is es (.inr k)=qq z:=by
  unfold findBy;rw[<- Array.find?_toList];exact e1
 exact tail_any hm.typeIs PySem.F.slot_dict_getitem.lookup (wpAny_getItem_of (aFm k t) hm hz ⟨_,H,I.tok _,e2,q⟩) hs
theorem aSO{x:Str}{k:qw}{fk:FE}{p pos:Pos}{aX:List (Str×Tv)}(hg:Gl X x)(hd:(x==("__debug__" : Str))=false)(ht:∃ a,X.mg x=qq (.ref a)/\uW X.K X.w a aX)(hk:PE X k (aY X.K fk))(hs:zA k) :
 PE X (.Subscript (.Name x p) k pos) (aY X.K (f1 fk (mJ (aAD aX)))):=by
 obtain⟨a,hm,ta⟩:=ht;refine PE.weak (aJb (aRO (aX:=aX)) (aHd (v:=.ref a) hg hm rfl hd) hk hs) λ σ H Q hPq39=>?_
 obtain⟨F,L,S,env,w,S',R,E,e,q⟩:=hPq39;obtain⟨⟨w1,S1⟩,e1,e2⟩:=bind_some e;obtain⟨d,z,e3,e4,rfl,rfl⟩:=aBR e2;cases d with
 | str y =>
   obtain⟨v,hv,rfl⟩:=Option.map_eq_some_iff.mp (show(aX.lookup y).map Tv.d=qq z from e4)
   refine⟨F,L,S,env,w1,_,R,E,e1,λ F1 L1 H1 u g1 R1 d1=>⟨a,y,v,rfl,ta,(kK R1 d1 e3).str,hv,?_⟩⟩
   exact q F1 L1 H1 v.v g1 R1 (show Den X.K F1 v.d v.v from v.den)
 | _=>cases e4
end
section
variable {prog : zq}{w : zw}{A : zy}{s : qj}{R : Result -> qj -> Prop}{J : qv}{fp wr : List qv}{Gg : Array GenState -> Array GenState -> Prop}{m : Nat}{P : Nat -> qx -> Prop}{St : Nat -> qj -> Prop}
end
section
variable {prog : zq}{w : zw}{A : zy}{E : qx -> qj -> Prop}{s : qj}{J : qv}{fp wr : List qv}{Gg : Array GenState -> Array GenState -> Prop}{m : Nat}{P : Nat -> qx -> Prop}{St : Nat -> qj -> Prop}
end
section
variable {X : Cx}
end
noncomputable def aAe:List qx->List Tv->Prop
 | [],[]=>True
 | u::us,t::ts=>bC t.v u/\aAe us ts
 | _,_=>False
theorem aFW:∀ {us:List qx}{ts:List Tv},aAe us ts->aZ (ts.map Tv.v) us
 | [],[],_=>.nil
 | _::_,_::_,⟨h1,h2⟩=>.cons h1 (aFW h2)
 | [],_::_,h=>h.elim
 | _::_,[],h=>h.elim
theorem aGw{K:FrG}{F:Hp}:∀ ts:List Tv,DenL K F (ts.map Tv.d) (ts.map Tv.v)
 | []=>.nil
 | t::ts=>.cons t.den (aGw ts)
def qX(K:FrG)(a:qv)(ts:List Tv):Prop:=∃ (o:Obj) (aG:Array qx) (n:Nat),K.lookup a=qq o/\o.cls=.type "tuple" /\ o.data=.seq aG n/\aG.size<=qk/\aAe aG.toList ts
theorem aOh{K:FrG}{F:Hp}{a:qv}{ts:List Tv}(h:qX K a ts):Den K F (.tuple (ts.map Tv.d)) (.ref a):=by
 obtain⟨o,aG,n,h1,h2,h3,h4,h5⟩:=h;exact .tup (.inr ⟨o,aG,n,h1,h2,h3,h4,aFW h5⟩) (aGw ts)
section
variable {X : Cx}
theorem aTO{x:Str}{p:Pos}{ts:List Tv}(hg:Gl X x)(hd:(x==("__debug__" : Str))=false)(ht:∃ a,X.mg x=qq (.ref a)/\qX X.K a ts):PE X (.Name x p) (aY X.K (fC (.tuple (ts.map Tv.d)))):=by
 obtain⟨a,hm,ca⟩:=ht;refine PE.weak (aHd (v:=.ref a) hg hm rfl hd) λ σ H Q hPq40=>?_
 obtain⟨F,L,S,env,w,S',R,E,e,q⟩:=hPq40;cases e;exact q F L H _ Gr.refl R (aOh ca)
noncomputable def aP1(op op':vk)(fa fb fc:FE):FE:=λ env S=>(fa env S).bind λ p=>(fb env p.2).bind λ q=>(gS (bH op) q.2 p.1 q.1).bind λ r=>match r.1 with
 | .d (.bool true)=>(fc env r.2).bind λ t=>gS (bH op') t.2 q.1 t.1
 | .d (.bool false)=>qq (.d (.bool false),r.2)
 | _=>qz
theorem aKk{prog:zq}{w:zw}{A:zy}{E:qx->qj->Prop}{s:qj}{t sl:qv}{aO:Array qx}{vl vu:qx}{lo hi:Option Int}{Q:qx->qj->Prop}(ht:IsTup s.heap t aO)(hs:s.heap.IsSliceOf sl vl vu .none)(pl:IsPart vl lo)(pu:IsPart vu hi)
 (hw:HT.sIx aO.size 0 lo=0/\HT.sIx aO.size aO.size hi=aO.size) (h:Q (.ref t) s):qy (model prog w) A (getItem (.ref t) (.ref sl)) Q E s:=by
 obtain⟨os,hos,hcs,hds⟩:=id hs;have hTs:s.TypeIs (.ref sl) "slice":=⟨os,hos,hcs⟩;unfold getItem
 try with_reducible refine zu ?_
 first | refine wB (wP ?_) | skip
 refine wB (wpAny_sequenceKey ht.typeIs (by decide) ?_)
 refine wB (wpAny_callSpecial?_slot (name:=Str.ofString "__getitem__") ht.typeIs yCf
  (zo yCf ht.typeIs entry_tuple_getitem ?_ (args_tuple_getitem _ _)))
 show qy _ _ (yFs (.ref t) >>= _) _ _ s;refine wB (tupleItemsOf_ ht ?_);refine wB (wpAny_typeOf hTs ?_);rw[if_pos (by decide)]
 refine wB (HT.sliceApplied_gen hs pl pu ?_);have hyes:(((HT.sIx aO.size 0 lo:Nat):Int)==0&&(1:Int)==1&&(HT.sIx aO.size aO.size hi-HT.sIx aO.size 0 lo)==aO.size)=true:=by
  rw[hw.1,hw.2];simp
 show qy _ _ (if (((HT.sIx aO.size 0 lo:Nat):Int)==0&&(1:Int)==1&&(HT.sIx aO.size aO.size hi-HT.sIx aO.size 0 lo)==aO.size)=true then _ else _) _ _ s
 rw[if_pos hyes];unfold Builtin.Tuple.tupleIsExact;refine wB (wB (wpAny_typeOf ht.typeIs (wP ?_)));rw[if_pos (by decide)]
 first
  | exact wB (vq (wP ⟨_,rfl,wP h⟩))
  | exact wB (vq (wB (wP (wP ⟨_,rfl,wP h⟩))))
  | exact wB (vq (wP ⟨_,rfl,h⟩))
noncomputable def aSJ(K:FrG):V->Option Int->Option Int->Hp->VK->Prop:=λ x lo hi H Q=>∃ a xs,x=.ref a/\bZ K H a xs /\
 (((HT.sIx xs.length 0 lo=0/\HT.sIx xs.length xs.length hi=xs.length)/\Q (.ref a) H)\/(¬ (HT.sIx xs.length 0 lo=0/\HT.sIx xs.length xs.length hi=xs.length)/\∀ p,H p=qz->Q (.ref p) (bE H p (.tup (lZ xs lo hi)))))
theorem aOs:SlR X (aSJ X.K):=by
 intro aB s σ H x v vl vu lo hi sl Q I rx hs pl pu h;obtain⟨a,xs,rfl,hx,⟨hw,q⟩ | ⟨hw,q⟩⟩:=h
 ·cases rx;obtain⟨aG,r,ht,hz⟩:=I.tuple hx;have cT:aG.toArray.size=xs.length:=by rw[yAg];exact r.length.symm
  refine⟨"tuple",_,PyProof.Rows.slot_tuple_getitem.lookup,ht.typeIs,?_⟩;exact aKk ht hs pl pu (by rw[cT];exact hw) ⟨.ref a,H,I,rfl,q⟩
 ·exact aQq aB s σ H _ v vl vu lo hi sl Q I rx hs pl pu ⟨a,xs,rfl,hx,hw,q⟩
noncomputable def aJZ:D->Option Int->Option Int->Option D
 | .tuple xs,lo,hi=>qq (.tuple (iA xs lo hi))
 | _,_,_=>qz
noncomputable def aIB(fa:FE)(fl fh:FO):FE:=λ env S=>(fa env S).bind λ p=>(fl env p.2).bind λ q=>(fh env q.2).bind λ r=>(dr r.2 p.1).bind λ d=>(aJZ d q.1 r.1).bind λ z=>qq (.d z,r.2)
theorem aQz{a:qw}{lo hi:Option qw}{p2 pos:Pos}{fa:FE}{fl fh:FO}(ha:PE X a (aY X.K fa))(hl:PO X lo (kS X.K fl))(hh:PO X hi (kS X.K fh)):PE X (.Subscript a (.Slice lo hi qz p2) pos) (aY X.K (aIB fa fl fh)):=
 PE.weak (aF3 aOs ha hl hh) λ σ H Q aQ=>by
  obtain⟨F,L,S,env,ds,S',R,E,e,q⟩:=aQ;obtain⟨⟨w,S1⟩,e1,e⟩:=bind_some e;obtain⟨⟨l,S2⟩,e2,e⟩:=bind_some e;obtain⟨⟨h,S3⟩,e3,e⟩:=bind_some e;obtain⟨d,e4,e⟩:=bind_some e;obtain⟨z,e5,e⟩:=bind_some e;cases e;refine⟨F,L,S,env,w,S1,R,E,e1,λ F1 L1 H1 v g1 R1 d1=>⟨F1,L1,S1,env,l,S2,R1,E.mono g1,e2,λ F2 L2 H2 g2 R2=>⟨F2,L2,S2,env,h,S3,R2,E.mono (g1.trans g2),e3,λ F3 L3 H3 g3 R3=>?_⟩⟩⟩
  have n:=kK R3 (d1.mono (g2.trans g3)) e4;cases d with
  | tuple xs =>
    cases e5;obtain⟨a,vs,rfl,sq,dl⟩:=n.tup R3.sub;refine⟨a,vs,rfl,sq,?_⟩
    by_cases hw:HT.sIx vs.length 0 l=0/\HT.sIx vs.length vs.length h=vs.length
    ·refine .inl ⟨hw,q F3 L3 H3 _ ((g1.trans g2).trans g3) R3 ?_⟩;have ec:iA xs l h=xs:=by
      unfold iA;rw[dl.length,hw.1,hw.2,yFe,Nat.sub_zero,<- dl.length,yAi]
     rw[ec];rcases n with n | ⟨_,_,_,z,_⟩
     ·exact n
     ·cases z
    ·exact .inr ⟨hw,λ p hp=>q _ L3 _ _ (((g1.trans g2).trans g3).trans (Gr.new (R3.sub.free hp))) (R3.new hp) (Den.tup (bZ.of dE) ((aHv dl l h).mono (dB (R3.sub.free hp))))⟩
  | _=>cases e5
noncomputable def aTZ(X:Cx):R2:=λ x y H Q=>∃ a k xs,x=.ref a/\y=.int k/\bW X.K H a xs /\ -(2^63)<=k/\k<2^63/\xs.length*k.toNat<=qk/\∀ p,H p=qz->Q (.ref p) (bE H p (.lst (yAb k.toNat xs).flatten))
noncomputable def wC(fa fb:FE):FL:=λ env S=>(fa env S).bind λ p=>(fb env p.2).bind λ q=>(dr q.2 p.1).bind λ d=>match d,q.1 with
 | .list xs,.d (.int k)=>if k<2^63 /\ -(2^63)<=k/\xs.length*k.toNat<=qk then qq (wD k.toNat xs,q.2) else qz
 | _,_=>qz
theorem aTt{a b:qw}{pos:Pos}{fa fb:FE}(ha:PE X a (aY X.K fa))(hb:PE X b (aY X.K fb)):PE X (.BinOp a .Mult b pos) (iU X.K (wC fa fb)):=by
 refine PE.weak (aIM (r:=aTZ X) (λ aB s σ H x y v u Q I rx ry ⟨a,k,xs,hx,hy,sq,h1,h2,hz,q⟩=>?_) ha hb) λ σ H Q ⟨F,L,S,env,ds,S',R,E,e,q⟩=>?_
 ·subst hx hy;cases rx;obtain⟨t,rfl⟩:=ry;exact aJR I sq h1 h2 hz q
 ·obtain⟨⟨w1,S1⟩,e1,e⟩:=bind_some e;obtain⟨⟨w2,S2⟩,e2,e⟩:=bind_some e;obtain⟨d,e3,e⟩:=bind_some e;dsimp only at e e2 e3;refine⟨F,L,S,env,w1,S1,R,E,e1,λ F1 L1 H1 x g1 R1 d1=>⟨F1,L1,S1,env,w2,S2,R1,E.mono g1,e2,λ F2 L2 H2 y g2 R2 d2=>?_⟩⟩
  cases d with
  | list xs =>
    cases w2 with
    | loc n=>cases e
    | d v =>
      cases v with
      | int kk =>
        dsimp only at e
        split at e
        ·rename_i c;cases e;obtain⟨a,vs,rfl,sq,dl⟩:=(kK R2 (d1.mono g2) e3).lst R2.sub;cases (show Den X.K F2 (.int kk) y from d2)
         exact⟨a,kk,vs,rfl,rfl,sq,c.2.1,c.1,by rw[<- dl.length];exact c.2.2,λ p hp=>q F2 L2 _ p _ (g1.trans g2) (R2.lay hp) (R2.sub.free hp) (R2.notin hp) dE (dl.rep kk.toNat)⟩
        ·cases e
      | _=>cases e
  | _=>cases e
end
structure ZA(z TI TO i1 i2:qv)(cD cE:List qv):Prop where
 TIz:TI≠z
 TOz:TO≠z
 i1z:i1≠z
 i2z:i2≠z
 TITO:TI≠TO
 TIi1:TI≠i1
 TIi2:TI≠i2
 TOi1:TO≠i1
 TOi2:TO≠i2
 f1:∀ b∈cD,b≠z/\b≠TO/\b≠i2
 f2:∀ b∈cE,b≠z/\b≠TO/\b≠i1
section
variable {prog : zq}{w : zw}{A : zy}{E : qx -> qj -> Prop}{s : qj}
theorem aKy{z TI TO i1 i2:qv}{cD cE:List qv}{n1 n2 k:Nat}{P1 P2:Nat->qx->Prop}{bJ bG:Nat->Heap->Prop}{a b:qx}{Q:qx->qj->Prop}
 (D1:Draws prog w A i1 cD n1 P1 bJ) (D2:Draws prog w A i2 cE n2 P2 bG) (Z:ZA z TI TO i1 i2 cD cE)
 (hz:xy s.heap z TI TO .none) (bN:xq s.heap TI (.ref i1) (.ref i2)) (cB:xq s.heap TO a b) (s1:bJ k s.heap) (s2:bG k s.heap) (k1:k<n1) (k2:k<n2)
 (hQ:∀ x y h' tk,P1 k x->P2 k y->xy h' z TI TO (jy s.heap.objs.size)->xq h' TO x y->xq h' TI (.ref i1) (.ref i2)->bJ (k+1) h'->bG (k+1) h'->xq h' s.heap.objs.size x y->h'.objs.size=s.heap.objs.size+1 ->
   (∀ c o,c≠z->c≠TO->c≠i1->c≠i2->s.heap.get? c=qq o->h'.get? c=qq o)->Q (.ref s.heap.objs.size) {s with heap:=h',toks:=tk }) :
 qy (model prog w) A (Builtin.«zip.__next__» ⟨[.ref z],[]⟩) (λ bX s'=>∃ v,bX=.done (.ret v)/\Q v s') E s:=by
 show qy _ _ (field (.ref z) 2 >>= _) _ _ _;refine wB (qu hz rfl (x:=.bool false) rfl ?_);show qy _ _ (field (.ref z) 3 >>= _) _ _ _;refine wB (qu hz rfl (x:=.ref TI) rfl ?_);refine wB (zx bN rfl ?_);show qy _ _ (yAm (.ref z) >>= _) _ _ _;refine wB ?_;unfold yAm;refine wB (qu hz rfl (x:=.none) rfl (wP ?_));simp only[if_true];refine wB (vq ?_);refine wB (qu hz rfl (x:=.ref TO) rfl ?_);refine wB (zj hz (by simp) λ h₁ hz₁ hs₁=>?_)
 replace hz₁:xy h₁ z TI TO .ellipsis:=hz₁
 refine wB ?_;simp only[yEi,yFo,yDo,yDz];have s11:bJ k h₁:=D1.frame k _ _ s1 λ c hc o e=>hs₁.extBut _ _ (Z.f1 c hc).1 e
 have s21:bG k h₁:=D2.frame k _ _ s2 λ c hc o e=>hs₁.extBut _ _ (Z.f2 c hc).1 e
 refine wB (wB (xu ?_));show qy _ _ (yAl (.ref i1) >>= _) _ _ _;refine wB (D1.item k _ _ _ k1 s11 λ x h₂ tk₂ px s12 hs₂=>wP ?_)
 have s22:bG k h₂:=D2.frame k _ _ s21 λ c hc o e=>hs₂.extBut _ _ (Z.f2 c hc).2.2 e
 have hTO₂:xq h₂ TO a b:=hs₂.extBut _ _ Z.TOi1 (hs₁.extBut _ _ Z.TOz cB);refine wB (zx hTO₂ rfl ?_);refine wB (yy hTO₂ λ h₃ hTO₃ hs₃=>?_)
 replace hTO₃:xq h₃ TO x b:=hTO₃
 have s13:bJ (k+1) h₃:=D1.frame _ _ _ s12 λ c hc o e=>hs₃.extBut _ _ (Z.f1 c hc).2.1 e
 have s23:bG k h₃:=D2.frame k _ _ s22 λ c hc o e=>hs₃.extBut _ _ (Z.f2 c hc).2.1 e
 refine wB (ju (wP ?_));refine wB (wB (xu ?_));show qy _ _ (yAl (.ref i2) >>= _) _ _ _;refine wB (D2.item k _ _ _ k2 s23 λ y h₄ tk₄ py s24 hs₄=>wP ?_)
 have s14:bJ (k+1) h₄:=D1.frame _ _ _ s13 λ c hc o e=>hs₄.extBut _ _ (Z.f1 c hc).2.2 e
 have hTO₄:xq h₄ TO x b:=hs₄.extBut _ _ Z.TOi2 hTO₃;refine wB (zx hTO₄ rfl ?_);refine wB (yy hTO₄ λ h₅ hTO₅ hs₅=>?_)
 replace hTO₅:xq h₅ TO x y:=hTO₅
 have s15:bJ (k+1) h₅:=D1.frame _ _ _ s14 λ c hc o e=>hs₅.extBut _ _ (Z.f1 c hc).2.1 e
 have s25:bG (k+1) h₅:=D2.frame _ _ _ s24 λ c hc o e=>hs₅.extBut _ _ (Z.f2 c hc).2.1 e
 refine wB (ju (wP (wP ?_)));refine wB (zx hTO₅ rfl ?_);refine wB (wpAny_newTuple ?_);have hsz:h₅.objs.size=s.heap.objs.size:=by rw[hs₅.1,hs₄.1,hs₃.1,hs₂.1,hs₁.1]
 have hz₅:xy h₅ z TI TO .ellipsis:=hs₅.extBut _ _ Z.TOz.symm (hs₄.extBut _ _ Z.i2z.symm (hs₃.extBut _ _ Z.TOz.symm (hs₂.extBut _ _ Z.i1z.symm hz₁)));have hk₅:∀ c o,c≠z->c≠TO->c≠i1->c≠i2->s.heap.get? c=qq o->h₅.get? c=qq o:=λ c o c1 c2 c3 c4 e =>
  hs₅.extBut _ _ c2 (hs₄.extBut _ _ c4 (hs₃.extBut _ _ c2 (hs₂.extBut _ _ c3 (hs₁.extBut _ _ c1 e))))
 have hzlt:z<h₅.objs.size:=xAa hz₅;show qy _ _ (yBx (.ref z) (.ref h₅.objs.size) >>= _) _ _ _;refine wB ?_;unfold yBx;have hz₆:xy (h₅.push {cls:=.type "tuple",data:=.seq #[x,y] }) z TI TO .ellipsis:=hpS _ hz₅;refine wB (zj hz₆ (by simp) λ h₇ hz₇ hs₇=>?_)
 replace hz₇:xy h₇ z TI TO (jy h₅.objs.size):=hz₇
 refine zj hz₇ (by simp) λ h₈ hz₈ hs₈=>?_
 replace hz₈:xy h₈ z TI TO (jy h₅.objs.size):=hz₈
 have up:∀ c o,c≠z->h₅.get? c=qq o->h₈.get? c=qq o:=λ c o c1 e=>hs₈.extBut _ _ c1 (hs₇.extBut _ _ c1 (hpS _ e))
 have hT₈:xq h₈ h₅.objs.size x y:=hs₈.extBut _ _ (yCv hzlt) (hs₇.extBut _ _ (yCv hzlt) (xAd _ rfl));have hz8:h₈.objs.size=h₅.objs.size+1:=by rw[hs₈.1,hs₇.1,yBi]
 rw[hsz] at hz₈ hT₈ hz8;refine wP ⟨_,rfl,?_⟩;show Q (.ref h₅.objs.size) _;rw[hsz];exact hQ x y h₈ _ px py hz₈ (up _ _ Z.TOz hTO₅) (up _ _ Z.TIz (hk₅ _ _ Z.TIz Z.TITO Z.TIi1 Z.TIi2 bN)) (D1.frame _ _ _ s15 λ c hc o e=>up c o (Z.f1 c hc).1 e) (D2.frame _ _ _ s25 λ c hc o e=>up c o (Z.f2 c hc).1 e) hT₈ hz8 λ c o c1 c2 c3 c4 e=>up c o c1 (hk₅ c o c1 c2 c3 c4 e)
theorem aKK{z TI TO i1 i2:qv}{cD cE:List qv}{n1 n2 k:Nat}{P1 P2:Nat->qx->Prop}{bJ bG:Nat->Heap->Prop}{a b:qx}{Q:Fin->qj->Prop}
 (D1:Draws prog w A i1 cD n1 P1 bJ) (D2:Draws prog w A i2 cE n2 P2 bG) (Z:ZA z TI TO i1 i2 cD cE)
 (hz:xy s.heap z TI TO .none) (bN:xq s.heap TI (.ref i1) (.ref i2)) (cB:xq s.heap TO a b) (s1:bJ k s.heap) (s2:bG k s.heap) (hend:k=n1\/(k<n1/\k=n2))
 (hE:∀ h' tk e,(∀ c o,c≠z->c≠TO->c≠i1->c≠i2->s.heap.get? c=qq o->h'.get? c=qq o)->(∃ o,h'.get? e=qq o/\o.cls=.type "StopIteration")->E (.ref e) {s with heap:=h',toks:=tk }) :
 qy (model prog w) A (Builtin.«zip.__next__» ⟨[.ref z],[]⟩) Q E s:=by
 show qy _ _ (field (.ref z) 2 >>= _) _ _ _;refine wB (qu hz rfl (x:=.bool false) rfl ?_);show qy _ _ (field (.ref z) 3 >>= _) _ _ _;refine wB (qu hz rfl (x:=.ref TI) rfl ?_);refine wB (zx bN rfl ?_);show qy _ _ (yAm (.ref z) >>= _) _ _ _;refine wB ?_;unfold yAm;refine wB (qu hz rfl (x:=.none) rfl (wP ?_));simp only[if_true];refine wB (vq ?_);refine wB (qu hz rfl (x:=.ref TO) rfl ?_);refine wB (zj hz (by simp) λ h₁ hz₁ hs₁=>?_)
 replace hz₁:xy h₁ z TI TO .ellipsis:=hz₁
 refine wB ?_;simp only[yEi,yFo,yDo,yDz];have s11:bJ k h₁:=D1.frame k _ _ s1 λ c hc o e=>hs₁.extBut _ _ (Z.f1 c hc).1 e
 have s21:bG k h₁:=D2.frame k _ _ s2 λ c hc o e=>hs₁.extBut _ _ (Z.f2 c hc).1 e
 refine wB (wB (xu ?_));show qy _ _ (yAl (.ref i1) >>= _) _ _ _;rcases hend with rfl | ⟨k1,rfl⟩
 ·refine wB (D1.done _ _ _ s11 λ h₂ e hs₂ he=>?_)
  obtain⟨oe,hoe,hce⟩:=he;have hz₂:xy h₂ z TI TO .ellipsis:=hs₂ _ _ Z.i1z.symm hz₁;have hez:e≠z:=λ x=>by subst x;rw[hz₂] at hoe;cases hoe;simp at hce
  exact zj hz₂ (by simp) λ h₃ _ hs₃=>hE h₃ _ e (λ c o c1 _ c3 _ x=>hs₃.extBut _ _ c1 (hs₂ _ _ c3 (hs₁.extBut _ _ c1 x))) ⟨oe,hs₃.extBut _ _ hez hoe,hce⟩
 ·refine wB (D1.item k _ _ _ k1 s11 λ x h₂ tk₂ px s12 hs₂=>wP ?_)
  have s22:bG k h₂:=D2.frame k _ _ s21 λ c hc o e=>hs₂.extBut _ _ (Z.f2 c hc).2.2 e
  have hTO₂:xq h₂ TO a b:=hs₂.extBut _ _ Z.TOi1 (hs₁.extBut _ _ Z.TOz cB);refine wB (zx hTO₂ rfl ?_);refine wB (yy hTO₂ λ h₃ hTO₃ hs₃=>?_)
  have s23:bG k h₃:=D2.frame k _ _ s22 λ c hc o e=>hs₃.extBut _ _ (Z.f2 c hc).2.1 e
  refine wB (ju (wP ?_));refine wB (wB (xu ?_));show qy _ _ (yAl (.ref i2) >>= _) _ _ _;refine wB (D2.done _ _ _ s23 λ h₄ e hs₄ he=>?_)
  obtain⟨oe,hoe,hce⟩:=he;have hz₄:xy h₄ z TI TO .ellipsis:=hs₄ _ _ Z.i2z.symm (hs₃.extBut _ _ Z.TOz.symm (hs₂.extBut _ _ Z.i1z.symm hz₁));have hez:e≠z:=λ x=>by subst x;rw[hz₄] at hoe;cases hoe;simp at hce
  exact zj hz₄ (by simp) λ h₅ _ hs₅=>hE h₅ _ e (λ c o c1 c2 c3 c4 x=>hs₅.extBut _ _ c1 (hs₄ _ _ c4 (hs₃.extBut _ _ c2 (hs₂.extBut _ _ c3 (hs₁.extBut _ _ c1 x))))) ⟨oe,hs₅.extBut _ _ hez hoe,hce⟩
theorem aEb{z TI TO i1 i2:qv}{cD cE:List qv}{n1 n2 k:Nat}{P1 P2:Nat->qx->Prop}{bJ bG:Nat->Heap->Prop}{a b:qx}{Q:Option qx->qj->Prop}
 (D1:Draws prog w A.in1 i1 cD n1 P1 bJ) (D2:Draws prog w A.in1 i2 cE n2 P2 bG) (Z:ZA z TI TO i1 i2 cD cE)
 (hz:xy s.heap z TI TO .none) (bN:xq s.heap TI (.ref i1) (.ref i2)) (cB:xq s.heap TO a b) (s1:bJ k s.heap) (s2:bG k s.heap) (k1:k<n1) (k2:k<n2)
 (hQ:∀ x y h' tk,P1 k x->P2 k y->xy h' z TI TO (jy s.heap.objs.size)->xq h' TO x y->xq h' TI (.ref i1) (.ref i2)->bJ (k+1) h'->bG (k+1) h'->xq h' s.heap.objs.size x y->h'.objs.size=s.heap.objs.size+1 ->
   (∀ c o,c≠z->c≠TO->c≠i1->c≠i2->s.heap.get? c=qq o->h'.get? c=qq o)->Q (qq (.ref s.heap.objs.size)) {s with heap:=h',toks:=tk }) :
 qy (model prog w) A (jk (.ref z)) Q E s:=by
 have hT:s.TypeIs (.ref z) "zip":=⟨_,hz,rfl⟩;unfold jk;exact wB (vx (wpAny_callSpecial?_slot (name:=Str.ofString "__next__") hT F.slot_zip_next
  (zo F.slot_zip_next hT F.entry_zip_next
    (aKy D1 D2 Z hz bN cB s1 s2 k1 k2 λ x y h' tk a0 b0 a1 a2 a3 a4 a5 a6 a7 a8=>wP (hQ x y h' tk a0 b0 a1 a2 a3 a4 a5 a6 a7 a8)) (F.args_zip_next_1 _))))
theorem aEc{z TI TO i1 i2:qv}{cD cE:List qv}{n1 n2 k:Nat}{P1 P2:Nat->qx->Prop}{bJ bG:Nat->Heap->Prop}{a b:qx}{Q:Option qx->qj->Prop}
 (D1:Draws prog w A.in1 i1 cD n1 P1 bJ) (D2:Draws prog w A.in1 i2 cE n2 P2 bG) (Z:ZA z TI TO i1 i2 cD cE)
 (hz:xy s.heap z TI TO .none) (bN:xq s.heap TI (.ref i1) (.ref i2)) (cB:xq s.heap TO a b) (s1:bJ k s.heap) (s2:bG k s.heap) (hend:k=n1\/(k<n1/\k=n2))
 (hQ:∀ h' tk,(∀ c o,c≠z->c≠TO->c≠i1->c≠i2->s.heap.get? c=qq o->h'.get? c=qq o)->Q qz {s with heap:=h',toks:=tk }):qy (model prog w) A (jk (.ref z)) Q E s:=by
 have hT:s.TypeIs (.ref z) "zip":=⟨_,hz,rfl⟩;unfold jk;refine wB (vx (wpAny_callSpecial?_slot (name:=Str.ofString "__next__") hT F.slot_zip_next
  (zo F.slot_zip_next hT F.entry_zip_next (aKK D1 D2 Z hz bN cB s1 s2 hend λ h' tk e hk he=>?_) (F.args_zip_next_1 _))))
 obtain⟨o,ho,hc⟩:=he;refine wB (yv (T:="StopIteration") (b:=true) ⟨o,ho,hc⟩ kx ?_);exact wP (hQ _ _ hk)
end
noncomputable def qR(t:Bool):String:=if t then "tuple_iterator" else "list_iterator"
def dL(t:Bool)(h:Heap)(a:qv)(aG:Array qx):Prop:=match t with
 | true=>h.IsTuple a aG
 | false=>h.IsList a aG
def dO(t:Bool)(h:Heap)(it a:qv)(i:Nat):Prop:=match t with
 | true=>h.IsTupleIter it a i
 | false=>h.IsListIter it a i
def Sq(t:Bool)(K:FrG)(H:Hp)(a:qv)(xs:List V):Prop:=match t with
 | true=>bZ K H a xs
 | false=>bW K H a xs
theorem dO.at{t:Bool}{h h':Heap}{it a:qv}{i:Nat}(x:dO t h it a i)(q:∀ o,h.get? it=qq o->h'.get? it=qq o):dO t h' it a i:=by
 cases t with
 | true=>exact Heap.IsTupleIter.at (h:=h) x q
 | false=>exact Heap.IsListIter.at (h:=h) x q
theorem dO.obj{t:Bool}{h:Heap}{it a:qv}{i:Nat}(x:dO t h it a i):∃ o,h.get? it=qq o/\∀ v,o.data≠.cell v:=by
 cases t with
 | true=>obtain⟨o,ho,hc,hd⟩:=x;exact⟨o,ho,λ v z=>by rw[hd] at z;cases z⟩
 | false=>obtain⟨o,ho,hc,hd⟩:=x;exact⟨o,ho,λ v z=>by rw[hd] at z;cases z⟩
theorem dL.lt{t:Bool}{h:Heap}{a:qv}{aG:Array qx}(x:dL t h a aG):a<h.objs.size:=by
 cases t with
 | true=>obtain⟨o,ho,_⟩:=x;exact xAa ho
 | false=>obtain⟨o,ho,_⟩:=x;exact xAa ho
theorem gX{prog:zq}{w:zw}{A:zy}(hh:A.handled=qz)(t:Bool)(it l:qv)(hne:l≠it)(aO:Array qx):Draws prog w A it [it,l] aO.size (λ i v=>aO[i]? = qq v) (λ i h=>dO t h it l i/\dL t h l aO):=by
 cases t with
 | true=>exact aFK hh it l hne aO
 | false=>exact Draws.list hh it l hne aO
theorem eS{X:Cx}{aB:List (qv×Obj)}{σ:L2.St}{H:Hp}{s:qj}{t:Bool}{a:qv}{xs:List V}(I:Inv X aB σ H s)(h:Sq t X.K H a xs):∃ aG:List qx,aZ xs aG/\dL t s.heap a aG.toArray:=by
 cases t with
 | true=>obtain⟨aG,rv,pl,hz⟩:=I.tuple h;exact⟨aG,rv,pl⟩
 | false=>obtain⟨aG,rv,pl,hz⟩:=I.list h;exact⟨aG,rv,pl.isList⟩
theorem uQ{X:Cx}{aB:List (qv×Obj)}{σ:L2.St}{H:Hp}{s:qj}{t:Bool}{a:qv}{xs ys:List V}(I:Inv X aB σ H s)(h:Sq t X.K H a xs)(h':Sq t X.K H a ys):xs=ys:=by
 cases t with
 | true=>exact I.tuple_inj h h'
 | false=>exact I.list_inj h h'
theorem dM{t:Bool}{K:FrG}{H H':Hp}{a:qv}{xs:List V}(e:cC H H')(h:Sq t K H a xs):Sq t K H' a xs:=by
 cases t with
 | true=>exact iL e h
 | false=>exact e.seq h
theorem aBo{X:Cx}{aB:List (qv×Obj)}{σ:L2.St}{H:Hp}{s:qj}{h':Heap}{ch:List qv}{t':Nat}(I:Inv X aB σ H s)(hch:∀ b∈ch,gI X aB H b)(k:∀ b u,b ∉ ch->s.heap.get? b=qq u->h'.get? b=qq u) :
 Inv X aB σ H {s with heap:=h',toks:=t' }:=by
 have nch:∀ b u,H b=qq u->b ∉ ch:=λ b u e z=>by rw[(hch b z).1] at e;cases e
 refine I.step (g':=s.gens) (d':=s.drawn) (ch:=ch) (λ b hb=>⟨(hch b hb).2.2.2.1,(hch b hb).2.1,(hch b hb).2.2.2.2.1,(hch b hb).2.2.2.2.2⟩) (λ b o _ _ hc e _=>k b o hc e) (λ b o _ _ hc e _=>⟨o.slots,k b o hc e⟩) (λ _ _ _ _ n=>n)
  (λ b o hc e=>⟨o,k b o hc e⟩) (λ _ _ e=>e) (λ _ _ _ e=>e) (λ b ps e=>⟨#[],by rw[e];simp⟩) (λ m hm=>?_) (λ b u e=>?_) I.bare
 ·obtain⟨o,es,ep,ho,r⟩:=hm;exact⟨o,es,ep,k _ o (λ z=>(hch _ z).2.1 rfl) ho,r⟩
 ·refine(I.hok b u e).stay (λ c v hc q=>k c v ?_ q) (λ _ q=>q) λ _ _ q=>q
  rcases hc with z | z
  ·rw[z];exact nch b u e
  ·exact nch c _ z
noncomputable def aDi(K:FrG)(t u:Bool)(a b:qv):It:=
 ⟨λ i H=>∃ xs x ys y,Sq t K H a xs/\xs[i]? = qq x/\Sq u K H b ys/\ys[i]? = qq y,
  λ i H v H'=>∃ p x y,H p=qz/\H'=bE H p (.tup [x,y])/\v=.ref p/\(∀ xs,Sq t K H a xs->xs[i]? = qq x)/\∀ ys,Sq u K H b ys->ys[i]? = qq y,
  λ i H=>∃ xs ys,Sq t K H a xs/\Sq u K H b ys/\i=min xs.length ys.length⟩
theorem fA{a c:qv}{l:List qv}(h:c ∉ a::l):c≠a:=λ q=>h (q▸xAc)
theorem bT{a c:qv}{l:List qv}(h:c ∉ a::l):c ∉ l:=λ q=>h (xAf _ q)
theorem mT{a b:qv}{l:List qv}(h:a∈l):a∈b::l:=xAf _ h
theorem eK{P:qv->Prop}{a:qv}{l:List qv}(h:P a)(t:∀ b∈l,P b):∀ b∈a::l,P b:=List.forall_mem_cons.mpr ⟨h,t⟩
theorem aln{P:qv->Prop}:∀ b∈([]:List qv),P b:=λ _ h=>nomatch h
theorem aNx{P:zq}{w:zw}{K:FrG}{elts:List qw}{k:Nat}{pos:Pos}(t u:Bool)(a b z TI TO i1 i2:qv)(Z:ZA z TI TO i1 i2 [i1,a] [i2,b])(h1:a≠i1)(h2:b≠i2) :
 Turn P w K (.Tuple elts k pos) (aDi K t u a b) [z,TI,TO,i1,i2] z (λ i h=>xy h z TI TO .none/\xq h TI (.ref i1) (.ref i2)/\(∃ x y,xq h TO x y)/\dO t h i1 a i/\dO u h i2 b i) where
 mem:=xAc
 obj:=λ i h ⟨hz,bN,⟨x,y,cB⟩,hi1,hi2⟩=>eK ⟨_,hz,λ v=>by intro z;cases z⟩ (eK ⟨_,bN,λ v=>by intro z;cases z⟩ (eK ⟨_,cB,λ v=>by intro z;cases z⟩ (eK hi1.obj (eK hi2.obj aln))))
 keep:=λ i h h' ⟨hz,bN,⟨x,y,cB⟩,hi1,hi2⟩ q=>⟨q z xAc _ hz,q TI (mT xAc) _ bN,⟨x,y,q TO (mT (mT xAc)) _ cB⟩,hi1.at λ o e=>q i1 (mT (mT (mT xAc))) o e,hi2.at λ o e=>q i2 (mT (mT (mT (mT xAc)))) o e⟩
 item:=λ X hP hW hK hc i aB s σ H E I hf aQ gU=>by
  obtain⟨hz,bN,⟨x0,y0,cB⟩,hi1,hi2⟩:=aQ;obtain⟨xs,x,ys,y,sq1,hx,sq2,hy⟩:=gU;subst hP hW hK;have hh:X.A.in1.handled=qz:=I.ok.hd hc;obtain⟨dU,rv1,pl1⟩:=eS I sq1;obtain⟨dA,rv2,pl2⟩:=eS I sq2;obtain⟨u1,hu1,ru1⟩:=rv1.get hx;obtain⟨u2,hu2,ru2⟩:=rv2.get hy;have lt1:i<dU.toArray.size:=by rw[yAg];exact(gIm hu1).1
  have lt2:i<dA.toArray.size:=by rw[yAg];exact(gIm hu2).1
  refine aEb (gX (prog:=X.prog) (w:=X.w) hh t i1 a h1 dU.toArray) (gX (prog:=X.prog) (w:=X.w) hh u i2 b h2 dA.toArray) Z hz bN cB ⟨hi1,pl1⟩ ⟨hi2,pl2⟩ lt1 lt2 λ x' y' h₁ tk px py hz₁ hTO₁ hTI₁ s1 s2 hT₁ hsz hk=>⟨_,rfl,?_⟩
  have ex:x'=u1:=by rw[yBq,hu1] at px;exact(Option.some.inj px).symm
  have ey:y'=u2:=by rw[yBq,hu2] at py;exact(Option.some.inj py).symm
  subst ex ey;have zLt:z<s.heap.objs.size:=xAa hz;refine kw hz₁ λ h₂ hz₂ hs₂=>?_
  have hs2:yCu z h₁ h₂:=hs₂;have ht₂:xq h₂ s.heap.objs.size x' y':=hs2.extBut _ _ (yCv zLt) hT₁;have I2:Inv X aB σ (bE H s.heap.objs.size (.tup [x,y])) {s with heap:=h₂,toks:=tk }:=by
   refine sY I hf (λ c o hb e'=>?_) (yAc _) ⟨by show 2<=qk;decide,[x',y'],.cons ru1 (.cons ru2 .nil),⟨_,ht₂,rfl,0,rfl⟩⟩
   exact hs2.extBut c o (fA hb) (hk c o (fA hb) (fA (bT (bT hb))) (fA (bT (bT (bT hb)))) (fA (bT (bT (bT (bT hb))))) e')
  refine⟨.ref s.heap.objs.size,_,I2,rfl,⟨s.heap.objs.size,x,y,I.fresh,rfl,rfl,λ zs hy=>by rw[uQ I hy sq1];exact hx,λ zs hz=>by rw[uQ I hz sq2];exact hy⟩,⟨hz₂,hs2.extBut _ _ Z.TIz hTI₁,⟨_,_,hs2.extBut _ _ Z.TOz hTO₁⟩,s1.1.at λ o e=>hs2.extBut _ _ Z.i1z e,s2.1.at λ o e=>hs2.extBut _ _ Z.i2z e⟩,λ c hb=>?_⟩
  have:c<s.heap.objs.size:=eK (P:=λ c=>c<s.heap.objs.size) zLt (eK (xAa bN) (eK (xAa cB) (eK (let ⟨_,ho,_⟩:=hi1.obj;xAa ho) (eK (let ⟨_,ho,_⟩:=hi2.obj;xAa ho) aln)))) c hb
  rw[bM (xAj this)];exact(hf c hb).1
 done:=λ X hP hW hK hc i aB s σ H E I hf aQ gU=>by
  obtain⟨hz,bN,⟨x0,y0,cB⟩,hi1,hi2⟩:=aQ;obtain⟨xs,ys,sq1,sq2,hi⟩:=gU;subst hP hW hK;have hh:X.A.in1.handled=qz:=I.ok.hd hc;obtain⟨dU,rv1,pl1⟩:=eS I sq1;obtain⟨dA,rv2,pl2⟩:=eS I sq2;have l1:=rv1.length;have l2:=rv2.length;have hend:i=dU.toArray.size\/(i<dU.toArray.size/\i=dA.toArray.size):=by
   rw[yAg,yAg];omega
  refine aEc (gX (prog:=X.prog) (w:=X.w) hh t i1 a h1 dU.toArray) (gX (prog:=X.prog) (w:=X.w) hh u i2 b h2 dA.toArray) Z hz bN cB ⟨hi1,pl1⟩ ⟨hi2,pl2⟩ hend λ h₁ tk hk=>⟨rfl,?_⟩
  exact aBo I hf λ c o hb e'=>hk c o (fA hb) (fA (bT (bT hb))) (fA (bT (bT (bT hb)))) (fA (bT (bT (bT (bT hb))))) e'
 self:=λ A i s Q E ⟨hz,_⟩ hq=>vy hz hq
section
variable {prog : zq}{w : zw}{A : zy}{E : qx -> qj -> Prop}{s : qj}
noncomputable abbrev wK(h:Heap)(t:Bool)(l1:qv):Heap:=h.push {cls:=.type (qR t),data:=.fields #[.ref l1,.int 0 0] }
noncomputable abbrev zH2(h:Heap)(t u:Bool)(l1 l2:qv):Heap:=(wK h t l1).push {cls:=.type (qR u),data:=.fields #[.ref l2,.int 0 0] }
noncomputable abbrev zH3(h:Heap)(t u:Bool)(l1 l2:qv):Heap:=(zH2 h t u l1 l2).push {cls:=.type "tuple",data:=.seq #[.ref h.objs.size,.ref (wK h t l1).objs.size] }
noncomputable abbrev zH4(h:Heap)(t u:Bool)(l1 l2:qv):Heap:=(zH3 h t u l1 l2).push {cls:=.type "tuple",data:=.seq #[.none,.none] }
noncomputable abbrev mI(h:Heap)(t u:Bool)(l1 l2:qv):Heap:=(zH4 h t u l1 l2).push {cls:=.type "zip",data:=.fields #[.none,.bool false,.bool false,.ref (zH2 h t u l1 l2).objs.size,.ref (zH3 h t u l1 l2).objs.size] }
theorem tF{t:Bool}{l:qv}{aO:Array qx}{Q:qx->qj->Prop}(hl:dL t s.heap l aO)
 (h:Q (.ref s.heap.objs.size) {s with heap:=s.heap.push {cls:=.type (qR t),data:=.fields #[.ref l,.int 0 0] } }):qy (model prog w) A (pyIter (.ref l)) Q E s:=by
 cases t with
 | true=>exact jo hl h
 | false=>exact jw hl h
theorem dL.push{t:Bool}{h:Heap}{a:qv}{aG:Array qx}(x:dL t h a aG)(o:Obj):dL t (h.push o) a aG:=by
 cases t with
 | true=>obtain⟨o,ho,r⟩:=x;exact⟨o,hpS _ ho,r⟩
 | false=>obtain⟨o,ho,r⟩:=x;exact⟨o,hpS _ ho,r⟩
theorem aKA(t u:Bool)(l1 l2:qv)(xs ys:Array qx) :
 Meets (Builtin.«zip.__new__» ⟨[.type "zip",.ref l1,.ref l2],[]⟩) (λ _ R s=>dL t s.heap l1 xs/\dL u s.heap l2 ys /\
  R (.ok (.ret (.ref (zH4 s.heap t u l1 l2).objs.size))) {s with heap:=mI s.heap t u l1 l2 }):=
 .of_wp λ prog w A R s h=>by
  obtain⟨hp,g,d,tk,os⟩:=s;obtain⟨hl1,hl2,h⟩:=h;have hsub:=sub_zip;have hL1:dL t (Shared.heap ⟨hp,g,d,tk,os⟩) l1 xs:=hl1;have hL2:dL u (Shared.heap ⟨wK hp t l1,g,d,tk,os⟩) l2 ys:=dL.push hl2 _
  wp_walk using tF hL1,tF hL2
  exact⟨_,rfl,h⟩
theorem aFk{t u:Bool}{l1 l2:qv}{xs ys:Array qx}{Q:qx->qj->Prop}(hl1:dL t s.heap l1 xs)(hl2:dL u s.heap l2 ys)
 (h:∀ h',xy h' (s.heap.objs.size+4) (s.heap.objs.size+2) (s.heap.objs.size+3) .none->xq h' (s.heap.objs.size+2) (.ref s.heap.objs.size) (.ref (s.heap.objs.size+1)) ->
   xq h' (s.heap.objs.size+3) .none .none->dO t h' s.heap.objs.size l1 0->dO u h' (s.heap.objs.size+1) l2 0->h'.objs.size=s.heap.objs.size+5 ->
   (∀ c o,s.heap.get? c=qq o->h'.get? c=qq o)->Q (.ref (s.heap.objs.size+4)) {s with heap:=h' }) :
 qy (model prog w) A (call (.type "zip") [.ref l1,.ref l2]) Q E s:=by
 refine callType_new F.called_zip (by decide) (F.typeCall_zip_2 _ _) (F.newCall_zip_2 _ _) (λ obj=>F.args_object_init_3 obj _ _) F.entry_zip_new
  (aKA t u l1 l2 xs ys) ⟨hl1,hl2,?_⟩
 have z1:(wK s.heap t l1).objs.size=s.heap.objs.size+1:=yBi ..;have z2:(zH2 s.heap t u l1 l2).objs.size=s.heap.objs.size+2:=by rw[yBi,z1]
 have z3:(zH3 s.heap t u l1 l2).objs.size=s.heap.objs.size+3:=by rw[yBi,z2]
 have z4:(zH4 s.heap t u l1 l2).objs.size=s.heap.objs.size+4:=by rw[yBi,z3]
 have z5:(mI s.heap t u l1 l2).objs.size=s.heap.objs.size+5:=by rw[yBi,z4]
 have g5:(mI s.heap t u l1 l2).get? (zH4 s.heap t u l1 l2).objs.size=qq _:=xAd _ rfl;have g4:(mI s.heap t u l1 l2).get? (zH3 s.heap t u l1 l2).objs.size=qq _:=hpS _ (xAd _ rfl);have g3:(mI s.heap t u l1 l2).get? (zH2 s.heap t u l1 l2).objs.size=qq _:=hpS _ (hpS _ (xAd _ rfl));have g2:(mI s.heap t u l1 l2).get? (wK s.heap t l1).objs.size=qq _:=hpS _ (hpS _ (hpS _ (xAd _ rfl)));have g1:(mI s.heap t u l1 l2).get? s.heap.objs.size=qq _:=hpS _ (hpS _ (hpS _ (hpS _ (xAd _ rfl))));show _/\_;rw[z2,z3,z4] at g5;rw[z1,z2] at g3;rw[z3] at g4;rw[z1] at g2;rw[z4];have i1:dO t (mI s.heap t u l1 l2) s.heap.objs.size l1 0:=by cases t<;>exact⟨_,g1,rfl,rfl⟩
 have i2:dO u (mI s.heap t u l1 l2) (s.heap.objs.size+1) l2 0:=by cases u<;>exact⟨_,g2,rfl,rfl⟩
 exact⟨⟨_,g5,rfl⟩,h _ g5 g3 g4 i1 i2 z5 λ c o x =>
  hpS _ (hpS _ (hpS _ (hpS _ (hpS _ x))))⟩
end
theorem aH9{n a b:Nat}(ha:a<n)(hb:b<n):ZA (n+4) (n+2) (n+3) n (n+1) [n,a] [n+1,b]:=by
 have h:∀ i j:Nat,i≠j->(n+i:Nat)≠(n+j:Nat):=λ i j h=>by omega
 have l:∀ (c i:Nat),c<n->(c:Nat)≠(n+i:Nat):=λ c i h=>by omega
 refine⟨h 2 4 (by decide),h 3 4 (by decide),h 0 4 (by decide),h 1 4 (by decide),h 2 3 (by decide),h 2 0 (by decide),h 2 1 (by decide),h 3 0 (by decide),h 3 1 (by decide),λ c hc=>?_,λ c hc=>?_⟩
 ·rcases List.mem_cons.mp hc with e | e
  ·rw[e];exact⟨h 0 4 (by decide),h 0 3 (by decide),h 0 1 (by decide)⟩
  ·rw[List.mem_singleton.mp e];exact⟨l a 4 ha,l a 3 ha,l a 1 ha⟩
 ·rcases List.mem_cons.mp hc with e | e
  ·rw[e];exact⟨h 1 4 (by decide),h 1 3 (by decide),h 1 0 (by decide)⟩
  ·rw[List.mem_singleton.mp e];exact⟨l b 4 hb,l b 3 hb,l b 0 hb⟩
section
variable {X : Cx}
noncomputable def aJN(K:FrG)(ta:TA):TI:=λ σ H R=>ta σ H λ vs H1=>∃ a b t u,vs=[.ref a,.ref b]/\(∃ xs,Sq t K H1 a xs)/\(∃ ys,Sq u K H1 b ys)/\R (aDi K t u a b) H1
theorem aP4{elts:List qw}{k:Nat}{pp:Pos}{a b:qw}{ta:TA}{p pos:Pos}(hg:Gl X "zip")(hm:X.mg "zip" = qz)(ha:PA X [a,b] ta)(hs:qo [a,b] X.env=(false,eval a X.env)::qo [b] X.env)(hs2:qo [b] X.env=[(false,eval b X.env)]):PI X (.Tuple elts k pp) (.Call (.Name "zip" p) [a,b] [] pos) (aJN X.K ta):=by
 intro aB s σ H R I h;refine Call_ (jN I hg hm boot_zip (yAv (bD (ha pos aB s σ H _ I h) λ us s1 hPq41=>?_) hs (by rw[hs2];rfl)))
 obtain⟨vs,H1,I1,r1,q1⟩:=hPq41;obtain⟨l1,l2,t,u,rfl,⟨xs,sq1⟩,⟨ys,sq2⟩,q⟩:=q1;obtain⟨u1,u2,rfl,ru1,ru2⟩:=aAn r1;cases ru1;cases ru2;obtain⟨dU,rv1,pl1⟩:=eS I1 sq1;obtain⟨dA,rv2,pl2⟩:=eS I1 sq2;have a1:=pl1.lt;have a2:=pl2.lt;refine aFk pl1 pl2 λ h' hz bN cB hi1 hi2 hsz hk=>vy hz ?_
 have I2:Inv X aB σ H1 {s1 with heap:=h' }:=I1.kept (t':=s1.toks) hk
 have hb':∀ b∈[s1.heap.objs.size+4,s1.heap.objs.size+2,s1.heap.objs.size+3,s1.heap.objs.size,s1.heap.objs.size+1],s1.heap.objs.size<=b:=λ b hb=>by
  simp only[yCh,yCe,or_false] at hb;omega
 have Z:=aH9 (n:=s1.heap.objs.size) (a:=l1) (b:=l2) a1 a2;exact⟨s1.heap.objs.size+4,[s1.heap.objs.size+4,s1.heap.objs.size+2,s1.heap.objs.size+3,s1.heap.objs.size,s1.heap.objs.size+1],_,_,H1,rfl,I2,aNx t u l1 l2 _ _ _ _ _ Z (xAj a1) (xAj (yCz a2)),⟨hz,bN,⟨_,_,cB⟩,hi1,hi2⟩,λ b hb=>I1.fpOk (hb' b hb) (I1.hok.fresh (hb' b hb)),q⟩
noncomputable def cY:List D->List D->List D
 | a::as,b::bs=>.tuple [a,b]::cY as bs
 | _,_=>[]
theorem sS:∀ as bs:List D,(cY as bs).length=min as.length bs.length
 | [],_=>by simp[cY]
 | _::_,[]=>by simp[cY]
 | _::as,_::bs=>by simp[cY,sS as bs]
theorem yY:∀ (as bs:List D) (i:Nat) (d:D),(cY as bs)[i]? = qq d->∃ a b,as[i]? = qq a/\bs[i]? = qq b/\d=.tuple [a,b]
 | [],_,i,d,h=>by simp[cY] at h
 | _::_,[],i,d,h=>by simp[cY] at h
 | a::as,b::bs,0,d,h=>by simp[cY] at h;exact⟨a,b,rfl,rfl,h.symm⟩
 | a::as,b::bs,i+1,d,h=>by
   obtain⟨x,y,h1,h2,h3⟩:=yY as bs i d (by simpa [cY] using h)
   exact⟨x,y,by simpa using h1,by simpa using h2,h3⟩
theorem aP0{K:FrG}{F:Hp}{L:List qv}{t u:Bool}{a b:qv}{xs ys:List V}{ds es:List D}(sq1:Sq t K F a xs)(dl1:DenL K F ds xs)(sq2:Sq u K F b ys)(dl2:DenL K F es ys):Wk K F L (aDi K t u a b) (cY ds es) where
 go:=λ i H s hi=>by
  rw[sS] at hi;have h1:i<xs.length:=by rw[<- dl1.length];omega
  have h2:i<ys.length:=by rw[<- dl2.length];omega
  exact⟨xs,xs[i],ys,ys[i],dM s sq1,by simp[h1],dM s sq2,by simp[h2]⟩
 stop:=λ H s=>⟨xs,ys,dM s sq1,dM s sq2,by rw[sS,dl1.length,dl2.length]⟩
 yld:=λ i H F1 L1 S x H' d g R e y=>by
  obtain⟨p,x',y',hp,rfl,rfl,hx,hy⟩:=y;obtain⟨d1,d2,e1,e2,rfl⟩:=yY ds es i d e;obtain⟨x1,e3,dx⟩:=dl1.get e1;obtain⟨y1,e4,dy⟩:=dl2.get e2;have q1:=hx xs (dM (g.f.trans R.sub) sq1);rw[q1] at e3;cases e3;have q2:=hy ys (dM (g.f.trans R.sub) sq2);rw[q2] at e4;cases e4;have hF:F1 p=qz:=R.sub.free hp;exact⟨bE F1 p (.tup [x',y']),dB hF,R.new hp,.tup (bZ.of dE) (.cons (dx.mono (g.f.trans (dB hF))) (.cons (dy.mono (g.f.trans (dB hF))) .nil))⟩
end
section
variable {X : Cx}
noncomputable def lU:W->Option (List D)
 | .d (.list ds)=>qq ds
 | .d (.tuple ds)=>qq ds
 | _=>qz
noncomputable def nY(fa fb:FE):FL:=λ env S=>(fa env S).bind λ p=>(fb env p.2).bind λ q=>(lU p.1).bind λ ds=>(lU q.1).bind λ es=>qq (cY ds es,q.2)
theorem oJ{K:FrG}{F:Hp}{L:List qv}{w:W}{ds:List D}{v:V}(h:lU w=qq ds)(d:eU K F L w v):∃ t a xs,v=.ref a/\Sq t K F a xs/\DenL K F ds xs:=by
 unfold lU at h
 split at h
 ·cases h;cases (show Den K F (.list ds) v from d) with
  | lst sq dl=>exact⟨false,_,_,rfl,sq,dl⟩
 ·cases h;cases (show Den K F (.tuple ds) v from d) with
  | tup sq dl=>exact⟨true,_,_,rfl,sq,dl⟩
 ·cases h
theorem aTN{K:FrG}{fa fb:FE}(σ:L2.St)(H:Hp)(Rr:It->Hp->Prop)(h:iC K (nY fa fb) σ H Rr):aJN K (fW K (dH fa (dH fb hZ))) σ H Rr:=by
 obtain⟨F,L,S,env,ds,S',R,E,e,q⟩:=h;obtain⟨⟨w1,S1⟩,e1,e⟩:=bind_some e;obtain⟨⟨w2,S2⟩,e2,e⟩:=bind_some e;obtain⟨ds1,e3,e⟩:=bind_some e;obtain⟨ds2,e4,e⟩:=bind_some e;dsimp only at e e2 e3 e4;cases e;refine⟨F,L,S,env,[w1,w2],S',R,E,by unfold dH;simp only[e1,e2,hZ,yCb],λ F1 L1 H1 vs g1 R1 d1=>?_⟩
 cases d1 with
 | cons da dr =>
   cases dr with
   | cons db dn =>
     cases dn;obtain⟨t,a,xs,rfl,sq1,dl1⟩:=oJ e3 da;obtain⟨u,b,ys,rfl,sq2,dl2⟩:=oJ e4 db;exact⟨a,b,t,u,rfl,⟨xs,dM R1.sub sq1⟩,⟨ys,dM R1.sub sq2⟩,q F1 L1 H1 _ g1 R1 (aP0 sq1 dl1 sq2 dl2)⟩
end
abbrev cV(h:Heap)(T:qv)(a b c:qx):Prop:=h.get? T=qq {cls:=.type "tuple",data:=.seq #[a,b,c] }
structure ZB(z TI TO i1 i2 i3:qv)(cD cE fp3:List qv):Prop where
 TIz:TI≠z
 TOz:TO≠z
 i1z:i1≠z
 i2z:i2≠z
 i3z:i3≠z
 TITO:TI≠TO
 TIi1:TI≠i1
 TIi2:TI≠i2
 TIi3:TI≠i3
 TOi1:TO≠i1
 TOi2:TO≠i2
 TOi3:TO≠i3
 f1:∀ b∈cD,b≠z/\b≠TO/\b≠i2/\b≠i3
 f2:∀ b∈cE,b≠z/\b≠TO/\b≠i1/\b≠i3
 f3:∀ b∈fp3,b≠z/\b≠TO/\b≠i1/\b≠i2
section
variable {prog : zq}{w : zw}{A : zy}{E : qx -> qj -> Prop}{s : qj}
theorem tQ{T:qv}{a b c x:qx}{k:Nat}{Q:Unit->qj->Prop}(hT:cV s.heap T a b c)
 (h:∀ h',h'.get? T=qq {cls:=.type "tuple",data:=.seq ((#[a,b,c]:Array qx).setIfInBounds k x) }->yCu T s.heap h'->Q () {s with heap:=h' }) :
 qy (model prog w) A (updateSeq T (·.setIfInBounds k x)) Q E s:=by
 refine wz hT rfl (h _ ?_ (Heap.SameBut.update ..));rw[yCm _ hT rfl];simp[Obj.mapSeq]
theorem aMr{z TI TO i1 i2 i3:qv}{cD cE fp3:List qv}{n1 n2 n3 k:Nat}{P1 P2 P3:Nat->qx->Prop}{bJ bG St3:Nat->Heap->Prop}{a b c:qx}{Q:qx->qj->Prop}
 (D1:Draws prog w A i1 cD n1 P1 bJ) (D2:Draws prog w A i2 cE n2 P2 bG) (D3:Draws prog w A i3 fp3 n3 P3 St3) (Z:ZB z TI TO i1 i2 i3 cD cE fp3)
 (hz:xy s.heap z TI TO .none) (bN:cV s.heap TI (.ref i1) (.ref i2) (.ref i3)) (cB:cV s.heap TO a b c) (s1:bJ k s.heap) (s2:bG k s.heap) (s3:St3 k s.heap) (k1:k<n1) (k2:k<n2) (k3:k<n3)
 (hQ:∀ x y u h' tk,P1 k x->P2 k y->P3 k u->xy h' z TI TO (jy s.heap.objs.size)->cV h' TO x y u->cV h' TI (.ref i1) (.ref i2) (.ref i3)->bJ (k+1) h'->bG (k+1) h'->St3 (k+1) h'->cV h' s.heap.objs.size x y u->h'.objs.size=s.heap.objs.size+1 ->
   (∀ c o,c≠z->c≠TO->c≠i1->c≠i2->c≠i3->s.heap.get? c=qq o->h'.get? c=qq o)->Q (.ref s.heap.objs.size) {s with heap:=h',toks:=tk }) :
 qy (model prog w) A (Builtin.«zip.__next__» ⟨[.ref z],[]⟩) (λ bX s'=>∃ v,bX=.done (.ret v)/\Q v s') E s:=by
 show qy _ _ (field (.ref z) 2 >>= _) _ _ _;refine wB (qu hz rfl (x:=.bool false) rfl ?_);show qy _ _ (field (.ref z) 3 >>= _) _ _ _;refine wB (qu hz rfl (x:=.ref TI) rfl ?_);refine wB (zx bN rfl ?_);show qy _ _ (yAm (.ref z) >>= _) _ _ _;refine wB ?_;unfold yAm;refine wB (qu hz rfl (x:=.none) rfl (wP ?_));simp only[if_true];refine wB (vq ?_);refine wB (qu hz rfl (x:=.ref TO) rfl ?_);refine wB (zj hz (by simp) λ h₁ hz₁ hs₁=>?_)
 replace hz₁:xy h₁ z TI TO .ellipsis:=hz₁
 refine wB ?_;simp only[yEi,yFo,yDo,yDz];have s11:bJ k h₁:=D1.frame k _ _ s1 λ c hc o e=>hs₁.extBut _ _ (Z.f1 c hc).1 e
 have s21:bG k h₁:=D2.frame k _ _ s2 λ c hc o e=>hs₁.extBut _ _ (Z.f2 c hc).1 e
 have s31:St3 k h₁:=D3.frame k _ _ s3 λ c hc o e=>hs₁.extBut _ _ (Z.f3 c hc).1 e
 refine wB (wB (xu ?_));show qy _ _ (yAl (.ref i1) >>= _) _ _ _;refine wB (D1.item k _ _ _ k1 s11 λ x h₂ tk₂ px s12 hs₂=>wP ?_)
 have s22:bG k h₂:=D2.frame k _ _ s21 λ c hc o e=>hs₂.extBut _ _ (Z.f2 c hc).2.2.1 e
 have s32:St3 k h₂:=D3.frame k _ _ s31 λ c hc o e=>hs₂.extBut _ _ (Z.f3 c hc).2.2.1 e
 have hTO₂:cV h₂ TO a b c:=hs₂.extBut _ _ Z.TOi1 (hs₁.extBut _ _ Z.TOz cB);refine wB (zx hTO₂ rfl ?_);refine wB (tQ hTO₂ λ h₃ hTO₃ hs₃=>?_)
 replace hTO₃:cV h₃ TO x b c:=hTO₃
 have s13:bJ (k+1) h₃:=D1.frame _ _ _ s12 λ c hc o e=>hs₃.extBut _ _ (Z.f1 c hc).2.1 e
 have s23:bG k h₃:=D2.frame k _ _ s22 λ c hc o e=>hs₃.extBut _ _ (Z.f2 c hc).2.1 e
 have s33:St3 k h₃:=D3.frame k _ _ s32 λ c hc o e=>hs₃.extBut _ _ (Z.f3 c hc).2.1 e
 refine wB (ju (wP ?_));refine wB (wB (xu ?_));show qy _ _ (yAl (.ref i2) >>= _) _ _ _;refine wB (D2.item k _ _ _ k2 s23 λ y h₄ tk₄ py s24 hs₄=>wP ?_)
 have s14:bJ (k+1) h₄:=D1.frame _ _ _ s13 λ c hc o e=>hs₄.extBut _ _ (Z.f1 c hc).2.2.1 e
 have s34:St3 k h₄:=D3.frame _ _ _ s33 λ c hc o e=>hs₄.extBut _ _ (Z.f3 c hc).2.2.2 e
 have hTO₄:cV h₄ TO x b c:=hs₄.extBut _ _ Z.TOi2 hTO₃;refine wB (zx hTO₄ rfl ?_);refine wB (tQ hTO₄ λ h₅ hTO₅ hs₅=>?_)
 replace hTO₅:cV h₅ TO x y c:=hTO₅
 have s15:bJ (k+1) h₅:=D1.frame _ _ _ s14 λ c hc o e=>hs₅.extBut _ _ (Z.f1 c hc).2.1 e
 have s25:bG (k+1) h₅:=D2.frame _ _ _ s24 λ c hc o e=>hs₅.extBut _ _ (Z.f2 c hc).2.1 e
 have s35:St3 k h₅:=D3.frame _ _ _ s34 λ c hc o e=>hs₅.extBut _ _ (Z.f3 c hc).2.1 e
 refine wB (ju (wP ?_));refine wB (wB (xu ?_));show qy _ _ (yAl (.ref i3) >>= _) _ _ _;refine wB (D3.item k _ _ _ k3 s35 λ u h₆ tk₆ pu s36 hs₆=>wP ?_)
 have s16:bJ (k+1) h₆:=D1.frame _ _ _ s15 λ c hc o e=>hs₆.extBut _ _ (Z.f1 c hc).2.2.2 e
 have s26:bG (k+1) h₆:=D2.frame _ _ _ s25 λ c hc o e=>hs₆.extBut _ _ (Z.f2 c hc).2.2.2 e
 have hTO₆:cV h₆ TO x y c:=hs₆.extBut _ _ Z.TOi3 hTO₅;refine wB (zx hTO₆ rfl ?_);refine wB (tQ hTO₆ λ h₇ hTO₇ hs₇=>?_)
 replace hTO₇:cV h₇ TO x y u:=hTO₇
 have s17:bJ (k+1) h₇:=D1.frame _ _ _ s16 λ c hc o e=>hs₇.extBut _ _ (Z.f1 c hc).2.1 e
 have s27:bG (k+1) h₇:=D2.frame _ _ _ s26 λ c hc o e=>hs₇.extBut _ _ (Z.f2 c hc).2.1 e
 have s37:St3 (k+1) h₇:=D3.frame _ _ _ s36 λ c hc o e=>hs₇.extBut _ _ (Z.f3 c hc).2.1 e
 refine wB (ju (wP (wP ?_)));refine wB (zx hTO₇ rfl ?_);refine wB (wpAny_newTuple ?_);have hsz:h₇.objs.size=s.heap.objs.size:=by rw[hs₇.1,hs₆.1,hs₅.1,hs₄.1,hs₃.1,hs₂.1,hs₁.1]
 have hz₇:xy h₇ z TI TO .ellipsis:=hs₇.extBut _ _ Z.TOz.symm (hs₆.extBut _ _ Z.i3z.symm (hs₅.extBut _ _ Z.TOz.symm (hs₄.extBut _ _ Z.i2z.symm (hs₃.extBut _ _ Z.TOz.symm (hs₂.extBut _ _ Z.i1z.symm hz₁)))));have hk₇:∀ c o,c≠z->c≠TO->c≠i1->c≠i2->c≠i3->s.heap.get? c=qq o->h₇.get? c=qq o:=λ c o c1 c2 c3 c4 c5 e =>
  hs₇.extBut _ _ c2 (hs₆.extBut _ _ c5 (hs₅.extBut _ _ c2 (hs₄.extBut _ _ c4 (hs₃.extBut _ _ c2 (hs₂.extBut _ _ c3 (hs₁.extBut _ _ c1 e))))))
 have hzlt:z<h₇.objs.size:=xAa hz₇;show qy _ _ (yBx (.ref z) (.ref h₇.objs.size) >>= _) _ _ _;refine wB ?_;unfold yBx;have hz₈:xy (h₇.push {cls:=.type "tuple",data:=.seq #[x,y,u] }) z TI TO .ellipsis:=hpS _ hz₇;refine wB (zj hz₈ (by simp) λ g₇ hz₉ hs₉=>?_)
 replace hz₉:xy g₇ z TI TO (jy h₇.objs.size):=hz₉
 refine zj hz₉ (by simp) λ g₈ hg₈ hs₈=>?_
 replace hg₈:xy g₈ z TI TO (jy h₇.objs.size):=hg₈
 have up:∀ c o,c≠z->h₇.get? c=qq o->g₈.get? c=qq o:=λ c o c1 e=>hs₈.extBut _ _ c1 (hs₉.extBut _ _ c1 (hpS _ e))
 have hT₈:cV g₈ h₇.objs.size x y u:=hs₈.extBut _ _ (yCv hzlt) (hs₉.extBut _ _ (yCv hzlt) (xAd _ rfl));have hz8:g₈.objs.size=h₇.objs.size+1:=by rw[hs₈.1,hs₉.1,yBi]
 rw[hsz] at hg₈ hT₈ hz8;refine wP ⟨_,rfl,?_⟩;show Q (.ref h₇.objs.size) _;rw[hsz];exact hQ x y u g₈ _ px py pu hg₈ (up _ _ Z.TOz hTO₇) (up _ _ Z.TIz (hk₇ _ _ Z.TIz Z.TITO Z.TIi1 Z.TIi2 Z.TIi3 bN)) (D1.frame _ _ _ s17 λ c hc o e=>up c o (Z.f1 c hc).1 e) (D2.frame _ _ _ s27 λ c hc o e=>up c o (Z.f2 c hc).1 e) (D3.frame _ _ _ s37 λ c hc o e=>up c o (Z.f3 c hc).1 e) hT₈ hz8 λ c o c1 c2 c3 c4 c5 e=>up c o c1 (hk₇ c o c1 c2 c3 c4 c5 e)
theorem aMY{z TI TO i1 i2 i3:qv}{cD cE fp3:List qv}{n1 n2 n3 k:Nat}{P1 P2 P3:Nat->qx->Prop}{bJ bG St3:Nat->Heap->Prop}{a b c:qx}{Q:Fin->qj->Prop}
 (D1:Draws prog w A i1 cD n1 P1 bJ) (D2:Draws prog w A i2 cE n2 P2 bG) (D3:Draws prog w A i3 fp3 n3 P3 St3) (Z:ZB z TI TO i1 i2 i3 cD cE fp3)
 (hz:xy s.heap z TI TO .none) (bN:cV s.heap TI (.ref i1) (.ref i2) (.ref i3)) (cB:cV s.heap TO a b c) (s1:bJ k s.heap) (s2:bG k s.heap) (s3:St3 k s.heap) (hend:k=n1\/(k<n1/\k=n2)\/(k<n1/\k<n2/\k=n3))
 (hE:∀ h' tk e,(∀ c o,c≠z->c≠TO->c≠i1->c≠i2->c≠i3->s.heap.get? c=qq o->h'.get? c=qq o)->(∃ o,h'.get? e=qq o/\o.cls=.type "StopIteration")->E (.ref e) {s with heap:=h',toks:=tk }) :
 qy (model prog w) A (Builtin.«zip.__next__» ⟨[.ref z],[]⟩) Q E s:=by
 show qy _ _ (field (.ref z) 2 >>= _) _ _ _;refine wB (qu hz rfl (x:=.bool false) rfl ?_);show qy _ _ (field (.ref z) 3 >>= _) _ _ _;refine wB (qu hz rfl (x:=.ref TI) rfl ?_);refine wB (zx bN rfl ?_);show qy _ _ (yAm (.ref z) >>= _) _ _ _;refine wB ?_;unfold yAm;refine wB (qu hz rfl (x:=.none) rfl (wP ?_));simp only[if_true];refine wB (vq ?_);refine wB (qu hz rfl (x:=.ref TO) rfl ?_);refine wB (zj hz (by simp) λ h₁ hz₁ hs₁=>?_)
 replace hz₁:xy h₁ z TI TO .ellipsis:=hz₁
 refine wB ?_;simp only[yEi,yFo,yDo,yDz];have s11:bJ k h₁:=D1.frame k _ _ s1 λ c hc o e=>hs₁.extBut _ _ (Z.f1 c hc).1 e
 have s21:bG k h₁:=D2.frame k _ _ s2 λ c hc o e=>hs₁.extBut _ _ (Z.f2 c hc).1 e
 have s31:St3 k h₁:=D3.frame k _ _ s3 λ c hc o e=>hs₁.extBut _ _ (Z.f3 c hc).1 e
 refine wB (wB (xu ?_));show qy _ _ (yAl (.ref i1) >>= _) _ _ _
 by_cases e1:k=n1
 ·subst e1;refine wB (D1.done _ _ _ s11 λ h₂ e hs₂ he=>?_)
  obtain⟨oe,hoe,hce⟩:=he;have hz₂:xy h₂ z TI TO .ellipsis:=hs₂ _ _ Z.i1z.symm hz₁;have hez:e≠z:=λ x=>by subst x;rw[hz₂] at hoe;cases hoe;simp at hce
  exact zj hz₂ (by simp) λ h₃ _ hs₃=>hE h₃ _ e (λ c o c1 _ c3 _ _ x=>hs₃.extBut _ _ c1 (hs₂ _ _ c3 (hs₁.extBut _ _ c1 x))) ⟨oe,hs₃.extBut _ _ hez hoe,hce⟩
 have k1:k<n1:=by
  rcases hend with q | ⟨q,_⟩ | ⟨q,_⟩
  ·exact absurd q e1
  ·exact q
  ·exact q
 refine wB (D1.item k _ _ _ k1 s11 λ x h₂ tk₂ px s12 hs₂=>wP ?_)
 have s22:bG k h₂:=D2.frame k _ _ s21 λ c hc o e=>hs₂.extBut _ _ (Z.f2 c hc).2.2.1 e
 have s32:St3 k h₂:=D3.frame k _ _ s31 λ c hc o e=>hs₂.extBut _ _ (Z.f3 c hc).2.2.1 e
 have hTO₂:cV h₂ TO a b c:=hs₂.extBut _ _ Z.TOi1 (hs₁.extBut _ _ Z.TOz cB);refine wB (zx hTO₂ rfl ?_);refine wB (tQ hTO₂ λ h₃ hTO₃ hs₃=>?_)
 replace hTO₃:cV h₃ TO x b c:=hTO₃
 have s23:bG k h₃:=D2.frame k _ _ s22 λ c hc o e=>hs₃.extBut _ _ (Z.f2 c hc).2.1 e
 have s33:St3 k h₃:=D3.frame k _ _ s32 λ c hc o e=>hs₃.extBut _ _ (Z.f3 c hc).2.1 e
 have hz₃:xy h₃ z TI TO .ellipsis:=hs₃.extBut _ _ Z.TOz.symm (hs₂.extBut _ _ Z.i1z.symm hz₁);have kp₃:∀ c o,c≠z->c≠TO->c≠i1->s.heap.get? c=qq o->h₃.get? c=qq o:=λ c o c1 c2 c3 x=>hs₃.extBut _ _ c2 (hs₂.extBut _ _ c3 (hs₁.extBut _ _ c1 x))
 refine wB (ju (wP ?_));refine wB (wB (xu ?_));show qy _ _ (yAl (.ref i2) >>= _) _ _ _
 by_cases e2:k=n2
 ·subst e2;refine wB (D2.done _ _ _ s23 λ h₄ e hs₄ he=>?_)
  obtain⟨oe,hoe,hce⟩:=he;have hz₄:xy h₄ z TI TO .ellipsis:=hs₄ _ _ Z.i2z.symm hz₃;have hez:e≠z:=λ x=>by subst x;rw[hz₄] at hoe;cases hoe;simp at hce
  exact zj hz₄ (by simp) λ h₅ _ hs₅=>hE h₅ _ e (λ c o c1 c2 c3 c4 _ x=>hs₅.extBut _ _ c1 (hs₄ _ _ c4 (kp₃ c o c1 c2 c3 x))) ⟨oe,hs₅.extBut _ _ hez hoe,hce⟩
 have k2:k<n2/\k=n3:=by
  rcases hend with q | ⟨_,q⟩ | ⟨_,q⟩
  ·exact absurd q e1
  ·exact absurd q e2
  ·exact q
 obtain⟨k2,rfl⟩:=k2;refine wB (D2.item k _ _ _ k2 s23 λ y h₄ tk₄ py s24 hs₄=>wP ?_)
 have s34:St3 k h₄:=D3.frame _ _ _ s33 λ c hc o e=>hs₄.extBut _ _ (Z.f3 c hc).2.2.2 e
 have hTO₄:cV h₄ TO x b c:=hs₄.extBut _ _ Z.TOi2 hTO₃;refine wB (zx hTO₄ rfl ?_);refine wB (tQ hTO₄ λ h₅ hTO₅ hs₅=>?_)
 have s35:St3 k h₅:=D3.frame _ _ _ s34 λ c hc o e=>hs₅.extBut _ _ (Z.f3 c hc).2.1 e
 refine wB (ju (wP ?_));refine wB (wB (xu ?_));show qy _ _ (yAl (.ref i3) >>= _) _ _ _;refine wB (D3.done _ _ _ s35 λ h₆ e hs₆ he=>?_)
 obtain⟨oe,hoe,hce⟩:=he;have hz₆:xy h₆ z TI TO .ellipsis:=hs₆ _ _ Z.i3z.symm (hs₅.extBut _ _ Z.TOz.symm (hs₄.extBut _ _ Z.i2z.symm hz₃));have hez:e≠z:=λ x=>by subst x;rw[hz₆] at hoe;cases hoe;simp at hce
 exact zj hz₆ (by simp) λ h₇ _ hs₇=>hE h₇ _ e (λ c o c1 c2 c3 c4 c5 x=>hs₇.extBut _ _ c1 (hs₆ _ _ c5 (hs₅.extBut _ _ c2 (hs₄.extBut _ _ c4 (kp₃ c o c1 c2 c3 x))))) ⟨oe,hs₇.extBut _ _ hez hoe,hce⟩
theorem aKw{z TI TO i1 i2 i3:qv}{cD cE fp3:List qv}{n1 n2 n3 k:Nat}{P1 P2 P3:Nat->qx->Prop}{bJ bG St3:Nat->Heap->Prop}{a b c:qx}{Q:Option qx->qj->Prop}
 (D1:Draws prog w A.in1 i1 cD n1 P1 bJ) (D2:Draws prog w A.in1 i2 cE n2 P2 bG) (D3:Draws prog w A.in1 i3 fp3 n3 P3 St3) (Z:ZB z TI TO i1 i2 i3 cD cE fp3)
 (hz:xy s.heap z TI TO .none) (bN:cV s.heap TI (.ref i1) (.ref i2) (.ref i3)) (cB:cV s.heap TO a b c) (s1:bJ k s.heap) (s2:bG k s.heap) (s3:St3 k s.heap) (k1:k<n1) (k2:k<n2) (k3:k<n3)
 (hQ:∀ x y u h' tk,P1 k x->P2 k y->P3 k u->xy h' z TI TO (jy s.heap.objs.size)->cV h' TO x y u->cV h' TI (.ref i1) (.ref i2) (.ref i3)->bJ (k+1) h'->bG (k+1) h'->St3 (k+1) h'->cV h' s.heap.objs.size x y u->h'.objs.size=s.heap.objs.size+1 ->
   (∀ c o,c≠z->c≠TO->c≠i1->c≠i2->c≠i3->s.heap.get? c=qq o->h'.get? c=qq o)->Q (qq (.ref s.heap.objs.size)) {s with heap:=h',toks:=tk }) :
 qy (model prog w) A (jk (.ref z)) Q E s:=by
 have hT:s.TypeIs (.ref z) "zip":=⟨_,hz,rfl⟩;unfold jk;exact wB (vx (wpAny_callSpecial?_slot (name:=Str.ofString "__next__") hT F.slot_zip_next
  (zo F.slot_zip_next hT F.entry_zip_next
    (aMr D1 D2 D3 Z hz bN cB s1 s2 s3 k1 k2 k3 λ x y u h' tk a0 b0 c0 a1 a2 a3 a4 a5 a6 a7 a8 a9=>wP (hQ x y u h' tk a0 b0 c0 a1 a2 a3 a4 a5 a6 a7 a8 a9)) (F.args_zip_next_1 _))))
theorem aKI{z TI TO i1 i2 i3:qv}{cD cE fp3:List qv}{n1 n2 n3 k:Nat}{P1 P2 P3:Nat->qx->Prop}{bJ bG St3:Nat->Heap->Prop}{a b c:qx}{Q:Option qx->qj->Prop}
 (D1:Draws prog w A.in1 i1 cD n1 P1 bJ) (D2:Draws prog w A.in1 i2 cE n2 P2 bG) (D3:Draws prog w A.in1 i3 fp3 n3 P3 St3) (Z:ZB z TI TO i1 i2 i3 cD cE fp3)
 (hz:xy s.heap z TI TO .none) (bN:cV s.heap TI (.ref i1) (.ref i2) (.ref i3)) (cB:cV s.heap TO a b c) (s1:bJ k s.heap) (s2:bG k s.heap) (s3:St3 k s.heap) (hend:k=n1\/(k<n1/\k=n2)\/(k<n1/\k<n2/\k=n3))
 (hQ:∀ h' tk,(∀ c o,c≠z->c≠TO->c≠i1->c≠i2->c≠i3->s.heap.get? c=qq o->h'.get? c=qq o)->Q qz {s with heap:=h',toks:=tk }):qy (model prog w) A (jk (.ref z)) Q E s:=by
 have hT:s.TypeIs (.ref z) "zip":=⟨_,hz,rfl⟩;unfold jk;refine wB (vx (wpAny_callSpecial?_slot (name:=Str.ofString "__next__") hT F.slot_zip_next
  (zo F.slot_zip_next hT F.entry_zip_next (aMY D1 D2 D3 Z hz bN cB s1 s2 s3 hend λ h' tk e hk he=>?_) (F.args_zip_next_1 _))))
 obtain⟨o,ho,hc⟩:=he;refine wB (yv (T:="StopIteration") (b:=true) ⟨o,ho,hc⟩ kx ?_);exact wP (hQ _ _ hk)
end
noncomputable def aDp(K:FrG)(t u v:Bool)(a b c:qv):It:=
 ⟨λ i H=>∃ xs x ys y zs z,Sq t K H a xs/\xs[i]? = qq x/\Sq u K H b ys/\ys[i]? = qq y/\Sq v K H c zs/\zs[i]? = qq z,
  λ i H r H'=>∃ p x y z,H p=qz/\H'=bE H p (.tup [x,y,z])/\r=.ref p/\(∀ xs,Sq t K H a xs->xs[i]? = qq x)/\(∀ ys,Sq u K H b ys->ys[i]? = qq y)/\∀ zs,Sq v K H c zs->zs[i]? = qq z,
  λ i H=>∃ xs ys zs,Sq t K H a xs/\Sq u K H b ys/\Sq v K H c zs/\i=min xs.length (min ys.length zs.length)⟩
theorem aMu{P:zq}{w:zw}{K:FrG}{elts:List qw}{k:Nat}{pos:Pos}(t u v:Bool)(a b c z TI TO i1 i2 i3:qv)(Z:ZB z TI TO i1 i2 i3 [i1,a] [i2,b] [i3,c])(h1:a≠i1)(h2:b≠i2)(h3:c≠i3) :
 Turn P w K (.Tuple elts k pos) (aDp K t u v a b c) [z,TI,TO,i1,i2,i3] z (λ i h=>xy h z TI TO .none/\cV h TI (.ref i1) (.ref i2) (.ref i3)/\(∃ x y z,cV h TO x y z)/\dO t h i1 a i/\dO u h i2 b i/\dO v h i3 c i) where
 mem:=xAc
 obj:=λ i h ⟨hz,bN,⟨x,y,_,cB⟩,hi1,hi2,hi3⟩=>eK ⟨_,hz,λ v=>by intro z;cases z⟩ (eK ⟨_,bN,λ v=>by intro z;cases z⟩ (eK ⟨_,cB,λ v=>by intro z;cases z⟩ (eK hi1.obj (eK hi2.obj (eK hi3.obj aln)))))
 keep:=λ i h h' ⟨hz,bN,⟨x,y,z',cB⟩,hi1,hi2,hi3⟩ q=>⟨q z xAc _ hz,q TI (mT xAc) _ bN,⟨x,y,z',q TO (mT (mT xAc)) _ cB⟩,hi1.at λ o e=>q i1 (mT (mT (mT xAc))) o e,hi2.at λ o e=>q i2 (mT (mT (mT (mT xAc)))) o e,hi3.at λ o e=>q i3 (mT (mT (mT (mT (mT xAc))))) o e⟩
 item:=λ X hP hW hK hc i aB s σ H E I hf aQ gU=>by
  obtain⟨hz,bN,⟨x0,y0,z0,cB⟩,hi1,hi2,hi3⟩:=aQ;obtain⟨xs,x,ys,y,zs,zz,sq1,hx,sq2,hy,sq3,hzz⟩:=gU;subst hP hW hK;have hh:X.A.in1.handled=qz:=I.ok.hd hc;obtain⟨dU,rv1,pl1⟩:=eS I sq1;obtain⟨dA,rv2,pl2⟩:=eS I sq2;obtain⟨its3,rv3,pl3⟩:=eS I sq3;obtain⟨u1,hu1,ru1⟩:=rv1.get hx;obtain⟨u2,hu2,ru2⟩:=rv2.get hy;obtain⟨u3,hu3,ru3⟩:=rv3.get hzz;have lt1:i<dU.toArray.size:=by rw[yAg];exact(gIm hu1).1
  have lt2:i<dA.toArray.size:=by rw[yAg];exact(gIm hu2).1
  have lt3:i<its3.toArray.size:=by rw[yAg];exact(gIm hu3).1
  refine aKw (gX (prog:=X.prog) (w:=X.w) hh t i1 a h1 dU.toArray) (gX (prog:=X.prog) (w:=X.w) hh u i2 b h2 dA.toArray) (gX (prog:=X.prog) (w:=X.w) hh v i3 c h3 its3.toArray) Z hz bN cB ⟨hi1,pl1⟩ ⟨hi2,pl2⟩ ⟨hi3,pl3⟩ lt1 lt2 lt3 λ x' y' z' h₁ tk px py pz hz₁ hTO₁ hTI₁ s1 s2 s3 hT₁ hsz hk=>⟨_,rfl,?_⟩
  have ex:x'=u1:=by rw[yBq,hu1] at px;exact(Option.some.inj px).symm
  have ey:y'=u2:=by rw[yBq,hu2] at py;exact(Option.some.inj py).symm
  have ez:z'=u3:=by rw[yBq,hu3] at pz;exact(Option.some.inj pz).symm
  subst ex ey ez;have zLt:z<s.heap.objs.size:=xAa hz;refine kw hz₁ λ h₂ hz₂ hs₂=>?_
  have hs2:yCu z h₁ h₂:=hs₂;have ht₂:cV h₂ s.heap.objs.size x' y' z':=hs2.extBut _ _ (yCv zLt) hT₁;have I2:Inv X aB σ (bE H s.heap.objs.size (.tup [x,y,zz])) {s with heap:=h₂,toks:=tk }:=by
   refine sY I hf (λ c o hb e'=>?_) (yAc _) ⟨by show 3<=qk;decide,[x',y',z'],.cons ru1 (.cons ru2 (.cons ru3 .nil)),⟨_,ht₂,rfl,0,rfl⟩⟩
   exact hs2.extBut c o (fA hb) (hk c o (fA hb) (fA (bT (bT hb))) (fA (bT (bT (bT hb)))) (fA (bT (bT (bT (bT hb))))) (fA (bT (bT (bT (bT (bT hb)))))) e')
  refine⟨.ref s.heap.objs.size,_,I2,rfl,⟨s.heap.objs.size,x,y,zz,I.fresh,rfl,rfl,λ zs hy=>by rw[uQ I hy sq1];exact hx,λ zs hz=>by rw[uQ I hz sq2];exact hy,λ zs hz=>by rw[uQ I hz sq3];exact hzz⟩,⟨hz₂,hs2.extBut _ _ Z.TIz hTI₁,⟨_,_,_,hs2.extBut _ _ Z.TOz hTO₁⟩,s1.1.at λ o e=>hs2.extBut _ _ Z.i1z e,s2.1.at λ o e=>hs2.extBut _ _ Z.i2z e,s3.1.at λ o e=>hs2.extBut _ _ Z.i3z e⟩,λ c hb=>?_⟩
  have:c<s.heap.objs.size:=eK (P:=λ c=>c<s.heap.objs.size) zLt (eK (xAa bN) (eK (xAa cB) (eK (let ⟨_,ho,_⟩:=hi1.obj;xAa ho) (eK (let ⟨_,ho,_⟩:=hi2.obj;xAa ho) (eK (let ⟨_,ho,_⟩:=hi3.obj;xAa ho) aln))))) c hb
  rw[bM (xAj this)];exact(hf c hb).1
 done:=λ X hP hW hK hc i aB s σ H E I hf aQ gU=>by
  obtain⟨hz,bN,⟨x0,y0,z0,cB⟩,hi1,hi2,hi3⟩:=aQ;obtain⟨xs,ys,zs,sq1,sq2,sq3,hi⟩:=gU;subst hP hW hK;have hh:X.A.in1.handled=qz:=I.ok.hd hc;obtain⟨dU,rv1,pl1⟩:=eS I sq1;obtain⟨dA,rv2,pl2⟩:=eS I sq2;obtain⟨its3,rv3,pl3⟩:=eS I sq3;have l1:=rv1.length;have l2:=rv2.length;have l3:=rv3.length;have hend:i=dU.toArray.size\/(i<dU.toArray.size/\i=dA.toArray.size)\/(i<dU.toArray.size/\i<dA.toArray.size/\i=its3.toArray.size):=by
   rw[yAg,yAg,yAg];omega
  refine aKI (gX (prog:=X.prog) (w:=X.w) hh t i1 a h1 dU.toArray) (gX (prog:=X.prog) (w:=X.w) hh u i2 b h2 dA.toArray) (gX (prog:=X.prog) (w:=X.w) hh v i3 c h3 its3.toArray) Z hz bN cB ⟨hi1,pl1⟩ ⟨hi2,pl2⟩ ⟨hi3,pl3⟩ hend λ h₁ tk hk=>⟨rfl,?_⟩
  exact aBo I hf λ c o hb e'=>hk c o (fA hb) (fA (bT (bT hb))) (fA (bT (bT (bT hb)))) (fA (bT (bT (bT (bT hb))))) (fA (bT (bT (bT (bT (bT hb)))))) e'
 self:=λ A i s Q E ⟨hz,_⟩ hq=>vy hz hq
section
variable {prog : zq}{w : zw}{A : zy}{E : qx -> qj -> Prop}{s : qj}
noncomputable abbrev wW(h:Heap)(t:Bool)(l1:qv):Heap:=h.push {cls:=.type (qR t),data:=.fields #[.ref l1,.int 0 0] }
noncomputable abbrev wV(h:Heap)(t u:Bool)(l1 l2:qv):Heap:=(wW h t l1).push {cls:=.type (qR u),data:=.fields #[.ref l2,.int 0 0] }
noncomputable abbrev yH3(h:Heap)(t u v:Bool)(l1 l2 l3:qv):Heap:=(wV h t u l1 l2).push {cls:=.type (qR v),data:=.fields #[.ref l3,.int 0 0] }
noncomputable abbrev yH4(h:Heap)(t u v:Bool)(l1 l2 l3:qv):Heap:=(yH3 h t u v l1 l2 l3).push {cls:=.type "tuple",data:=.seq #[.ref h.objs.size,.ref (wW h t l1).objs.size,.ref (wV h t u l1 l2).objs.size] }
noncomputable abbrev yH5(h:Heap)(t u v:Bool)(l1 l2 l3:qv):Heap:=(yH4 h t u v l1 l2 l3).push {cls:=.type "tuple",data:=.seq #[.none,.none,.none] }
noncomputable abbrev kC(h:Heap)(t u v:Bool)(l1 l2 l3:qv):Heap:=(yH5 h t u v l1 l2 l3).push {cls:=.type "zip",data:=.fields #[.none,.bool false,.bool false,.ref (yH3 h t u v l1 l2 l3).objs.size,.ref (yH4 h t u v l1 l2 l3).objs.size] }
theorem aLs(t u v:Bool)(l1 l2 l3:qv)(xs ys zs:Array qx) :
 Meets (Builtin.«zip.__new__» ⟨[.type "zip",.ref l1,.ref l2,.ref l3],[]⟩) (λ _ R s=>dL t s.heap l1 xs/\dL u s.heap l2 ys/\dL v s.heap l3 zs /\
  R (.ok (.ret (.ref (yH5 s.heap t u v l1 l2 l3).objs.size))) {s with heap:=kC s.heap t u v l1 l2 l3 }):=
 .of_wp λ prog w A R s h=>by
  obtain⟨hp,g,d,tk,os⟩:=s;obtain⟨hl1,hl2,hl3,h⟩:=h;have hsub:=sub_zip;have hL1:dL t (Shared.heap ⟨hp,g,d,tk,os⟩) l1 xs:=hl1;have hL2:dL u (Shared.heap ⟨wW hp t l1,g,d,tk,os⟩) l2 ys:=dL.push hl2 _;have hL3:dL v (Shared.heap ⟨wV hp t u l1 l2,g,d,tk,os⟩) l3 zs:=dL.push (dL.push hl3 _) _
  wp_walk using tF hL1,tF hL2,tF hL3
  exact⟨_,rfl,h⟩
theorem aPu(a b c:qx):checkTypeCall "zip" ⟨[a,b,c],[]⟩=pure ():=by kernel_rfl
theorem aOy(a b c:qx):checkBuiltinCall "zip.__new__" ⟨[.type "zip",a,b,c],[]⟩=pure ():=by kernel_rfl
theorem aMN(a b c d:qx):argsOk "object.__init__" ⟨[a,b,c,d],[]⟩:=by
 unfold argsOk;rw[signature?_of (id:="object.__init__") (n:=['_','_','t','i','n','i','_','_']) (o:=['t','c','e','j','b','o']) (by kernel_rfl) F.owner_object];kernel_rfl
theorem aMA{t u v:Bool}{l1 l2 l3:qv}{xs ys zs:Array qx}{Q:qx->qj->Prop}(hl1:dL t s.heap l1 xs)(hl2:dL u s.heap l2 ys)(hl3:dL v s.heap l3 zs)
 (h:∀ h',xy h' (s.heap.objs.size+5) (s.heap.objs.size+3) (s.heap.objs.size+4) .none->cV h' (s.heap.objs.size+3) (.ref s.heap.objs.size) (.ref (s.heap.objs.size+1)) (.ref (s.heap.objs.size+2)) ->
   cV h' (s.heap.objs.size+4) .none .none .none->dO t h' s.heap.objs.size l1 0->dO u h' (s.heap.objs.size+1) l2 0->dO v h' (s.heap.objs.size+2) l3 0->h'.objs.size=s.heap.objs.size+6 ->
   (∀ c o,s.heap.get? c=qq o->h'.get? c=qq o)->Q (.ref (s.heap.objs.size+5)) {s with heap:=h' }) :
 qy (model prog w) A (call (.type "zip") [.ref l1,.ref l2,.ref l3]) Q E s:=by
 refine callType_new F.called_zip (by decide) (aPu _ _ _) (aOy _ _ _) (λ obj=>aMN obj _ _ _) F.entry_zip_new
  (aLs t u v l1 l2 l3 xs ys zs) ⟨hl1,hl2,hl3,?_⟩
 have z1:(wW s.heap t l1).objs.size=s.heap.objs.size+1:=yBi ..;have z2:(wV s.heap t u l1 l2).objs.size=s.heap.objs.size+2:=by rw[yBi,z1]
 have z3:(yH3 s.heap t u v l1 l2 l3).objs.size=s.heap.objs.size+3:=by rw[yBi,z2]
 have z4:(yH4 s.heap t u v l1 l2 l3).objs.size=s.heap.objs.size+4:=by rw[yBi,z3]
 have z5:(yH5 s.heap t u v l1 l2 l3).objs.size=s.heap.objs.size+5:=by rw[yBi,z4]
 have z6:(kC s.heap t u v l1 l2 l3).objs.size=s.heap.objs.size+6:=by rw[yBi,z5]
 have g6:(kC s.heap t u v l1 l2 l3).get? (yH5 s.heap t u v l1 l2 l3).objs.size=qq _:=xAd _ rfl;have g5:(kC s.heap t u v l1 l2 l3).get? (yH4 s.heap t u v l1 l2 l3).objs.size=qq _:=hpS _ (xAd _ rfl);have g4:(kC s.heap t u v l1 l2 l3).get? (yH3 s.heap t u v l1 l2 l3).objs.size=qq _:=hpS _ (hpS _ (xAd _ rfl));have g3:(kC s.heap t u v l1 l2 l3).get? (wV s.heap t u l1 l2).objs.size=qq _:=hpS _ (hpS _ (hpS _ (xAd _ rfl)));have g2:(kC s.heap t u v l1 l2 l3).get? (wW s.heap t l1).objs.size=qq _:=hpS _ (hpS _ (hpS _ (hpS _ (xAd _ rfl))));have g1:(kC s.heap t u v l1 l2 l3).get? s.heap.objs.size=qq _:=hpS _ (hpS _ (hpS _ (hpS _ (hpS _ (xAd _ rfl)))));show _/\_;rw[z3,z4,z5] at g6;rw[z1,z2,z3] at g4;rw[z4] at g5;rw[z2] at g3;rw[z1] at g2;rw[z5];have i1:dO t (kC s.heap t u v l1 l2 l3) s.heap.objs.size l1 0:=by cases t<;>exact⟨_,g1,rfl,rfl⟩
 have i2:dO u (kC s.heap t u v l1 l2 l3) (s.heap.objs.size+1) l2 0:=by cases u<;>exact⟨_,g2,rfl,rfl⟩
 have i3:dO v (kC s.heap t u v l1 l2 l3) (s.heap.objs.size+2) l3 0:=by cases v<;>exact⟨_,g3,rfl,rfl⟩
 exact⟨⟨_,g6,rfl⟩,h _ g6 g4 g5 i1 i2 i3 z6 λ c o x =>
  hpS _ (hpS _ (hpS _ (hpS _ (hpS _ (hpS _ x)))))⟩
end
theorem aRq{n a b c:Nat}(ha:a<n)(hb:b<n)(hc:c<n):ZB (n+5) (n+3) (n+4) n (n+1) (n+2) [n,a] [n+1,b] [n+2,c]:=by
 have h:∀ i j:Nat,i≠j->(n+i:Nat)≠(n+j:Nat):=λ i j h=>by omega
 have l:∀ (c i:Nat),c<n->(c:Nat)≠(n+i:Nat):=λ c i h=>by omega
 refine⟨h 3 5 (by decide),h 4 5 (by decide),h 0 5 (by decide),h 1 5 (by decide),h 2 5 (by decide),h 3 4 (by decide),h 3 0 (by decide),h 3 1 (by decide),h 3 2 (by decide),h 4 0 (by decide),h 4 1 (by decide),h 4 2 (by decide),λ d hd=>?_,λ d hd=>?_,λ d hd=>?_⟩
 ·rcases List.mem_cons.mp hd with e | e
  ·rw[e];exact⟨h 0 5 (by decide),h 0 4 (by decide),h 0 1 (by decide),h 0 2 (by decide)⟩
  ·rw[List.mem_singleton.mp e];exact⟨l a 5 ha,l a 4 ha,l a 1 ha,l a 2 ha⟩
 ·rcases List.mem_cons.mp hd with e | e
  ·rw[e];exact⟨h 1 5 (by decide),h 1 4 (by decide),h 1 0 (by decide),h 1 2 (by decide)⟩
  ·rw[List.mem_singleton.mp e];exact⟨l b 5 hb,l b 4 hb,l b 0 hb,l b 2 hb⟩
 ·rcases List.mem_cons.mp hd with e | e
  ·rw[e];exact⟨h 2 5 (by decide),h 2 4 (by decide),h 2 0 (by decide),h 2 1 (by decide)⟩
  ·rw[List.mem_singleton.mp e];exact⟨l c 5 hc,l c 4 hc,l c 0 hc,l c 1 hc⟩
section
variable {X : Cx}
noncomputable def aIv(K:FrG)(ta:TA):TI:=λ σ H R=>ta σ H λ vs H1=>∃ a b c t u v,vs=[.ref a,.ref b,.ref c]/\(∃ xs,Sq t K H1 a xs)/\(∃ ys,Sq u K H1 b ys)/\(∃ zs,Sq v K H1 c zs)/\R (aDp K t u v a b c) H1
theorem aOu{elts:List qw}{k:Nat}{pp:Pos}{a b c:qw}{ta:TA}{p pos:Pos}(hg:Gl X "zip")(hm:X.mg "zip" = qz)(ha:PA X [a,b,c] ta)(hs:qo [a,b,c] X.env=(false,eval a X.env)::qo [b,c] X.env)(hs2:qo [b,c] X.env=(false,eval b X.env)::qo [c] X.env)(hs3:qo [c] X.env=[(false,eval c X.env)]):PI X (.Tuple elts k pp) (.Call (.Name "zip" p) [a,b,c] [] pos) (aIv X.K ta):=by
 intro aB s σ H R I h;refine Call_ (jN I hg hm boot_zip (yAv (bD (ha pos aB s σ H _ I h) λ us s1 hPq42=>?_) hs (by rw[hs2,hs3];rfl)))
 obtain⟨vs,H1,I1,r1,q1⟩:=hPq42;obtain⟨l1,l2,l3,t,u,v,rfl,⟨xs,sq1⟩,⟨ys,sq2⟩,⟨zs,sq3⟩,q⟩:=q1;obtain⟨u1,u2,u3,rfl,ru1,ru2,ru3⟩:=aIJ r1;cases ru1;cases ru2;cases ru3;obtain⟨dU,rv1,pl1⟩:=eS I1 sq1;obtain⟨dA,rv2,pl2⟩:=eS I1 sq2;obtain⟨its3,rv3,pl3⟩:=eS I1 sq3;have a1:=pl1.lt;have a2:=pl2.lt;have a3:=pl3.lt;refine aMA pl1 pl2 pl3 λ h' hz bN cB hi1 hi2 hi3 hsz hk=>vy hz ?_
 have I2:Inv X aB σ H1 {s1 with heap:=h' }:=I1.kept (t':=s1.toks) hk
 have hb':∀ b∈[s1.heap.objs.size+5,s1.heap.objs.size+3,s1.heap.objs.size+4,s1.heap.objs.size,s1.heap.objs.size+1,s1.heap.objs.size+2],s1.heap.objs.size<=b:=λ b hb=>by
  simp only[yCh,yCe,or_false] at hb;omega
 have Z:=aRq (n:=s1.heap.objs.size) (a:=l1) (b:=l2) (c:=l3) a1 a2 a3;exact⟨s1.heap.objs.size+5,[s1.heap.objs.size+5,s1.heap.objs.size+3,s1.heap.objs.size+4,s1.heap.objs.size,s1.heap.objs.size+1,s1.heap.objs.size+2],_,_,H1,rfl,I2,aMu t u v l1 l2 l3 _ _ _ _ _ _ Z (xAj a1) (xAj (yCz a2)) (xAj (yCz (yCz a3))),⟨hz,bN,⟨_,_,_,cB⟩,hi1,hi2,hi3⟩,λ b hb=>I1.fpOk (hb' b hb) (I1.hok.fresh (hb' b hb)),q⟩
noncomputable def gF:List D->List D->List D->List D
 | a::as,b::bs,c::cs=>.tuple [a,b,c]::gF as bs cs
 | _,_,_=>[]
theorem aBa:∀ as bs cs:List D,(gF as bs cs).length=min as.length (min bs.length cs.length)
 | [],_,_=>by simp[gF]
 | _::_,[],_=>by simp[gF]
 | _::_,_::_,[]=>by simp[gF]
 | _::as,_::bs,_::cs=>by simp[gF,aBa as bs cs]
theorem aFi:∀ (as bs cs:List D) (i:Nat) (d:D),(gF as bs cs)[i]? = qq d->∃ a b c,as[i]? = qq a/\bs[i]? = qq b/\cs[i]? = qq c/\d=.tuple [a,b,c]
 | [],_,_,i,d,h=>by simp[gF] at h
 | _::_,[],_,i,d,h=>by simp[gF] at h
 | _::_,_::_,[],i,d,h=>by simp[gF] at h
 | a::as,b::bs,c::cs,0,d,h=>by simp[gF] at h;exact⟨a,b,c,rfl,rfl,rfl,h.symm⟩
 | a::as,b::bs,c::cs,i+1,d,h=>by
   obtain⟨x,y,z,h1,h2,h3,h4⟩:=aFi as bs cs i d (by simpa [gF] using h)
   exact⟨x,y,z,by simpa using h1,by simpa using h2,by simpa using h3,h4⟩
theorem aNY{K:FrG}{F:Hp}{L:List qv}{t u v:Bool}{a b c:qv}{xs ys zs:List V}{ds es gs:List D}(sq1:Sq t K F a xs)(dl1:DenL K F ds xs)(sq2:Sq u K F b ys)(dl2:DenL K F es ys)(sq3:Sq v K F c zs)(dl3:DenL K F gs zs):Wk K F L (aDp K t u v a b c) (gF ds es gs) where
 go:=λ i H s hi=>by
  rw[aBa] at hi;have h1:i<xs.length:=by rw[<- dl1.length];omega
  have h2:i<ys.length:=by rw[<- dl2.length];omega
  have h3:i<zs.length:=by rw[<- dl3.length];omega
  exact⟨xs,xs[i],ys,ys[i],zs,zs[i],dM s sq1,by simp[h1],dM s sq2,by simp[h2],dM s sq3,by simp[h3]⟩
 stop:=λ H s=>⟨xs,ys,zs,dM s sq1,dM s sq2,dM s sq3,by rw[aBa,dl1.length,dl2.length,dl3.length]⟩
 yld:=λ i H F1 L1 S x H' d g R e y=>by
  obtain⟨p,x',y',z',hp,rfl,rfl,hx,hy,hz⟩:=y;obtain⟨d1,d2,d3,e1,e2,e0,rfl⟩:=aFi ds es gs i d e;obtain⟨x1,e3,dx⟩:=dl1.get e1;obtain⟨y1,e4,dy⟩:=dl2.get e2;obtain⟨z1,e5,dz⟩:=dl3.get e0;have q1:=hx xs (dM (g.f.trans R.sub) sq1);rw[q1] at e3;cases e3;have q2:=hy ys (dM (g.f.trans R.sub) sq2);rw[q2] at e4;cases e4;have q3:=hz zs (dM (g.f.trans R.sub) sq3);rw[q3] at e5;cases e5;have hF:F1 p=qz:=R.sub.free hp;exact⟨bE F1 p (.tup [x',y',z']),dB hF,R.new hp,.tup (bZ.of dE) (.cons (dx.mono (g.f.trans (dB hF))) (.cons (dy.mono (g.f.trans (dB hF))) (.cons (dz.mono (g.f.trans (dB hF))) .nil)))⟩
noncomputable def aAb(fa fb fc:FE):FL:=λ env S=>(fa env S).bind λ p=>(fb env p.2).bind λ q=>(fc env q.2).bind λ r=>(lU p.1).bind λ ds=>(lU q.1).bind λ es=>(lU r.1).bind λ gs=>qq (gF ds es gs,r.2)
theorem aQj{K:FrG}{fa fb fc:FE}(σ:L2.St)(H:Hp)(Rr:It->Hp->Prop)(h:iC K (aAb fa fb fc) σ H Rr):aIv K (fW K (dH fa (dH fb (dH fc hZ)))) σ H Rr:=by
 obtain⟨F,L,S,env,ds,S',R,E,e,q⟩:=h;obtain⟨⟨w1,S1⟩,e1,e⟩:=bind_some e;obtain⟨⟨w2,S2⟩,e2,e⟩:=bind_some e;obtain⟨⟨w3,S3⟩,e0,e⟩:=bind_some e;obtain⟨ds1,e3,e⟩:=bind_some e;obtain⟨ds2,e4,e⟩:=bind_some e;obtain⟨ds3,e5,e⟩:=bind_some e;dsimp only at e e2 e3 e4 e0 e5;cases e;refine⟨F,L,S,env,[w1,w2,w3],S',R,E,by unfold dH;simp only[e1,e2,e0,hZ,yCb],λ F1 L1 H1 vs g1 R1 d1=>?_⟩
 cases d1 with
 | cons da dr =>
   cases dr with
   | cons db dn =>
     cases dn with
     | cons dc dn =>
       cases dn;obtain⟨t,a,xs,rfl,sq1,dl1⟩:=oJ e3 da;obtain⟨u,b,ys,rfl,sq2,dl2⟩:=oJ e4 db;obtain⟨v,c,zs,rfl,sq3,dl3⟩:=oJ e5 dc;exact⟨a,b,c,t,u,v,rfl,⟨xs,dM R1.sub sq1⟩,⟨ys,dM R1.sub sq2⟩,⟨zs,dM R1.sub sq3⟩,q F1 L1 H1 _ g1 R1 (aNY sq1 dl1 sq2 dl2 sq3 dl3)⟩
end
section
variable {X : Cx}
end
section
open PySem.SeqAt
open PySem.AutoSeq1 (wpAny_loadPart')
open PySem.MeetsSeq PySem.MeetsSeq2 PySem.MeetsSeq3
theorem qL:∀ {vs:List qx}{ns:List Int}{i:Nat},IntsAre vs ns->i<vs.length->∃ a t,vs[i]? = qq (.int a t)/\ns.drop i=a::ns.drop (i+1)
 | _,_,i,.nil,h=>absurd h (yEd i)
 | _,_,0,.cons a t _,_=>⟨a,t,rfl,rfl⟩
 | _,_,i+1,.cons a t r,h=>by
   obtain⟨b,u,h1,h2⟩:=qL (i:=i) r (by simpa using h)
   exact⟨b,u,by simpa using h1,by simpa using h2⟩
end
section
variable {prog : zq}{w : zw}{A : zy}{E : qx -> qj -> Prop}{s : qj}
end
section
variable {X : Cx}
end
section
variable {X : Cx}
end
noncomputable def aJ4(f:FL):FL:=λ env S=>(f env S).bind λ p=>if p.1.length<=1000000 then qq p else qz
theorem aLE:1000000<=qk:=by rw[zv];decide
section
variable {X : Cx}
end
section
variable {X : Cx}
end
noncomputable def wH(hi:Int)(n:Nat):It:=⟨λ i _=>i<n,λ i H x H'=>H'=H/\x=.int (hi-i),λ i _=>n<=i⟩
theorem aFs{P:zq}{w:zw}{K:FrG}{tg:qw}(it:qv)(hi:Int)(n:Nat):Turn P w K tg (wH hi n) [it] it (λ i h=>ky h it (hi+(i:Nat)*(-1)) ((n:Int)-(i:Nat)) (-1)) where
 mem:=by simp
 obj:=λ i h st b hb=>by
  have e:b=it:=by simpa using hb
  subst e;exact⟨_,st,λ v z=>by
   have z':Data.fields _=Data.cell v:=z;cases z'⟩
 keep:=λ i h h' st k=>k it (by simp) _ st
 item:=by
  intro X hP hw hK hc i aB s σ H E I hf st hg;subst hP hw hK;obtain⟨f0,f1,f2,f3,f4,f5⟩:=hf it (by simp)
  have W:=Walks.range (prog:=X.prog) (w:=X.w) (I.ok.hd hc) it hi (-1) n;refine W.item i s _ _ hg st λ v h' tk hv st' kk=>?_
  obtain⟨t,rfl⟩:=hv;have I1:Inv X aB σ H {s with heap:=h',toks:=tk }:=I.turned (λ b o hb e=>kk b o (by simpa using hb) e) f0 f1 f3 f4 f5
  refine⟨_,rfl,aAf (s:={s with heap:=h',toks:=tk }) (n:="range_iterator") st' rfl rfl (by decide) ⟨.int (hi-i),H,I1,⟨t,?_⟩,⟨rfl,rfl⟩,st',λ b hb=>(hf b hb).1⟩⟩
  congr 1;omega
 done:=by
  intro X hP hw hK hc i aB s σ H E I hf st hg;subst hP hw hK;obtain⟨f0,f1,f2,f3,f4,f5⟩:=hf it (by simp)
  exact wpAny_pyNext_range_end (I.ok.hd hc) st (by have:n<=i:=hg;omega) λ h' eb=>⟨rfl,I.turned (t':=s.toks) (λ b o hb e=>eb b o hb e) f0 f1 f3 f4 f5⟩
 self:=λ _ _ _ _ _ st h=>yz st h
theorem aEh(a b:Int):yAk a b (-1)=if b<a then a-b else 0:=by
 unfold yAk;simp only[show ¬ ((-1:Int)>0) by decide,if_false,Int.neg_neg,Int.ediv_one,gt_iff_lt]
 split<;>omega
theorem aLh{a b:Int}(ha : -(2^62)<=a)(ha':a<2^62)(hb : -(2^62)<=b)(hb':b<2^62):yGu a b (-1)=true:=by
 unfold yGu;rw[aEh];simp only[yAd,yBb,yEe,decide_eq_true_eq,beq_iff_eq,show ¬ ((-1:Int)>0) by decide,if_false]
 split<;>omega
section
variable {X : Cx}{tg : qw}
theorem aN0{aB:List (qv×Obj)}{σ:L2.St}{H:Hp}{s:qj}{R:It->Hp->Prop}{E:qx->qj->Prop}{hi lo:Int}{t u v:Tok}{tk:Nat}(I:Inv X aB σ H s)(h1 : -(2^62)<=hi)(h2:hi<2^62)(h3 : -(2^62)<=lo)(h4:lo<2^62)
 (q:R (wH hi (hi-lo).toNat) H):qy (model X.prog X.w) X.A (pyIter (.ref s.heap.objs.size)) (PIE X aB σ tg R) E {s with heap:=s.heap.push {cls:=.type "range",data:=.fields #[.int hi t,.int lo u,.int (-1) v] },toks:=tk }:=by
 refine wpAny_pyIter_range (IsRange.new ..) (aLh h1 h2 h3 h4) ?_;have I1:Inv X aB σ H {s with heap:=s.heap.push {cls:=.type "range",data:=.fields #[.int hi t,.int lo u,.int (-1) v] },toks:=tk }:=I.kept λ b o e=>hpS _ e
 refine⟨(s.heap.push {cls:=.type "range",data:=.fields #[.int hi t,.int lo u,.int (-1) v] }).objs.size,[(s.heap.push {cls:=.type "range",data:=.fields #[.int hi t,.int lo u,.int (-1) v] }).objs.size],_,_,H,rfl,
  I1.kept (t':=tk) λ b o e=>hpS _ e,aFs _ hi (hi-lo).toNat,?_,λ b hb=>?_,q⟩
 ·have e1:hi+((0:Nat):Int)*(-1)=hi:=by simp
  have e2:(((hi-lo).toNat:Nat):Int)-((0:Nat):Int)=yAk hi lo (-1):=by rw[aEh];split<;>omega
  show ky _ _ (hi+((0:Nat):Int)*(-1)) ((((hi-lo).toNat:Nat):Int)-((0:Nat):Int)) (-1);rw[e1,e2];exact xAd _ rfl
 ·have e:b=(s.heap.push {cls:=.type "range",data:=.fields #[.int hi t,.int lo u,.int (-1) v] }).objs.size:=by simpa using hb
  subst e;exact I1.fpOk (yAc _) (I1.hok.fresh (yAc _))
noncomputable def aI5(ta:TA):TI:=λ σ H R=>ta σ H λ vs H1=>∃ i j:Int,vs=[.int i,.int j,.int (-1)]/\(-(2^62)<=i/\i<2^62 /\ -(2^62)<=j/\j<2^62)/\R (wH i (i-j).toNat) H1
theorem aL9{a b c:qw}{ta:TA}{p pos:Pos}(hg:Gl X "range")(hm:X.mg "range" = qz)(ha:PA X [a,b,c] ta)(hs:qo [a,b,c] X.env=(false,eval a X.env)::qo [b,c] X.env)(hs2:qo [b,c] X.env=[(false,eval b X.env),(false,eval c X.env)]) :
 PI X tg (.Call (.Name "range" p) [a,b,c] [] pos) (aI5 ta):=by
 intro aB s σ H R I h;refine Call_ (jN I hg hm boot_range (yAv (bD (ha pos aB s σ H _ I h) λ us s1 hPq43=>?_) hs (by rw[hs2];rfl)))
 obtain⟨vs,H1,I1,r1,q1⟩:=hPq43;obtain⟨i,j,e,⟨q1,q2,q3,q4⟩,q⟩:=q1;subst e;cases r1 with
 | cons r rr =>
   cases rr with
   | cons r' rr =>
     cases rr with
     | cons r'' rr =>
       cases rr;obtain⟨t,rfl⟩:=r;obtain⟨t',rfl⟩:=r';obtain⟨t'',rfl⟩:=r'';exact call_range_3 (by decide) (aN0 I1 q1 q2 q3 q4 q)
noncomputable def iY(hi:Int):Nat->List D
 | 0=>[]
 | n+1=>.int hi::iY (hi-1) n
theorem mL:∀ (n:Nat) (hi:Int),(iY hi n).length=n
 | 0,_=>rfl
 | n+1,hi=>by rw[iY,yBs,mL n]
theorem xU:∀ (n:Nat) (hi:Int) (i:Nat),i<n->(iY hi n)[i]? = qq (.int (hi-i))
 | 0,_,_,h=>by omega
 | n+1,hi,0,_=>by simp[iY]
 | n+1,hi,i+1,h=>by
   rw[iY,yDv,xU n (hi-1) i (by omega)]
   congr 2
   push_cast
   omega
theorem aG1{K:FrG}{F:Hp}{L:List qv}(hi:Int)(n:Nat):Wk K F L (wH hi n) (iY hi n) where
 go:=λ i H s hi=>by rw[mL] at hi;exact hi
 stop:=λ H s=>by rw[mL];exact yAc _
 yld:=λ i H F1 L1 S x H' d g R e y=>by
  obtain⟨rfl,rfl⟩:=y;have hi:i<n:=by
   have:=(gIm e).1;rw[mL] at this;exact this
  rw[xU n _ i hi] at e;cases e;exact⟨F1,cC.refl _,R,.int _⟩
noncomputable def aAa(fa fb fc:FE):FL:=λ env S=>(fa env S).bind λ p=>(fb env p.2).bind λ q=>(fc env q.2).bind λ r=>match p.1,q.1,r.1 with
 | .d (.int i),.d (.int j),.d (.int k)=>if (-(2^62)<=i/\i<2^62 /\ -(2^62)<=j/\j<2^62)/\k = -1 then qq (iY i (i-j).toNat,r.2) else qz
 | _,_,_=>qz
theorem aQl{K:FrG}{fa fb fc:FE}(σ:L2.St)(H:Hp)(Rr:It->Hp->Prop)(h:iC K (aAa fa fb fc) σ H Rr):aI5 (fW K (dH fa (dH fb (dH fc hZ)))) σ H Rr:=by
 obtain⟨F,L,S,env,ds,S',R,E,e,q⟩:=h;obtain⟨⟨w,S1⟩,e1,e2⟩:=bind_some e;obtain⟨⟨w2,S2⟩,e3,e4⟩:=bind_some e2;obtain⟨⟨w3,S3⟩,e5,e6⟩:=bind_some e4;dsimp only at e6 e3 e5
 split at e6
 ·split at e6
  ·rename_i c;obtain⟨c,rfl⟩:=c;cases e6;refine⟨F,L,S,env,[.d (.int _),.d (.int _),.d (.int _)],_,R,E,by unfold dH;rw[e1];dsimp only[yDh];rw[e3];dsimp only[yDh];rw[e5];rfl,λ F1 L1 H1 vs g1 R1 d1=>?_⟩
   cases d1 with
   | cons dd dr =>
     cases dr with
     | cons dd2 dr =>
       cases dr with
       | cons dd3 dr =>
         cases dr;cases (show Den K F1 (.int _) _ from dd)
         cases (show Den K F1 (.int _) _ from dd2)
         cases (show Den K F1 (.int _) _ from dd3)
         exact⟨_,_,rfl,c,q F1 L1 H1 _ g1 R1 (aG1 _ _)⟩
  ·cases e6
 ·cases e6
end
abbrev jO(h:Heap)(z TI TO a:qv)(f:Bool):Prop:=
 h.get? z=qq {cls:=.type "zip",dict:=qz,data:=.fields #[jy a,.bool f,.bool false,.ref TI,.ref TO],slots:=#[] }
section
variable {prog : zq}{w : zw}{A : zy}{E : qx -> qj -> Prop}{s : qj}
theorem aMz{a:qv}{Q:Option Obj->qj->Prop}(h:Q (s.heap.get? a) s):qy (model prog w) A (loadIfAlive a) Q E s:=λ _ _ _=>h
theorem aEV{z TI TO a:qv}{f:Bool}{Q:Bool->qj->Prop}(hz:jO s.heap z TI TO a f)(ha:∃ o,s.heap.get? a=qq o)
 (hQ:∀ h',jO h' z TI TO a true->yCu z s.heap h'->Q false {s with heap:=h' }):qy (model prog w) A (yAm (.ref z)) Q E s:=by
 unfold yAm;refine wB (qu hz rfl (x:=jy a) rfl ?_);obtain⟨o,ho⟩:=ha;have hn:((s.heap.get? ((a:Int)).toNat).isNone)=false:=by
  rw[yAq,ho];rfl
 show qy _ _ (loadIfAlive ((a:Int)).toNat >>= _) _ _ _;refine wB (aMz ?_);rw[hn];simp only[yAu,if_false];cases f with
 | true =>
   refine wB (qu hz rfl (x:=.bool true) rfl ?_);rw[if_neg (by decide)]
   exact wP (hQ s.heap hz (Heap.SameBut.refl _ _))
 | false =>
   refine wB (qu hz rfl (x:=.bool false) rfl ?_);rw[if_pos (by decide)]
   exact wB (zj hz (by simp) λ h₁ hz₁ hs₁=>wP (hQ h₁ hz₁ hs₁))
theorem aKB{z TI TO i1 i2 a:qv}{f:Bool}{cD cE:List qv}{n1 n2 k:Nat}{P1 P2:Nat->qx->Prop}{bJ bG:Nat->Heap->Prop}{Q:qx->qj->Prop}
 (D1:Draws prog w A i1 cD n1 P1 bJ) (D2:Draws prog w A i2 cE n2 P2 bG) (Z:ZA z TI TO i1 i2 cD cE)
 (hz:jO s.heap z TI TO a f) (ha:∃ o,s.heap.get? a=qq o) (bN:xq s.heap TI (.ref i1) (.ref i2)) (s1:bJ k s.heap) (s2:bG k s.heap) (k1:k<n1) (k2:k<n2)
 (hQ:∀ x y h' tk,P1 k x->P2 k y->jO h' z TI TO a true->xq h' TI (.ref i1) (.ref i2)->bJ (k+1) h'->bG (k+1) h'->xq h' s.heap.objs.size x y->h'.objs.size=s.heap.objs.size+1 ->
   (∀ c o,c≠z->c≠i1->c≠i2->s.heap.get? c=qq o->h'.get? c=qq o)->Q (.ref s.heap.objs.size) {s with heap:=h',toks:=tk }) :
 qy (model prog w) A (Builtin.«zip.__next__» ⟨[.ref z],[]⟩) (λ bX s'=>∃ v,bX=.done (.ret v)/\Q v s') E s:=by
 show qy _ _ (field (.ref z) 2 >>= _) _ _ _;refine wB (qu hz rfl (x:=.bool false) rfl ?_);show qy _ _ (field (.ref z) 3 >>= _) _ _ _;refine wB (qu hz rfl (x:=.ref TI) rfl ?_);refine wB (zx bN rfl ?_);show qy _ _ (yAm (.ref z) >>= _) _ _ _;refine wB (aEV hz ha λ h₁ hz₁ hs₁=>?_)
 have s11:bJ k h₁:=D1.frame k _ _ s1 λ c hc o e=>hs₁.extBut _ _ (Z.f1 c hc).1 e
 have s21:bG k h₁:=D2.frame k _ _ s2 λ c hc o e=>hs₁.extBut _ _ (Z.f2 c hc).1 e
 simp only[yAu,if_false];rw[<- Array.forIn_toList];simp only[yDo,yDz];refine wB ?_;refine wB (wB (zu ?_));show qy _ _ (yAl (.ref i1) >>= _) _ _ _;refine wB (D1.item k _ _ _ k1 s11 λ x h₂ tk₂ px s12 hs₂=>wP ?_)
 have s22:bG k h₂:=D2.frame k _ _ s21 λ c hc o e=>hs₂.extBut _ _ (Z.f2 c hc).2.2 e
 refine wP ?_;refine wB (wB (zu ?_));show qy _ _ (yAl (.ref i2) >>= _) _ _ _;refine wB (D2.item k _ _ _ k2 s22 λ y h₃ tk₃ py s23 hs₃=>wP ?_)
 have s13:bJ (k+1) h₃:=D1.frame _ _ _ s12 λ c hc o e=>hs₃.extBut _ _ (Z.f1 c hc).2.2 e
 refine wP (wP ?_);refine wB (wpAny_newTuple (hsz:=show 2<=qk by decide) ?_)
 have hsz:h₃.objs.size=s.heap.objs.size:=by rw[hs₃.1,hs₂.1,hs₁.1]
 have up:∀ c o,c≠z->c≠i1->c≠i2->s.heap.get? c=qq o->h₃.get? c=qq o:=λ c o c1 c3 c4 e=>hs₃.extBut _ _ c4 (hs₂.extBut _ _ c3 (hs₁.extBut _ _ c1 e))
 have hz₃:jO h₃ z TI TO a true:=hs₃.extBut _ _ Z.i2z.symm (hs₂.extBut _ _ Z.i1z.symm hz₁);refine wP ⟨_,rfl,?_⟩;show Q (.ref h₃.objs.size) _;rw[hsz];have ps:∀ c o,h₃.get? c=qq o->(h₃.push {cls:=.type "tuple",data:=.seq #[x,y] }).get? c=qq o:=λ c o e=>hpS _ e
 have hT:xq (h₃.push {cls:=.type "tuple",data:=.seq #[x,y] }) s.heap.objs.size x y:=by rw[<- hsz];exact xAd _ rfl
 exact hQ x y _ _ px py (ps _ _ hz₃) (ps _ _ (up _ _ Z.TIz Z.TIi1 Z.TIi2 bN)) (D1.frame _ _ _ s13 λ c hc o e=>ps c o e) (D2.frame _ _ _ s23 λ c hc o e=>ps c o e) hT (by rw[yBi,hsz]) λ c o c1 c3 c4 e=>ps c o (up c o c1 c3 c4 e)
theorem aKE{z TI TO i1 i2 a:qv}{f:Bool}{cD cE:List qv}{n1 n2 k:Nat}{P1 P2:Nat->qx->Prop}{bJ bG:Nat->Heap->Prop}{Q:Fin->qj->Prop}
 (D1:Draws prog w A i1 cD n1 P1 bJ) (D2:Draws prog w A i2 cE n2 P2 bG) (Z:ZA z TI TO i1 i2 cD cE)
 (hz:jO s.heap z TI TO a f) (ha:∃ o,s.heap.get? a=qq o) (bN:xq s.heap TI (.ref i1) (.ref i2)) (s1:bJ k s.heap) (s2:bG k s.heap) (hend:k=n1\/(k<n1/\k=n2))
 (hE:∀ h' tk e,(∀ c o,c≠z->c≠i1->c≠i2->s.heap.get? c=qq o->h'.get? c=qq o)->(∃ o,h'.get? e=qq o/\o.cls=.type "StopIteration")->E (.ref e) {s with heap:=h',toks:=tk }) :
 qy (model prog w) A (Builtin.«zip.__next__» ⟨[.ref z],[]⟩) Q E s:=by
 show qy _ _ (field (.ref z) 2 >>= _) _ _ _;refine wB (qu hz rfl (x:=.bool false) rfl ?_);show qy _ _ (field (.ref z) 3 >>= _) _ _ _;refine wB (qu hz rfl (x:=.ref TI) rfl ?_);refine wB (zx bN rfl ?_);show qy _ _ (yAm (.ref z) >>= _) _ _ _;refine wB (aEV hz ha λ h₁ hz₁ hs₁=>?_)
 have s11:bJ k h₁:=D1.frame k _ _ s1 λ c hc o e=>hs₁.extBut _ _ (Z.f1 c hc).1 e
 have s21:bG k h₁:=D2.frame k _ _ s2 λ c hc o e=>hs₁.extBut _ _ (Z.f2 c hc).1 e
 simp only[yAu,if_false];rw[<- Array.forIn_toList];simp only[yDo,yDz];refine wB ?_;refine wB (wB (zu ?_));show qy _ _ (yAl (.ref i1) >>= _) _ _ _;rcases hend with rfl | ⟨k1,rfl⟩
 ·exact wB (D1.done _ _ _ s11 λ h₂ e hs₂ he=>hE h₂ _ e (λ c o c1 c3 _ x=>hs₂ _ _ c3 (hs₁.extBut _ _ c1 x)) he)
 ·refine wB (D1.item k _ _ _ k1 s11 λ x h₂ tk₂ px s12 hs₂=>wP ?_)
  have s22:bG k h₂:=D2.frame k _ _ s21 λ c hc o e=>hs₂.extBut _ _ (Z.f2 c hc).2.2 e
  refine wP ?_;refine wB (wB (zu ?_));show qy _ _ (yAl (.ref i2) >>= _) _ _ _;exact wB (D2.done _ _ _ s22 λ h₃ e hs₃ he=>hE h₃ _ e (λ c o c1 c3 c4 x=>hs₃ _ _ c4 (hs₂.extBut _ _ c3 (hs₁.extBut _ _ c1 x))) he)
theorem aKn{z TI TO i1 i2 a:qv}{f:Bool}{cD cE:List qv}{n1 n2 k:Nat}{P1 P2:Nat->qx->Prop}{bJ bG:Nat->Heap->Prop}{Q:Option qx->qj->Prop}
 (D1:Draws prog w A.in1 i1 cD n1 P1 bJ) (D2:Draws prog w A.in1 i2 cE n2 P2 bG) (Z:ZA z TI TO i1 i2 cD cE)
 (hz:jO s.heap z TI TO a f) (ha:∃ o,s.heap.get? a=qq o) (bN:xq s.heap TI (.ref i1) (.ref i2)) (s1:bJ k s.heap) (s2:bG k s.heap) (k1:k<n1) (k2:k<n2)
 (hQ:∀ x y h' tk,P1 k x->P2 k y->jO h' z TI TO a true->xq h' TI (.ref i1) (.ref i2)->bJ (k+1) h'->bG (k+1) h'->xq h' s.heap.objs.size x y->h'.objs.size=s.heap.objs.size+1 ->
   (∀ c o,c≠z->c≠i1->c≠i2->s.heap.get? c=qq o->h'.get? c=qq o)->Q (qq (.ref s.heap.objs.size)) {s with heap:=h',toks:=tk }) :
 qy (model prog w) A (jk (.ref z)) Q E s:=by
 have hT:s.TypeIs (.ref z) "zip":=⟨_,hz,rfl⟩;unfold jk;exact wB (vx (wpAny_callSpecial?_slot (name:=Str.ofString "__next__") hT F.slot_zip_next
  (zo F.slot_zip_next hT F.entry_zip_next
    (aKB D1 D2 Z hz ha bN s1 s2 k1 k2 λ x y h' tk a0 b0 a1 a3 a4 a5 a6 a7 a8=>wP (hQ x y h' tk a0 b0 a1 a3 a4 a5 a6 a7 a8)) (F.args_zip_next_1 _))))
theorem aKr{z TI TO i1 i2 a:qv}{f:Bool}{cD cE:List qv}{n1 n2 k:Nat}{P1 P2:Nat->qx->Prop}{bJ bG:Nat->Heap->Prop}{Q:Option qx->qj->Prop}
 (D1:Draws prog w A.in1 i1 cD n1 P1 bJ) (D2:Draws prog w A.in1 i2 cE n2 P2 bG) (Z:ZA z TI TO i1 i2 cD cE)
 (hz:jO s.heap z TI TO a f) (ha:∃ o,s.heap.get? a=qq o) (bN:xq s.heap TI (.ref i1) (.ref i2)) (s1:bJ k s.heap) (s2:bG k s.heap) (hend:k=n1\/(k<n1/\k=n2))
 (hQ:∀ h' tk,(∀ c o,c≠z->c≠i1->c≠i2->s.heap.get? c=qq o->h'.get? c=qq o)->Q qz {s with heap:=h',toks:=tk }):qy (model prog w) A (jk (.ref z)) Q E s:=by
 have hT:s.TypeIs (.ref z) "zip":=⟨_,hz,rfl⟩;unfold jk;refine wB (vx (wpAny_callSpecial?_slot (name:=Str.ofString "__next__") hT F.slot_zip_next
  (zo F.slot_zip_next hT F.entry_zip_next (aKE D1 D2 Z hz ha bN s1 s2 hend λ h' tk e hk he=>?_) (F.args_zip_next_1 _))))
 obtain⟨o,ho,hc⟩:=he;refine wB (yv (T:="StopIteration") (b:=true) ⟨o,ho,hc⟩ kx ?_);exact wP (hQ _ _ hk)
end
theorem Rel.relay{K:FrG}{F:Hp}{L:List qv}{S:aD}{H:Hp}(r:Rel K F L S H){p:qv}{o:HO}(hF:F p=qz)(hL:p ∉ L):Rel K F L S (bE H p o):=by
 refine⟨λ b u q=>by rw[bM (eH q hF)];exact r.sub _ _ q,r.nd,r.len,λ n a ds e1 e2=>?_,λ n a e=>?_⟩
 ·obtain⟨f,xs,e3,dl⟩:=r.loc n a ds e1 e2;have ne:a≠p:=λ z=>hL (by rw[<- z];exact xAk e1)
  exact⟨f,xs,by rw[bM ne];exact e3,dl⟩
 ·obtain⟨xs,hx⟩:=r.tr n a e;have ne:a≠p:=λ z=>hL (by rw[<- z];exact xAk e)
  exact⟨xs,by rw[bM ne];exact hx⟩
theorem aFc{K:FrG}{F:Hp}{d:D}{v:V}(k:Den K F d v):∀ {ds:List D}{xs:List V},DenL K F ds xs->DenL K F (ds++[d]) (xs++[v])
 | _,_,.nil=>.cons k .nil
 | _,_,.cons a b=>.cons a (aFc k b)
structure ZW(X:Cx)(aB:List (qv×Obj))(σ:L2.St)(F1:Hp)(L1:List qv)(S1:aD)(SA z TI TO i1 i2:qv)(ds:List D)(H F:Hp)(vs:List V)(s:qj):Prop where
 inv:Inv X aB σ H s
 same:cC F1 F
 rel:Rel X.K F L1 S1 H
 free:F SA=qz
 lst:H SA=qq (.lst vs)
 den:DenL X.K F ds vs
 fp:∀ c∈[z,TI,TO,i1,i2],gI X aB H c
structure ZH(z TI TO i1 i2 a b:qv)(t u:Bool)(i:Nat)(h:Heap):Prop where
 ti:xq h TI (.ref i1) (.ref i2)
 q1:dO t h i1 a i
 q2:dO u h i2 b i
 to:∃ o,h.get? TO=qq o
 z:(xy h z TI TO .none/\∃ x y,xq h TO x y)\/∃ a0 f,jO h z TI TO a0 f/\∃ o,h.get? a0=qq o
theorem ZH.zlt{z TI TO i1 i2 a b:qv}{t u:Bool}{i:Nat}{h:Heap}(x:ZH z TI TO i1 i2 a b t u i h):∃ o,h.get? z=qq o:=by
 rcases x.z with ⟨y,_⟩ | ⟨_,_,y,_⟩
 ·exact⟨_,y⟩
 ·exact⟨_,y⟩
theorem ZH.keep{z TI TO i1 i2 a b:qv}{t u:Bool}{i:Nat}{h h':Heap}(x:ZH z TI TO i1 i2 a b t u i h)(k:∀ c o,c∈[z,TI,TO,i1,i2]->h.get? c=qq o->h'.get? c=qq o)(k2:∀ c o,h.get? c=qq o->∃ o',h'.get? c=qq o'):ZH z TI TO i1 i2 a b t u i h':=by
 refine⟨k _ _ (by simp) x.ti,x.q1.at λ o e=>k _ _ (by simp) e,x.q2.at λ o e=>k _ _ (by simp) e,let ⟨o,e⟩:=x.to;k2 _ _ e,?_⟩
 rcases x.z with ⟨y,p,q,r⟩ | ⟨a0,f,y,o,e⟩
 ·exact .inl ⟨k _ _ (by simp) y,p,q,k _ _ (by simp) r⟩
 ·exact .inr ⟨a0,f,k _ _ (by simp) y,k2 _ _ e⟩
section
variable {X : Cx}{aB : List (qv×Obj)}{σ : L2.St}{F1 : Hp}{L1 : List qv}{S1 : aD}{SA z TI TO i1 i2 a b : qv}{t u : Bool}{ds : List D}{H F : Hp}{vs : List V}{s : qj}{xs ys : List V}{ds1 ds2 : List D}{A : zy}{E : qx -> qj -> Prop}{i : Nat}
theorem aNq{Q:Option qx->qj->Prop}(hh:A.in1.handled=qz)(Z:ZA z TI TO i1 i2 [i1,a] [i2,b])(n1:a≠i1)(n2:b≠i2)(sq1:Sq t X.K F1 a xs)(dl1:DenL X.K F1 ds1 xs)(sq2:Sq u X.K F1 b ys)(dl2:DenL X.K F1 ds2 ys)
 (hw:ZW X aB σ F1 L1 S1 SA z TI TO i1 i2 ds H F vs s) (hz:ZH z TI TO i1 i2 a b t u i s.heap) {d:D} (hd:(cY ds1 ds2)[i]? = qq d)
 (hQ:∀ s' p H' F',ZW X aB σ F1 L1 S1 SA z TI TO i1 i2 ds H' F' vs s'->ZH z TI TO i1 i2 a b t u (i+1) s'.heap->Den X.K F' d (.ref p)->Q (qq (.ref p)) s'):qy (model X.prog X.w) A (jk (.ref z)) Q E s:=by
 obtain⟨d1,d2,e1,e2,rfl⟩:=yY ds1 ds2 i d hd;obtain⟨x,hx,dx⟩:=dl1.get e1;obtain⟨y,hy,dy⟩:=dl2.get e2;have I:=hw.inv;obtain⟨dU,rv1,pl1⟩:=eS I (dM (hw.same.trans hw.rel.sub) sq1);obtain⟨dA,rv2,pl2⟩:=eS I (dM (hw.same.trans hw.rel.sub) sq2);obtain⟨u1,hu1,ru1⟩:=rv1.get hx;obtain⟨u2,hu2,ru2⟩:=rv2.get hy;have lt1:i<dU.toArray.size:=by rw[yAg];exact(gIm hu1).1
 have lt2:i<dA.toArray.size:=by rw[yAg];exact(gIm hu2).1
 have D1:=gX (prog:=X.prog) (w:=X.w) (A:=A.in1) hh t i1 a n1 dU.toArray;have D2:=gX (prog:=X.prog) (w:=X.w) (A:=A.in1) hh u i2 b n2 dA.toArray;have hp:H s.heap.objs.size=qz:=I.fresh;have bX:∀ x' y' h' tk,dU.toArray[i]? = qq x'->dA.toArray[i]? = qq y'->xq h' TI (.ref i1) (.ref i2)->dO t h' i1 a (i+1)->dO u h' i2 b (i+1)->xq h' s.heap.objs.size x' y' ->
  (∀ c o,c≠z->c≠TO->c≠i1->c≠i2->s.heap.get? c=qq o->h'.get? c=qq o)->(∃ o,h'.get? TO=qq o)->(∃ a0 f,jO h' z TI TO a0 f/\∃ o,h'.get? a0=qq o)->Q (qq (.ref s.heap.objs.size)) {s with heap:=h',toks:=tk }:=λ x' y' h' tk px py ti q1 q2 hT hk hto hzb=>by
  have ex:x'=u1:=by rw[yBq,hu1] at px;exact(Option.some.inj px).symm
  have ey:y'=u2:=by rw[yBq,hu2] at py;exact(Option.some.inj py).symm
  subst ex ey;have I2:Inv X aB σ (bE H s.heap.objs.size (.tup [x,y])) {s with heap:=h',toks:=tk }:=by
   refine sY I hw.fp (λ c o hb e'=>?_) (yAc _) ⟨by show 2<=qk;decide,[x',y'],.cons ru1 (.cons ru2 .nil),⟨_,hT,rfl,0,rfl⟩⟩
   exact hk c o (λ q=>hb (by simp[q])) (λ q=>hb (by simp[q])) (λ q=>hb (by simp[q])) (λ q=>hb (by simp[q])) e'
  have hF:F s.heap.objs.size=qz:=hw.rel.sub.free hp;have neS:SA≠s.heap.objs.size:=λ q=>by rw[<- q,hw.lst] at hp;cases hp
  refine hQ _ s.heap.objs.size _ (bE F s.heap.objs.size (.tup [x,y])) ⟨I2,hw.same.trans (dB hF),hw.rel.new hp,by rw[bM neS];exact hw.free,by rw[bM neS];exact hw.lst,hw.den.mono (dB hF),λ c hc=>?_⟩ ⟨ti,q1,q2,hto,.inr hzb⟩ ?_
  ·have f:=hw.fp c hc;have:c≠s.heap.objs.size:=by
    have hc':∃ o,s.heap.get? c=qq o:=by
     simp only[yCh,yCe,or_false] at hc;rcases hc with rfl | rfl | rfl | rfl | rfl
     ·exact hz.zlt
     ·exact⟨_,hz.ti⟩
     ·exact hz.to
     ·obtain⟨o,ho,_⟩:=hz.q1.obj;exact⟨o,ho⟩
     ·obtain⟨o,ho,_⟩:=hz.q2.obj;exact⟨o,ho⟩
    obtain⟨o,ho⟩:=hc';exact xAj (xAa ho)
   exact⟨by rw[bM this];exact f.1,f.2⟩
  ·exact .tup (bZ.of dE) (.cons (dx.mono (hw.same.trans (dB hF))) (.cons (dy.mono (hw.same.trans (dB hF))) .nil))
 rcases hz.z with ⟨hz0,p,q,cB⟩ | ⟨a0,f,hzb,ha0⟩
 ·refine aEb D1 D2 Z hz0 hz.ti cB ⟨hz.q1,pl1⟩ ⟨hz.q2,pl2⟩ lt1 lt2 λ x' y' h₁ tk px py hz₁ hTO₁ hTI₁ s1 s2 hT₁ hsz hk=>?_
  exact bX x' y' h₁ tk px py hTI₁ s1.1 s2.1 hT₁ hk ⟨_,hTO₁⟩ ⟨s.heap.objs.size,false,hz₁,_,hT₁⟩
 ·refine aKn D1 D2 Z hzb ha0 hz.ti ⟨hz.q1,pl1⟩ ⟨hz.q2,pl2⟩ lt1 lt2 λ x' y' h₁ tk px py hz₁ hTI₁ s1 s2 hT₁ hsz hk=>?_
  refine bX x' y' h₁ tk px py hTI₁ s1.1 s2.1 hT₁ (λ c o c1 _ c3 c4 e=>hk c o c1 c3 c4 e) (let ⟨o,e⟩:=hz.to;⟨o,hk _ o Z.TOz Z.TOi1 Z.TOi2 e⟩) ⟨a0,true,hz₁,?_⟩
  obtain⟨o,ho⟩:=ha0
  by_cases c1:a0=z
  ·rw[c1];exact⟨_,hz₁⟩
  by_cases c2:a0=i1
  ·rw[c2];obtain⟨o,ho,_⟩:=s1.1.obj;exact⟨o,ho⟩
  by_cases c3:a0=i2
  ·rw[c3];obtain⟨o,ho,_⟩:=s2.1.obj;exact⟨o,ho⟩
  exact⟨o,hk a0 o c1 c2 c3 ho⟩
theorem aPD{p:qv}{d:D}{aG:List qx}{n:Nat}{tk:Nat}(hL:SA ∉ L1)(hw:ZW X aB σ F1 L1 S1 SA z TI TO i1 i2 ds H F vs s)(hz:ZH z TI TO i1 i2 a b t u i s.heap)(hd:Den X.K F d (.ref p))(hl:vs.length+1<=qk)
 (rv:aZ vs aG) (e:s.heap.get? SA=qq {cls:=.type "list",data:=.seq aG.toArray n }) :
 ∃ H',ZW X aB σ F1 L1 S1 SA z TI TO i1 i2 (ds++[d]) H' F (vs++[.ref p]) {s with heap:=s.heap.update SA (Obj.mapSeq (·.push (.ref p))),toks:=tk }/\ZH z TI TO i1 i2 a b t u i (s.heap.update SA (Obj.mapSeq (·.push (.ref p)))):=by
 have I3:Inv X aB σ (bE H SA (.lst (vs++[.ref p]))) {s with heap:=s.heap.update SA (Obj.mapSeq (·.push (.ref p))),toks:=tk }:=hw.inv.lset (its':=aG++[.ref p]) hw.lst e (by simp) (aZ.append rv (.cons (show bC (.ref p) (Value.ref p) from rfl) .nil)) (by rw[xAn];exact hl)
 have ne:∀ c∈[z,TI,TO,i1,i2],c≠SA:=λ c hc q=>by
  have:=(hw.fp c hc).1;rw[q,hw.lst] at this;cases this
 refine⟨_,⟨I3,hw.same,Rel.relay hw.rel hw.free hL,hw.free,dE,aFc hd hw.den,λ c hc=>⟨by rw[bM (ne c hc)];exact(hw.fp c hc).1,(hw.fp c hc).2⟩⟩,hz.keep (λ c o hc q=>(yBw _ _ (Ne.symm (ne c hc))).trans q) λ c o q=>?_⟩
 by_cases c1:c=SA
 ·subst c1;exact⟨_,PySem.IsL.update e _⟩
 ·exact⟨o,(yBw _ _ (Ne.symm c1)).trans q⟩
theorem aNG{R:Result->qj->Prop}{res:qx}(hh:A.in1.in1.handled=qz)(Z:ZA z TI TO i1 i2 [i1,a] [i2,b])(n1:a≠i1)(n2:b≠i2)(sq1:Sq t X.K F1 a xs)(dl1:DenL X.K F1 ds1 xs)(sq2:Sq u X.K F1 b ys)(dl2:DenL X.K F1 ds2 ys)(hL:SA ∉ L1)(cT:(cY ds1 ds2).length<=1000000)
 (hR:∀ s' H' F' vs',ZW X aB σ F1 L1 S1 SA z TI TO i1 i2 (cY ds1 ds2) H' F' vs' s'->R (.ok (.ret res)) s') :
 ∀ (k i:Nat) (s:qj) (H F:Hp) (vs:List V),(cY ds1 ds2).length-i=k->i<=(cY ds1 ds2).length->ZW X aB σ F1 L1 S1 SA z TI TO i1 i2 ((cY ds1 ds2).take i) H F vs s->ZH z TI TO i1 i2 a b t u i s.heap ->
 vo (model X.prog X.w) A (.builtin "list.extend.loop" ⟨[.ref SA,.ref z,res],[]⟩) R s:=by
 intro k
 induction k with
 | zero =>
   intro i s H F vs hk hi hw hz;have hin:i=(cY ds1 ds2).length:=by omega
   refine codeAny_builtin yGb ?_;rw[Around.under_plainId yDk _];show qy _ A.in1 (jk (.ref z) >>= _) _ _ s;rw[hin,yAi] at hw;have I:=hw.inv;obtain⟨dU,rv1,pl1⟩:=eS I (dM (hw.same.trans hw.rel.sub) sq1);obtain⟨dA,rv2,pl2⟩:=eS I (dM (hw.same.trans hw.rel.sub) sq2);have D1:=gX (prog:=X.prog) (w:=X.w) (A:=A.in1.in1) hh t i1 a n1 dU.toArray;have D2:=gX (prog:=X.prog) (w:=X.w) (A:=A.in1.in1) hh u i2 b n2 dA.toArray;have l1:=rv1.length;have l2:=rv2.length;have m1:=dl1.length;have m2:=dl2.length;rw[sS] at hin;have hend:i=dU.toArray.size\/(i<dU.toArray.size/\i=dA.toArray.size):=by
    rw[yAg,yAg];omega
   have bX:∀ h' tk,(∀ c o,c≠z->c≠TO->c≠i1->c≠i2->s.heap.get? c=qq o->h'.get? c=qq o)->R (.ok (.ret res)) {s with heap:=h',toks:=tk }:=λ h' tk hk' =>
    hR _ H F vs ⟨aBo I hw.fp λ c o hb e'=>hk' c o (λ q=>hb (by simp[q])) (λ q=>hb (by simp[q])) (λ q=>hb (by simp[q])) (λ q=>hb (by simp[q])) e',hw.same,hw.rel,hw.free,hw.lst,hw.den,hw.fp⟩
   rcases hz.z with ⟨hz0,p,q,cB⟩ | ⟨a0,f,hzb,ha0⟩
   ·exact wB (aEc D1 D2 Z hz0 hz.ti cB ⟨hz.q1,pl1⟩ ⟨hz.q2,pl2⟩ hend λ h₁ tk hk'=>wP (bX h₁ tk hk'))
   ·exact wB (aKr D1 D2 Z hzb ha0 hz.ti ⟨hz.q1,pl1⟩ ⟨hz.q2,pl2⟩ hend λ h₁ tk hk'=>wP (bX h₁ tk λ c o c1 _ c3 c4 e=>hk' c o c1 c3 c4 e))
 | succ k ih =>
   intro i s H F vs hk hi hw hz;have hlt:i<(cY ds1 ds2).length:=by omega
   refine codeAny_builtin yGb ?_;rw[Around.under_plainId yDk _];show qy _ A.in1 (jk (.ref z) >>= _) _ _ s;refine wB (aNq hh Z n1 n2 sq1 dl1 sq2 dl2 hw hz (yAa hlt) λ s' p H' F' hw' hz' hd=>?_)
   obtain⟨hv,aG,n,rv,hl,e⟩:=hw'.inv.lstM hw'.lst;have vl:vs.length=i:=by
    have:=hw'.den.length;rw[yBz] at this;omega
   have hs:1000000<=qk:=aLE;show qy _ A.in1 (updateSeq SA (·.push (.ref p)) >>= _) _ _ _;obtain⟨H3,hw3,hz3⟩:=aPD (tk:=s'.toks) hL hw' hz' hd (by omega) rv e
   rw[show(cY ds1 ds2).take i++[(cY ds1 ds2)[i]]=(cY ds1 ds2).take (i+1) from (yEy hlt).symm] at hw3
   refine wB (wz e rfl (wP ⟨plainId_quiet yDk _,ih (i+1) _ H3 F' _ (by omega) hlt hw3 hz3⟩) (by simp;omega) (by simp;omega))
end
theorem aLi:typeLookup (.type "zip") "__len__" = pure qz:=by rw[typeLookup_type,builtinLookup_eq_fast];kernel_rfl
theorem aK2:typeLookup (.type "zip") "__length_hint__" = pure qz:=by rw[typeLookup_type,builtinLookup_eq_fast];kernel_rfl
section
variable {prog : zq}{w : zw}{A : zy}{s : qj}{R : Result -> qj -> Prop}{z TI TO : qv}{f0 : qx}
theorem aLn(S:qv)(res:qx)(c₀:Nat)(hz:xy s.heap z TI TO f0)(hSz:S≠z)(hS:s.heap.get? S=qq {cls:=.type "list",data:=.seq #[] c₀ })
 (hR:∀ h' c,(∀ b o,b≠S->s.heap.get? b=qq o->h'.get? b=qq o)->h'.get? S=qq {cls:=.type "list",data:=.seq #[] c }->vo (model prog w) A (.builtin "list.extend.loop" ⟨[.ref S,.ref z,res],[]⟩) R {s with heap:=h' }) :
 qy (model prog w) A.in1 (yDb (.ref S) (.ref z) res)
  (λ bX s'=>match bX with | .done f=>R (.ok f) s' | .again c'=>c'.quiet=true/\vo (model prog w) A c' R s') (λ e s'=>R (.error e) s') s:=by
 have hT:s.TypeIs (.ref z) "zip":=⟨_,hz,rfl⟩;unfold yDb;refine wB (wpAny_typeOf hT ?_);have h1:yGf (.ref S) (.ref z)=false:=by simp[yGf,hSz]
 have h2:(Value.type "zip" == Value.type "list")=false:=by decide
 have h3:(Value.type "zip" == Value.type "tuple")=false:=by decide
 simp only[h1,h2,h3,yEu,yAu,if_false];refine wB (vy hz ?_);refine wB (zu ?_);unfold Builtin.List.listLengthHint;refine wB (yo hT aLi ?_);show qy _ A.in1 (specialOf (Value.ref z) (Str.ofString "__length_hint__") >>= _) _ _ _;refine wB (yo hT aK2 ?_);refine wP ?_;show qy _ A.in1 (rule "list.extend.makes-room" >>= λ _=>Builtin.List.listTouch (.ref S) >>= λ _ =>
  again (.builtin "list.extend.loop" ⟨[.ref S,.ref z,res],[]⟩)) _ _ _
 refine wB (vq ?_);refine wB ?_;show qy _ A.in1 (updateSeq S (·.push .none) >>= λ _=>updateSeq S (·.pop)) _ _ _
 refine wB (wz hS rfl ?_);have hS₂:=yCm (Obj.mapSeq (·.push Value.none)) hS rfl;refine wz (hz:=by seq_fits) hS₂ rfl ?_
 have hS₃:=yCm (Obj.mapSeq (·.pop)) hS₂ rfl;have oth:∀ b o,b≠S->s.heap.get? b=qq o->((s.heap.update S (Obj.mapSeq (·.push Value.none))).update S (Obj.mapSeq (·.pop))).get? b=qq o:=
  λ b o hb e=>(yBw _ _ (Ne.symm hb)).trans ((yBw _ _ (Ne.symm hb)).trans e)
 exact wP ⟨plainId_quiet yDk _,hR _ _ oth hS₃⟩
theorem aNs(S:qv)(hz:xy s.heap z TI TO f0)(hSz:S≠z)(hS:s.heap.get? S=qq {cls:=.type "list",data:=.seq #[] })
 (hR:∀ h' c,(∀ b o,b≠S->s.heap.get? b=qq o->h'.get? b=qq o)->h'.get? S=qq {cls:=.type "list",data:=.seq #[] c }->vo (model prog w) A (.builtin "list.extend.loop" ⟨[.ref S,.ref z,.none],[]⟩) R {s with heap:=h' }) :
 qy (model prog w) A.in1 (Builtin.«list.__init__» ⟨[.ref S,.ref z],[]⟩)
  (λ bX s'=>match bX with | .done f=>R (.ok f) s' | .again c'=>c'.quiet=true/\vo (model prog w) A c' R s') (λ e s'=>R (.error e) s') s:=by
 show qy _ A.in1 (yGp (.ref S) >>= λ old=>Builtin.List.listUpdate (.ref S) (λ _=>#[]) >>= λ _=>letGo old.toList.reverse >>= λ _=>yDb (.ref S) (.ref z) .none) _ _ s
 refine wB ?_;unfold yGp;refine wB (zx hS rfl (wP ?_));show qy _ A.in1 (updateSeq S (λ _=>#[]) >>= λ _=>letGo (#[]:Array qx).toList.reverse >>= λ _=>yDb (.ref S) (.ref z) .none) _ _ s
 have hS2:=yCm (Obj.mapSeq (λ _=>(#[]:Array qx))) hS rfl
 have oth:∀ b o,b≠S->s.heap.get? b=qq o->(s.heap.update S (Obj.mapSeq (λ _=>(#[]:Array qx)))).get? b=qq o:=λ b o hb e=>(yBw _ _ (Ne.symm hb)).trans e
 refine wB (wz hS rfl (wB (ju ?_)));exact aLn S .none _ (oth _ _ (Ne.symm hSz) hz) hSz hS2 λ h' c hk hS'=>hR h' c (λ b o hb e=>hk b o hb (oth b o hb e)) hS'
end
section
variable {prog : zq}{w : zw}{A : zy}{E : qx -> qj -> Prop}{s : qj}{z TI TO : qv}{f0 : qx}
theorem aKM{Q:qx->qj->Prop}(hz:xy s.heap z TI TO f0)
 (hQ:∀ h' c (R:Result->qj->Prop),(∀ b o,s.heap.get? b=qq o->h'.get? b=qq o)->h'.get? s.heap.objs.size=qq {cls:=.type "list",data:=.seq #[] c }->(∀ s',Q (.ref s.heap.objs.size) s'->R (.ok (.ret .none)) s')->vo (model prog w) A.in1 (.builtin "list.extend.loop" ⟨[.ref s.heap.objs.size,.ref z,.none],[]⟩) R {s with heap:=h' }) :
 qy (model prog w) A (call (.type "list") [.ref z]) Q E s:=by
 have hSz:s.heap.objs.size≠z:=yCv (xAa hz);have hS:(s.heap.push {cls:=.type "list",data:=.seq #[] }).get? s.heap.objs.size=qq {cls:=.type "list",data:=.seq #[] }:=xAd _ rfl;refine callType_codes (Q₁:=λ ob s1=>ob=.ref s.heap.objs.size/\s1={s with heap:=s.heap.push {cls:=.type "list",data:=.seq #[] } }) PySem.F.called_list (PySem.F.typeCall_list_1 _) PySem.F.entry_list_init (code_list_new _ ⟨rfl,rfl⟩) λ ob s1 h1=>?_
 obtain⟨rfl,rfl⟩:=h1;refine⟨⟨_,hS,rfl⟩,PySem.F.args_list_init_2 _ _,aNs _ (hpS _ hz) hSz hS λ h' c hk hS'=>?_⟩
 exact hQ h' c _ (λ b o e=>hk b o (xAj (xAa e)) (hpS _ e)) hS' λ s' q=>⟨rfl,q⟩
end
noncomputable def pC(fa fb:FE):FL:=aJ4 (nY fa fb)
section
variable {X : Cx}
theorem aQs{a b:qw}{fa fb:FE}{p p2 pos pos2:Pos}(ha:PE X a (aY X.K fa))(hb:PE X b (aY X.K fb))(hc:X.calm=true)(hg:Gl X "list")(hm:X.mg "list" = qz)(hg2:Gl X "zip")(hm2:X.mg "zip" = qz)
 (hs:qo [a,b] X.env=(false,eval a X.env)::qo [b] X.env) (hs2:qo [b] X.env=[(false,eval b X.env)]):PE X (.Call (.Name "list" p) [.Call (.Name "zip" p2) [a,b] [] pos2] [] pos) (iU X.K (pC fa fb)):=by
 rintro aB s σ H Q I ⟨F,L,S,env,ds,S',R,E,e,q⟩;obtain⟨⟨ds',S1'⟩,e0,e⟩:=bind_some e;obtain⟨⟨w1,S1⟩,e1,e2⟩:=bind_some e0;obtain⟨⟨w2,S2⟩,e3,e4⟩:=bind_some e2;obtain⟨ds1,e5,e6⟩:=bind_some e4;obtain⟨ds2,e7,e8⟩:=bind_some e6;dsimp only at e e3 e5 e7;cases e8
 split at e
 ·rename_i cT;cases e;refine xk (jN I hg hm (show vw "list" = qq (.type "list") by decide +kernel) ?_)
  refine yAv ?_ rfl rfl;show qy _ _ (spliced ((false,eval (.Call (.Name "zip" p2) [a,b] [] pos2) X.env)::[])) _ _ s;refine Calls.spliced_cons ?_;refine xk (jN I hg2 hm2 boot_zip ?_);refine yAv ?_ hs (by rw[hs2];rfl)
  refine bD (lI ha (lI hb aC4 hs2) hs pos2 aB s σ H (λ vs H1=>∃ v v2 F1 L1,vs=[v,v2]/\Gr F L F1 L1/\Rel X.K F1 L1 S2 H1/\eU X.K F1 L1 w1 v/\eU X.K F1 L1 w2 v2) I ⟨F,L,S,env,[w1,w2],_,R,E,by unfold dH;rw[e1];dsimp only[yDh];rw[e3];rfl,λ F1 L1 H1 vs g1 R1 d1=>by
   cases d1 with
   | cons d0 dr =>
     cases dr with
     | cons d2 dr=>cases dr;exact⟨_,_,F1,L1,rfl,g1,R1,d0,d2⟩⟩) λ us s1 ⟨vs,H1,I1,r1,v,v2,F1,L1,ev,g1,R1,d1,d2⟩=>?_
  subst ev;obtain⟨u1,u2,rfl,ru1,ru2⟩:=aAn r1;obtain⟨t,l1,xs,rfl,sq1,dl1⟩:=oJ e5 d1;obtain⟨u,l2,ys,rfl,sq2,dl2⟩:=oJ e7 d2;cases ru1;cases ru2;obtain⟨dU,rv1,pl1⟩:=eS I1 (dM R1.sub sq1);obtain⟨dA,rv2,pl2⟩:=eS I1 (dM R1.sub sq2);have a1:=pl1.lt;have a2:=pl2.lt;refine aFk pl1 pl2 λ h' hz bN cB hi1 hi2 hsz hk=>?_
  refine Calls.spliced_nil ?_;have I2:Inv X aB σ H1 {s1 with heap:=h' }:=I1.kept (t':=s1.toks) hk
  have hb':∀ b∈[s1.heap.objs.size+4,s1.heap.objs.size+2,s1.heap.objs.size+3,s1.heap.objs.size,s1.heap.objs.size+1],s1.heap.objs.size<=b/\b<s1.heap.objs.size+5:=λ b hb=>by
   simp only[yCh,yCe,or_false] at hb;omega
  have Z:=aH9 (n:=s1.heap.objs.size) (a:=l1) (b:=l2) a1 a2;refine aKM hz λ h2 c R2 hk2 hS hR2=>?_
  dsimp only at hk2 hS hR2 ⊢;have fr:H1 h'.objs.size=qz:=I2.hok.fresh (yAc _);have I3:Inv X aB σ (bE H1 h'.objs.size (.lst [])) {s1 with heap:=h2 }:=I2.laid (t':=s1.toks) hk2 (yAc _) ⟨yFb _,[],c,.nil,hS⟩
  have nS:h'.objs.size ∉ L1:=R1.notin fr;have fpk:∀ b∈[s1.heap.objs.size+4,s1.heap.objs.size+2,s1.heap.objs.size+3,s1.heap.objs.size,s1.heap.objs.size+1],gI X aB (bE H1 h'.objs.size (.lst [])) b:=λ b hb=>by
   have f:=I1.fpOk (hb' b hb).1 (I1.hok.fresh (hb' b hb).1);exact⟨by rw[bM (by rw[hsz];exact xAj (hb' b hb).2)];exact f.1,f.2⟩
  refine aNG (X:=X) (A:=X.A.in1) (aB:=aB) (σ:=σ) (F1:=F1) (L1:=L1) (S1:=S2) (ds1:=ds1) (ds2:=ds2) (show X.A.in1.in1.in1.handled=qz from I.ok.hd hc) Z (xAj a1) (xAj (yCz a2)) sq1 dl1 sq2 dl2 nS cT (λ s' H' F' vs' hw=>hR2 s' ?_) _ 0 _ (bE H1 h'.objs.size (.lst [])) F1 [] rfl (yFb _)
   ⟨I3,cC.refl _,R1.lay fr,R1.sub.free fr,dE,.nil,fpk⟩ ⟨hk2 _ _ bN,hi1.at λ o e=>hk2 _ _ e,hi2.at λ o e=>hk2 _ _ e,⟨_,hk2 _ _ cB⟩,.inl ⟨hk2 _ _ hz,_,_,hk2 _ _ cB⟩⟩
  exact⟨.ref h'.objs.size,H',hw.inv,rfl,q F' L1 H' _ vs' (g1.trans ⟨hw.same,[],by simp⟩) hw.rel hw.free nS hw.lst hw.den⟩
 ·cases e
end
theorem aKq:isSubtype (.type "range_iterator") (.type "reversed")=pure false:=by rw[isSubtype_type];kernel_rfl
section
variable {prog : zq}{w : zw}{A : zy}{E : qx -> qj -> Prop}{s : qj}
theorem aKt(r:qv)(a b c:Int)(t u v:Tok)(hc0:(yAd a&&yAd b&&yAd c&&yAd (-c)&&yAd (a-c)&&yAd (yAk a b c))=true) :
 Meets (Builtin.«range.__reversed__» ⟨[.ref r],[]⟩) (λ _ R s=>s.heap.get? r=qq {cls:=.type "range",dict:=qz,data:=.fields #[.int a t,.int b u,.int c v],slots:=#[] }/\R (.ok (.ret (Value.ref s.heap.objs.size))) {s with heap:=s.heap.push {cls:=.type "range_iterator",data:=.fields #[jy (a+(yAk a b c-1)*c),jy (yAk a b c),jy (-c)] } }):=
 .of_wp λ prog w A R s h=>by
  obtain⟨hp,g,d,tk,os⟩:=s;obtain⟨hl,h⟩:=h
  wp_walk
  refine⟨_,rfl,?_⟩;rw[if_pos hc0];exact h
noncomputable abbrev qS(a n c:Int):Obj:={cls:=.type "range_iterator",data:=.fields #[jy a,jy n,jy c] }
theorem aKC{r:qv}{a b c:Int}{t u v:Tok}{Q:qx->qj->Prop}(hr:IsRange s.heap r a b c t u v)(hc0:(yAd a&&yAd b&&yAd c&&yAd (-c)&&yAd (a-c)&&yAd (yAk a b c))=true)
 (h:Q (.ref s.heap.objs.size) {s with heap:=s.heap.push (qS (a+(yAk a b c-1)*c) (yAk a b c) (-c)) }):qy (model prog w) A (call (.builtin "range.__reversed__") [.ref r]) Q E s:=
 wj PySem.F.slot_range_reversed ⟨_,hr,rfl⟩ PySem.F.entry_range_reversed (PySem.F.args_range_reversed_1 _) (aKt r a b c t u v hc0) ⟨hr,h⟩
theorem aKl{r:qv}{a b c:Int}{t u v:Tok}{Q₁:qx->qj->Prop}(hr:IsRange s.heap r a b c t u v)(hc0:(yAd a&&yAd b&&yAd c&&yAd (-c)&&yAd (a-c)&&yAd (yAk a b c))=true)
 (h:Q₁ (.ref s.heap.objs.size) {s with heap:=s.heap.push (qS (a+(yAk a b c-1)*c) (yAk a b c) (-c)) }) :
 vo (model prog w) A (.call (.builtin "reversed.__new__") ⟨[.type "reversed",.ref r],[]⟩) (wants Q₁ E) s:=by
 refine codeAny_of_tree ?_;show qy _ A.in1 (do checkBuiltinCall "reversed.__new__" ⟨[.type "reversed",.ref r],[]⟩;again (.builtin "reversed.__new__" ⟨[.type "reversed",.ref r],[]⟩)) _ _ s
 refine wB (yw (PySem.F.newCall_reversed_1 _) (wP ⟨plainId_quiet yFu _,codeAny_builtin PySem.F.entry_reversed_new ?_⟩));rw[Around.under_plainId yFu _];unfold Builtin.«reversed.__new__»;refine wB (yw (newClass_reversed _) ?_)
 try dsimp only
 refine wB (yw (a:=()) (by first | rfl | kernel_rfl) ?_)
 refine wB (yw (a:=()) (by first | rfl | kernel_rfl) ?_)
 try dsimp only
 refine wB (yo (T:="range") ⟨_,hr,rfl⟩ PySem.F.slot_range_reversed.lookup ?_)
 try dsimp only
 refine wB (yw (PySem.F.slot_range_reversed.bind _) ?_)
 try dsimp only
 first
 | rw[if_neg (show ¬ ((Value.builtin "range.__reversed__" == Value.none)=true) from yBf)]
 | (show qy _ _ (if (Value.builtin "range.__reversed__" == Value.none)=true then _ else _) _ _ _;rw[if_neg (show ¬ ((Value.builtin "range.__reversed__" == Value.none)=true) from yBf)])
 refine wB (vq ?_);refine wB (m:=runValue (.call (.builtin "range.__reversed__") ⟨[.ref r],[]⟩)) (show qy _ _ (call (.builtin "range.__reversed__") [.ref r]) _ _ _ from aKC hr hc0 ?_)
 first
 | exact wP h
 | exact wB (wP (wP h))
theorem aKm{r:qv}{a b c:Int}{t u v:Tok}{Q:qx->qj->Prop}(hr:IsRange s.heap r a b c t u v)(hc0:(yAd a&&yAd b&&yAd c&&yAd (-c)&&yAd (a-c)&&yAd (yAk a b c))=true)
 (h:Q (.ref s.heap.objs.size) {s with heap:=s.heap.push (qS (a+(yAk a b c-1)*c) (yAk a b c) (-c)) }):qy (model prog w) A (call (.type "reversed") [.ref r]) Q E s:=by
 refine callType_other (U:="range_iterator") (Q₁:=λ obj s₁=>obj=.ref s.heap.objs.size/\s₁={s with heap:=s.heap.push (qS (a+(yAk a b c-1)*c) (yAk a b c) (-c)) }) (by decide +kernel) PySem.F.create_reversed ⟨_,_,PySem.F.mro_reversed⟩ PySem.F.made_reversed aKq (PySem.F.typeCall_reversed_1 _) (aKl hr hc0 ⟨rfl,rfl⟩) ?_
 rintro obj s₁ ⟨rfl,rfl⟩;exact⟨⟨_,xAd _ rfl,rfl⟩,h⟩
end
section
variable {X : Cx}{tg : qw}
noncomputable def aIP(ta:TA):TI:=λ σ H R=>ta σ H λ vs H1=>∃ j:Int,vs=[.int j]/\0<=j/\j<2^62/\R (wH (j-1) j.toNat) H1
theorem aO0{a:qw}{ta:TA}{p p2 pos pos2:Pos}(hg:Gl X "reversed")(hm:X.mg "reversed" = qz)(hg2:Gl X "range")(hm2:X.mg "range" = qz)(ha:PA X [a] ta)(hs:qo [a] X.env=[(false,eval a X.env)]):PI X tg (.Call (.Name "reversed" p) [.Call (.Name "range" p2) [a] [] pos2] [] pos) (aIP ta):=by
 intro aB s σ H R I h;refine Call_ (jN I hg hm (show vw "reversed" = qq (.type "reversed") by decide +kernel) (yAv ?_ rfl rfl))
 show qy _ _ (spliced ((false,eval (.Call (.Name "range" p2) [a] [] pos2) X.env)::[])) _ _ s;refine Calls.spliced_cons ?_;refine xk (jN I hg2 hm2 boot_range ?_);refine yAv (bD (ha pos2 aB s σ H _ I h) λ us s1 hPq44=>?_) hs rfl
 obtain⟨vs,H1,I1,r1,q1⟩:=hPq44;obtain⟨j,e,q1,q2,q⟩:=q1;subst e;cases r1 with
 | cons r rr =>
   cases rr;obtain⟨t,rfl⟩:=r;refine call_range_1 ?_;refine Calls.spliced_nil ?_;have rs:yAk 0 j 1=j:=by rw[rangeSize_one];split<;>omega
   have hc0:(yAd 0&&yAd j&&yAd 1&&yAd (-1)&&yAd (0-1)&&yAd (yAk 0 j 1))=true:=by
    rw[rs];simp only[yAd,yBb,decide_eq_true_eq];omega
   refine aKm (IsRange.new ..) hc0 ?_;rw[rs];have I2:Inv X aB σ H1 {s1 with heap:=s1.heap.push {cls:=.type "range",data:=.fields #[.int 0 s1.toks,.int j t,.int 1 (s1.toks+1)] },toks:=s1.toks+1+1 }:=I1.kept λ b o e=>hpS _ e
   have I3:Inv X aB σ H1 {s1 with heap:=(s1.heap.push {cls:=.type "range",data:=.fields #[.int 0 s1.toks,.int j t,.int 1 (s1.toks+1)] }).push (qS (0+(j-1)*1) j (-1)),toks:=s1.toks+1+1 }:=I2.kept λ b o e=>hpS _ e
   have st:ky ((s1.heap.push {cls:=.type "range",data:=.fields #[.int 0 s1.toks,.int j t,.int 1 (s1.toks+1)] }).push (qS (0+(j-1)*1) j (-1))) (s1.heap.push {cls:=.type "range",data:=.fields #[.int 0 s1.toks,.int j t,.int 1 (s1.toks+1)] }).objs.size ((j-1)+((0:Nat):Int)*(-1)) (((j.toNat:Nat):Int)-((0:Nat):Int)) (-1):=by
    have e1:(j-1)+((0:Nat):Int)*(-1)=0+(j-1)*1:=by omega
    have e2:(((j.toNat:Nat):Int)-((0:Nat):Int))=j:=by omega
    rw[e1,e2];exact xAd _ rfl
   refine yz st ?_;exact⟨_,[_],_,_,H1,rfl,I3,aFs _ (j-1) j.toNat,st,λ b hb=>by
    have e:b=(s1.heap.push {cls:=.type "range",data:=.fields #[.int 0 s1.toks,.int j t,.int 1 (s1.toks+1)] }).objs.size:=by simpa using hb
    subst e;exact I2.fpOk (yAc _) (I2.hok.fresh (yAc _)),q⟩
noncomputable def aAp(fa:FE):FL:=λ env S=>(fa env S).bind λ p=>match p.1 with
 | .d (.int j)=>if 0<=j/\j<2^62 then qq (iY (j-1) j.toNat,p.2) else qz
 | _=>qz
theorem aQO{K:FrG}{fa:FE}(σ:L2.St)(H:Hp)(Rr:It->Hp->Prop)(h:iC K (aAp fa) σ H Rr):aIP (fW K (dH fa hZ)) σ H Rr:=by
 obtain⟨F,L,S,env,ds,S',R,E,e,q⟩:=h;obtain⟨⟨w,S1⟩,e1,e2⟩:=bind_some e;dsimp only at e2
 split at e2
 ·split at e2
  ·rename_i j c;cases e2;refine⟨F,L,S,env,[.d (.int j)],_,R,E,by unfold dH;rw[e1];rfl,λ F1 L1 H1 vs g1 R1 d1=>?_⟩
   cases d1 with
   | cons dd dr =>
     cases dr;cases (show Den K F1 (.int j) _ from dd)
     exact⟨j,rfl,c.1,c.2,q F1 L1 H1 _ g1 R1 (aG1 _ _)⟩
  ·cases e2
 ·cases e2
end
section
variable {X : Cx}
end
noncomputable def oC(fa:FE)(fl fh:FO):FE:=λ env S=>(fa env S).bind λ p=>(fl env p.2).bind λ q=>(fh env q.2).bind λ r=>(dr r.2 p.1).bind λ d=>match d with
 | .list xs=>qq (.d (.list (iA xs q.1 r.1)),r.2)
 | .tuple xs=>qq (.d (.tuple (iA xs q.1 r.1)),r.2)
 | _=>qz
noncomputable def eZ(fa:FE):FL:=λ env S=>(fa env S).bind λ p=>match p.1 with
 | .d (.list ds)=>qq (ds,p.2)
 | .d (.tuple ds)=>qq (ds,p.2)
 | _=>qz
section
variable {X : Cx}{pos : Pos}
theorem aVg{a:qw}{lo hi:Option qw}{p2:Pos}{fa:FE}{fl fh:FO}(ha:PE X a (aY X.K fa))(hl:PO X lo (kS X.K fl))(hh:PO X hi (kS X.K fh)):PE X (.Subscript a (.Slice lo hi qz p2) pos) (aY X.K (oC fa fl fh)):=by
 rintro aB s σ H Q I ⟨F,L,S,env,w,S',R,E,e,q⟩;obtain⟨⟨w1,S1⟩,e1,e⟩:=bind_some e;obtain⟨⟨l,S2⟩,e2,e⟩:=bind_some e;obtain⟨⟨h,S3⟩,e3,e⟩:=bind_some e;obtain⟨d,e4,e⟩:=bind_some e;dsimp only at e e2 e3 e4;cases d with
 | list xs =>
   cases e;refine aJk (aTT ha hl hh) aB s σ H Q I ⟨F,L,S,env,_,_,R,E,?_,q⟩;unfold jZ aJu;rw[e1];dsimp only[yDh];rw[e2];dsimp only;rw[e3];dsimp only;rw[e4];rfl
 | tuple xs =>
   cases e;refine aQz ha hl hh aB s σ H Q I ⟨F,L,S,env,_,_,R,E,?_,q⟩;unfold aIB;rw[e1];dsimp only[yDh];rw[e2];dsimp only;rw[e3];dsimp only;rw[e4];dsimp only[aJZ]
 | _=>cases e
theorem aVp{tg a:qw}{fa:FE}(ha:PE X a (aY X.K fa)):PI X tg a (iC X.K (eZ fa)):=by
 rintro aB s σ H Rr I ⟨F,L,S,env,ds,S',R,E,e,q⟩;obtain⟨⟨w1,S1⟩,e1,e⟩:=bind_some e;dsimp only at e
 split at e
 ·rename_i ds';cases e;refine aUD ha aB s σ H Rr I ⟨F,L,S,env,_,_,R,E,?_,q⟩;unfold aJK;rw[e1];rfl
 ·cases e;refine aTG ha aB s σ H Rr I ⟨F,L,S,env,_,_,R,E,?_,q⟩;unfold aJv;rw[e1];rfl
 ·cases e
end
inductive Ty where
 | int | bool | str | lst | tup
 deriving DecidableEq
noncomputable def Ty.s:Ty->String
 | .int => "int" | .bool => "bool" | .str => "str" | .lst => "list" | .tup => "tuple"
noncomputable def Ty.n:Ty->Str
 | .int => "int" | .bool => "bool" | .str => "str" | .lst => "list" | .tup => "tuple"
inductive B where
 | len | mx | mn | int | abs | tup | sum | all | any
 deriving DecidableEq
noncomputable def B.g:B->List D->Option D
 | .len=>iN | .mx=>pN | .mn=>pG | .int=>vM | .abs=>aDk | .tup=>uN | .sum=>aDf | .all=>aDn | .any=>pJ
noncomputable def B.n:B->Str
 | .len => "len" | .mx => "max" | .mn => "min" | .int => "int" | .abs => "abs" | .tup => "tuple" | .sum => "sum" | .all => "all" | .any => "any"
inductive E where
 | var (i:Nat) | int (i:Int) | bl (b:Bool) | non | str (x:Str)
 | bin (op:vj) (a b:E) | un (op:kq) (a:E) | cmp (op:vk) (a b:E) | ltl (a b:E)
 | and (a b:E) | or (a b:E) | not (a:E) | ite (c a b:E)
 | tup (es:E) | lst (es:E) | nil | cons (a r:E)
 | chn (op op':vk) (a b c:E) | con (x:Str) (ts:List Tv)
 | ix (a b:E) | dsp (k l m:Str) (a b c i:E) | tab (x:Str) (aX:List (Str×Tv)) (k:E) | slL (a lo hi:E) | sl (a lo hi:E) | no
 | call (f:Nat) (es:E) | blt (b:B) (es:E) | isi (a:E) (n:Ty) | bits (a:E) | app (o a:E) | pop (o a:E) | idx (o a:E)
 | lof (a:E) | lzip (a b:E) | lrg1 (a:E) | lrg2 (a b:E) | srt (a:E) | lrev (a:E) | lrep (a b:E) | comp (elt:E) (t:Tg) (it:E) (cond:E)
 | it (a:E) | rng1 (a:E) | rng2 (a b:E) | rng3 (a b c:E) | rrng (a:E) | enm (a:E) | zip (a b:E) | zip3 (a b c:E)
 | fz (a:E) | new (a:E)
noncomputable abbrev Calls:=Nat->Option (Nat×(List W->aD->Option (W×aD)))
noncomputable def kN(C:Calls)(f:Nat)(fs:FA):FE:=λ env S=>match C f with
 | some (np,call)=>aAk fs np call env S
 | none=>qz
section
variable (C : Calls)
mutual
noncomputable def ev:E->FE
 | .var i=>iQ i
 | .int i=>fC (.int i)
 | .bl b=>fC (.bool b)
 | .non=>fC .none
 | .str x=>fC (.str x)
 | .bin op a b=>pI op (ev a) (ev b)
 | .un op a=>wG op (ev a)
 | .cmp op a b=>lY op (ev a) (ev b)
 | .and a b=>uT (ev a) (ev b)
 | .or a b=>vW (ev a) (ev b)
 | .not a=>uZ (ev a)
 | .ite c a b=>vP (tv c) (ev a) (ev b)
 | .tup es=>vU (av es)
 | .ix a b=>oA (ev a) (ev b)
 | .tab _ aX k=>f1 (ev k) (mJ (aAD aX))
 | .con _ ts=>fC (.tuple (ts.map Tv.d))
 | .sl a lo hi=>oC (ev a) (ov lo) (ov hi)
 | .call f es=>kN C f (av es)
 | .blt b es=>pF (av es) b.g
 | .bits a=>aDa (ev a)
 | .app o a=>gQ (ev o) (ev a)
 | .fz a=>jZ (lv a)
 | .new a=>fD (lv a)
 | _=>λ _ _=>qz
noncomputable def tv:E->FT
 | .and a b=>vK (tv a) (tv b)
 | .or a b=>wI (tv a) (tv b)
 | .not a=>vN (tv a)
 | .var i=>dP (iQ i)
 | .cmp op a b=>dP (lY op (ev a) (ev b))
 | .ix a b=>dP (oA (ev a) (ev b))
 | .call f es=>dP (kN C f (av es))
 | .blt b es=>dP (pF (av es) b.g)
 | .bin op a b=>dP (pI op (ev a) (ev b))
 | .bl b=>dP (fC (.bool b))
 | .no=>nZ
 | _=>λ _ _=>qz
noncomputable def av:E->FA
 | .nil=>hZ
 | .cons a r=>dH (ev a) (av r)
 | _=>λ _ _=>qz
noncomputable def ov:E->FO
 | .no=>wU
 | .cons a .nil=>nJ (ev a)
 | _=>λ _ _=>qz
noncomputable def lv:E->FL
 | .lst es=>vX (av es)
 | .lzip a b=>pC (ev a) (ev b)
 | .lrep a b=>wC (ev a) (ev b)
 | .comp elt t it cond=>hG t (lv it) (tv cond) (ev elt)
 | .it a=>eZ (ev a)
 | .rng1 a=>vB (ev a)
 | .rng3 a b c=>aAa (ev a) (ev b) (ev c)
 | .rrng a=>aAp (ev a)
 | .enm a=>uH (ev a)
 | .zip a b=>nY (ev a) (ev b)
 | .zip3 a b c=>aAb (ev a) (ev b) (ev c)
 | _=>λ _ _=>qz
end
inductive Sx where
 | skip | seq (a b:Sx) | expr (e:E) | ret (e:E)
 | ifs (c:E) (a b:Sx) | set (i:Nat) (e:E) | setC (nw:Bool) (i:Nat) (e:E) | setT (t:Tg) (e:E) | put (o i e:E)
 | loop (t:Tg) (it:E) (b:Sx)
noncomputable def xs:Sx->FS
 | .skip=>rD
 | .seq a b=>dY (xs a) (xs b)
 | .expr e=>vE (ev C e)
 | .ret e=>nX (ev C e)
 | .ifs c a b=>mD (tv C c) (xs a) (xs b)
 | .set i e=>jD i (ev C e)
 | .setC nw i e=>jD i (match nw with | true=>fD (lv C e) | false=>jZ (lv C e))
 | .setT t e=>aAi t (ev C e)
 | .put o i e=>iO (ev C o) (ev C i) (ev C e)
 | .loop t it b=>dX t (lv C it) (xs b)
theorem aCW{i}:ev C (.var i)=iQ i:=rfl
theorem aPS{i}:ev C (.int i)=fC (.int i):=rfl
theorem aUp{b}:ev C (.bl b)=fC (.bool b):=rfl
theorem aQd:ev C .non=fC .none:=rfl
theorem aRe{x}:ev C (.str x)=fC (.str x):=rfl
theorem aHy{op a b}:ev C (.bin op a b)=pI op (ev C a) (ev C b):=rfl
theorem aII{op a}:ev C (.un op a)=wG op (ev C a):=rfl
theorem aCx{op a b}:ev C (.cmp op a b)=lY op (ev C a) (ev C b):=rfl
theorem aIg{a b}:ev C (.and a b)=uT (ev C a) (ev C b):=rfl
theorem aIt{a b}:ev C (.or a b)=vW (ev C a) (ev C b):=rfl
theorem aH5{a}:ev C (.not a)=uZ (ev C a):=rfl
theorem aHF{c a b}:ev C (.ite c a b)=vP (tv C c) (ev C a) (ev C b):=rfl
theorem aHB{es}:ev C (.tup es)=vU (av C es):=rfl
theorem aDd{a b}:ev C (.ix a b)=oA (ev C a) (ev C b):=rfl
theorem aSb{n0 aX k}:ev C (.tab n0 aX k)=f1 (ev C k) (mJ (aAD aX)):=rfl
theorem aRV{n0 ts}:ev C (.con n0 ts)=fC (.tuple (ts.map Tv.d)):=rfl
theorem aC8{a lo hi}:ev C (.sl a lo hi)=oC (ev C a) (ov C lo) (ov C hi):=rfl
theorem aGX{f es}:ev C (.call f es)=kN C f (av C es):=rfl
theorem aHT{b es}:ev C (.blt b es)=pF (av C es) b.g:=rfl
theorem aOv{a}:ev C (.bits a)=aDa (ev C a):=rfl
theorem aHY{o a}:ev C (.app o a)=gQ (ev C o) (ev C a):=rfl
theorem aID{a}:ev C (.fz a)=jZ (lv C a):=rfl
theorem aCJ{a}:ev C (.new a)=fD (lv C a):=rfl
theorem aH3{a b}:tv C (.and a b)=vK (tv C a) (tv C b):=rfl
theorem aIO{a b}:tv C (.or a b)=wI (tv C a) (tv C b):=rfl
theorem aId{a}:tv C (.not a)=vN (tv C a):=rfl
theorem aSj{i}:tv C (.var i)=dP (iQ i):=rfl
theorem aH1{op a b}:tv C (.cmp op a b)=dP (lY op (ev C a) (ev C b)):=rfl
theorem aTc{a b}:tv C (.ix a b)=dP (oA (ev C a) (ev C b)):=rfl
theorem aNZ{f es}:tv C (.call f es)=dP (kN C f (av C es)):=rfl
theorem aQh{b es}:tv C (.blt b es)=dP (pF (av C es) b.g):=rfl
theorem aRW{op a b}:tv C (.bin op a b)=dP (pI op (ev C a) (ev C b)):=rfl
theorem aSr{b}:tv C (.bl b)=dP (fC (.bool b)):=rfl
theorem aT6:tv C .no=nZ:=rfl
theorem aR9:av C .nil=hZ:=rfl
theorem aHu{a r}:av C (.cons a r)=dH (ev C a) (av C r):=rfl
theorem aTQ:ov C .no=wU:=rfl
theorem aG2{a}:ov C (.cons a .nil)=nJ (ev C a):=rfl
theorem aIm{es}:lv C (.lst es)=vX (av C es):=rfl
theorem aPg{a b}:lv C (.lzip a b)=pC (ev C a) (ev C b):=rfl
theorem mP{a b c}:lv C (.rng3 a b c)=aAa (ev C a) (ev C b) (ev C c):=rfl
theorem mU{a}:lv C (.rrng a)=aAp (ev C a):=rfl
theorem aGB{a b}:lv C (.lrep a b)=wC (ev C a) (ev C b):=rfl
theorem aOb{elt t it cond}:lv C (.comp elt t it cond)=hG t (lv C it) (tv C cond) (ev C elt):=rfl
theorem nP{a}:lv C (.it a)=eZ (ev C a):=rfl
theorem mV{a}:lv C (.rng1 a)=vB (ev C a):=rfl
theorem nC{a}:lv C (.enm a)=uH (ev C a):=rfl
theorem nF{a b}:lv C (.zip a b)=nY (ev C a) (ev C b):=rfl
theorem mS{a b c}:lv C (.zip3 a b c)=aAb (ev C a) (ev C b) (ev C c):=rfl
theorem aGz:xs C .skip=rD:=rfl
theorem lK{a b}:xs C (.seq a b)=dY (xs C a) (xs C b):=rfl
theorem aGW{e}:xs C (.expr e)=vE (ev C e):=rfl
theorem aCK{e}:xs C (.ret e)=nX (ev C e):=rfl
theorem qV{c a b}:xs C (.ifs c a b)=mD (tv C c) (xs C a) (xs C b):=rfl
theorem zQ{i e}:xs C (.set i e)=jD i (ev C e):=rfl
theorem aGL{nw i e}:xs C (.setC nw i e)=jD i (match nw with | true=>fD (lv C e) | false=>jZ (lv C e)):=rfl
theorem aOk{t e}:xs C (.setT t e)=aAi t (ev C e):=rfl
theorem aIr{o i e}:xs C (.put o i e)=iO (ev C o) (ev C i) (ev C e):=rfl
theorem aOR{t it b}:xs C (.loop t it b)=dX t (lv C it) (xs C b):=rfl
end
theorem no{P:Prop}(h:false=true):P:=by cases h
theorem gP{a b:Bool}(h:(a&&b)=true):a=true/\b=true:=by
 cases a with
 | false=>exact no h
 | true=>exact⟨rfl,h⟩
theorem aL{a b:Bool}(h:(a&&b)=true):a=true:=(gP h).1
theorem aR{a b:Bool}(h:(a&&b)=true):b=true:=(gP h).2
theorem fH{c:Prop}{d:Decidable c}{f:c->Bool}(h:(@dite _ c d f λ _=>false)=true):c:=by
 cases d with
 | isTrue k=>exact k
 | isFalse _=>exact no h
noncomputable def jY(k:Str->Pos->Bool)(x:qw):Bool:=if h:x.ctorIdx=23 then @Expr.Name.elim (λ _=>Bool) x h k else false
theorem nV{P:qw->Prop}{k:Str->Pos->Bool}{x:qw}(h:jY k x=true)(g:∀ a b,k a b=true->P (.Name a b)):P x:=@Expr.Name.elim (λ e=>jY k e=true->P e) x (fH h) g h
noncomputable def kCo(k:Const->Nat->Pos->Bool)(x:qw):Bool:=if h:x.ctorIdx=19 then @Expr.Constant.elim (λ _=>Bool) x h k else false
theorem aUK{P:qw->Prop}{k:Const->Nat->Pos->Bool}{x:qw}(h:kCo k x=true)(g:∀ a b c,k a b c=true->P (.Constant a b c)):P x:=@Expr.Constant.elim (λ e=>kCo k e=true->P e) x (fH h) g h
noncomputable def wR(k:qw->vj->qw->Pos->Bool)(x:qw):Bool:=if h:x.ctorIdx=2 then @Expr.BinOp.elim (λ _=>Bool) x h k else false
theorem aJl{P:qw->Prop}{k:qw->vj->qw->Pos->Bool}{x:qw}(h:wR k x=true)(g:∀ a b c d,k a b c d=true->P (.BinOp a b c d)):P x:=@Expr.BinOp.elim (λ e=>wR k e=true->P e) x (fH h) g h
noncomputable def wE(k:kq->qw->Pos->Bool)(x:qw):Bool:=if h:x.ctorIdx=3 then @Expr.UnaryOp.elim (λ _=>Bool) x h k else false
theorem aDy{P:qw->Prop}{k:kq->qw->Pos->Bool}{x:qw}(h:wE k x=true)(g:∀ a b c,k a b c=true->P (.UnaryOp a b c)):P x:=@Expr.UnaryOp.elim (λ e=>wE k e=true->P e) x (fH h) g h
noncomputable def kCm(k:qw->List vk->List qw->Pos->Bool)(x:qw):Bool:=if h:x.ctorIdx=15 then @Expr.Compare.elim (λ _=>Bool) x h k else false
theorem aU5{P:qw->Prop}{k:qw->List vk->List qw->Pos->Bool}{x:qw}(h:kCm k x=true)(g:∀ a b c d,k a b c d=true->P (.Compare a b c d)):P x:=@Expr.Compare.elim (λ e=>kCm k e=true->P e) x (fH h) g h
noncomputable def kBo(k:BoolOp->List qw->Pos->Bool)(x:qw):Bool:=if h:x.ctorIdx=0 then @Expr.BoolOp.elim (λ _=>Bool) x h k else false
theorem aVz{P:qw->Prop}{k:BoolOp->List qw->Pos->Bool}{x:qw}(h:kBo k x=true)(g:∀ a b c,k a b c=true->P (.BoolOp a b c)):P x:=@Expr.BoolOp.elim (λ e=>kBo k e=true->P e) x (fH h) g h
noncomputable def kIe(k:qw->qw->qw->Pos->Bool)(x:qw):Bool:=if h:x.ctorIdx=5 then @Expr.IfExp.elim (λ _=>Bool) x h k else false
theorem aUM{P:qw->Prop}{k:qw->qw->qw->Pos->Bool}{x:qw}(h:kIe k x=true)(g:∀ a b c d,k a b c d=true->P (.IfExp a b c d)):P x:=@Expr.IfExp.elim (λ e=>kIe k e=true->P e) x (fH h) g h
noncomputable def wL(k:List qw->Nat->Pos->Bool)(x:qw):Bool:=if h:x.ctorIdx=25 then @Expr.Tuple.elim (λ _=>Bool) x h k else false
theorem rY{P:qw->Prop}{k:List qw->Nat->Pos->Bool}{x:qw}(h:wL k x=true)(g:∀ a b c,k a b c=true->P (.Tuple a b c)):P x:=@Expr.Tuple.elim (λ e=>wL k e=true->P e) x (fH h) g h
noncomputable def kLi(k:List qw->Pos->Bool)(x:qw):Bool:=if h:x.ctorIdx=24 then @Expr.List.elim (λ _=>Bool) x h k else false
theorem aVG{P:qw->Prop}{k:List qw->Pos->Bool}{x:qw}(h:kLi k x=true)(g:∀ a b,k a b=true->P (.List a b)):P x:=@Expr.List.elim (λ e=>kLi k e=true->P e) x (fH h) g h
noncomputable def kSu(k:qw->qw->Pos->Bool)(x:qw):Bool:=if h:x.ctorIdx=21 then @Expr.Subscript.elim (λ _=>Bool) x h k else false
theorem aJG{P:qw->Prop}{k:qw->qw->Pos->Bool}{x:qw}(h:kSu k x=true)(g:∀ a b c,k a b c=true->P (.Subscript a b c)):P x:=@Expr.Subscript.elim (λ e=>kSu k e=true->P e) x (fH h) g h
noncomputable def kSl(k:Option qw->Option qw->Option qw->Pos->Bool)(x:qw):Bool:=if h:x.ctorIdx=26 then @Expr.Slice.elim (λ _=>Bool) x h k else false
theorem aUP{P:qw->Prop}{k:Option qw->Option qw->Option qw->Pos->Bool}{x:qw}(h:kSl k x=true)(g:∀ a b c d,k a b c d=true->P (.Slice a b c d)):P x:=@Expr.Slice.elim (λ e=>kSl k e=true->P e) x (fH h) g h
noncomputable def kCa(k:qw->List qw->List Keyword->Pos->Bool)(x:qw):Bool:=if h:x.ctorIdx=16 then @Expr.Call.elim (λ _=>Bool) x h k else false
theorem aJC{P:qw->Prop}{k:qw->List qw->List Keyword->Pos->Bool}{x:qw}(h:kCa k x=true)(g:∀ a b c d,k a b c d=true->P (.Call a b c d)):P x:=@Expr.Call.elim (λ e=>kCa k e=true->P e) x (fH h) g h
noncomputable def kAt(k:qw->Str->Pos->Bool)(x:qw):Bool:=if h:x.ctorIdx=20 then @Expr.Attribute.elim (λ _=>Bool) x h k else false
theorem aVx{P:qw->Prop}{k:qw->Str->Pos->Bool}{x:qw}(h:kAt k x=true)(g:∀ a b c,k a b c=true->P (.Attribute a b c)):P x:=@Expr.Attribute.elim (λ e=>kAt k e=true->P e) x (fH h) g h
noncomputable def kLc(k:qw->List Comprehension->zk->Pos->Bool)(x:qw):Bool:=if h:x.ctorIdx=8 then @Expr.ListComp.elim (λ _=>Bool) x h k else false
theorem aVf{P:qw->Prop}{k:qw->List Comprehension->zk->Pos->Bool}{x:qw}(h:kLc k x=true)(g:∀ a b c d,k a b c d=true->P (.ListComp a b c d)):P x:=@Expr.ListComp.elim (λ e=>kLc k e=true->P e) x (fH h) g h
noncomputable def kEx(k:qw->Pos->Bool)(x:jz):Bool:=if h:x.ctorIdx=24 then @Stmt.Expr.elim (λ _=>Bool) x h k else false
theorem aVD{P:jz->Prop}{k:qw->Pos->Bool}{x:jz}(h:kEx k x=true)(g:∀ a b,k a b=true->P (.Expr a b)):P x:=@Stmt.Expr.elim (λ e=>kEx k e=true->P e) x (fH h) g h
noncomputable def kRe(k:Option qw->Pos->Bool)(x:jz):Bool:=if h:x.ctorIdx=3 then @Stmt.Return.elim (λ _=>Bool) x h k else false
theorem aVc{P:jz->Prop}{k:Option qw->Pos->Bool}{x:jz}(h:kRe k x=true)(g:∀ a b,k a b=true->P (.Return a b)):P x:=@Stmt.Return.elim (λ e=>kRe k e=true->P e) x (fH h) g h
noncomputable def kSf(k:qw->List jz->List jz->Pos->Bool)(x:jz):Bool:=if h:x.ctorIdx=12 then @Stmt.If.elim (λ _=>Bool) x h k else false
theorem aVk{P:jz->Prop}{k:qw->List jz->List jz->Pos->Bool}{x:jz}(h:kSf k x=true)(g:∀ a b c d,k a b c d=true->P (.If a b c d)):P x:=@Stmt.If.elim (λ e=>kSf k e=true->P e) x (fH h) g h
noncomputable def sI(k:List qw->qw->Pos->Bool)(x:jz):Bool:=if h:x.ctorIdx=5 then @Stmt.Assign.elim (λ _=>Bool) x h k else false
theorem aAA{P:jz->Prop}{k:List qw->qw->Pos->Bool}{x:jz}(h:sI k x=true)(g:∀ a b c,k a b c=true->P (.Assign a b c)):P x:=@Stmt.Assign.elim (λ e=>sI k e=true->P e) x (fH h) g h
noncomputable def kFo(k:qw->qw->List jz->List jz->Pos->Bool)(x:jz):Bool:=if h:x.ctorIdx=9 then @Stmt.For.elim (λ _=>Bool) x h k else false
theorem aUT{P:jz->Prop}{k:qw->qw->List jz->List jz->Pos->Bool}{x:jz}(h:kFo k x=true)(g:∀ a b c d e,k a b c d e=true->P (.For a b c d e)):P x:=@Stmt.For.elim (λ e=>kFo k e=true->P e) x (fH h) g h
noncomputable def jW{α:Type}(k:α->Bool)(l:List α):Bool:=match l with
 | [a]=>k a
 | _=>false
theorem kO{α:Type}{P:List α->Prop}{k:α->Bool}:∀ {l:List α},jW k l=true->(∀ a,k a=true->P [a])->P l
 | [],h,_=>no h
 | [a],h,g=>g a h
 | _::_::_,h,_=>no h
noncomputable def aDj{α:Type}(k:α->α->Bool)(l:List α):Bool:=match l with
 | a::r=>jW (k a) r
 | []=>false
theorem aIG{α:Type}{P:List α->Prop}{k:α->α->Bool}:∀ {l:List α},aDj k l=true->(∀ a b,k a b=true->P [a,b])->P l
 | [],h,_=>no h
 | a::_,h,g=>kO (P:=λ r=>P (a::r)) h (g a)
noncomputable def aJF{α:Type}(k:α->α->α->Bool)(l:List α):Bool:=match l with
 | a::r=>aDj (k a) r
 | []=>false
theorem aSv{α:Type}{P:List α->Prop}{k:α->α->α->Bool}:∀ {l:List α},aJF k l=true->(∀ a b c,k a b c=true->P [a,b,c])->P l
 | [],h,_=>no h
 | a::_,h,g=>aIG (P:=λ r=>P (a::r)) h (g a)
theorem nT{α:Type}{P:List α->Prop}:∀ {l:List α},l.isEmpty=true->P []->P l
 | [],_,g=>g
 | _::_,h,_=>no h
noncomputable def aDE{α:Type}(o:Option α):Bool:=match o with
 | none=>true
 | some _=>false
theorem aI3{α:Type}{P:Option α->Prop}:∀ {o:Option α},aDE o=true->P qz->P o
 | none,_,g=>g
 | some _,h,_=>no h
theorem aI4{α:Type}{P:Option α->Prop}{k:α->Bool}:∀ {o:Option α},o.any k=true->(∀ a,k a=true->P (qq a))->P o
 | none,h,_=>no h
 | some a,h,g=>g a h
theorem dT{p:Prop}{d:Decidable p}(h:decide p=true):p:=oqT h
noncomputable def pO(sc:zk)(x:Str):Bool:=match sc.names.lookup x with
 | some .local=>true | some .cell=>true | some .free=>true | _=>false
noncomputable def loc(sc:zk)(x:Str):Bool:=match sc.names.lookup x with
 | some .local=>true | some .cell=>true | _=>false
noncomputable def aI1(e:E):Bool:=decide (e.ctorIdx=E.nil.ctorIdx)
theorem aVj{P:E->Prop}{e:E}(h:aI1 e=true)(g:P .nil):P e:=@E.nil.elim P e (dT h) g
noncomputable def lo(sc:zk)(x:Str):Bool:=decide (sc.names.lookup x=qq .local)
noncomputable def gl(sc:zk)(x:Str):Bool:=decide (sc.names.lookup x=qq .globalImplicit)
noncomputable def cU(e:qw):Bool:=![7,22,26].contains e.ctorIdx
noncomputable def lW(e:qw):Bool:=![0,3,5,15].contains e.ctorIdx
noncomputable def zP(e:qw):Bool:=![16].contains e.ctorIdx
noncomputable def qW(e:qw):Bool:=![8,9,10].contains e.ctorIdx
noncomputable def rC(e:qw):Bool:=wL (λ _ _ _=>true) e
noncomputable def qH:List qw->Bool
 | []=>true
 | e::r=>cU e&&qH r
noncomputable def pM(scope osc:zk):zk:={scope with names:=scope.names.map λ(n,k)=>if (k==.free&&osc.kind==.function&&osc.names.lookup n==qq .cell) then (n,.cell) else (n,k) }
noncomputable def aDe(scope osc:zk):Bool:=decide (scope.kind=.function)&&scope.names.all λ x=>(!decide (x.2=.cell))&&(!decide (x.2=.free)||decide (osc.names.lookup x.1=qq .cell)||decide (osc.names.lookup x.1=qq .free))&&(!decide (x.2=.local)||decide (scope.names.lookup x.1=qq .local))
noncomputable def aAF(N:List Str)(scope:zk)(is:List Nat):Nat->Bool
 | 0=>true
 | n+1=>aAF N scope is n&&(match N[n]? with
   | some x=>!decide (scope.names.lookup x=qq .local)||is.contains n
   | none=>true)
noncomputable def aCS(b:Bool)(N:List Str)(sc:zk)(i:Nat)(x:Str):Bool:=decide (N[i]? = qq x)&&(match b with
 | true=>decide (sc.names.lookup x=qq .local)
 | false=>loc sc x)
noncomputable def aCq(b:Bool)(N:List Str)(sc:zk):List Nat->List qw->Bool
 | [],es=>es.isEmpty
 | i::is,es=>(match es with
   | e::r=>jY (λ x _=>aCS b N sc i x&&aCq b N sc is r) e
   | []=>false)
noncomputable def vS(b:Bool)(N:List Str)(sc:zk)(t:Tg)(e:qw):Bool:=match t with
 | .one i=>jY (λ x _=>aCS b N sc i x) e
 | .many is=>wL (λ es _ _=>aCq b N sc is es) e
noncomputable def aGt(e:E):Bool:=decide (e.ctorIdx=(E.comp .no (.one 0) .no .no).ctorIdx)
theorem aVt{P:E->Prop}{e:E}(h:aGt e=true)(g:∀ a t b c,P (.comp a t b c)):P e:=@E.comp.elim P e (dT h) g
noncomputable def aDD(e:E):Bool:=decide (e.ctorIdx=E.no.ctorIdx)
theorem aJy{P:E->Prop}{e:E}(h:aDD e=true)(g:P .no):P e:=@E.no.elim P e (dT h) g
noncomputable def rJ(c:Const)(e:qw):Bool:=kCo (λ d _ _=>decide (d=c)) e
theorem aAs{P:qw->Prop}{c:Const}{x:qw}(h:rJ c x=true)(g:∀ k p,P (.Constant c k p)):P x:=
 aUK h λ _ k p z=>(dT z)▸g k p
noncomputable def aDA(k:qw->vk->qw->Bool)(e:qw):Bool:=kCm (λ x os ys _=>jW (λ o=>jW (λ y=>k x o y&&cU y) ys) os) e
theorem aIQ{P:qw->Prop}{k:qw->vk->qw->Bool}{x:qw}(h:aDA k x=true)(g:∀ a o b p,k a o b=true->cU b=true->P (.Compare a [o] [b] p)):P x:=
 aU5 h λ a os _ p z=>kO (P:=λ os=>P (.Compare a os _ p)) z λ o z=>kO (P:=λ ys=>P (.Compare a [o] ys p)) z λ b z=>g a o b p (aL z) (aR z)
noncomputable def vA(op:BoolOp)(k:qw->qw->Bool)(e:qw):Bool:=kBo (λ o es p=>decide (o=op)&&(match es with
 | [x,y]=>k x y
 | x::y::z::r=>k x (.BoolOp op (y::z::r) p)
 | _=>false)) e
theorem zM{P:qw->Prop}{op:BoolOp}{k:qw->qw->Bool}{x:qw}(h:vA op k x=true)(g:∀ a b p,k a b=true->P (.BoolOp op [a,b] p))(f:∀ a b c r p,k a (.BoolOp op (b::c::r) p)=true->P (.BoolOp op (a::b::c::r) p)):P x:=
 aVz h λ o es p z=>by
  obtain rfl:=dT (aL z)
  match es,aR z with
  | [a,b],z=>exact g a b p z
  | a::b::c::r,z=>exact f a b c r p z
  | [],z=>exact no z
  | [_],z=>exact no z
noncomputable def wS(k:qw->qw->Bool)(e:qw):Bool:=kSu (λ x y _=>k x y&&cU y) e
theorem aDq{P:qw->Prop}{k:qw->qw->Bool}{x:qw}(h:wS k x=true)(g:∀ a b p,k a b=true->cU b=true->P (.Subscript a b p)):P x:=aJG h λ a b p z=>g a b p (aL z) (aR z)
noncomputable def aJD(k:qw->Option qw->Option qw->Bool)(e:qw):Bool:=kSu (λ x s _=>kSl (λ l h t _=>aDE t&&k x l h) s) e
theorem aSX{P:qw->Prop}{k:qw->Option qw->Option qw->Bool}{x:qw}(h:aJD k x=true)(g:∀ a l u p q,k a l u=true->P (.Subscript a (.Slice l u qz p) q)):P x:=
 aJG h λ a _ q z=>aUP (P:=λ s=>P (.Subscript a s q)) z λ l u _ p z=>aI3 (P:=λ t=>P (.Subscript a (.Slice l u t p) q)) (aL z) (g a l u p q (aR z))
noncomputable def nI(k:Str->List qw->Bool)(e:qw):Bool:=kCa (λ f xs ks _=>jY (λ n _=>ks.isEmpty&&k n xs) f) e
theorem uK{P:qw->Prop}{k:Str->List qw->Bool}{x:qw}(h:nI k x=true)(g:∀ n p xs q,k n xs=true->P (.Call (.Name n p) xs [] q)):P x:=
 aJC h λ _ xs ks q z=>nV (P:=λ f=>P (.Call f xs ks q)) z λ n p z=>nT (P:=λ ks=>P (.Call (.Name n p) xs ks q)) (aL z) (g n p xs q (aR z))
noncomputable def sF(nm:Str)(sc:zk)(k:qw->Bool)(e:qw):Bool:=nI (λ n xs=>decide (n=nm)&&gl sc n&&jW (λ y=>k y&&cU y) xs) e
theorem vI{P:qw->Prop}{nm:Str}{sc:zk}{k:qw->Bool}{x:qw}(h:sF nm sc k x=true)(g:∀ p y q,gl sc nm=true->k y=true->cU y=true->P (.Call (.Name nm p) [y] [] q)):P x:=
 uK h λ n p xs q z=>by
  obtain rfl:=dT (aL (aL z));exact kO (P:=λ xs=>P (.Call (.Name n p) xs [] q)) (aR z) λ y u=>g p y q (aR (aL z)) (aL u) (aR u)
noncomputable def kB2(nm:Str)(sc:zk)(k l:qw->Bool)(e:qw):Bool:=nI (λ n xs=>decide (n=nm)&&gl sc n&&aDj (λ y z=>(k y&&cU y)&&(l z&&cU z)) xs) e
theorem aJI{P:qw->Prop}{nm:Str}{sc:zk}{k l:qw->Bool}{x:qw}(h:kB2 nm sc k l x=true)(g:∀ p y z q,gl sc nm=true->k y=true->cU y=true->l z=true->cU z=true->P (.Call (.Name nm p) [y,z] [] q)):P x:=
 uK h λ n p xs q z=>by
  obtain rfl:=dT (aL (aL z));exact aIG (P:=λ xs=>P (.Call (.Name n p) xs [] q)) (aR z) λ y w u=>g p y w q (aR (aL z)) (aL (aL u)) (aR (aL u)) (aL (aR u)) (aR (aR u))
noncomputable def kB3(nm:Str)(sc:zk)(k l m:qw->Bool)(e:qw):Bool:=nI (λ n xs=>decide (n=nm)&&gl sc n&&aJF (λ y z w=>(k y&&cU y)&&((l z&&cU z)&&(m w&&cU w))) xs) e
theorem aJS{P:qw->Prop}{nm:Str}{sc:zk}{k l m:qw->Bool}{x:qw}(h:kB3 nm sc k l m x=true)(g:∀ p y z w q,gl sc nm=true->k y=true->cU y=true->l z=true->cU z=true->m w=true->cU w=true->P (.Call (.Name nm p) [y,z,w] [] q)):P x:=
 uK h λ n p xs q z=>by
  obtain rfl:=dT (aL (aL z));exact aSv (P:=λ xs=>P (.Call (.Name n p) xs [] q)) (aR z) λ y w v u=>g p y w v q (aR (aL z)) (aL (aL u)) (aR (aL u)) (aL (aL (aR u))) (aR (aL (aR u))) (aL (aR (aR u))) (aR (aR (aR u)))
noncomputable def kMe(nm:Str)(k:qw->List qw->Bool)(e:qw):Bool:=kCa (λ f xs ks cp=>kAt (λ o m ap=>ks.isEmpty&&(ap.endLine==cp.line)&&decide (m=nm)&&zP o&&k o xs) f) e
theorem aJq{P:qw->Prop}{nm:Str}{k:qw->List qw->Bool}{x:qw}(h:kMe nm k x=true)(g:∀ o ap xs cp,(ap.endLine==cp.line)=true->zP o=true->k o xs=true->P (.Call (.Attribute o nm ap) xs [] cp)):P x:=
 aJC h λ _ xs ks cp z=>aVx (P:=λ f=>P (.Call f xs ks cp)) z λ o m ap z=>by
  obtain rfl:=dT (aR (aL (aL z)));exact nT (P:=λ ks=>P (.Call (.Attribute o m ap) xs ks cp)) (aL (aL (aL (aL z)))) (g o ap xs cp (aR (aL (aL (aL z)))) (aR (aL z)) (aR z))
noncomputable def aJH(nm:Str)(k l:qw->Bool)(e:qw):Bool:=kMe nm (λ o xs=>k o&&jW (λ y=>l y&&cU y) xs) e
theorem aUy{P:qw->Prop}{nm:Str}{k l:qw->Bool}{x:qw}(h:aJH nm k l x=true)(g:∀ o ap y cp,(ap.endLine==cp.line)=true->zP o=true->k o=true->l y=true->cU y=true->P (.Call (.Attribute o nm ap) [y] [] cp)):P x:=
 aJq h λ o ap xs cp h1 h2 z=>kO (P:=λ xs=>P (.Call (.Attribute o nm ap) xs [] cp)) (aR z) λ y u=>g o ap y cp h1 h2 (aL z) (aL u) (aR u)
noncomputable def aIK(k:qw->qw->qw->List qw->zk->Bool)(e:qw):Bool:=kLc (λ el gs sc _=>jW (λ g=>decide (g.is_async=0)&&k el g.target g.iter g.ifs sc) gs) e
theorem aRn{P:qw->Prop}{k:qw->qw->qw->List qw->zk->Bool}{x:qw}(h:aIK k x=true)(g:∀ e tg it ifs sc p,k e tg it ifs sc=true->P (.ListComp e [⟨tg,it,ifs,0⟩] sc p)):P x:=
 aVf h λ e _ sc p z=>kO (P:=λ gs=>P (.ListComp e gs sc p)) z λ aQ z=>by
  obtain⟨tg,it,ifs,as⟩:=aQ;obtain rfl:as=0:=dT (aL z);exact g e tg it ifs sc p (aR z)
noncomputable def aJi(N:List Str)(t:Tg)(cond:E)(sc:zk)(fI:qw->qw->Bool)(fT fE:zk->qw->Bool)(x:qw):Bool:=aIK (λ e tg iter ifs scope=>aDe scope sc&&aAF N scope t.slots N.length&&vS true N (pM scope sc) t tg&&fI tg iter&&cU iter &&
 (match ifs with | []=>aDD cond | y::r=>r.isEmpty&&fT (pM scope sc) y)&&fE (pM scope sc) e) x
theorem aJp{P:qw->Prop}{N:List Str}{t:Tg}{cond:E}{sc:zk}{fI:qw->qw->Bool}{fT fE:zk->qw->Bool}{x:qw}(h:aJi N t cond sc fI fT fE x=true)(g:∀ e tg iter ifs scope p,aDe scope sc=true->aAF N scope t.slots N.length=true->vS true N (pM scope sc) t tg=true->fI tg iter=true->cU iter=true->(match ifs with | []=>aDD cond | y::r=>r.isEmpty&&fT (pM scope sc) y)=true->fE (pM scope sc) e=true->P (.ListComp e [⟨tg,iter,ifs,0⟩] scope p)):P x:=
 aRn h λ e tg iter ifs scope p h=>g e tg iter ifs scope p (aL (aL (aL (aL (aL (aL h)))))) (aR (aL (aL (aL (aL (aL h)))))) (aR (aL (aL (aL (aL h))))) (aR (aL (aL (aL h)))) (aR (aL (aL h))) (aR (aL h)) (aR h)
structure Tx where
 fn:List (Str×Nat)
 tb:List (Str×List (Str×Tv))
 cn:List (Str×List Tv)
section
variable (T : Tx)(N : List Str)
mutual
noncomputable def bL:E->zk->qw->Bool
 | .var i,sc,x=>jY (λ x _=>decide (N[i]? = qq x)&&pO sc x && !(x==("__debug__" : Str)) && !(x==("__classdict__" : Str))) x
 | .int i,_,x=>rJ (.int i) x
 | .bl i,_,x=>rJ (.bool i) x
 | .non,_,x=>rJ .none x
 | .str i,_,x=>rJ (.str i) x
 | .bin op a b,sc,x=>wR (λ x op' y _=>decide (op'=op)&&bL a sc x&&bL b sc y) x
 | .un op a,sc,x=>wE (λ op' x _=>decide (op'=op) && !decide (op=.Not)&&bL a sc x) x
 | .cmp op a b,sc,x=>aDA (λ x op' y=>decide (op'=op)&&bL a sc x&&bL b sc y) x
 | .and a b,sc,x=>vA .And (λ x y=>bL a sc x&&bL b sc y) x
 | .or a b,sc,x=>vA .Or (λ x y=>bL a sc x&&bL b sc y) x
 | .not a,sc,x=>wE (λ o x _=>decide (o=.Not)&&bL a sc x) x
 | .ite c a b,sc,x=>kIe (λ x y z _=>kX c sc x&&bL a sc y&&bL b sc z) x
 | .tup es,sc,x=>wL (λ xs _ _=>mC es sc xs) x
 | .ix a b,sc,x=>wS (λ x y=>bL a sc x&&bL b sc y) x
 | .con n ts,sc,x=>jY (λ x _=>decide (x=n)&&T.cn.contains (n,ts)&&gl sc x && !(x==("__debug__" : Str))) x
 | .tab n aX k,sc,x=>wS (λ x y=>bL k sc y&&jY (λ x _=>decide (x=n)&&T.tb.contains (n,aX)&&gl sc x && !(x==("__debug__" : Str))) x) x
 | .sl a lo hi,sc,x=>aJD (λ x l h=>bL a sc x&&okO lo sc l&&okO hi sc h) x
 | .call f es,sc,x=>nI (λ x xs=>decide ((T.fn[f]?).map (·.1)=qq x)&&gl sc x && !(x==("__debug__" : Str))&&mC es sc xs&&qH xs) x
 | .blt b es,sc,x=>nI (λ x ys=>!ys.isEmpty&&decide (x=b.n)&&gl sc x&&mC es sc ys&&qH ys) x
 | .bits a,sc,x=>kMe "bit_length" (λ x ys=>bL a sc x&&ys.isEmpty) x
 | .app o a,sc,x=>aJH "append" (λ x=>bL o sc x) (λ y=>bL a sc y) x
 | .fz a,sc,e=>wJ a sc e
 | .new a,sc,e=>wJ a sc e
 | _,_,_=>false
noncomputable def kX:E->zk->qw->Bool
 | .and a b,sc,x=>vA .And (λ x y=>kX a sc x&&kX b sc y) x
 | .or a b,sc,x=>vA .Or (λ x y=>kX a sc x&&kX b sc y) x
 | .not a,sc,x=>wE (λ o x _=>decide (o=.Not)&&kX a sc x) x
 | .cmp op a b,sc,x=>aDA (λ x op' y=>decide (op'=op)&&bL a sc x&&bL b sc y) x
 | .var i,sc,x=>jY (λ x _=>decide (N[i]? = qq x)&&pO sc x && !(x==("__debug__" : Str)) && !(x==("__classdict__" : Str))) x&&lW x
 | .bl i,_,x=>rJ (.bool i) x&&lW x
 | .bin op a b,sc,x=>wR (λ x op' y _=>decide (op'=op)&&bL a sc x&&bL b sc y) x&&lW x
 | .ix a b,sc,x=>wS (λ x y=>bL a sc x&&bL b sc y) x&&lW x
 | .call f es,sc,x=>nI (λ x xs=>decide ((T.fn[f]?).map (·.1)=qq x)&&gl sc x && !(x==("__debug__" : Str))&&mC es sc xs&&qH xs) x&&lW x
 | .blt b es,sc,x=>nI (λ x ys=>!ys.isEmpty&&decide (x=b.n)&&gl sc x&&mC es sc ys&&qH ys) x&&lW x
 | _,_,_=>false
noncomputable def mC:E->zk->List qw->Bool
 | .nil,_,xs=>xs.isEmpty
 | .cons a r,sc,xs=>(match xs with
   | x::xs=>bL a sc x&&cU x&&mC r sc xs
   | []=>false)
 | _,_,_=>false
noncomputable def okO:E->zk->Option qw->Bool
 | .no,_,x=>aDE x
 | .cons a r,sc,x=>aI1 r&&x.any λ x=>bL a sc x
 | _,_,_=>false
noncomputable def wJ:E->zk->qw->Bool
 | .lst es,sc,x=>kLi (λ xs _=>mC es sc xs) x
 | .lzip a b,sc,x=>sF "list" sc (λ y=>kB2 "zip" sc (λ z=>bL a sc z) (λ w=>bL b sc w) y) x
 | .lrep a b,sc,x=>wR (λ x o y _=>decide (o=.Mult)&&bL a sc x&&bL b sc y) x
 | .comp elt t it cond,sc,x=>aJi N t cond sc (λ g y=>okI it sc g y) (λ s y=>kX cond s y) (λ s y=>bL elt s y) x
 | _,_,_=>false
noncomputable def okI:E->zk->qw->qw->Bool
 | .it a,sc,_,x=>bL a sc x
 | .rng1 a,sc,_,x=>sF "range" sc (λ y=>bL a sc y) x
 | .rng3 a b c,sc,_,x=>kB3 "range" sc (λ y=>bL a sc y) (λ z=>bL b sc z) (λ w=>bL c sc w) x
 | .rrng a,sc,_,x=>sF "reversed" sc (λ y=>sF "range" sc (λ z=>bL a sc z) y) x
 | .zip a b,sc,tg,x=>rC tg&&kB2 "zip" sc (λ y=>bL a sc y) (λ z=>bL b sc z) x
 | .zip3 a b c,sc,tg,x=>rC tg&&kB3 "zip" sc (λ y=>bL a sc y) (λ z=>bL b sc z) (λ w=>bL c sc w) x
 | .enm a,sc,tg,x=>rC tg&&sF "enumerate" sc (λ y=>bL a sc y) x
 | _,_,_,_=>false
end
mutual
noncomputable def okS:Sx->zk->jz->Bool
 | .expr e,sc,st=>kEx (λ x _=>bL T N e sc x&&qW x) st
 | .ret e,sc,st=>kRe (λ v _=>v.any λ x=>bL T N e sc x) st
 | .ifs c a b,sc,st=>kSf (λ x y z _=>kX T N c sc x&&nU a sc y&&nU b sc z) st
 | .set i e,sc,st=>sI (λ ts y _=>bL T N e sc y&&qW y&&jW (λ t=>jY (λ x _=>decide (N[i]? = qq x)&&loc sc x) t) ts) st
 | .setC _ i e,sc,st=>sI (λ ts y _=>aGt e&&wJ T N e sc y&&jW (λ t=>jY (λ x _=>decide (N[i]? = qq x)&&loc sc x) t) ts) st
 | .setT t e,sc,st=>sI (λ ts y _=>bL T N e sc y&&qW y && !rC y&&jW (λ tg=>rC tg&&vS false N sc t tg) ts) st
 | .put o i e,sc,st=>sI (λ ts z _=>bL T N e sc z&&qW z&&jW (λ t=>wS (λ x y=>bL T N o sc x&&bL T N i sc y) t) ts) st
 | .loop t it b,sc,st=>kFo (λ tg x y z _=>z.isEmpty&&vS false N sc t tg&&okI T N it sc tg x&&cU x&&nU b sc y) st
 | _,_,_=>false
noncomputable def nU:Sx->zk->List jz->Bool
 | .skip,_,l=>l.isEmpty
 | .seq a b,sc,l=>(match l with
   | st::r=>okS a sc st&&nU b sc r
   | []=>false)
 | _,_,_=>false
end
end
noncomputable def bltNames:List Str:=["len", "max", "min", "int", "abs", "tuple", "sum", "all", "any", "isinstance", "list", "range", "enumerate", "bool", "str", "reversed", "zip", "sorted"]
structure Ctx(T:Tx)(C:Calls)(X:Cx):Prop where
 nd:X.N.Nodup
 calm:X.calm=true
 xe:X.xe=λ _ _=>False
 kind:X.env.scope.kind=.function
 room:∃ k,Room k X.A/\∀ f np call x,C f=qq (np,call)->(T.fn[f]?).map (·.1)=qq x->∃ fa fd ps,X.mg x=qq (.ref fa)/\yCw X.K (.ref fa)=true/\lP X.K fd ps []/\FnOk X.prog X.w X.K X.mg X.base sD k fa fd ps (rZ X.K np call)
 blt:∀ x∈bltNames,X.mg x=qz
 tbs:∀ x aX,(x,aX)∈T.tb->∃ a,X.mg x=qq (.ref a)/\uW X.K X.w a aX
 cns:∀ x ts,(x,ts)∈T.cn->∃ a,X.mg x=qq (.ref a)/\qX X.K a ts
theorem Ctx.units{T:Tx}{C:Calls}{X:Cx}(h:Ctx T C X):X.A.units+64<cLine:=let ⟨_,r,_⟩:=h.room;r.units
theorem Ctx.own{T:Tx}{C:Calls}{X:Cx}(h:Ctx T C X):PassesOwn (model X.prog X.w) X.A X.env X.xe:=by rw[h.xe];exact PassesOwn.never
theorem Ctx.comp{T:Tx}{C:Calls}{X Y:Cx}{scope:zk}(h:Ctx T C X)(hk:scope.kind=.function)(hy:jP X scope Y):Ctx T C Y/\Y.env.scope=pM scope X.env.scope/\Y.N=X.N/\Y.K=X.K:=by
 obtain⟨aB,fp,Ca,s₀,H₀,rfl⟩:=hy;exact⟨⟨h.nd,h.calm,rfl,hk,h.room,h.blt,h.tbs,h.cns⟩,rfl,rfl,rfl⟩
theorem gZ{e:qw}(h:cU e=true)(es:List qw)(env:Env):qo (e::es) env=(false,eval e env)::qo es env:=by
 cases e<;>first | rfl | exact no h
theorem aBW:∀ {es:List qw} (h:qH es=true) (env:Env) (pos:Pos),(backTo pos (qo es env)).any (·.1)=false
 | [],_,_,_=>rfl
 | e::es,h,env,pos=>by
   obtain⟨h1,h2⟩:=gP h;rw[gZ h1];show(false||(backTo pos (qo es env)).any (·.1))=false
   rw[aBW h2 env pos];rfl
theorem aIu{e:qw}(h:cU e=true):zA e:=by
 intro o i;cases e<;>first | rfl | exact no h
theorem aF0{e:qw}(h:cU e=true)(op:vk):vz op e=false:=by
 cases e<;>first | rfl | exact no h
theorem aBv{e:qw}(h:cU e=true)(env:Env)(x:qx):jj e env x=pure x:=by
 cases e<;>first | rfl | exact no h
theorem tZ{e:qw}(h:zP e=true)(m:Str)(env:Env):attributeBase e m env (eval e env)=eval e env:=by
 cases e<;>first | rfl | exact no h
theorem aBS{e:qw}(h:qW e=true)(t:Option qw)(line:Nat)(env:Env):swapsWith e t line env=pure false:=by
 cases e<;>first | rfl | exact no h
theorem aSf{e:qw}(h:lW e=true)(env:Env)(fJ:Sem qx):isTrue e env fJ=(do let v <- fJ;standAt e.pos;holding [v] (truthy v)):=by
 cases e<;>first | rfl | exact no h
theorem aLY{o i:qw}{pos:Pos}{env:Env}(h:cU i=true)(v:qx):assign (.Subscript o i pos) env v=(do
 let ov <- holding [v] (eval o env)
 let iv <- holding [v,ov] (eval i env)
 standAt pos
 holding [v,ov,iv] (setItem ov iv v)
 release [v,ov,iv] []):=by
 cases i<;>first | rfl | exact no h
section
variable {X : Cx}
theorem aRK{x:Str}(h:pO X.env.scope x=true):wN X.env.scope x:=by
 unfold pO at h;unfold wN
 split at h<;>first | exact .inl (by assumption) | exact .inr (.inl (by assumption)) | exact .inr (.inr (by assumption)) | exact no h
theorem aCP{x:Str}(h:loc X.env.scope x=true):L2.Loc X.env.scope x:=by
 unfold loc at h;unfold L2.Loc
 split at h<;>first | exact .inl (by assumption) | exact .inr (by assumption) | exact no h
theorem iJ{x:Str}(h:gl X.env.scope x=true):Gl X x:=(oqT h:X.env.scope.names.lookup x=qq .globalImplicit)
theorem sZ{x y:Str}(h:(!(x==y))=true):(x==y)=false:=by
 cases e:x==y with
 | false=>rfl
 | true=>rw[e] at h;exact no h
def aCE(b:Bool)(X:Cx):Prop:=b=true\/∀ x,X.fn x=true
theorem aGy{b:Bool}(st:aCE b X){i:Nat}{x:Str}(h:aCS b X.N X.env.scope i x=true):X.N[i]? = qq x/\L2.Loc X.env.scope x/\(X.fn x=true\/X.env.scope.names.lookup x=qq .local):=by
 obtain⟨h1,h2⟩:=gP h;cases b with
 | true =>
   have h3:=oqT h2;exact⟨oqT h1,.inl h3,.inr h3⟩
 | false =>
   refine⟨oqT h1,aCP h2,?_⟩;rcases st with z | z
   ·cases z
   ·exact .inl (z x)
noncomputable def vH:List Nat->iV
 | []=>aDC
 | i::is=>aC3 (nL i) (vH is)
noncomputable def sH(K:FrG):Tg->TG
 | .one i=>nL i
 | .many is=>aDz K is.length (vH is)
theorem aIh(K:FrG):∀ is:List Nat,wT K is (vH is)
 | []=>aOf
 | _::is=>aMM (aIh K is)
theorem aAo(K:FrG)(t:Tg):GA K t (sH K t):=by
 cases t with
 | one i=>exact aSi i
 | many is=>exact aOM (aIh K is)
theorem aGb{b:Bool}(st:aCE b X)(nd:X.N.Nodup):∀ {is:List Nat}{es:List qw},aCq b X.N X.env.scope is es=true->pV X es (vH is)/\(xj es X.env).length=is.length/\(xj es X.env).findIdx? (·.1)=qz
 | [],[],_=>⟨aOz,rfl,rfl⟩
 | [],_::_,h=>no h
 | _::_,[],h=>no h
 | i::is,e::r,h=>nV (P:=λ e=>pV X (e::r) (vH (i::is))/\(xj (e::r) X.env).length=(i::is).length/\(xj (e::r) X.env).findIdx? (·.1)=qz) h λ x p h=>by
   obtain⟨a1,a2,a3⟩:=aGy st (aL h);obtain⟨pg,hl2,hf⟩:=aGb st nd (aR h);refine⟨aND (aCi nd a1 a2 a3) pg rfl,?_,?_⟩
   ·show((false,assign (.Name x p) X.env)::xj r X.env).length=_;rw[yBs,yBs,hl2]
   ·show((false,assign (.Name x p) X.env)::xj r X.env).findIdx? (·.1)=qz;rw[List.findIdx?_cons,hf];rfl
theorem aAl{b:Bool}(st:aCE b X)(nd:X.N.Nodup)(hc:X.calm=true){t:Tg}{tg:qw}(h:vS b X.N X.env.scope t tg=true):PG X tg (sH X.K t):=by
 cases t with
 | one i=>exact nV (P:=λ e=>PG X e (nL i)) h λ x p h=>let ⟨a1,a2,a3⟩:=aGy st h;aCi nd a1 a2 a3
 | many is=>exact rY (P:=λ e=>PG X e (sH X.K (.many is))) h λ es k p h=>let ⟨pg,hl2,hf⟩:=aGb st nd h;aRs hc pg hl2 hf
end
section
variable (T : Tx)(C : Calls)
def SE(c:E):Prop:=∀ X,Ctx T C X->∀ x,bL T X.N c X.env.scope x=true->PE X x (aY X.K (ev C c))
def ST(c:E):Prop:=∀ X,Ctx T C X->∀ x,kX T X.N c X.env.scope x=true->PT X x (fM X.K (tv C c))/\∀ op es p,x=.BoolOp op es p->PW X x (fM X.K (tv C c))
def SA(c:E):Prop:=∀ X,Ctx T C X->∀ x,mC T X.N c X.env.scope x=true->PA X x (fW X.K (av C c))
def SO(c:E):Prop:=∀ X,Ctx T C X->∀ x,okO T X.N c X.env.scope x=true->PO X x (kS X.K (ov C c))
def SL(c:E):Prop:=∀ X,Ctx T C X->∀ x,wJ T X.N c X.env.scope x=true->PE X x (iU X.K (lv C c))
def SI(c:E):Prop:=∀ X,Ctx T C X->∀ tg x,okI T X.N c X.env.scope tg x=true->PI X tg x (iC X.K (lv C c))
end
section
variable {T : Tx}{C : Calls}
theorem aOp{X:Cx}{x:qw}{f:FE}(h:∀ env S,f env S=qz):PE X x (aY X.K f):=λ aB s σ H Q I aQ=>by
 obtain⟨F,L,S,env,w,S',R,E,e,q⟩:=aQ;rw[h] at e;cases e
theorem aSN{X:Cx}{x:qw}{f:FE}(h:PE X x (aY X.K f))(ht:lW x=true):PT X x (fM X.K (dP f))/\∀ op es p,x=.BoolOp op es p->PW X x (fM X.K (dP f)):=
 ⟨aUw h λ fJ=>aSf ht X.env fJ,λ op es p e=>by subst e;exact no ht⟩
theorem aIp(i:Nat):SE T C (.var i):=λ X hX x hx=>nV (P:=λ x=>PE X x _) hx λ y p h=>aSL (dT (aL (aL (aL h)))) (aRK (aR (aL (aL h)))) (sZ (aR (aL h))) (sZ (aR h))
theorem aRx(i:Int):SE T C (.int i):=λ X hX x h=>aAs (P:=λ x=>PE X x _) h λ k p=>aUt
theorem aIZ(i:Bool):SE T C (.bl i):=λ X hX x h=>aAs (P:=λ x=>PE X x _) h λ k p=>aVa
theorem aR6:SE T C .non:=λ X hX x h=>aAs (P:=λ x=>PE X x _) h λ k p=>aTP
theorem aQP(i:Str):SE T C (.str i):=λ X hX x h=>aAs (P:=λ x=>PE X x _) h λ k p=>aUC
theorem aIk{op:vj}{a b:E}(ha:SE T C a)(hb:SE T C b):SE T C (.bin op a b):=λ X hX x hx=>aJl (P:=λ x=>PE X x _) hx λ l o r p h=>by
 obtain rfl:=dT (aL (aL h));exact aSQ (ha X hX _ (aR (aL h))) (hb X hX _ (aR h))
theorem aTr{op:kq}{a:E}(ha:SE T C a):SE T C (.un op a):=λ X hX x hx=>aDy (P:=λ x=>PE X x _) hx λ o r p h=>by
 obtain rfl:=dT (aL (aL h));exact aVo (ha X hX _ (aR h))
theorem aRD{op:vk}{a b:E}(ha:SE T C a)(hb:SE T C b):SE T C (.cmp op a b):=λ X hX x hx=>aIQ (P:=λ x=>PE X x _) hx λ l o r p h h4=>by
 obtain rfl:=dT (aL (aL h));exact aSu hX.units (ha X hX _ (aR (aL h))) (hb X hX _ (aR h)) (aF0 h4 o)
theorem aIx{X:Cx}{x:qw}{t:TT}(h:PT X x t)(n:x.ctorIdx≠0):PT X x t/\∀ op es p,x=.BoolOp op es p->PW X x t:=
 ⟨h,λ op es p e=>absurd (congrArg Expr.ctorIdx e) n⟩
theorem aRF{op:vk}{a b:E}(ha:SE T C a)(hb:SE T C b):ST T C (.cmp op a b):=λ X hX x hx=>aIQ (P:=λ x=>PT X x _/\∀ op es p,x=.BoolOp op es p->PW X x _) hx λ l o r p h h4=>by
 obtain rfl:=dT (aL (aL h));exact aIx (aR1 hX.units (ha X hX _ (aR (aL h))) (hb X hX _ (aR h)) (aF0 h4 o)) (Nat.succ_ne_zero 14)
theorem aRS{n:Str}{ts:List Tv}:SE T C (.con n ts):=λ X hX x hx=>nV (P:=λ x=>PE X x _) hx λ y p h=>by
 obtain rfl:=dT (aL (aL (aL h)));exact aTO (iJ (aR (aL h))) (sZ (aR h)) (hX.cns _ _ (List.contains_iff_mem.mp (aR (aL (aL h)))))
theorem aRA{a b:E}(ha:SE T C a)(hb:SE T C b):SE T C (.and a b):=λ X hX x hx=>zM (P:=λ x=>PE X x _) hx
 (λ l r p h=>PE.weak (aHH (ha X hX _ (aL h)) (aHE (hb X hX _ (aR h)))) aHM) λ l b c r p h=>PE.weak (aHH (ha X hX _ (aL h)) (hb X hX _ (aR h))) aHM
theorem aS4{a b:E}(ha:SE T C a)(hb:SE T C b):SE T C (.or a b):=λ X hX x hx=>zM (P:=λ x=>PE X x _) hx
 (λ l r p h=>PE.weak (aIT (ha X hX _ (aL h)) (aHE (hb X hX _ (aR h)))) aIN) λ l b c r p h=>PE.weak (aIT (ha X hX _ (aL h)) (hb X hX _ (aR h))) aIN
theorem aIq{X:Cx}{x:qw}{t:TT}(k:PW X x t):PT X x t/\∀ op es p,x=.BoolOp op es p->PW X x t:=⟨k.pt,λ _ _ _ _=>k⟩
theorem aQ8{a b:E}(ha:ST T C a)(hb:ST T C b):ST T C (.and a b):=λ X hX x hx=>aIq (zM (P:=λ x=>PW X x _) hx
 (λ l r p h=>PW.weak (aH0 (ha X hX _ (aL h)).1 (aOG (hb X hX _ (aR h)).1)) aI0) λ l b c r p h=>PW.weak (aH0 (ha X hX _ (aL h)).1 ((hb X hX _ (aR h)).2 _ _ _ rfl)) aI0)
theorem aSx{a b:E}(ha:ST T C a)(hb:ST T C b):ST T C (.or a b):=λ X hX x hx=>aIq (zM (P:=λ x=>PW X x _) hx
 (λ l r p h=>PW.weak (aIF (ha X hX _ (aL h)).1 (aRi (hb X hX _ (aR h)).1)) aJL) λ l b c r p h=>PW.weak (aIF (ha X hX _ (aL h)).1 ((hb X hX _ (aR h)).2 _ _ _ rfl)) aJL)
theorem aQb{a:E}(ha:SE T C a):SE T C (.not a):=λ X hX x hx=>aDy (P:=λ x=>PE X x _) hx λ o y p h=>by
 obtain rfl:=dT (aL h);exact aQG (ha X hX _ (aR h))
theorem aQE{a:E}(ha:ST T C a):ST T C (.not a):=λ X hX x hx=>aDy (P:=λ x=>PT X x _/\∀ op es p,x=.BoolOp op es p->PW X x _) hx λ o y p h=>by
 obtain rfl:=dT (aL h);exact aIx (aUx (ha X hX _ (aR h)).1) (Nat.succ_ne_zero 2)
theorem aQ9{c a b:E}(hc:ST T C c)(ha:SE T C a)(hb:SE T C b):SE T C (.ite c a b):=λ X hX x hx=>aUM (P:=λ x=>PE X x _) hx λ x y z p h=>aUj (hc X hX _ (aL (aL h))).1 (ha X hX _ (aR (aL h))) (hb X hX _ (aR h))
theorem aQI{a:E}(ha:SA T C a):SE T C (.tup a):=λ X hX x hx=>rY (P:=λ x=>PE X x _) hx λ xs k p h=>aSY (ha X hX _ h)
theorem aRU{a:E}(ha:SA T C a):SL T C (.lst a):=λ X hX x hx=>aVG (P:=λ x=>PE X x _) hx λ xs p h=>aTk (ha X hX _ h)
theorem aQc:SA T C .nil:=λ X hX x h=>nT (P:=λ x=>PA X x _) h aC4
theorem aN5{a r:E}(ha:SE T C a)(hr:SA T C r):SA T C (.cons a r):=λ X hX x h=>by
 cases x with
 | nil=>exact no h
 | cons y ys=>exact lI (ha X hX _ (aL (aL h))) (hr X hX _ (aR h)) (gZ (aR (aL h)) _ _)
theorem aSK:SO T C .no:=λ X hX x h=>aI3 (P:=λ x=>PO X x _) h aUV
theorem aOI{a r:E}(ha:SE T C a):SO T C (.cons a r):=λ X hX x h=>aVj (P:=λ r=>PO X x (kS X.K (ov C (.cons a r)))) (aL h) (aI4 (P:=λ x=>PO X x _) (aR h) λ y h=>aP8 (ha X hX _ h))
theorem aIW{a b:E}(ha:SE T C a)(hb:SE T C b):SE T C (.ix a b):=λ X hX x hx=>aDq (P:=λ x=>PE X x _) hx λ l r p h h3=>aVs (ha X hX _ (aL h)) (hb X hX _ (aR h)) (aIu h3)
theorem aSg{n:Str}{aX:List (Str×Tv)}{k:E}(hk:SE T C k):SE T C (.tab n aX k):=λ X hX x hx=>aDq (P:=λ x=>PE X x _) hx λ y z p g h6=>nV (P:=λ y=>PE X (.Subscript y z p) _) (aR g) λ u q h=>by
 obtain rfl:=dT (aL (aL (aL h)));exact aSO (iJ (aR (aL h))) (sZ (aR h)) (hX.tbs _ _ (List.contains_iff_mem.mp (aR (aL (aL h))))) (hk X hX _ (aL g)) (aIu h6)
theorem aUb{a lo hi:E}(ha:SE T C a)(hl:SO T C lo)(hh:SO T C hi):SE T C (.sl a lo hi):=λ X hX x hx=>aSX (P:=λ x=>PE X x _) hx λ y l u p q h=>aVg (ha X hX _ (aL (aL h))) (hl X hX _ (aR (aL h))) (hh X hX _ (aR h))
theorem aOt{N:List Str}{a:E}{sc:zk}(h:mC T N a sc []=true):a=.nil:=by
 cases a<;>first | rfl | exact no h
theorem aMy{f np:Nat}{call:List W->aD->Option (W×aD)}{fs:FA}(h:C f=qq (np,call)):kN C f fs=aAk fs np call:=by
 funext env S
 unfold kN;rw[h]
theorem aG4{f:Nat}{a:E}(ha:SA T C a):SE T C (.call f a):=λ X hX x hx=>uK (P:=λ x=>PE X x _) hx λ y p zs q h=>by
 cases hC:C f with
 | none=>exact aOp λ env S=>by show kN C f (av C a) env S=qz;unfold kN;rw[hC]
 | some nc =>
   obtain⟨k,rm,fs⟩:=hX.room;obtain⟨fa,fd,ps,m1,m2,m3,m4⟩:=fs f nc.1 nc.2 y hC (dT (aL (aL (aL (aL h)))));have hw:∀ σ H Q,aY X.K (ev C (.call f a)) σ H Q->aAg (rZ X.K nc.1 nc.2) [] E0 (fW X.K (av C a)) σ H Q:=λ σ H Q hq=>aQ0 σ H Q (aMy (fs:=av C a) hC▸hq)
   have h2:=iJ (aR (aL (aL (aL h))));have h3:=sZ (aR (aL (aL h)));cases zs with
   | nil =>
     refine PE.weak (aMQ m4 rm h2 m1 m2 m3 .nil aIw h3) λ σ H Q hq=>?_
     obtain⟨F,L,S,env,ws,S',R,E,e,q2⟩:=hw σ H Q hq;cases aOt (aR (aL h));cases e;exact q2 F L H [] Gr.refl R .nil
   | cons z zr=>exact PE.weak (aPB m4 rm h2 m1 m2 m3 .nil aIw (ha X hX _ (aR (aL h))) h3 (gZ (aL (aR h)) _ _) (aBW (aR (aR h)) _ _)) hw
theorem aHA{b:B}{a:E}(ha:SA T C a):SE T C (.blt b a):=λ X hX x hx=>uK (P:=λ x=>PE X x _) hx λ y p zs q h=>by
 obtain rfl:=dT (aR (aL (aL (aL h))));cases zs with
 | nil=>exact no (aL (aL (aL (aL h))))
 | cons z zr =>
 have A:=ha X hX _ (aR (aL h));have G:=iJ (aR (aL (aL h)));have s1:=gZ (aL (aR h)) zr X.env;have s2:=aBW (aR (aR h)) X.env q;cases b with
 | len=>exact PE.weak (oO aTv G (hX.blt _ (by decide)) (by decide +kernel) A (by decide) (by decide) s1 s2) lT
 | mx=>exact PE.weak (oO (aSy hX.calm) G (hX.blt _ (by decide)) (by decide +kernel) A (by decide) (by decide) s1 s2) lT
 | mn=>exact PE.weak (oO (aUq hX.calm) G (hX.blt _ (by decide)) (by decide +kernel) A (by decide) (by decide) s1 s2) lT
 | abs=>exact PE.weak (oO aS2 G (hX.blt _ (by decide)) (by decide +kernel) A (by decide) (by decide) s1 s2) lT
 | sum=>exact PE.weak (oO (aTa hX.calm) G (hX.blt _ (by decide)) (by decide +kernel) A (by decide) (by decide) s1 s2) lT
 | all=>exact PE.weak (oO (aTJ hX.calm) G (hX.blt _ (by decide)) (by decide +kernel) A (by decide) (by decide) s1 s2) lT
 | any=>exact PE.weak (oO (aTs hX.calm) G (hX.blt _ (by decide)) (by decide +kernel) A (by decide) (by decide) s1 s2) lT
 | int=>exact PE.weak (aFL aTK G (hX.blt _ (by decide)) (by decide +kernel) A (by decide) (by decide) s1 s2) lT
 | tup=>exact PE.weak (aFL aPA G (hX.blt _ (by decide)) (by decide +kernel) A (by decide) (by decide) s1 s2) lT
theorem aNS{a:E}(ha:SE T C a):SE T C (.bits a):=λ X hX x hx=>aJq (P:=λ x=>PE X x _) hx λ o ap xs cp h4 h3 h=>nT (P:=λ xs=>PE X (.Call (.Attribute o "bit_length" ap) xs [] cp) _) (aR h) (by
 refine PE.weak (aQD PySem.F.plainAttrs_int yFn PySem.F.type_int_bit_length aO9 (ha X hX _ (aL h)) (tZ h3 _ _) h4) λ σ H Q hPq45=>?_
 obtain⟨F,L,S,env,w,S',R,E,e,q⟩:=hPq45;obtain⟨⟨w1,S1⟩,e1,e2⟩:=bind_some e;obtain⟨d,z,e3,e4,rfl,rfl⟩:=aBR e2;refine⟨F,L,S,env,w1,_,R,E,e1,λ F1 L1 H1 v g1 R1 d1=>?_⟩
 have nw:=kK R1 d1 e3;cases d<;>first | (cases e4;done) | skip
 cases e4;obtain rfl:=nw.int;exact⟨rfl,_,rfl,rfl,q F1 L1 H1 _ g1 R1 (Den.int _)⟩)
theorem kW{X:Cx}{z:qw}(h:cU z=true):qo [z] X.env=(false,eval z X.env)::qo [] X.env:=gZ h [] X.env
theorem pU{X:Cx}{a:E}{z:qw}(ha:SE T C a)(hX:Ctx T C X)(h:bL T X.N a X.env.scope z=true)(hp:cU z=true):PA X [z] (fW X.K (dH (ev C a) hZ)):=lI (ha X hX _ h) aC4 (kW hp)
theorem aQ7{o a:E}(ho:SE T C o)(ha:SE T C a):SE T C (.app o a):=λ X hX x hx=>aUy (P:=λ x=>PE X x _) hx λ y ap z cp h4 h3 h2 h5 h6 =>
 PE.weak (aSB PySem.F.plainAttrs_list PySem.F.slot_list_append PySem.F.type_list_append aFt (ho X hX _ h2) (pU ha hX h5 h6) (tZ h3 _ _) (by rw[kW h6];rfl) h4 (kW h6) rfl) aUl
theorem aOw{a b:E}(ha:SE T C a)(hb:SE T C b):SL T C (.lzip a b):=λ X hX x hx=>vI (P:=λ x=>PE X x _) hx λ p y q h2 h3 _=>aJI (P:=λ y=>PE X (.Call (.Name "list" p) [y] [] q) _) h3 λ p' z w q' h4 h5 h6 h7 h8 =>
 aQs (ha X hX _ h5) (hb X hX _ h7) hX.calm (iJ h2) (hX.blt _ (by decide)) (iJ h4) (hX.blt _ (by decide)) (gZ h6 [w] X.env) (kW h8)
theorem aPt{a b:E}(ha:SE T C a)(hb:SE T C b):SL T C (.lrep a b):=λ X hX x hx=>aJl (P:=λ x=>PE X x _) hx λ l o r p h=>by
 obtain rfl:=dT (aL (aL h));exact aTt (ha X hX _ (aR (aL h))) (hb X hX _ (aR h))
theorem aSs{a:E}(ha:SE T C a):SI T C (.it a):=λ X hX tg x h=>aVp (ha X hX _ h)
theorem aPh{a:E}(ha:SE T C a):SI T C (.rng1 a):=λ X hX tg x hx=>vI (P:=λ x=>PI X tg x _) hx λ p z q h2 h3 h4 =>
 PI.weak (aLR (iJ h2) (hX.blt _ (by decide)) (pU ha hX h3 h4) (kW h4)) aQL
theorem aOl{a b c:E}(ha:SE T C a)(hb:SE T C b)(hc:SE T C c):SI T C (.rng3 a b c):=λ X hX tg x hx=>aJS (P:=λ x=>PI X tg x _) hx λ p z w v q h2 h3 h4 h5 h6 h7 h8=>by
 have st:=gZ h4 [w,v] X.env;have st2:=gZ h6 [v] X.env;exact PI.weak (aL9 (iJ h2) (hX.blt _ (by decide)) (lI (ha X hX _ h3) (lI (hb X hX _ h5) (pU hc hX h7 h8) st2) st) st (by rw[st2,kW h8];rfl)) aQl
theorem aPj{a:E}(ha:SE T C a):SI T C (.rrng a):=λ X hX tg x hx=>vI (P:=λ x=>PI X tg x _) hx λ p y q h2 h3 _=>vI (P:=λ y=>PI X tg (.Call (.Name "reversed" p) [y] [] q) _) h3 λ p' z q' h4 h5 h6 =>
 PI.weak (aO0 (iJ h2) (hX.blt _ (by decide)) (iJ h4) (hX.blt _ (by decide)) (pU ha hX h5 h6) (kW h6)) aQO
theorem aQt{a:E}(ha:SE T C a):SI T C (.enm a):=λ X hX tg x hx=>rY (P:=λ tg=>PI X tg x _) (aL hx) λ ts k tp _=>vI (P:=λ x=>PI X _ x _) (aR hx) λ p z q h2 h3 h4 =>
 PI.weak (aNL (iJ h2) (hX.blt _ (by decide)) (pU ha hX h3 h4) (kW h4)) aO6
theorem aQa{a b:E}(ha:SE T C a)(hb:SE T C b):SI T C (.zip a b):=λ X hX tg x hx=>rY (P:=λ tg=>PI X tg x _) (aL hx) λ ts k tp _=>aJI (P:=λ x=>PI X _ x _) (aR hx) λ p z z2 q h2 h3 h4 h5 h6 =>
 PI.weak (aP4 (iJ h2) (hX.blt _ (by decide)) (lI (ha X hX _ h3) (pU hb hX h5 h6) (gZ h4 [z2] X.env)) (gZ h4 [z2] X.env) (kW h6)) aTN
theorem aPe{a b c:E}(ha:SE T C a)(hb:SE T C b)(hc:SE T C c):SI T C (.zip3 a b c):=λ X hX tg x hx=>rY (P:=λ tg=>PI X tg x _) (aL hx) λ ts k tp _=>aJS (P:=λ x=>PI X _ x _) (aR hx) λ p z z2 z3 q h2 h3 h4 h5 h6 h7 h8 =>
 PI.weak (aOu (iJ h2) (hX.blt _ (by decide)) (lI (ha X hX _ h3) (lI (hb X hX _ h5) (pU hc hX h7 h8) (gZ h6 [z3] X.env)) (gZ h4 [z2,z3] X.env)) (gZ h4 [z2,z3] X.env) (gZ h6 [z3] X.env) (kW h8)) aQj
theorem or2{a b:Bool}(h:(a||b)=true)(n:a=false):b=true:=by
 rw[n] at h;exact h
theorem aGF{scope osc:zk}(h:aDe scope osc=true):ScOk scope osc:=by
 have h2:=List.all_eq_true.mp (aR h);refine⟨dT (aL h),λ x hx e=>?_,λ x hx e=>?_,λ x hx e=>?_⟩
 ·have:=h2 x hx;simp[e] at this
 ·have:=h2 x hx;simp[e] at this;exact this
 ·have:=h2 x hx;simp[e] at this;exact this
theorem aCD{N:List Str}{scope:zk}{is:List Nat}:∀ {n:Nat},aAF N scope is n=true->∀ i,i<n->∀ x,N[i]? = qq x->scope.names.lookup x=qq .local->i∈is
 | 0,_,i,hi,_,_,_=>absurd hi (yEd i)
 | n+1,h,i,hi,x,e,el=>by
   rcases Nat.lt_succ_iff_lt_or_eq.mp hi with z | z
   ·exact aCD (aL h) i z x e el
   ·subst z;have h2:=aR h;rw[e] at h2;exact List.contains_iff_mem.mp (or2 h2 (by rw[el];rfl))
theorem aO3{elt it cond:E}{t:Tg}(he:SE T C elt)(hi:SI T C it)(hc:ST T C cond):SL T C (.comp elt t it cond):=λ X hX x hx=>aJp (P:=λ x=>PE X x _) hx λ e tg iter ifs scope p h1 h2 h3 h4 h5 h6 h7=>by
 have sok:=aGF h1;refine aHI (g:=sH X.K t) hX.calm sok (λ i x a1 a2=>aCD h2 i (gIm a1).1 x a1 a2) (hi X hX tg iter h4) (λ Y hY=>?_) (aAo X.K t) (λ Y hY=>?_) (λ Y hY=>?_) (aBv h5 X.env)
 ·obtain⟨c1,c2,c3,c4⟩:=hX.comp sok.kind hY;rw[<- c4];exact aAl (.inl rfl) c1.nd c1.calm (by rw[c2,c3];exact h3)
 ·obtain⟨c1,c2,c3,c4⟩:=hX.comp sok.kind hY;cases ifs with
  | nil=>exact aJy (P:=λ cond=>lE Y [] (tv C cond)) h6 aFx
  | cons y r=>exact nT (P:=λ r=>lE Y (y::r) _) (aL h6) (aFw (hc Y c1 y (by rw[c2,c3];exact aR h6)).1)
 ·obtain⟨c1,c2,c3,c4⟩:=hX.comp sok.kind hY;rw[<- c4];exact he Y c1 e (by rw[c2,c3];exact h7)
theorem aTw{a:E}(ha:SL T C a):SE T C (.fz a):=λ X hX x h=>aJk (ha X hX x h)
theorem aQ5{a:E}(ha:SL T C a):SE T C (.new a):=λ X hX x h=>aSq (ha X hX x h)
theorem rA{c:E}(h:SE T C c)(ht:tv C c=dP (ev C c))(hk:∀ N sc x,kX T N c sc x=(bL T N c sc x&&lW x)):ST T C c:=λ X hX x q=>by
 rw[hk] at q;rw[ht];exact aSN (h X hX x (aL q)) (aR q)
structure Sn(T:Tx)(C:Calls)(c:E):Prop where
 e:SE T C c:=by exact λ _ _ _ h=>no h
 t:ST T C c:=by exact λ _ _ _ h=>no h
 a:SA T C c:=by exact λ _ _ _ h=>no h
 o:SO T C c:=by exact λ _ _ _ h=>no h
 l:SL T C c:=by exact λ _ _ _ h=>no h
 i:SI T C c:=by exact λ _ _ _ _ h=>no h
theorem sn(c:E):Sn T C c:=by
 induction c with
 | var i=>exact {e:=aIp i,t:=rA (aIp i) rfl λ _ _ _=>rfl }
 | int i=>exact {e:=aRx i }
 | bl b=>exact {e:=aIZ b,t:=rA (aIZ b) rfl λ _ _ _=>rfl }
 | non=>exact {e:=aR6 }
 | str x=>exact {e:=aQP x }
 | bin op a b bA cI=>exact {e:=aIk bA.e cI.e,t:=rA (aIk bA.e cI.e) rfl λ _ _ _=>rfl }
 | un op a bA=>exact {e:=aTr bA.e }
 | cmp op a b bA cI=>exact {e:=aRD bA.e cI.e,t:=aRF bA.e cI.e }
 | ltl a b bA cI=>exact {}
 | and a b bA cI=>exact {e:=aRA bA.e cI.e,t:=aQ8 bA.t cI.t }
 | or a b bA cI=>exact {e:=aS4 bA.e cI.e,t:=aSx bA.t cI.t }
 | not a bA=>exact {e:=aQb bA.e,t:=aQE bA.t }
 | ite c a b ihc bA cI=>exact {e:=aQ9 ihc.t bA.e cI.e }
 | tup a bA=>exact {e:=aQI bA.a }
 | lst a bA=>exact {l:=aRU bA.a }
 | nil=>exact {a:=aQc }
 | cons a r bA ihr=>exact {a:=aN5 bA.e ihr.a,o:=aOI bA.e }
 | chn op gS a b c bA cI ihc=>exact {}
 | con x ts=>exact {e:=aRS }
 | ix a b bA cI=>exact {e:=aIW bA.e cI.e,t:=rA (aIW bA.e cI.e) rfl λ _ _ _=>rfl }
 | dsp k l m a b c i bA cI ihc ihi=>exact {}
 | tab x aX k ihk=>exact {e:=aSg ihk.e }
 | slL a lo hi bA ihlo ihhi=>exact {}
 | sl a lo hi bA ihlo ihhi=>exact {e:=aUb bA.e ihlo.o ihhi.o }
 | no=>exact {o:=aSK }
 | call f a bA=>exact {e:=aG4 bA.a,t:=rA (aG4 bA.a) rfl λ _ _ _=>rfl }
 | blt b a bA=>exact {e:=aHA bA.a,t:=rA (aHA bA.a) rfl λ _ _ _=>rfl }
 | isi a n bA=>exact {}
 | bits a bA=>exact {e:=aNS bA.e }
 | app o a iho bA=>exact {e:=aQ7 iho.e bA.e }
 | pop o a iho bA=>exact {}
 | idx o a iho bA=>exact {}
 | lof a bA=>exact {}
 | lzip a b bA cI=>exact {l:=aOw bA.e cI.e }
 | lrg1 a bA=>exact {}
 | lrg2 a b bA cI=>exact {}
 | srt a bA=>exact {}
 | lrev a bA=>exact {}
 | lrep a b bA cI=>exact {l:=aPt bA.e cI.e }
 | comp elt t it cond ihelt ihit ihcond=>exact {l:=aO3 ihelt.e ihit.i ihcond.t }
 | it a bA=>exact {i:=aSs bA.e }
 | rng1 a bA=>exact {i:=aPh bA.e }
 | rng2 a b bA cI=>exact {}
 | rng3 a b c bA cI ihc=>exact {i:=aOl bA.e cI.e ihc.e }
 | rrng a bA=>exact {i:=aPj bA.e }
 | enm a bA=>exact {i:=aQt bA.e }
 | zip a b bA cI=>exact {i:=aQa bA.e cI.e }
 | zip3 a b c bA cI ihc=>exact {i:=aPe bA.e cI.e ihc.e }
 | fz a bA=>exact {e:=aTw bA.l }
 | new a bA=>exact {e:=aQ5 bA.l }
end
section
variable (T : Tx)(C : Calls)
def SS(c:Sx):Prop:=∀ X,Ctx T C X->(∀ x,X.fn x=true)->∀ st,okS T X.N c X.env.scope st=true->PS X st (dQ X.K (xs C c))
def oF(c:Sx):Prop:=∀ X,Ctx T C X->(∀ x,X.fn x=true)->∀ st,nU T X.N c X.env.scope st=true->dZ X st (dQ X.K (xs C c))
end
section
variable {T : Tx}{C : Calls}
theorem aGQ{e t:qw}(h:qW e=true)(line:Nat)(env:Env):swapsWithSole [t] e line env=pure false:=aBS h _ _ _
theorem aLd{e:qw}{ts:List qw}{k:Nat}{p:Pos}{env:Env}(h:rC e=false):ku [.Tuple ts k p] e env=pure qz:=by
 cases e<;>first | rfl | exact no h.symm
theorem aK0{o i e:qw}{p:Pos}{env:Env}:ku [.Subscript o i p] e env=pure qz:=by
 cases e<;>rfl
theorem aRm{a b:Sx}(ha:SS T C a)(hb:oF T C b):oF T C (.seq a b):=λ X hX hf st h=>by
 cases st with
 | nil=>exact no h
 | cons s r =>
   obtain⟨h1,h2⟩:=gP h;exact aUi (ha X hX hf _ h1) (hb X hX hf _ h2)
theorem aOE:oF T C .skip:=λ X hX hf st h=>nT (P:=λ st=>dZ X st _) h aP5
theorem aPa{e:E}:SS T C (.expr e):=λ X hX hf st h=>aVD (P:=λ st=>PS X st _) h λ x p h=>aQy ((sn e).e X hX _ (aL h)) (aBS (aR h) _ _ _)
theorem aRX{e:E}:SS T C (.ret e):=λ X hX hf st h=>aVc (P:=λ st=>PS X st _) h λ _ p h=>aI4 (P:=λ v=>PS X (.Return v p) _) h λ x h=>aT3 ((sn e).e X hX _ h)
theorem aRQ{c:E}{a b:Sx}(ha:oF T C a)(hb:oF T C b):SS T C (.ifs c a b):=λ X hX hf st h=>aVk (P:=λ st=>PS X st _) h λ x y z p h=>aU2 ((sn c).t X hX _ (aL (aL h))).1 (ha X hX hf _ (aR (aL h))) (hb X hX hf _ (aR h))
theorem aRf{i:Nat}{e:E}:SS T C (.set i e):=λ X hX hf st h=>aAA (P:=λ st=>PS X st _) h λ _ y p h=>kO (P:=λ ts=>PS X (.Assign ts y p) _) (aR h) λ _ g=>nV (P:=λ t=>PS X (.Assign [t] y p) _) g λ x q g =>
 aIU hX.nd (dT (aL g)) (aCP (aR g)) ((sn e).e X hX _ (aL (aL h))) (aBS (aR (aL h)) _ _ _) (.inl (hf _))
theorem aVi{K:FrG}{f:FL}(σ:St)(H:Hp)(Q:VK)(h:aY K (jZ f) σ H Q):iU K f σ H Q:=by
 obtain⟨F,L,S,env,w,S',R,E,e,q⟩:=h;obtain⟨⟨ds,S1⟩,e1,e2⟩:=bind_some e;cases e2;exact⟨F,L,S,env,ds,_,R,E,e1,λ F1 L1 H1 p xs g1 R1 hF hL hH dl=>q _ L1 _ _ (g1.trans (Gr.new hF)) (R1.adopt hF hL hH) (Den.lst (bW.of dE) (dl.mono (dB hF)))⟩
theorem aTb{K:FrG}{f:FL}(σ:St)(H:Hp)(Q:VK)(h:aY K (fD f) σ H Q):iU K f σ H Q:=by
 obtain⟨F,L,S,env,w,S',R,E,e,q⟩:=h;obtain⟨⟨ds,S1⟩,e1,e2⟩:=bind_some e;cases e2;refine⟨F,L,S,env,ds,_,R,E,e1,λ F1 L1 H1 p xs g1 R1 hF hL hH dl=>q _ _ _ _ (g1.trans Gr.newLoc) (R1.adoptLoc hF hL hH dl) ⟨p,?_,rfl⟩⟩
 dsimp only;rw[<- R1.len,yAh (yAc _)];simp
theorem aVF{K:FrG}{f:FL}(nw:Bool):∀ (σ:St) (H:Hp) (Q:VK),aY K (match nw with | true=>fD f | false=>jZ f) σ H Q->iU K f σ H Q:=by
 cases nw
 ·exact aVi
 ·exact aTb
theorem aO4{nw:Bool}{i:Nat}{e:E}:SS T C (.setC nw i e):=λ X hX hf st h=>aAA (P:=λ st=>PS X st _) h λ _ y p h=>kO (P:=λ ts=>PS X (.Assign ts y p) _) (aR h) λ _ g=>nV (P:=λ t=>PS X (.Assign [t] y p) _) g λ x q g=>by
 refine aVt (P:=λ e=>wJ T X.N e X.env.scope y=true->PS X (.Assign [.Name x q] y p) (dQ X.K (xs C (.setC nw i e)))) (aL (aL h)) (λ elt t it cond hL=>aJp (P:=λ y=>PS X (.Assign [.Name x q] y p) (dQ X.K (xs C (.setC nw i (.comp elt t it cond))))) hL λ e tg iter ifs scope r h1 h2 h3 h4 h5 h6 h7=>?_) (aR (aL h))
 have sok:=aGF h1;refine aLJ (g:=sH X.K t) hX.nd (dT (aL g)) (aCP (aR g)) (.inl (hf _)) hX.calm sok (λ i x a1 a2=>aCD h2 i (gIm a1).1 x a1 a2) ((sn it).i X hX tg iter h4) (λ Y hY=>?_) (aAo X.K t) (λ Y hY=>?_) (λ Y hY=>?_) (aBv h5 X.env) (aVF nw)
 ·obtain⟨c1,c2,c3,c4⟩:=hX.comp sok.kind hY;rw[<- c4];exact aAl (.inl rfl) c1.nd c1.calm (by rw[c2,c3];exact h3)
 ·obtain⟨c1,c2,c3,c4⟩:=hX.comp sok.kind hY;cases ifs with
  | nil=>exact aJy (P:=λ cond=>lE Y [] (tv C cond)) h6 aFx
  | cons y r=>exact nT (P:=λ r=>lE Y (y::r) _) (aL h6) (aFw ((sn cond).t Y c1 y (by rw[c2,c3];exact aR h6)).1)
 ·obtain⟨c1,c2,c3,c4⟩:=hX.comp sok.kind hY;rw[<- c4];exact(sn elt).e Y c1 e (by rw[c2,c3];exact h7)
theorem aU0{b:Bool}(h:(!b)=true):b=false:=by
 cases b with
 | false=>rfl
 | true=>exact no h
theorem aOj{t:Tg}{e:E}:SS T C (.setT t e):=λ X hX hf st h=>aAA (P:=λ st=>PS X st _) h λ _ v p h=>kO (P:=λ ts=>PS X (.Assign ts v p) _) (aR h) λ tg g=>by
 have h1:=aAl (.inr hf) hX.nd hX.calm (aR g)
 revert h1
 exact rY (P:=λ tg=>PG X tg (sH X.K t)->PS X (.Assign [tg] v p) (dQ X.K (xs C (.setT t e)))) (aL g) λ ts k q _ h1=>PS.weak (aIf ((sn e).e X hX _ (aL (aL (aL h)))) h1 (aGQ (aR (aL (aL h))) _ _) (aLd (aU0 (aR (aL h)))) rfl) (aQi (aAo X.K t))
theorem aRg{o i e:E}:SS T C (.put o i e):=λ X hX hf st h=>aAA (P:=λ st=>PS X st _) h λ _ z p h=>kO (P:=λ ts=>PS X (.Assign ts z p) _) (aR h) λ _ g=>aDq (P:=λ t=>PS X (.Assign [t] z p) _) g λ x y q g h3 =>
 aT9 ((sn o).e X hX _ (aL g)) ((sn i).e X hX _ (aR g)) ((sn e).e X hX _ (aL (aL h))) (aLY h3) (aGQ (aR (aL h)) _ _) aK0
theorem aPd{t:Tg}{it:E}{b:Sx}(hb:oF T C b):SS T C (.loop t it b):=λ X hX hf st h=>aUT (P:=λ st=>PS X st _) h λ tg x y z p h=>nT (P:=λ z=>PS X (.For tg x y z p) _) (aL (aL (aL (aL h))))
 (aUE hX.own hX.calm ((sn it).i X hX _ _ (aR (aL (aL h)))) (aAl (.inr hf) hX.nd hX.calm (aR (aL (aL (aL h))))) (aAo X.K t) (hb X hX hf _ (aR h)) (aBv (aR (aL h)) X.env))
theorem ss(c:Sx):SS T C c/\oF T C c:=by
 have N2:∀ {c:Sx},SS T C c->(∀ N sc st,nU T N c sc st=false)->SS T C c/\oF T C c:=λ q hh=>⟨q,λ X hX hf st h=>by rw[hh] at h;exact no h⟩
 induction c with
 | skip=>exact⟨λ X hX hf st h=>no h,aOE⟩
 | seq a b bA cI=>exact⟨λ X hX hf st h=>no h,aRm bA.1 cI.2⟩
 | expr e=>exact N2 aPa λ _ _ _=>rfl
 | ret e=>exact N2 aRX λ _ _ _=>rfl
 | ifs c a b bA cI=>exact N2 (aRQ bA.2 cI.2) λ _ _ _=>rfl
 | set i e=>exact N2 aRf λ _ _ _=>rfl
 | setC nw i e=>exact N2 aO4 λ _ _ _=>rfl
 | setT t e=>exact N2 aOj λ _ _ _=>rfl
 | put o i e=>exact N2 aRg λ _ _ _=>rfl
 | loop t it b cI=>exact N2 (aPd cI.2) λ _ _ _=>rfl
end
structure Fn where
 name:Str
 np:Nat
 N:List Str
 body:Sx
 st:jz
noncomputable def aC(fs:List Fn):Nat->Calls
 | 0=>λ _=>qz
 | d+1=>λ f=>(fs[f]?).map λ F=>(F.np,eX (xs (aC fs d) F.body) F.N.length)
structure Tbs where
 tb:List (Str×List (Str×Tv))
 cn:List (Str×List Tv)
noncomputable def tab(fs:List Fn)(tb:Tbs):Tx:=⟨fs.map λ F=>(F.name,F.np),tb.tb,tb.cn⟩
noncomputable def aCV:List Str->Bool
 | []=>true
 | x::r=>!r.contains x&&aCV r
theorem aF8:∀ {l:List Str},aCV l=true->l.Nodup
 | [],_=>List.nodup_nil
 | x::r,h=>by
   obtain⟨h1,h2⟩:=gP h;refine List.nodup_cons.mpr ⟨λ z=>?_,aF8 h2⟩
   have:r.contains x=true:=by simpa using z
   rw[this] at h1;exact no h1
noncomputable def aAw(fs:List Fn)(tb:Tbs)(F:Fn):Bool:=
 decide ((eW F.st).kind=.function) && !(eW F.st).isCoroutine && !(eW F.st).isGenerator&&aCV F.N&&decide (F.np<=F.N.length)&&(F.N.take F.np).all (loc (eW F.st))&&(eW F.st).names.all (λ y=>!decide (y.2=.free)) &&
  nU (tab fs tb) F.N F.body (eW F.st) (kG F.st)
theorem aQ4{sc:zk}{x:Str}(h:loc sc x=true):sc.names.lookup x=qq .local\/sc.names.lookup x=qq .cell:=by
 unfold loc at h
 split at h<;>first | exact .inl (by assumption) | exact .inr (by assumption) | exact no h
theorem aNh{fs:List Fn}{tb:Tbs}{F:Fn}(h:aAw fs tb F=true):FnScope F.N (F.N.take F.np) (eW F.st)/\nU (tab fs tb) F.N F.body (eW F.st) (kG F.st)=true/\(F.N.take F.np).length=F.np:=by
 obtain⟨h,h8⟩:=gP h;obtain⟨h,h7⟩:=gP h;obtain⟨h,h6⟩:=gP h;obtain⟨h,h5⟩:=gP h;obtain⟨h,h4⟩:=gP h;obtain⟨h,h3⟩:=gP h;obtain⟨h1,h2⟩:=gP h;have hl:(F.N.take F.np).length=F.np:=by
  rw[yBz];have:=oqT h5;omega
 refine⟨⟨oqT h1,?_,?_,aF8 h4,by rw[hl],λ x hx=>aQ4 (List.all_eq_true.mp h6 x hx),λ y hy=>?_⟩,h8,hl⟩
 ·cases q:(eW F.st).isCoroutine with
  | false=>rfl
  | true=>rw[q] at h2;exact no h2
 ·cases q:(eW F.st).isGenerator with
  | false=>rfl
  | true=>rw[q] at h3;exact no h3
 ·have:=List.all_eq_true.mp h7 y hy;intro z;rw[dqT z] at this;exact no this
section
variable {P : zq}{w : zw}{K : FrG}{mg : Str -> Option qx}{base : Heap}
theorem aGE(fs:List Fn)(tb:Tbs)(hk:∀ F∈fs,aAw fs tb F=true)(top:∀ F∈fs,∃ fa fd,Fun K F.name F.name F.st fa fd/\mg F.name=qq (.ref fa)/\lP K fd (F.N.take F.np) [])(hb:∀ x∈bltNames,mg x=qz)(ht:∀ x aX,(x,aX)∈tb.tb->∃ a,mg x=qq (.ref a)/\uW K w a aX)(hcn:∀ x ts,(x,ts)∈tb.cn->∃ a,mg x=qq (.ref a)/\qX K a ts) :
 ∀ d f F np call fa fd,fs[f]? = qq F->aC fs d f=qq (np,call)->Fun K F.name F.name F.st fa fd->FnOk P w K mg base sD d fa fd (F.N.take F.np) (rZ K np call)
 | 0,f,F,np,call,fa,fd,eF,e,Fu=>by cases e
 | d+1,f,F,np,call,fa,fd,eF,e,Fu=>by
   have ih:=aGE fs tb hk top hb ht hcn d;have e2:(F.np,eX (xs (aC fs d) F.body) F.N.length)=(np,call):=by
    have e':(fs[f]?).map (λ F=>(F.np,eX (xs (aC fs d) F.body) F.N.length))=qq (np,call):=e
    rw[eF] at e';exact Option.some.inj e'
   cases e2;have hm:F∈fs:=xAk eF;obtain⟨sc,hok,hl⟩:=aNh (hk F hm);refine Fu.ok sc (λ vs H Q E h=>?_) λ cdv A outer s H vs Q E hr h=>?_
   ·obtain⟨F1,L,S,ws,w1,S',hn,R,dl,_⟩:=h;rw[hl,<- hn];exact dl.length.symm
   ·refine⟨_,(ss (T:=tab fs tb) (C:=aC fs d) F.body).2 _ ⟨sc.nd,rfl,rfl,sc.kind,⟨d,hr,λ f' np' call' x' e1 e2=>?_⟩,hb,λ x aX hx=>ht x aX hx,λ x ts hx=>hcn x ts hx⟩ (λ _=>rfl) _ hok,aPX h⟩
    have e2:((fs.map λ F=>(F.name,F.np))[f']?).map (·.1)=qq x':=e2
    rw[yAe] at e2;cases q:fs[f']? with
    | none=>rw[q] at e2;cases e2
    | some F' =>
      rw[q] at e2;have hx:F'.name=x':=Option.some.inj e2;subst hx;obtain⟨fa',fd',Fu',hmg',hbi'⟩:=top F' (xAk q);exact⟨fa',fd',_,hmg',Fu'.kp,hbi',ih f' F' np' call' fa' fd' q e1 Fu'⟩
end
structure TopFn(K:FrG)(F:Fn):Prop where
 ex:∃ (f:qv) (oc:qx) (od an:Option qv) (sl:Array (Option qx)) (kV dc pm cd ct:qx),yEq K jq F.name=qq (qq (.ref f)) /\
  K.lookup f=qq ⟨oc,od,.func (yDe F.name F.name (mW F.st) (kG F.st) (eW F.st) .none kV dc pm an cd ct),sl⟩/\yFd K cd F.name=true/\yCw K (.ref f)=true
theorem top_mk{K:FrG}{F:Fn}{f:qv}{oc:qx}{od an:Option qv}{sl:Array (Option qx)}{kV dc pm cd ct:qx}(a:yEq K jq F.name=qq (qq (.ref f)))
 (l:K.lookup f=qq ⟨oc,od,.func (yDe F.name F.name (mW F.st) (kG F.st) (eW F.st) .none kV dc pm an cd ct),sl⟩) (c:yFd K cd F.name=true) (k:yCw K (.ref f)=true):TopFn K F:=
 ⟨f,oc,od,an,sl,kV,dc,pm,cd,ct,a,l,c,k⟩
structure TabTop(K:FrG)(w:zw)(t:Str×List (Str×Tv)):Prop where
 ex:∃ (a:qv) (es:Array DictEntry) (ep:Nat),yEq K jq t.1=qq (qq (.ref a))/\K.lookup a=qq {cls:=.type "dict",data:=.dict es ep }/\rG w es.toList t.2
theorem tab_mk{K:FrG}{w:zw}{t:Str×List (Str×Tv)}{a:qv}{es:Array DictEntry}{ep:Nat}(a1:yEq K jq t.1=qq (qq (.ref a)))
 (l1:K.lookup a=qq {cls:=.type "dict",data:=.dict es ep }) (c1:rG w es.toList t.2):TabTop K w t:=⟨a,es,ep,a1,l1,c1⟩
structure ConTop(K:FrG)(t:Str×List Tv):Prop where
 ex:∃ a:qv,yEq K jq t.1=qq (qq (.ref a))/\qX K a t.2
theorem con_mk{K:FrG}{t:Str×List Tv}{a:qv}{aG:Array qx}{n:Nat}{od:Option qv}{sl:Array (Option qx)}(a1:yEq K jq t.1=qq (qq (.ref a)))
 (l1:K.lookup a=qq {cls:=.type "tuple",dict:=od,data:=.seq aG n,slots:=sl }) (z1:aG.size<=100) (c1:aAe aG.toList t.2):ConTop K t:=
 ⟨a,a1,_,aG,n,l1,rfl,rfl,xAh z1 (by decide),c1⟩
def aCo(F:Fn):Prop:=∀ (kV doc pm:qx) (an:Option qv) (cdv ct:qx) (us:List qx),us.length=(F.N.take F.np).length->bindArgs (yDe F.name F.name (mW F.st) (kG F.st) (eW F.st) .none kV doc pm an cdv ct) ⟨us,[]⟩=pure ((F.N.take F.np).zip us)
noncomputable def aC7(F:Fn):Bool:=match mW F.st with
 | ⟨[],as,qz,[],_,qz,_⟩=>decide (F.N.take F.np=as.map (·.arg))&&decide (F.N.take F.np).Nodup
 | _=>false
theorem aF4:∀ {ns:List Str}{us:List qx},ns.Nodup->us.length=ns.length->(∀ n∈ns,((ns.zip us).lookup n).isNone=false)/\ns.filterMap (λ n=>((ns.zip us).lookup n).map (n,·))=ns.zip us
 | [],us,_,_=>⟨λ n h=>(nomatch h),by cases us<;>rfl⟩
 | x::ns,[],_,h=>by cases h
 | x::ns,u::us,hn,hl=>by
   obtain⟨h1,h2⟩:=List.nodup_cons.mp hn;obtain⟨i1,i2⟩:=aF4 h2 (Nat.succ.inj hl);have e:∀ n∈ns,((x,u)::ns.zip us).lookup n=(ns.zip us).lookup n:=λ n m=>by
    rw[yCa];have:(n==x)=false:=by
     rw[beq_eq_false_iff_ne];rintro rfl;exact h1 m
    rw[this]
   refine⟨λ n m=>?_,?_⟩
   ·rw[List.zip_cons_cons];rcases List.mem_cons.mp m with rfl | m
    ·rw[yCa,beq_self_eq_true];rfl
    ·rw[e n m];exact i1 n m
   ·rw[List.zip_cons_cons,yDa,yCa,beq_self_eq_true];show(x,u)::_=_;congr 1;rw[<- i2];rw[i2];have g:∀ l:List Str,(∀ n∈l,n∈ns)->l.filterMap (λ n=>(((x,u)::ns.zip us).lookup n).map (n,·))=l.filterMap (λ n=>((ns.zip us).lookup n).map (n,·)):=λ l=>by
     induction l with
     | nil=>intro _;rfl
     | cons y l ih=>intro hl;rw[yDa,yDa,e y (hl y xAc),ih λ n m=>hl n (xAf _ m)]
    rw[g ns λ n m=>m,i2]
theorem aNz{F:Fn}(h:aC7 F=true):aCo F:=by
 intro kV doc pm an cdv ct us hu;unfold aC7 at h
 split at h
 ·rename_i as kd df e;obtain⟨h1,h2⟩:=gP h;have h1:=oqT h1;rw[e];rw[h1] at hu h2 ⊢;obtain⟨i1,i2⟩:=aF4 (oqT h2) hu;have m:((as.map (·.arg)).take (as.map (·.arg)).length).filter (λ n=>(((as.map (·.arg)).zip us).lookup n).isNone)=[]:=by
   rw[yAi,List.filter_eq_nil_iff];intro n hn;rw[i1 n hn];decide
  unfold bindArgs;have q:seqItems? Value.none=(pure qz:Sem (Option (Array qx))):=rfl;simp only[yDe,q,pure_bind,yFw,yEw,yDm,yDz,yGk,yCn,List.drop_nil,List.zip_nil_right,Nat.sub_zero,hu,gt_iff_lt,yCc,decide_false,yBh,yAu,if_false,m,List.isEmpty_nil,Bool.not_true,i2,Option.isNone_none]
 ·exact no h
theorem aEM:∀ {ns:List Int}{i:Int},i∈ns->yAn i<=PySem.W.WData.weightAll (ns.map PySem.W.WData.int)
 | [],i,h=>by cases h
 | n::r,i,h=>by
   have e:PySem.W.WData.weightAll ((n::r).map PySem.W.WData.int)=yAn n+1+PySem.W.WData.weightAll (r.map PySem.W.WData.int):=rfl;rw[e];rcases List.mem_cons.mp h with z | z
   ·subst z;omega
   ·have:=aEM z;omega
theorem aM6{ns:List Int}(h:PySem.W.WData.layableAll [PySem.W.WData.list (ns.map PySem.W.WData.int)]=true):∀ i∈ns,yAn i<=1048576:=λ i hi=>by
 have h1:PySem.W.WData.layable (PySem.W.WData.list (ns.map PySem.W.WData.int))=true:=by
  have:=List.all_eq_true.mp h _ xAc;exact this
 have h2:PySem.W.WData.weight (PySem.W.WData.list (ns.map PySem.W.WData.int))<=2^20:=oqT (gP h1).2;exact xAh (aEM hi) h2
theorem aOK{l:PySem.W.OpenLaw}{n:Nat}{q:zq}{loose:List Str}{XP:(Str->Option qx)->Heap->Prop}{YP:zw->Heap->Prop}{d:DefRec}
 (hn:l.most=qq n) (hdf:d.params.defaults=[])
 (go:∀ (w:zw) (s₀ s₁:qj) (mg mb:Str->Option qx) (fa:qv) (a:qv) (vs:List qx) (ns:List Int),
   PySem.W.Ground q loose [] XP w s₀ mg mb s₁.heap->YP w s₁.heap->mg d.name=qq (.ref fa) ->
   s₁.heap.get? a=qq {cls:=.type "list",data:=.seq vs.toArray }->IntsAre vs ns->ns.length<=n->(∀ i∈ns,yAn i<=1048576)->s₁.gens = #[] ->
   vo (model l.prog w) callerA (.call (.ref fa) ⟨[.ref a],[]⟩) (λ r s'=>r=.ok (.ret (.bool true))/\OldK s₁.heap s'.heap/\s'.os=s₁.os/\AllBare s'.gens) s₁) :
 PySem.W.WalkO q loose XP YP l.row.toRowW d [] (λ f vs=>PySem.call f vs):=by
 intro w s₀ s₁ mg mb G Y fa o pm cd doc dV kV ho hd hcd hD hmg hg args vals as hpre hlay hrd hwl hlo;obtain rfl:dV=.none:=PySem.W.Dflts.none hD hdf;obtain rfl:kV=.none:=PySem.W.Dflts.noKw hD;obtain⟨a,vs,ns,rfl,rfl,hobj,hints,cT⟩:=Att.script_of hn hpre hwl;refine PySem.W.enter_call (codeAny_mono (go w s₀ s₁ mg mb fa a vs ns G Y hmg hobj hints cT (aM6 hlay) hg) λ r s' hq=>?_)
 obtain⟨rfl,h2,h3,h4⟩:=hq;exact⟨.inl ⟨.bool true,.bool true,[],rfl,λ _=>rfl,.bool true,Att.post_true l _,λ _=>⟨List.Pairwise.nil,λ _ hm=>(nomatch hm)⟩⟩,h2,h3,h4⟩
theorem law_of{l:PySem.W.OpenLaw}{q:zq}{loose:List Str}{XP:(Str->Option qx)->Heap->Prop}{YP:zw->Heap->Prop}{d:DefRec}{K:Params->FrG}(fs:List Fn)(tb:Tbs)(f D:Nat)(L:Fn)(x:Str)
 (hn:l.most=qq 63) (hdf:d.params.defaults=[]) (hr:Room D callerA) (hY:∀ (w:zw) (h:Heap),YP w h->(K w.params).In h)
 (hk:∀ F∈fs,aAw fs tb F=true) (hb:∀ F∈fs,aCo F) (hL:fs[f]? = qq L) (hname:L.name=d.name) (hps:L.N.take L.np=[x])
 (top:∀ w:zw,∀ h:Heap,(K w.params).In h->∀ F∈fs,TopFn (K w.params) F) (tbl:∀ w:zw,∀ h:Heap,(K w.params).In h->∀ t∈tb.tb,TabTop (K w.params) w t) (cnl:∀ w:zw,∀ h:Heap,(K w.params).In h->∀ t∈tb.cn,ConTop (K w.params) t) (tbn:∀ w:zw,∀ h:Heap,(K w.params).In h->∀ x∈bltNames,yEq (K w.params) jq x=qq qz)
 (main:∀ ns:List Int,ns.length<=63->(∀ i∈ns,yAn i<=1048576)->∃ call S',aC fs D f=qq (1,call)/\call [.d (.list (ns.map yAp))] []=qq (.d (.bool true),S')) :
 PySem.W.WalkO q loose XP YP l.row.toRowW d [] (λ f vs=>PySem.call f vs):=by
 obtain⟨call,S0,hcall,_⟩:=main [] (by simp) (by simp)
 refine aOK hn hdf λ w s₀ s₁ mg mb fa a vs ns G Y hmg hobj hints cT hsm hg=>?_
 have KX:=hY w _ Y;have tops:∀ F∈fs,∃ fa fd,Fun (K w.params) F.name F.name F.st fa fd/\mg F.name=qq (.ref fa)/\lP (K w.params) fd (F.N.take F.np) []:=λ F hF=>by
  obtain⟨f,oc,od,an,sl,kV,dc,pm,cd,ct,a,l,c,k⟩:=(top w _ KX F hF).ex;have Fu:=aRC (st:=F.st) l c k;exact⟨f,_,Fu,PySem.W.mg_of KX G.T.g a,Fu.binds (hb F hF)⟩
 have hblt:∀ x∈bltNames,mg x=qz:=λ y hy=>PySem.W.mg_none_of KX G.T.g (tbn w _ KX y hy)
 have htab:∀ x aX,(x,aX)∈tb.tb->∃ a,mg x=qq (.ref a)/\uW (K w.params) w a aX:=λ x aX hx=>by
  obtain⟨a,es,ep,a1,l1,c1⟩:=(tbl w _ KX (x,aX) hx).ex;exact⟨a,PySem.W.mg_of KX G.T.g a1,es,ep,l1,c1⟩
 have hcon:∀ x ts,(x,ts)∈tb.cn->∃ a,mg x=qq (.ref a)/\qX (K w.params) a ts:=λ x ts hx=>by
  obtain⟨a,a1,c1⟩:=(cnl w _ KX (x,ts) hx).ex;exact⟨a,PySem.W.mg_of KX G.T.g a1,c1⟩
 obtain⟨fa1,fd,Fu,hmg1,hbi⟩:=tops L (xAk hL);rw[<- hname,hmg1] at hmg;cases hmg;refine L2.law_call (fd:=fd) (sp:=rZ (K w.params) 1 call) (CX:=sD) (x:=x) KX G.T.g G.T.b G.T.builtins G.T.nolimit hg hobj hints (xAh cT (by decide)) hr (λ base kb nb=>?_) (λ s u=>?_) (λ H hO hS=>?_) λ _ _ _ z=>z
 ·have P1:=aGE (P:=l.prog) (w:=w) (base:=base) fs tb hk tops hblt htab hcon D f L 1 call _ _ hL hcall Fu;rw[hps] at P1;exact P1
 ·obtain⟨oc,od,kV,doc,pm,an,cdv,ct,osl,rfl,lk,hcd⟩:=Fu.ex;have:=hb L (xAk hL) kV doc pm an cdv ct [u] (by rw[hps];rfl)
  rw[hps] at this;exact .of_eq this
 ·obtain⟨call',S',hcall',hrun⟩:=main ns cT hsm;rw[hcall] at hcall';cases hcall';refine⟨H,[],[],[.d (.list (ns.map yAp))],.d (.bool true),S',rfl,⟨cC.refl _,List.nodup_nil,rfl,λ n a ds e=>by simp at e,λ n a e=>by simp at e⟩,.cons (Den.lst hS (DenL.of_ints ns)) .nil,hrun,λ F' L' H' v g R d=>?_⟩
  cases (show Den (K w.params) F' (.bool true) v from d)
  rfl
end EV
namespace EV
open PySem L2
theorem aCn{α:Type}(S:List α)(a b:α):(S++[a]).set S.length b=S++[b]:=by simp
theorem aBY{α:Type}{t:Tg}{fc:FT}{fe:FE}{env:aW}{S:aD}(enc g:α->D)(p:α->Bool):∀ (l:List α) (aF:List D),aF.length+l.length<=qk ->
 (∀ a∈l,∃ e1,t.put (enc a) env=qq e1/\(∀ S',fc e1 S'=qq (p a,S'))/\(p a=true->∀ S',fe e1 S'=qq (.d (g a),S'))) ->
 hV t fc fe S.length env (l.map enc) (S++[qq aF])=qq (S++[qq (aF++(l.filter p).map g)])
 | [],aF,_,_=>by simp[hV]
 | a::l,aF,hz,h=>by
   obtain⟨e1,h1,h2,h3⟩:=h a xAc;have hlt:aF.length<qk:=by simp at hz;omega
   have dC:=λ x (hx:x∈l)=>h x (xAf _ hx)
   simp only[yBg,hV,h1,yCb,h2];cases hp:p a with
   | false =>
     simp only[yAu,if_false];rw[aBY enc g p l aF (by simp at hz;omega) dC]
     simp[yFk,hp]
   | true =>
     have ea:eJ (S++[qq aF]) (.loc S.length) (.d (g a))=qq (.d .none,S++[qq (aF++[g a])]):=by
      unfold eJ;simp only[yAh (yAc S.length),yBe,yBt];rw[if_pos hlt,aCn]
     simp only[if_true,h3 hp,yCb,ea];rw[aBY enc g p l (aF++[g a]) (by simp at hz ⊢;omega) dC]
     simp[yFk,hp]
theorem aNc{α:Type}{t:Tg}{fi:FL}{fc:FT}{fe:FE}{env:aW}{S S1:aD}(enc g:α->D)(p:α->Bool)(l:List α)(hi:fi env S=qq (l.map enc,S1))(hz:l.length<=qk)
 (h:∀ a∈l,∃ e1,t.put (enc a) (clr t.slots env)=qq e1/\(∀ S',fc e1 S'=qq (p a,S'))/\(p a=true->∀ S',fe e1 S'=qq (.d (g a),S'))):hG t fi fc fe env S=qq ((l.filter p).map g,S1):=by
 unfold hG;rw[hi];simp only[yCb];rw[aBY enc g p l [] (by simpa using hz) h]
 simp
theorem aB1{α:Type}{t:Tg}{fc:FT}{fe:FE}{env:aW}{S:aD}(enc g:α->D)(p:α->Bool):∀ (l:List α) (aF:List D),aF.length+l.length<=qk ->
 (∀ a∈l,∃ e1,t.put (enc a) env=qq e1/\(∀ aF,fc e1 (S++[qq aF])=qq (p a,S++[qq aF]))/\(p a=true->∀ aF,fe e1 (S++[qq aF])=qq (.d (g a),S++[qq aF]))) ->
 hV t fc fe S.length env (l.map enc) (S++[qq aF])=qq (S++[qq (aF++(l.filter p).map g)])
 | [],aF,_,_=>by simp[hV]
 | a::l,aF,hz,h=>by
   obtain⟨e1,h1,h2,h3⟩:=h a xAc;have hlt:aF.length<qk:=by simp at hz;omega
   have dC:=λ x (hx:x∈l)=>h x (xAf _ hx)
   simp only[yBg,hV,h1,yCb,h2];cases hp:p a with
   | false =>
     simp only[yAu,if_false];rw[aB1 enc g p l aF (by simp at hz;omega) dC]
     simp[yFk,hp]
   | true =>
     have ea:eJ (S++[qq aF]) (.loc S.length) (.d (g a))=qq (.d .none,S++[qq (aF++[g a])]):=by
      unfold eJ;simp only[yAh (yAc S.length),yBe,yBt];rw[if_pos hlt,aCn]
     simp only[if_true,h3 hp,yCb,ea];rw[aB1 enc g p l (aF++[g a]) (by simp at hz ⊢;omega) dC]
     simp[yFk,hp]
theorem aNd{α:Type}{t:Tg}{fi:FL}{fc:FT}{fe:FE}{env:aW}{S S1:aD}(enc g:α->D)(p:α->Bool)(l:List α)(hi:fi env S=qq (l.map enc,S1))(hz:l.length<=qk)
 (h:∀ a∈l,∃ e1,t.put (enc a) (clr t.slots env)=qq e1/\(∀ aF,fc e1 (S1++[qq aF])=qq (p a,S1++[qq aF]))/\(p a=true->∀ aF,fe e1 (S1++[qq aF])=qq (.d (g a),S1++[qq aF]))):hG t fi fc fe env S=qq ((l.filter p).map g,S1):=by
 unfold hG;rw[hi];simp only[yCb];rw[aB1 enc g p l [] (by simpa using hz) h]
 simp
theorem kH{α:Type}{t:Tg}{fi:FL}{fe:FE}{env:aW}{S S1:aD}(enc g:α->D)(l:List α)(hi:fi env S=qq (l.map enc,S1))(hz:l.length<=qk)
 (h:∀ a∈l,∃ e1,t.put (enc a) (clr t.slots env)=qq e1/\∀ S',fe e1 S'=qq (.d (g a),S')):hG t fi nZ fe env S=qq (l.map g,S1):=by
 rw[aNc (fc:=nZ) enc g (λ _=>true) l hi hz λ a ha=>let ⟨e1,h1,h2⟩:=h a ha;⟨e1,h1,λ _=>rfl,λ _=>h2⟩]
 rw[List.filter_eq_self.mpr (λ _ _=>rfl)]
theorem aFZ{t:Tg}{fb:FS}{S:aD}(P:aW->Prop):∀ (ds:List D) (env:aW),P env->(∀ d∈ds,∀ env,P env->∃ e1 aJ,t.put d env=qq e1/\fb e1 S=qq (.nx aJ,S)/\P aJ) ->
 ∃ aJ,gO t fb ds env S=qq (.nx aJ,S)/\P aJ
 | [],env,h0,_=>⟨env,rfl,h0⟩
 | d::ds,env,h0,h=>by
   obtain⟨e1,aJ,h1,h2,h3⟩:=h d xAc env h0;obtain⟨env2,h4,h5⟩:=aFZ P ds aJ h3 λ x hx=>h x (xAf _ hx)
   exact⟨env2,by simp only[gO,h1,yCb,h2];exact h4,h5⟩
theorem aNf(n:Nat):∀ lo:Int,kT lo n=(yBk n).map λ k=>yAp (lo+(k:Nat)):=by
 induction n with
 | zero=>intro lo;rfl
 | succ n ih =>
   intro lo;rw[kT,ih,List.range_succ_eq_map,yBg,yBo];congr 1
   ·simp
   ·apply yCg;intro k _;simp only[Function.comp];congr 1
    push_cast
    omega
theorem aFa:∀ (ds:List D) (k:Int),iK k ds=(ds.zipIdx).map λ p=>yCx [.int (k+(p.2:Nat)),p.1]
 | [],_=>rfl
 | d::r,k=>by
   rw[iK,aFa r (k+1),yEi,yBg];congr 1
   ·simp
   ·rw[List.zipIdx_succ,yBo];apply yCg;intro p _;simp only[Function.comp];congr 3
    push_cast
    omega
end EV
namespace BM
theorem tH(n:Nat):0<2^n:=xAe n
noncomputable def nQ(n w:Nat):List Bool:=(yBk w).map n.testBit
theorem aMb(n w i:Nat):(nQ n w).getD i false=(decide (i<w)&&n.testBit i):=by
 unfold nQ
 by_cases h:i<w
 ·simp[yGe,h]
 ·simp[yGe,h]
theorem cL{n w i:Nat}(h:n<2^w)(hi:w<=i):n.testBit i=false:=Nat.testBit_lt_two_pow (xAb h (yBd (by decide) hi))
noncomputable def bl(n:Nat):Nat:=if n=0 then 0 else n.log2+1
theorem uG{n:Nat}(h:n≠0):bl n=n.log2+1:=if_neg h
theorem oZ(n:Nat):n<2^bl n:=by
 by_cases h:n=0
 ·subst h;decide
 ·rw[uG h];exact Nat.lt_log2_self
theorem aPT{n:Nat}(h:n≠0):n.testBit (bl n-1)=true:=by
 rw[uG h,Nat.add_sub_cancel];have h1:2^n.log2<=n:=Nat.log2_self_le h;have h2:n<2^(n.log2+1):=Nat.lt_log2_self;rw[Nat.testBit_eq_decide_div_mod_eq];have:n/2^n.log2=1:=by
  apply Nat.div_eq_of_lt_le
  ·omega
  ·rw[yEr] at h2;omega
 simp[this]
theorem qZ{n w:Nat}(h:n<2^w):bl n<=w:=by
 by_cases h0:n=0
 ·subst h0;simp[bl]
 ·rw[uG h0];exact(Nat.log2_lt h0).mpr h
theorem aE9{n k:Nat}(h1:n<2^k)(h2:k=0\/n.testBit (k-1)=true):bl n=k:=by
 rcases h2 with h2 | h2
 ·subst h2;have:n=0:=by simpa using h1
  subst this;rfl
 ·have h3:=qZ h1;rcases Nat.lt_or_ge (bl n) k with h4 | h4
  ·exfalso;have:=cL (oZ n) (show bl n<=k-1 by omega)
   rw[this] at h2;cases h2
  ·omega
theorem cW(w i:Nat):(2^w-1).testBit i=decide (i<w):=Nat.testBit_two_pow_sub_one w i
noncomputable def kR(l:List Bool):Nat:=(l.takeWhile id).length
theorem aFE(r:List Bool):kR (true::r)=kR r+1:=by simp[kR]
theorem aE5(r:List Bool):kR (false::r)=0:=by simp[kR]
theorem aGp:∀ (l:List Bool) (i:Nat),i<kR l->l[i]? = qq true
 | [],i,h=>by simp[kR] at h
 | false::r,i,h=>by simp[aE5] at h
 | true::r,0,h=>rfl
 | true::r,i+1,h=>by rw[aFE] at h;simpa using aGp r i (by omega)
theorem aKQ(m:Nat):(2*m+1)^^^(2*m+1+1)=2*(m^^^(m+1))+1:=by
 apply xAl;intro i;cases i with
 | zero=>rw[yAo];simp[yDd];omega
 | succ i =>
   rw[yAo,yCq,yCq,yCq];rw[show(2*m+1)/2=m by omega,show(2*m+1+1)/2=m+1 by omega,show(2*(m^^^(m+1))+1)/2=(m^^^(m+1)) by omega,yAo]
theorem aKG(m:Nat):(2*m)^^^(2*m+1)=1:=by
 apply xAl;intro i;cases i with
 | zero=>rw[yAo];simp[yDd]
 | succ i =>
   rw[yAo,yCq,yCq,yCq];rw[show(2*m)/2=m by omega,show(2*m+1)/2=m by omega]
   simp
theorem aMx(x:Nat):bl (2*x+1)=bl x+1:=by
 apply aE9
 ·have:=oZ x;rw[yEr];omega
 ·right
  rw[Nat.add_sub_cancel]
  by_cases h:x=0
  ·subst h;rfl
  ·have h2:=aPT h;have h3:bl x=(bl x-1)+1:=by rw[uG h];omega
   rw[h3,yCq,show(2*x+1)/2=x by omega]
   exact h2
theorem aEz(n:Nat):n^^^(n+1)≠0:=by
 intro h;have:n=n+1:=by
  have:=congrArg (λ z=>z^^^(n+1)) h
  simpa [Nat.xor_assoc] using this
 omega
theorem aFb{n:Nat}(h:n≠0):1<=bl n:=by rw[uG h];omega
theorem aLD(n w:Nat):nQ n (w+1)=n.testBit 0::nQ (n/2) w:=by
 unfold nQ;rw[List.range_succ_eq_map,yBg,yBo];congr 1;apply yCg;intro i _;simp only[Function.comp];exact yCq n i
theorem aEU:∀ (w n:Nat),n<2^w->bl (n^^^(n+1))-1=kR (nQ n w)
 | 0,n,h=>by
   have:n=0:=by simpa using h
   subst this;rfl
 | w+1,n,h=>by
   rw[aLD];have hd:n/2<2^w:=by rw[yEr] at h;omega
   have ih:=aEU w (n/2) hd;rcases yAs n with p | p
   ·have e:n=2*(n/2):=by omega
    have e2:n^^^(n+1)=1:=by rw[e];exact aKG _
    rw[e2,yDd,p];rw[show bl 1=1 from by decide];simp[aE5]
   ·have e:n=2*(n/2)+1:=by omega
    have e2:n^^^(n+1)=2*((n/2)^^^(n/2+1))+1:=by
     have:=aKQ (n/2);rw[<- e] at this;exact this
    rw[e2,aMx,yDd,p];simp only[decide_true,aFE];have:=aFb (aEz (n/2));omega
noncomputable def hi(l:List Bool):Nat:=l.length-kR (l.reverse.map (!·))
theorem aK3{n w:Nat}(h:n<2^w):n^^^(2^w-1)<2^w:=yBv h (by have:=tH w;omega)
noncomputable def dF(n w v:Nat):Nat:=if n&&&2^(w-1)=0 then n else n|||((2^v-1)^^^(2^w-1))
theorem aEv(n k:Nat):(n&&&2^k=0) ↔ n.testBit k=false:=by
 constructor
 ·intro h;have:=congrArg (λ z=>z.testBit k) h
  simpa [yAj,Nat.testBit_two_pow_self] using this
 ·intro h;apply xAl;intro i;rw[yAj,yDw,yAz]
  by_cases e:k=i
  ·subst e;simp[h]
  ·simp[e]
theorem pZ{n w v:Nat}(h:n<2^w)(hw:0<w)(hv:w<=v)(i:Nat):(dF n w v).testBit i=if i<w then n.testBit i else (decide (i<v)&&n.testBit (w-1)):=by
 unfold dF;cases e:n.testBit (w-1) with
 | false =>
   rw[if_pos ((aEv _ _).mpr e)]
   split
   ·rfl
   ·rw[cL h (by omega)];simp
 | true =>
   rw[if_neg (λ z=>by rw[(aEv _ _).mp z] at e;cases e)]
   rw[xAo,yAo,cW,cW]
   split
   ·rename_i hi;have:i<v:=by omega
    simp[hi,this]
   ·rename_i hi;rw[cL h (by omega)]
    simp[hi]
theorem sR{n w v:Nat}(h:n<2^w)(hw:0<w)(hv:w<=v):dF n w v<2^v:=by
 apply yCi;intro i hi;rw[pZ h hw hv,if_neg (by omega)]
 have:¬ i<v:=by omega
 simp[this]
noncomputable def zT(x d:Nat):Nat:=x/2^d*2^d
theorem xS(x d i:Nat):(zT x d).testBit i=(decide (d<=i)&&x.testBit i):=by
 unfold zT;rw[Nat.testBit_mul_two_pow]
 by_cases h:d<=i
 ·simp[h,yCt,show i-d+d=i by omega]
 ·simp[h]
noncomputable def oE(x w:Nat):Nat:=2^w-1-x
theorem mY{x w:Nat}(h:x<2^w)(i:Nat):(oE x w).testBit i=(decide (i<w) && !x.testBit i):=by
 unfold oE;rw[show 2^w-1-x=2^w-(x+1) by omega]
 exact Nat.testBit_two_pow_sub_succ h i
noncomputable def uF(l g w:Nat):Nat:=(2^w-1)^^^(2^bl (l^^^g)-1)
theorem aBq{l g w:Nat}(hl:l<2^w)(hg:g<2^w)(i:Nat):(uF l g w).testBit i=(decide (i<w)&&decide (bl (l^^^g)<=i)):=by
 unfold uF;rw[yAo,cW,cW];have hd:bl (l^^^g)<=w:=qZ (yBv hl hg)
 by_cases h1:i<w<;>by_cases h2:i<bl (l^^^g)
 ·simp[h1,h2,show ¬ bl (l^^^g)<=i by omega]
 ·simp[h1,h2,show bl (l^^^g)<=i by omega]
 ·omega
 ·simp[h1,h2]
noncomputable def nK(l g w:Nat):Nat:=uF l g w&&&l
noncomputable def tM(l g w:Nat):Nat:=uF l g w^^^nK l g w
theorem aMT{l g w:Nat}(hl:l<2^w)(hg:g<2^w):nK l g w=zT l (bl (l^^^g)):=by
 apply xAl;intro i;rw[nK,yAj,aBq hl hg,xS]
 by_cases h1:i<w
 ·simp[h1]
 ·rw[cL hl (by omega)];simp
theorem aK4{l g w:Nat}(hl:l<2^w)(hg:g<2^w):tM l g w=zT (oE l w) (bl (l^^^g)):=by
 apply xAl;intro i;rw[tM,yAo,nK,yAj,aBq hl hg,xS,mY hl]
 by_cases h1:i<w<;>by_cases h2:bl (l^^^g)<=i<;>cases l.testBit i<;>simp[h1,h2]
theorem aVW{l g i:Nat}(h:bl (l^^^g)<=i):l.testBit i=g.testBit i:=by
 have:=cL (oZ (l^^^g)) h;rw[yAo] at this;cases a:l.testBit i<;>cases b:g.testBit i<;>simp[a,b] at this ⊢
theorem aMg{l g d:Nat}(h:l^^^g<2^d):l/2^d=g/2^d:=by
 apply xAl;intro i;rw[yCt,yCt];have:=cL h (show d<=i+d by omega)
 rw[yAo] at this;cases a:l.testBit (i+d)<;>cases b:g.testBit (i+d)<;>simp[a,b] at this ⊢
theorem aK8{l m g:Nat}(h1:l<=m)(h2:m<=g):m/2^bl (l^^^g)=l/2^bl (l^^^g):=by
 have e:=aMg (oZ (l^^^g));have a:=Nat.div_le_div_right (c:=2^bl (l^^^g)) h1;have b:=Nat.div_le_div_right (c:=2^bl (l^^^g)) h2;omega
theorem aEO{l m g i:Nat}(h1:l<=m)(h2:m<=g)(hi:bl (l^^^g)<=i):m.testBit i=l.testBit i:=by
 have:=congrArg (λ z=>z.testBit (i-bl (l^^^g))) (aK8 h1 h2)
 simp only[yCt] at this;rwa [show i-bl (l^^^g)+bl (l^^^g)=i by omega] at this
theorem aKs{l m g w:Nat}(hl:l<2^w)(hg:g<2^w)(h1:l<=m)(h2:m<=g):m&&&tM l g w=0:=by
 apply xAl;intro i;rw[yAj,aK4 hl hg,xS,mY hl,yAz]
 by_cases h:bl (l^^^g)<=i
 ·rw[aEO h1 h2 h];cases l.testBit i<;>simp
 ·simp[h]
theorem aKV{l m g w:Nat}(hl:l<2^w)(hg:g<2^w)(h1:l<=m)(h2:m<=g):m&&&nK l g w=nK l g w:=by
 apply xAl;intro i;rw[yAj,aMT hl hg,xS]
 by_cases h:bl (l^^^g)<=i
 ·rw[aEO h1 h2 h];cases l.testBit i<;>simp
 ·simp[h]
end BM
namespace BM
theorem gM(n k i:Nat):(n/2^k).testBit i=n.testBit (k+i):=by rw[yCt,yDr]
theorem jL(n:Nat):n=0 ↔ ∀ i,n.testBit i=false:=by
 constructor
 ·rintro rfl i;simp
 ·intro h;apply xAl;intro i;simp[h i]
theorem aBc(m k:Nat):m/2^k=0 ↔ ∀ i,k<=i->m.testBit i=false:=by
 rw[jL];constructor
 ·intro h i hi;have:=h (i-k);rw[gM,show k+(i-k)=i by omega] at this
  exact this
 ·intro h i;rw[gM];exact h _ (by omega)
noncomputable def bY(a b:Nat):Nat:=a-(a&&&b)
theorem aOO(a b:Nat):bY a b=a^^^(a&&&b):=by
 have h:(a^^^(a&&&b))+(a&&&b)=a:=by
  have key:∀ (n x y:Nat),x<=n->(x^^^(x&&&y))+(x&&&y)=x:=by
   intro n
   induction n with
   | zero =>
     intro x y hx;have:x=0:=by omega
     subst this;simp
   | succ n ih =>
     intro x y hx
     by_cases h0:x=0
     ·subst h0;simp
     ·have ih':=ih (x/2) (y/2) (by omega)
      have e1:(x^^^(x&&&y))/2=(x/2)^^^((x/2)&&&(y/2)):=by
       apply xAl;intro i;simp[Nat.testBit_div_two]
      have e2:(x&&&y)/2=(x/2)&&&(y/2):=by
       apply xAl;intro i;simp[Nat.testBit_div_two]
      have m1:(x^^^(x&&&y))%2=(x%2+(x&&&y)%2)%2:=by
       have a1:=yDp (x^^^(x&&&y)) 0;have a2:=yDp x 0;have a3:=yDp (x&&&y) 0;simp only[Nat.pow_zero,Nat.div_one] at a1 a2 a3;rw[<- a1,<- a2,<- a3,yAo,yAj];cases x.testBit 0<;>cases y.testBit 0<;>rfl
      have m2:(x&&&y)%2<=x%2:=by
       have a2:=yDp x 0;have a3:=yDp (x&&&y) 0;simp only[Nat.pow_zero,Nat.div_one] at a2 a3;rw[<- a2,<- a3,yAj];cases x.testBit 0<;>cases y.testBit 0<;>decide
      rw[<- e1,<- e2] at ih';omega
  exact key a a b (yAc _)
 unfold bY;omega
theorem lC(a b i:Nat):(bY a b).testBit i=(a.testBit i && !b.testBit i):=by
 rw[aOO,yAo,yAj];cases a.testBit i<;>cases b.testBit i<;>rfl
theorem yJ(a b:Nat):bY a b=0 ↔ ∀ i,a.testBit i=true->b.testBit i=true:=by
 rw[jL];constructor
 ·intro h i ha;have:=h i;rw[lC,ha] at this;simpa using this
 ·intro h i;rw[lC];cases ha:a.testBit i with
  | false=>rfl
  | true=>rw[h i ha];rfl
theorem aEB{x k q:Nat}(h:x<2^k)(i:Nat):(x+q*2^k).testBit i=if i<k then x.testBit i else q.testBit (i-k):=by
 rw[yDr,yGq,Nat.testBit_two_pow_mul_add _ h]
theorem aOH{n w:Nat}(h:n<2^w)(hw:0<w):n/2^(w-1)=(n.testBit (w-1)).toNat:=by
 rw[yDp];have:n/2^(w-1)<2:=by
  rw[yEf (xAe _),<- Nat.pow_succ'];rw[show(w-1).succ=w by omega]
  exact h
 exact(Nat.mod_eq_of_lt this).symm
end BM
namespace BM
open PySem
theorem aJP(a b:Nat):yDy a b=((a&&&b:Nat):Int):=by
 unfold yDy;rw[dqT (yFv a),dqT (yFv b)];simp
theorem bOr(a b:Nat):yGh a b=((a|||b:Nat):Int):=by
 unfold yGh yDy yBn;rw[dqF (show ¬ (0:Int) <= -(a:Int)-1 by omega),dqF (show ¬ (0:Int) <= -(b:Int)-1 by omega)]
 have e1:(-(-(a:Int)-1)-1).toNat=a:=by omega
 have e2:(-(-(b:Int)-1)-1).toNat=b:=by omega
 simp only[e1,e2];omega
theorem aEA:∀ (n a b:Nat),a<=n->(a^^^b)+(a&&&b)=(a|||b)
 | 0,a,b,h=>by
   have:a=0:=by omega
   subst this;simp
 | n+1,a,b,h=>by
   by_cases ha:a=0
   ·subst ha;simp
   have ih:=aEA n (a/2) (b/2) (by omega)
   have x2:=Nat.xor_div_two (a:=a) (b:=b);have a2:=Nat.and_div_two (a:=a) (b:=b);have o2:=Nat.or_div_two (a:=a) (b:=b);have xm:(a^^^b)%2=(a%2+b%2)%2:=by
    have:=yAo a b 0;simp only[yDd] at this;rcases yAs a with p | p<;>rcases yAs b with q | q<;>rcases yAs (a^^^b) with r | r<;>simp[p,q,r] at this ⊢
   have am:(a&&&b)%2=(a%2)*(b%2):=by
    have:=yAj a b 0;simp only[yDd] at this;rcases yAs a with p | p<;>rcases yAs b with q | q<;>rcases yAs (a&&&b) with r | r<;>simp[p,q,r] at this ⊢
   have om:(a|||b)%2=(a%2+b%2)-(a%2)*(b%2):=by
    have:=xAo a b 0;simp only[yDd] at this;rcases yAs a with p | p<;>rcases yAs b with q | q<;>rcases yAs (a|||b) with r | r<;>simp[p,q,r] at this ⊢
   have h1:=yEg (a^^^b) 2;have h2:=yEg (a&&&b) 2;have h3:=yEg (a|||b) 2
   rcases yAs a with p | p<;>rcases yAs b with q | q<;>rw[p,q] at xm am om<;>omega
theorem aUS(a b:Nat):yGa a b=((a^^^b:Nat):Int):=by
 unfold yGa;rw[aJP,bOr];have:=aEA a a b (yAc _);omega
theorem aLf(a:Nat):((a:Int)).natAbs=a:=by omega
theorem aEK(a:Nat):yAn a=if a=0 then 0 else a.log2+1:=by
 unfold yAn
 by_cases h:a=0
 ·subst h;rfl
 ·rw[if_neg h,if_neg (by simp;omega),aLf]
theorem aLG{a n:Nat}(h:a<2^n):yAn a<=n:=by
 rw[aEK]
 split
 ·exact yFb _
 ·rename_i h0;exact(Nat.log2_lt h0).mpr h
theorem aBH(n:Nat):((2^n:Nat):Int)=(2:Int)^n:=by simp
theorem aVI{x y:Int}(h:y.natAbs.log2<9000):yCs x y=false:=by
 unfold yCs;dsimp only;have:¬ ((if (y==0)=true then 0 else y.natAbs.log2/30+1)>300):=by
  split
  ·omega
  ·omega
 rw[dqF this];rfl
end BM
namespace EV
open PySem L2 BM
theorem eI(i j:Int):cG .Add (.int i) (.int j)=qq (.int (i+j)):=rfl
theorem cR(i j:Int):cG .Sub (.int i) (.int j)=qq (.int (i-j)):=rfl
theorem dG(a b:Nat):cG .BitAnd (.int a) (.int b)=qq (.int ((a&&&b:Nat):Int)):=by simp only[cG,kM,aJP]
theorem eP(a b:Nat):cG .BitOr (.int a) (.int b)=qq (.int ((a|||b:Nat):Int)):=by simp only[cG,kM,bOr]
theorem gY(a b:Nat):cG .BitXor (.int a) (.int b)=qq (.int ((a^^^b:Nat):Int)):=by simp only[cG,kM,aUS]
theorem fO{w:Nat}(h1:w<=100000):cG .LShift (.int 1) (.int w)=qq (.int ((2^w:Nat):Int)):=by
 have c:(0:Int)<=w/\(yAn 1:Int)+w<=2^27:=⟨by omega,by(have:(yAn 1:Int)=1:=(by decide);omega)⟩
 simp only[cG,kM];rw[if_pos c,Int.one_mul,yAq,aBH]
theorem qN{n a k:Nat}(h:n<2^a)(h2:a+k<=100000):cG .LShift (.int (n:Nat)) (.int (k:Nat))=qq (.int ((n*2^k:Nat):Int)):=by
 have c:(0:Int)<=(k:Nat)/\((yAn (n:Int):Nat):Int)+(k:Nat)<=2^27:=by
  have:=aLG h;exact⟨by omega,by omega⟩
 simp only[cG,kM];rw[if_pos c,yAq,<- aBH];congr 2
theorem fP{i j:Int}(h:0<j):cG .Mod (.int i) (.int j)=qq (.int (i%j)):=by
 simp only[cG,kM];rw[if_pos (by omega),Int.fmod_eq_emod_of_nonneg _ (by omega)]
theorem mX{i j:Int}(h:0<j)(h2:j<2^64):cG .FloorDiv (.int i) (.int j)=qq (.int (i/j)):=by
 simp only[cG,kM];have h3:j.natAbs.log2<9000:=Nat.lt_trans ((Nat.log2_lt (by omega)).mpr (show j.natAbs<2^64 by omega)) (by decide)
 rw[if_pos ⟨by omega,aVI h3⟩,Int.fdiv_eq_ediv_of_nonneg _ (by omega)]
theorem aKZ{i j:Int}(h1 : -(2^64)<j)(h2:j<2^64):nM i j=true:=by
 unfold nM;have:=intBits_le_64 h1 h2;have h:¬ (yAn j>yu):=Nat.not_lt.mpr this;rw[dqF h];simp
theorem aKR{i j:Int}(h1 : -(2^64)<i)(h2:i<2^64):nM i j=true:=by
 unfold nM;have:=intBits_le_64 h1 h2;have h:¬ (yAn i>yu):=Nat.not_lt.mpr this;rw[dqF h];simp
theorem zL{i j:Int}(h1 : -(2^64)<j)(h2:j<2^64):cG .Mult (.int i) (.int j)=qq (.int (i*j)):=by
 show(if nM i j=true then qq (yAp (i*j)) else qz)=_
 rw[if_pos (aKZ h1 h2)]
theorem mN{i j:Int}(h1 : -(2^64)<i)(h2:i<2^64):cG .Mult (.int i) (.int j)=qq (.int (i*j)):=by
 show(if nM i j=true then qq (yAp (i*j)) else qz)=_
 rw[if_pos (aKR h1 h2)]
theorem aPO{xs ys:List D}(h:xs.length+ys.length<=1000000):cG .Add (.list xs) (.list ys)=qq (.list (xs++ys)):=by
 show(if xs.length+ys.length<=qk then qq (yGi (xs++ys)) else qz)=_
 rw[if_pos (by rw[zv];omega)]
theorem aM1{α:Type}(k:Nat)(x:α):wD k [x]=yAb k x:=by
 unfold wD
 induction k with
 | zero=>rfl
 | succ k ih=>rw[yAw,yCy,ih,yAw];rfl
theorem bP(i j:Int):bH .Eq (.int i) (.int j)=qq (.bool (i==j)):=rfl
theorem kL(i j:Int):bH .NotEq (.int i) (.int j)=qq (.bool (!(i==j))):=rfl
theorem eO(i j:Int):bH .Lt (.int i) (.int j)=qq (.bool (decide (i<j))):=rfl
theorem aQH(i j:Int):bH .LtE (.int i) (.int j)=qq (.bool (decide (i<=j))):=rfl
theorem iI(i j:Int):bH .Gt (.int i) (.int j)=qq (.bool (decide (j<i))):=rfl
theorem aIc(i j:Int):bH .GtE (.int i) (.int j)=qq (.bool (decide (j<=i))):=rfl
end EV
namespace EV
open PySem L2 BM
theorem oB{α β:Type}(a:α)(f:α->Option β):(qq a).bind f=f a:=of_eq_true (eq_self (f a))
theorem oM{α β:Type}(a:α)(f:α->β):(qq a).map f=qq (f a):=of_eq_true (eq_self (qq (f a)))
noncomputable def cl(fs:List Fn)(d f:Nat)(ws:List W)(S:aD):Option (W×aD):=match aC fs d f with
 | some (np,call)=>if ws.length=np then call ws S else qz
 | none=>qz
theorem aFz(fs:List Fn)(d f:Nat)(fa:FA)(env:aW)(S:aD):kN (aC fs d) f fa env S=(fa env S).bind λ p=>cl fs d f p.1 p.2:=by
 unfold kN cl aAk;cases aC fs d f with
 | none=>cases fa env S<;>rfl
 | some q=>rfl
theorem aV{fs:List Fn}{f:Nat}{F:Fn}(h:fs[f]? = qq F)(d:Nat)(ws:List W)(S:aD)(hw:ws.length=F.np):cl fs (d+1) f ws S=eX (xs (aC fs d) F.body) F.N.length ws S:=by
 have e:aC fs (d+1) f=qq (F.np,eX (xs (aC fs d) F.body) F.N.length):=by
  show(fs[f]?).map _=_;rw[h];rfl
 unfold cl;rw[e];exact if_pos hw
theorem aO1{fs:List Fn}{f d:Nat}{F:Fn}{w r:W}{S:aD}(h:fs[f]? = qq F)(hn:F.np=1)(e:cl fs (d+1) f [w] []=qq (r,S)):∃ call S',aC fs (d+1) f=qq (1,call)/\call [w] []=qq (r,S'):=by
 refine⟨eX (xs (aC fs d) F.body) F.N.length,S,?_,?_⟩
 ·show(fs[f]?).map _=_;rw[h,<- hn];rfl
 ·rw[<- aV h d [w] [] (by rw[hn];rfl)]
  exact e
theorem szT{n:Nat}(h:n<=1000):(n<=qk)=True:=by
 rw[zv];exact eq_true (by omega)
end EV
namespace EV
open PySem L2 BM
theorem tE(w:Nat):((2^w:Nat):Int)-1=((2^w-1:Nat):Int):=by
 have:=tH w;omega
theorem qB{fa:FE}{env:aW}{S S1:aD}{w:Nat}(h:fa env S=qq (.d (.int w),S1))(hw:w<=1000000):vB fa env S=qq ((yBk w).map (λ k=>yAp (k:Nat)),S1):=by
 have c : -(2^62)<=((w:Nat):Int)/\((w:Nat):Int)<2^62:=⟨by omega,by omega⟩
 unfold vB;rw[h,oB];simp only[];rw[if_pos c,aNf,yAq];congr 2;apply yCg;intro k _;rw[Int.zero_add]
theorem aKT{fa:FE}{env:aW}{S S1:aD}{ds:List D}(h:fa env S=qq (.d (.tuple ds),S1)):uH fa env S=qq (ds.zipIdx.map (λ p=>yCx [.int (p.2:Nat),p.1]),S1):=by
 simp only[uH,h,oB];rw[aFa];simp
theorem aBF{i:Nat}{env:aW}{S:aD}{w:W}(h:env[i]? = qq (qq w)):iQ i env S=qq (w,S):=by
 unfold iQ;rw[h]
theorem lH{xs:List D}{k:Nat}{x:D}(h:xs[k]? = qq x):aI (.list xs) (.int (k:Nat))=qq x:=by
 have hl:k<xs.length:=(gIm h).1;show(jG xs.length ((k:Nat):Int)).bind (λ j=>xs[j]?)=qq x
 unfold jG;rw[if_pos (by omega),if_pos (by omega),oB,yAq]
 exact h
theorem fB{xs:List D}{k:Nat}{x:D}(h:xs[k]? = qq x):aI (.tuple xs) (.int (k:Nat))=qq x:=lH (xs:=xs) h
theorem aRI{t:Tg}{fi:FL}{fb:FS}{env:aW}{S S1:aD}{ds:List D}(P:aW->Prop)(hi:fi env S=qq (ds,S1))(h0:P env)(h:∀ d∈ds,∀ env,P env->∃ e1 aJ,t.put d env=qq e1/\fb e1 S1=qq (.nx aJ,S1)/\P aJ) :
 ∃ aJ,dX t fi fb env S=qq (.nx aJ,S1)/\P aJ:=by
 obtain⟨aJ,h1,h2⟩:=aFZ (t:=t) (fb:=fb) (S:=S1) P ds env h0 h;exact⟨aJ,by unfold dX;rw[hi,oB];exact h1,h2⟩
theorem aGN{t:Tg}{fb:FS}(P:Nat->aW->aD->Prop):∀ (ds:List D) (i:Nat) (env:aW) (S:aD),P i env S->(∀ j d env S,ds[j]? = qq d->P (i+j) env S->∃ e1 aJ S',t.put d env=qq e1/\fb e1 S=qq (.nx aJ,S')/\P (i+j+1) aJ S') ->
 ∃ aJ S',gO t fb ds env S=qq (.nx aJ,S')/\P (i+ds.length) aJ S'
 | [],i,env,S,h0,_=>⟨env,S,rfl,h0⟩
 | d::ds,i,env,S,h0,h=>by
   obtain⟨e1,aJ,S',h1,h2,h3⟩:=h 0 d env S rfl h0;obtain⟨env2,S2,h4,h5⟩:=aGN P ds (i+1) aJ S' h3 λ j d' env S a b=>by
    have:=h (j+1) d' env S (by simpa using a) (by rw[show i+(j+1)=i+1+j by omega];exact b)
    rw[show i+(j+1)=i+1+j by omega] at this
    exact this
   refine⟨env2,S2,by simp only[gO,h1,oB,h2];exact h4,?_⟩
   have:i+(d::ds).length=i+1+ds.length:=by simp;omega
   rw[this];exact h5
theorem iH{t:Tg}{fi:FL}{fb:FS}{env:aW}{S S1:aD}{ds:List D}(P:Nat->aW->aD->Prop)(hi:fi env S=qq (ds,S1))(h0:P 0 env S1)(h:∀ j d env S,ds[j]? = qq d->P j env S->∃ e1 aJ S',t.put d env=qq e1/\fb e1 S=qq (.nx aJ,S')/\P (j+1) aJ S') :
 ∃ aJ S',dX t fi fb env S=qq (.nx aJ,S')/\P ds.length aJ S':=by
 obtain⟨aJ,S',h1,h2⟩:=aGN (t:=t) (fb:=fb) P ds 0 env S1 h0 λ j d env S a b=>by
  have:=h j d env S a (by simpa using b)
  simpa using this
 exact⟨aJ,S',by unfold dX;rw[hi,oB];exact h1,by simpa using h2⟩
theorem eB{xs:List D}:iN [.list xs]=qq (.int xs.length):=rfl
theorem eD{xs:List D}:iN [.tuple xs]=qq (.int xs.length):=rfl
theorem gC{xs:List D}:uN [.list xs]=qq (.tuple xs):=rfl
theorem fZ{xs:List D}:uN [.tuple xs]=qq (.tuple xs):=rfl
theorem aHK{i:Int}:vM [.int i]=qq (.int i):=rfl
theorem aHN{k:Bool}:vM [.bool k]=qq (.int (if k then 1 else 0)):=rfl
theorem mQ(n k:Nat):cG .RShift (.int (n:Nat)) (.int (k:Nat))=qq (.int ((n/2^k:Nat):Int)):=by
 have c:(0:Int)<=(k:Nat):=by omega
 simp only[cG,kM];rw[if_pos c,yAq,<- aBH];congr 2
theorem oP(a b:Nat):cG .BitAnd (.int (a:Nat)) (.int (yBn (b:Nat)))=qq (.int ((bY a b:Nat):Int)):=by
 have h1:decide ((0:Int)<=(a:Nat))=true:=dqT (by omega)
 have h2:decide ((0:Int)<=yBn (b:Nat))=false:=dqF (by unfold yBn;omega)
 have h3:(yBn (yBn (b:Nat))).toNat=b:=by unfold yBn;omega
 have h4:a&&&b<=a:=yBy;simp only[cG,kM];unfold yDy;rw[h1,h2];simp only[h3,yAq];congr 2;unfold bY;omega
theorem oR(i:Int):pP .Invert (.int i)=qq (.int (yBn i)):=rfl
theorem aBI{x:D}{k:Nat}(h:k<=1000):cG .Mult (.tuple [x]) (.int (k:Nat))=qq (.tuple (yAb k x)):=by
 show(if 0<=((k:Nat):Int)/\((k:Nat):Int)<=1000 then qq (yCx (yAb ((k:Nat):Int).toNat x)) else qz)=_
 rw[if_pos ⟨by omega,by omega⟩,yAq]
theorem aGc{α:Type}{t:Tg}{fe:FE}{env:aW}{n N:Nat}(enc:α->D)(I:Nat->aD->Prop)(Q:α->D->Prop):∀ (l:List α) (aF:List D) (j:Nat) (S:aD),aF.length+l.length<=qk->j+l.length<=N->S.length=n->I j S ->
 (∀ a∈l,∃ e1,t.put (enc a) env=qq e1/\∀ j S aF,j<N->S.length=n->I j S->∃ v S',fe e1 (S++[qq aF])=qq (.d v,S'++[qq aF])/\S'.length=n/\I (j+1) S'/\Q a v) ->
 ∃ vs S',hV t nZ fe n env (l.map enc) (S++[qq aF])=qq (S'++[qq (aF++vs)])/\S'.length=n/\I (j+l.length) S'/\vs.length=l.length/\∀ (i:Nat) (a:α),l[i]? = qq a->∃ v,vs[i]? = qq v/\Q a v
 | [],aF,j,S,_,_,hn,hI,_=>⟨[],S,by simp[hV],hn,hI,rfl,by simp⟩
 | a::l,aF,j,S,hz,hN,hn,hI,h=>by
   obtain⟨e1,h1,h2⟩:=h a xAc;obtain⟨v,S1,h3,h4,h5,h6⟩:=h2 j S aF (by simp at hN;omega) hn hI
   have hlt:aF.length<qk:=by simp at hz;omega
   have ea:eJ (S1++[qq aF]) (.loc n) (.d v)=qq (.d .none,S1++[qq (aF++[v])]):=by
    unfold eJ;subst h4;simp only[yAh (yAc S1.length),yBe,yBt];rw[if_pos hlt,aCn]
   obtain⟨vs,S2,h7,h8,h9,h10,h11⟩:=aGc enc I Q l (aF++[v]) (j+1) S1 (by simp at hz ⊢;omega) (by simp at hN;omega) h4 h5 λ x hx=>h x (xAf _ hx)
   refine⟨v::vs,S2,?_,h8,by rw[yBs,show j+(l.length+1)=j+1+l.length by omega];exact h9,by simp[h10],λ i b hb=>?_⟩
   ·simp only[yBg,hV,h1,nZ,oB,if_true,h3,ea];rw[h7];simp
   ·cases i with
    | zero=>simp at hb;subst hb;exact⟨v,rfl,h6⟩
    | succ i=>simpa using h11 i b (by simpa using hb)
theorem aGg{α:Type}{t:Tg}{fi:FL}{fe:FE}{env:aW}{S S1:aD}(enc:α->D)(I:Nat->aD->Prop)(Q:α->D->Prop)(l:List α)(hi:fi env S=qq (l.map enc,S1))(hz:l.length<=qk)(h0:I 0 S1)
 (h:∀ a∈l,∃ e1,t.put (enc a) (clr t.slots env)=qq e1/\∀ j S aF,j<l.length->S.length=S1.length->I j S->∃ v S',fe e1 (S++[qq aF])=qq (.d v,S'++[qq aF])/\S'.length=S1.length/\I (j+1) S'/\Q a v) :
 ∃ vs S',hG t fi nZ fe env S=qq (vs,S')/\S'.length=S1.length/\I l.length S'/\vs.length=l.length/\∀ (i:Nat) (a:α),l[i]? = qq a->∃ v,vs[i]? = qq v/\Q a v:=by
 obtain⟨vs,S',h1,h2,h3,h4,h5⟩:=aGc (fe:=fe) (n:=S1.length) (N:=l.length) enc I Q l [] 0 S1 (by simpa using hz) (by simp) rfl h0 h
 refine⟨vs,S',?_,h2,by simpa using h3,h4,h5⟩
 unfold hG;rw[hi];simp only[oB];rw[h1];simp[<- h2]
theorem aCR{α:Type}(a:α):yDx 1 [a]=[a]:=rfl
theorem aCX{α:Type}(a b:α):yDx 1 [a,b]=[a]:=rfl
theorem aCy{α:Type}(a b:α):yDx 2 [a,b]=[a,b]:=rfl
end EV
namespace EV
open PySem L2 BM
section
variable {C : Calls}{env : aW}{S S1 S2 S3 S4 : aD}{a b c e es r : E}
theorem aUo{i:Nat}{w:W}(h:env[i]? = qq (qq w)):ev C (.var i) env S=qq (w,S):=by rw[aCW];exact aBF h
theorem aSE{i:Int}:ev C (.int i) env S=qq (.d (.int i),S):=rfl
theorem aUU{i:Bool}:ev C (.bl i) env S=qq (.d (.bool i),S):=rfl
theorem aTF:ev C .non env S=qq (.d .none,S):=rfl
theorem aSp{i:Str}:ev C (.str i) env S=qq (.d (.str i),S):=rfl
theorem aT1{op:vj}{x y z:D}(ha:ev C a env S=qq (.d x,S1))(hb:ev C b env S1=qq (.d y,S2))(hz:cG op x y=qq z):ev C (.bin op a b) env S=qq (.d z,S2):=by
 simp only[aHy,pI,f2,ha,oB,hb,gS,dr,hz]
theorem aVB{op:kq}{x z:D}(ha:ev C a env S=qq (.d x,S1))(hz:pP op x=qq z):ev C (.un op a) env S=qq (.d z,S1):=by
 simp only[aII,wG,f1,ha,oB,mJ,dr,hz]
theorem aIC{op:vk}{x y z:D}(ha:ev C a env S=qq (.d x,S1))(hb:ev C b env S1=qq (.d y,S2))(hz:bH op x y=qq z):ev C (.cmp op a b) env S=qq (.d z,S2):=by
 simp only[aCx,lY,f2,ha,oB,hb,gS,dr,hz]
theorem aU4{wa:W}{x y z:D}(ha:ev C a env S=qq (wa,S1))(hb:ev C b env S1=qq (.d y,S2))(hx:dr S2 wa=qq x)(hz:aI x y=qq z):ev C (.ix a b) env S=qq (.d z,S2):=by
 have h2:dr S2 (.d y)=qq y:=rfl;simp only[aDd,oA,f2,ha,oB,hb,gS,hx,h2,hz]
theorem aSz{x:D}:dr S (.d x)=qq x:=rfl
theorem aTy{n:Nat}{l:List D}(h:S[n]? = qq (qq l)):dr S (.loc n)=qq (.list l):=by
 simp only[dr,h]
theorem aRc:mE S []=qq []:=rfl
theorem aTq{w:W}{ws:List W}{x:D}{ds:List D}(h:dr S w=qq x)(k:mE S ws=qq ds):mE S (w::ws)=qq (x::ds):=by
 simp only[mE,h,k,oB]
noncomputable def slD(d:D)(l h:Option Int):Option D:=match d with
 | .list xs=>qq (.list (iA xs l h))
 | .tuple xs=>qq (.tuple (iA xs l h))
 | _=>qz
theorem aU1{lo hi:E}{wa:W}{l h:Option Int}{x z:D}(ha:ev C a env S=qq (wa,S1))(hl:ov C lo env S1=qq (l,S2))(hh:ov C hi env S2=qq (h,S3))(hx:dr S3 wa=qq x)(hz:slD x l h=qq z):ev C (.sl a lo hi) env S=qq (.d z,S3):=by
 simp only[aC8,oC,ha,oB,hl,hh,hx];cases x<;>first | (cases hz;done) | (cases hz;rfl)
theorem aVJ:ov C .no env S=qq (qz,S):=rfl
theorem aQT{i:Int}(h:ev C a env S=qq (.d (.int i),S1)):ov C (.cons a .nil) env S=qq (qq i,S1):=by
 simp only[aG2,nJ,h,oB]
theorem aT7{o:E}{wo wa w:W}(ho:ev C o env S=qq (wo,S1))(ha:ev C a env S1=qq (wa,S2))(h:eJ S2 wo wa=qq (w,S3)):ev C (.app o a) env S=qq (w,S3):=by
 simp only[aHY,gQ,f2,ho,oB,ha,h]
theorem aST{p:Bool}{R:Option (W×aD)}(ht:tv C c env S=qq (p,S1))(k:cond p (ev C a env S1) (ev C b env S1)=R):ev C (.ite c a b) env S=R:=by
 rw[<- k];cases p<;>simp only[aHF,vP,ht,oB,yAu,if_false,if_true,cond_true,cond_false]
theorem aTo{p:Bool}{R:Option (W×aD)}(ha:ev C a env S=qq (.d (.bool p),S1))(k:cond p (ev C b env S1) (qq (.d (.bool false),S1))=R):ev C (.and a b) env S=R:=by
 rw[<- k];cases p<;>simp only[aIg,uT,ha,oB,cond_true,cond_false]
theorem aVy{p:Bool}{R:Option (W×aD)}(ha:ev C a env S=qq (.d (.bool p),S1))(k:cond p (qq (.d (.bool true),S1)) (ev C b env S1)=R):ev C (.or a b) env S=R:=by
 rw[<- k];cases p<;>simp only[aIt,vW,ha,oB,cond_true,cond_false]
theorem aTE{p:Bool}(ha:ev C a env S=qq (.d (.bool p),S1)):ev C (.not a) env S=qq (.d (.bool (!p)),S1):=by
 simp only[aH5,uZ,ha,oB]
theorem aPY{fs:List Fn}{d f:Nat}{ws:List W}{w:W}(ha:av (aC fs d) es env S=qq (ws,S1))(hc:cl fs d f ws S1=qq (w,S2)):ev (aC fs d) (.call f es) env S=qq (w,S2):=by
 rw[aGX,aFz,ha,oB];exact hc
theorem aUh{t:B}{ws:List W}{ds:List D}{z:D}(ha:av C es env S=qq (ws,S1))(hd:mE S1 ws=qq ds)(hz:t.g ds=qq z):ev C (.blt t es) env S=qq (.d z,S1):=by
 simp only[aHT,pF,ha,oB,hd,hz]
theorem aUa{ws:List W}{ds:List D}(ha:av C es env S=qq (ws,S1))(hd:pH ws=qq ds)(hl:ds.length<=1000):ev C (.tup es) env S=qq (.d (.tuple ds),S1):=by
 simp only[aHB,vU,ha,oB,hd,szT hl,if_true]
theorem aVv{ds:List D}(h:lv C a env S=qq (ds,S1)):ev C (.fz a) env S=qq (.d (.list ds),S1):=by
 simp only[aID,jZ,h,oB]
theorem aS3{ws:List W}{ds:List D}(ha:av C es env S=qq (ws,S1))(hd:pH ws=qq ds)(hl:ds.length<=1000):lv C (.lst es) env S=qq (ds,S1):=by
 simp only[aIm,vX,ha,oB,hd,szT hl,if_true]
theorem aS0{ds:List D}(h:lv C a env S=qq (ds,S1)):ev C (.new a) env S=qq (.loc S1.length,S1++[qq ds]):=by
 simp only[aCJ,fD,h,oB]
theorem aTD:av C .nil env S=qq ([],S):=rfl
theorem aRt{w:W}{ws:List W}(ha:ev C a env S=qq (w,S1))(hr:av C r env S1=qq (ws,S2)):av C (.cons a r) env S=qq (w::ws,S2):=by
 simp only[aHu,dH,ha,oB,hr]
theorem aRj{op:vk}{x y:D}{p:Bool}(ha:ev C a env S=qq (.d x,S1))(hb:ev C b env S1=qq (.d y,S2))(hz:bH op x y=qq (.bool p)):tv C (.cmp op a b) env S=qq (p,S2):=by
 have:=aIC ha hb hz;rw[aCx] at this;simp only[aH1,dP,this,oB,dr,pL]
theorem aUv{x:D}{p:Bool}(ht:tv C e=dP (ev C e))(ha:ev C e env S=qq (.d x,S1))(hz:pL x=qq p):tv C e env S=qq (p,S1):=by
 rw[ht];simp only[dP,ha,oB,dr,hz]
theorem aQV{p:Bool}{R:Option (Bool×aD)}(ha:tv C a env S=qq (p,S1))(hb:cond p (tv C b env S1) (qq (false,S1))=R):tv C (.and a b) env S=R:=by
 rw[<- hb];cases p<;>simp only[aH3,vK,ha,oB,yAu,if_false,if_true,cond_true,cond_false]
theorem aUk{p:Bool}{R:Option (Bool×aD)}(ha:tv C a env S=qq (p,S1))(hb:cond p (qq (true,S1)) (tv C b env S1)=R):tv C (.or a b) env S=R:=by
 rw[<- hb];cases p<;>simp only[aIO,wI,ha,oB,yAu,if_false,if_true,cond_true,cond_false]
theorem aQQ{p:Bool}(ha:tv C a env S=qq (p,S1)):tv C (.not a) env S=qq (!p,S1):=by
 simp only[aId,vN,ha,oB]
theorem rT{α:Type}{x y z:α}(h:x=z):cond true x y=z:=h
theorem rS{α:Type}{x y z:α}(h:y=z):cond false x y=z:=h
variable {s t u : Sx}{aJ : aW}{R : Option (Fl×aD)}{w : W}
theorem lM{fl:Fl}(h:xs C s env S=qq (fl,S1))(k:qq (fl,S1)=R):xs C s env S=R:=h.trans k
theorem oY{w:W}{R:Option (W×aD)}(h:ev C e env S=qq (w,S1))(k:qq (w,S1)=R):ev C e env S=R:=h.trans k
theorem pE{p:Bool}{R:Option (Bool×aD)}(h:tv C e env S=qq (p,S1))(k:qq (p,S1)=R):tv C e env S=R:=h.trans k
theorem pA{l:List D}{R:Option (List D×aD)}(h:lv C e env S=qq (l,S1))(k:qq (l,S1)=R):lv C e env S=R:=h.trans k
theorem aR5:xs C .skip env S=qq (.nx env,S):=rfl
noncomputable def rQ(C:Calls)(t:Sx)(fl:Fl)(S:aD):Option (Fl×aD):=match fl with
 | .nx e=>xs C t e S
 | fl=>qq (fl,S)
theorem aUz{fl:Fl}(h:xs C s env S=qq (fl,S1))(k:rQ C t fl S1=R):xs C (.seq s t) env S=R:=by
 rw[<- k];cases fl<;>simp only[lK,dY,h,oB,rQ]
theorem aVM(k:xs C t aJ S=R):rQ C t (.nx aJ) S=R:=k
theorem aVN(k:qq (.rt w,S)=R):rQ C t (.rt w) S=R:=k
theorem aUW(k:qq (.bk aJ,S)=R):rQ C t (.bk aJ) S=R:=k
theorem aVm(k:qq (.ct aJ,S)=R):rQ C t (.ct aJ) S=R:=k
theorem aTR{o i:E}{wo wi we:W}(he:ev C e env S=qq (we,S1))(ho:ev C o env S1=qq (wo,S2))(hi:ev C i env S2=qq (wi,S3))(h:hJ S3 wo wi we=qq S4):xs C (.put o i e) env S=qq (.nx env,S4):=by
 simp only[aIr,iO,he,oB,ho,hi,h]
theorem aS8{i:Nat}(h:ev C e env S=qq (w,S1))(he:env.set i (qq w)=aJ):xs C (.set i e) env S=qq (.nx aJ,S1):=by
 rw[<- he];simp only[zQ,jD,h,oB]
theorem aTj(h:ev C e env S=qq (w,S1)):xs C (.ret e) env S=qq (.rt w,S1):=by
 simp only[aCK,nX,h,oB]
theorem aSo(h:ev C e env S=qq (w,S1)):xs C (.expr e) env S=qq (.nx env,S1):=by
 simp only[aGW,vE,h,oB]
theorem aSC{p:Bool}(ht:tv C a env S=qq (p,S1))(k:cond p (xs C s env S1) (xs C t env S1)=R):xs C (.ifs a s t) env S=R:=by
 rw[<- k];cases p<;>simp only[qV,mD,ht,oB,yAu,if_false,if_true,cond_true,cond_false]
theorem aQx{tg:Tg}(h:dX tg (lv C a) (xs C s) env S=R):xs C (.loop tg a s) env S=R:=h
theorem aHP{body:Sx}{n:Nat}{ws:List W}{x:D}(he:ws.map qq++yAb (n-ws.length) qz=env)(k:xs C body env S=qq (.rt (.d x),S1))(hS:S1.take S.length=S2):eX (xs C body) n ws S=qq (.d x,S2):=by
 subst he;simp only[eX,k,oB,kQ,hS]
end
end EV
namespace K57
open PySem L2 EV BM
local macro_rules
 | `(tactic| omega)=>`(tactic| first | (with_reducible assumption) | (with_reducible exact yAc _) | (with_reducible exact Nat.le_add_right _ _) | (with_reducible exact xAh ‹_› (by decide)) | (with_reducible exact xAb ‹_› (by decide)) | (with_reducible exact xAi ‹_› (by decide)) | (with_reducible exact yFg ‹_›) | (with_reducible exact xAh (yFg ‹_›) (by decide)) | (with_reducible exact xAh (Nat.add_le_add_right ‹_› _) (by decide)) | (with_reducible exact Nat.add_le_add_left (by decide) _) | (with_reducible exact yFi ‹_›) | (with_reducible exact Nat.lt_of_not_le ‹_›) | (with_reducible exact Nat.not_lt_of_le ‹_›) | (with_reducible exact Nat.not_le_of_lt ‹_›) | (with_reducible exact xAb ‹_› ‹_›) | (with_reducible exact xAh ‹_› ‹_›) | (with_reducible exact xAh ‹_› (Nat.add_le_add_left (by decide) _)) | (with_reducible exact xAh ‹_› (xAh (Nat.add_le_add_right ‹_› _) (by decide))) | omega (config:={}))
 | `(tactic| simp only[evs])=>`(tactic| simp only[evs,True])
 | `(tactic| simp only[evs,$ls,*])=>`(tactic| simp only[aCW,aPS,aUp,aQd,aRe,aHy,aII,aCx,aIg,aIt,aH5,aHF,aHB,aDd,aSb,aRV,aC8,aGX,aHT,aOv,aHY,aID,aCJ,aH3,aIO,aId,aSj,aH1,aTc,aNZ,aQh,aRW,aSr,aT6,aR9,aHu,aTQ,aG2,aIm,aGB,aOb,nP,mV,mP,mU,aPg,nC,nF,mS,aGz,lK,aGW,aCK,qV,zQ,aGL,aOk,aIr,aOR,dY,jD,aAi,mD,nX,aSV,vE,rD,pI,wG,lY,dP,f2,f1,gS,mJ,dr,mE,fC,iQ,kQ,aFz,dH,hZ,vU,vX,jZ,pF,oA,vK,wI,vN,uT,vW,uZ,vP,pH,B.g,pL,Tg.put,nA,Tg.slots,yBg,yFw,yBs,yCn,yFm,Nat.reduceSub,yDs,yAw,yFp,yGm,yEw,yBt,yDv,yEx,yFy,oB,oM,yAi,Bool.not_false,Bool.not_true,yAu,if_true,if_false,reduceIte,yGn,Nat.reduceEqDiff,szT,List.take_nil,List.take_zero,aP1,nY,aAb,lU,aCR,aCX,aCy,$ls,*])
 | `(tactic| simp only[gc,$as,*])=>`(tactic| first | (with_reducible assumption) | (focus (simp only[$as,*]<;>with_reducible rfl)))
 | `(tactic| simp only[gl,$as,*])=>`(tactic| first | (focus (simp only[$as,*]<;>rfl)) | (focus rfl))
 | `(tactic| simp only[go,$as,*])=>`(tactic| first | with_reducible exact aSE | with_reducible exact aSp | with_reducible exact aUU | with_reducible exact aTF | with_reducible exact aTD | with_reducible exact aR5 | with_reducible exact aVJ | with_reducible exact aSz | with_reducible exact aRc | ((with_reducible apply aUo);rfl) | ((with_reducible apply aRt);simp only[go,$as,*];simp only[go,$as,*]) | ((with_reducible apply aUz);simp only[go,$as,*];first | ((with_reducible apply aVM);simp only[go,$as,*]) | ((with_reducible apply aVN);rfl) | ((with_reducible apply aUW);rfl) | ((with_reducible apply aVm);rfl)) | ((with_reducible apply aS8);simp only[go,$as,*];(focus (dsimp only[yEx,yFy]<;>rfl))) | ((with_reducible apply aTj);simp only[go,$as,*]) | ((with_reducible apply aSo);simp only[go,$as,*]) | ((with_reducible apply aPY);simp only[go,$as,*];simp only[gc,$as,*]) | ((with_reducible apply aT1);simp only[go,$as,*];simp only[go,$as,*];simp only[gl,$as,*]) | ((with_reducible apply aU4);simp only[go,$as,*];simp only[go,$as,*];simp only[go,$as,*];simp only[gl,$as,*]) | ((with_reducible apply aTy);simp only[gl,$as,*]) | ((with_reducible apply aSC);simp only[go,$as,*];first | ((with_reducible apply rT);simp only[go,$as,*]) | ((with_reducible apply rS);simp only[go,$as,*])) | ((with_reducible apply aRj);simp only[go,$as,*];simp only[go,$as,*];simp only[gl,$as,*]) | ((with_reducible apply aQV);simp only[go,$as,*];first | ((with_reducible apply rT);simp only[go,$as,*]) | ((with_reducible apply rS);rfl)) | ((with_reducible apply aUk);simp only[go,$as,*];first | ((with_reducible apply rT);rfl) | ((with_reducible apply rS);simp only[go,$as,*])) | ((with_reducible apply aQQ);simp only[go,$as,*]) | ((with_reducible apply aUh);simp only[go,$as,*];simp only[go,$as,*];simp only[gl,B.g,$as,*]) | ((with_reducible apply aTq);simp only[go,$as,*];simp only[go,$as,*]) | ((with_reducible apply aUa);simp only[go,$as,*];rfl;simp only[gl,yBs,yCn,yFm,yGn,$as,*]) | ((with_reducible apply aVv);simp only[go,$as,*]) | ((with_reducible apply aS3);simp only[go,$as,*];rfl;simp only[gl,yBs,yCn,yFm,yGn,$as,*]) | ((with_reducible apply aS0);simp only[go,$as,*]) | ((with_reducible apply aU1);simp only[go,$as,*];simp only[go,$as,*];simp only[go,$as,*];simp only[go,$as,*];simp only[gl,slD,$as,*]) | ((with_reducible apply aQT);simp only[go,$as,*]) | ((with_reducible apply aVB);simp only[go,$as,*];simp only[gl,$as,*]) | ((with_reducible apply aIC);simp only[go,$as,*];simp only[go,$as,*];simp only[gl,$as,*]) | ((with_reducible apply aT7);simp only[go,$as,*];simp only[go,$as,*];simp only[gl,$as,*]) | ((with_reducible apply aTR);simp only[go,$as,*];simp only[go,$as,*];simp only[go,$as,*];simp only[gl,$as,*]) | ((with_reducible apply aST);simp only[go,$as,*];first | ((with_reducible apply rT);simp only[go,$as,*]) | ((with_reducible apply rS);simp only[go,$as,*])) | ((with_reducible apply aTo);simp only[go,$as,*];first | ((with_reducible apply rT);simp only[go,$as,*]) | ((with_reducible apply rS);rfl)) | ((with_reducible apply aVy);simp only[go,$as,*];first | ((with_reducible apply rT);rfl) | ((with_reducible apply rS);simp only[go,$as,*])) | ((with_reducible apply aTE);simp only[go,$as,*]) | ((with_reducible apply aQx);simp only[gc,$as,*]) | ((with_reducible apply aUv rfl);simp only[go,$as,*];rfl) | simp only[gc,$as,*] | (focus (simp only[evs,$as,*]<;>with_reducible rfl)))
local macro_rules
 | `(tactic| simp only[gR1,$d0:term,$as,*])=>`(tactic| first | (apply aHP rfl;(focus (dsimp only[$d0:term,List.map,yBs,yCn,yFm,Nat.reduceSub,yDs,yAw,yFp,yGm,yEw];apply lM;simp only[go,$as,*];(first | (focus rfl) | (focus (simp only[$as,*]<;>rfl)))));(first | exact yAi | (focus (simp only[aCR,aCX,aCy,$as,*]<;>rfl)) | (focus rfl))) | (simp only[evs,eX,$d0:term,$as,*]<;>rfl))
local macro_rules
 | `(tactic| simp only[gR2,$d0:term,$d1:term,$as,*])=>`(tactic| first | (apply aHP rfl;(focus (dsimp only[$d0:term,$d1:term,List.map,yBs,yCn,yFm,Nat.reduceSub,yDs,yAw,yFp,yGm,yEw];apply lM;simp only[go,$as,*];(first | (focus rfl) | (focus (simp only[$as,*]<;>rfl)))));(first | exact yAi | (focus (simp only[aCR,aCX,aCy,$as,*]<;>rfl)) | (focus rfl))) | (simp only[evs,eX,$d0:term,$d1:term,$as,*]<;>rfl))
local macro_rules
 | `(tactic| simp only[gS0,$as,*])=>`(tactic| first | ((first | apply lM | apply oY | apply pE | apply pA);simp only[go,$as,*];(first | (focus rfl) | (focus (simp only[$as,*]<;>rfl)))) | (simp only[evs,$as,*]<;>rfl))
local macro_rules
 | `(tactic| simp only[gS1,$d0:term,$as,*])=>`(tactic| first | (dsimp only[$d0:term];(first | apply lM | apply oY | apply pE | apply pA);simp only[go,$as,*];(first | (focus rfl) | (focus (simp only[$as,*]<;>rfl)))) | (simp only[evs,$d0:term,$as,*]<;>rfl))
local macro_rules
 | `(tactic| simp only[gS2,$d0:term,$d1:term,$as,*])=>`(tactic| first | (dsimp only[$d0:term,$d1:term];(first | apply lM | apply oY | apply pE | apply pA);simp only[go,$as,*];(first | (focus rfl) | (focus (simp only[$as,*]<;>rfl)))) | (simp only[evs,$d0:term,$d1:term,$as,*]<;>rfl))
local macro_rules
 | `(tactic| simp only[gS3,$d0:term,$d1:term,$d2:term,$as,*])=>`(tactic| first | (dsimp only[$d0:term,$d1:term,$d2:term];(first | apply lM | apply oY | apply pE | apply pA);simp only[go,$as,*];(first | (focus rfl) | (focus (simp only[$as,*]<;>rfl)))) | (simp only[evs,$d0:term,$d1:term,$d2:term,$as,*]<;>rfl))
local macro_rules
 | `(tactic| simp only[gS4,$d0:term,$d1:term,$d2:term,$d3:term,$as,*])=>`(tactic| first | (dsimp only[$d0:term,$d1:term,$d2:term,$d3:term];(first | apply lM | apply oY | apply pE | apply pA);simp only[go,$as,*];(first | (focus rfl) | (focus (simp only[$as,*]<;>rfl)))) | (simp only[evs,$d0:term,$d1:term,$d2:term,$d3:term,$as,*]<;>rfl))
local macro_rules
 | `(tactic| simp only[gS5,$d0:term,$d1:term,$d2:term,$d3:term,$d4:term,$as,*])=>`(tactic| first | (dsimp only[$d0:term,$d1:term,$d2:term,$d3:term,$d4:term];(first | apply lM | apply oY | apply pE | apply pA);simp only[go,$as,*];(first | (focus rfl) | (focus (simp only[$as,*]<;>rfl)))) | (simp only[evs,$d0:term,$d1:term,$d2:term,$d3:term,$d4:term,$as,*]<;>rfl))
local macro_rules
 | `(tactic| simp only[gS6,$d0:term,$d1:term,$d2:term,$d3:term,$d4:term,$d5:term,$as,*])=>`(tactic| first | (dsimp only[$d0:term,$d1:term,$d2:term,$d3:term,$d4:term,$d5:term];(first | apply lM | apply oY | apply pE | apply pA);simp only[go,$as,*];(first | (focus rfl) | (focus (simp only[$as,*]<;>rfl)))) | (simp only[evs,$d0:term,$d1:term,$d2:term,$d3:term,$d4:term,$d5:term,$as,*]<;>rfl))
noncomputable def top(i:Nat):jz:=PySem.Challenge.pw_fewbits_k57_whole_turned_where_unasked.main.body.getD i (.Pass ⟨0,0,0,0⟩)
noncomputable def sK:List (Str×Tv):=[("in",.int 0),("num",.int 0),("not",.int 1),("and",.int 2),("or",.int 2),("xor",.int 2),("add",.int 2),("sub",.int 2),("mul",.int 2),("left",.int 1),("right",.int 1),("slide",.int 1),("cut",.int 1),("wide",.int 1),("sign",.int 1),("same",.int 2),("less",.int 2),("under",.int 2),("pick",.int 3)]
noncomputable def qI:List Tv:=[.str "left",.str "right",.str "slide"]
noncomputable def aCZ:List Tv:=[.str "add",.str "sub",.str "mul"]
noncomputable def qD:List Tv:=[.str "same",.str "less",.str "under"]
noncomputable def qE:List Tv:=[.int 0,.int 0,.int 1]
noncomputable def tJ:List Tv:=[.int 1,.int 0,.int 1]
noncomputable def uY:List Tv:=[.int 0,.int 1,.int 1]
noncomputable def tbs:Tbs:=⟨[("OPERAND_COUNTS",sK)],[("SHIFTS",qI),("SUMS",aCZ),("COMPARES",qD),("NOTHING",qE),("NOUGHT",tJ),("ONE",uY)]⟩
abbrev J0:E:=.int 0
abbrev J1:E:=.int 1
abbrev J2:E:=.int 2
abbrev J3:E:=.int 3
abbrev J4:E:=.int 4
abbrev J5:E:=.int 5
abbrev J7:E:=.int 7
abbrev J8:E:=.int 8
abbrev V0:E:=.var 0
abbrev V1:E:=.var 1
abbrev V2:E:=.var 2
abbrev V3:E:=.var 3
abbrev V4:E:=.var 4
abbrev V5:E:=.var 5
abbrev V6:E:=.var 6
abbrev V7:E:=.var 7
abbrev V8:E:=.var 8
abbrev V9:E:=.var 9
noncomputable def aI6:Sx:=(.seq (.ret (.bin .Sub (.bin .LShift J1 V0) J1))
 .skip)
noncomputable def aH4:Sx:=(.seq (.ret (.bits V0))
 .skip)
noncomputable def aHx:Sx:=(.seq (.ret (.call 0 (.cons (.call 1 (.cons V0 .nil)) .nil)))
 .skip)
noncomputable def aFX:Sx:=(.seq (.ret (.bin .Sub (.call 1 (.cons (.bin .BitXor V0 (.bin .Add V0 J1)) .nil)) J1))
 .skip)
noncomputable def aGo:Sx:=(.seq (.ret (.bin .Sub V1 (.call 1 (.cons (.bin .BitXor V0 (.call 0 (.cons V1 .nil))) .nil))))
 .skip)
noncomputable def aBp:Sx:=(.seq (.set 3 (.bin .LShift J1 (.bin .Sub V1 J1)))
 (.seq (.ifs (.cmp .Eq (.bin .BitAnd V0 V3) J0) (.seq (.ret V0)
 .skip) .skip)
 (.seq (.ret (.bin .BitOr V0 (.bin .BitXor (.call 0 (.cons V2 .nil)) (.call 0 (.cons V1 .nil)))))
 .skip)))
noncomputable def aEL:Sx:=(.seq (.set 3 (.bin .BitXor (.call 0 (.cons V2 .nil)) (.call 2 (.cons (.bin .BitXor V0 V1) .nil))))
 (.seq (.set 4 (.bin .BitAnd V3 V0))
 (.seq (.ret (.tup (.cons (.bin .BitXor V3 V4) (.cons V4 .nil))))
 .skip)))
noncomputable def aLZ:Sx:=(.seq (.ret (.sl V0 (.cons J2 .nil) (.cons (.bin .Add J2 (.tab "OPERAND_COUNTS" sK (.ix V0 J0))) .nil)))
 .skip)
noncomputable def aEd:E:=(.comp (.ix V1 V2) (.one 2) (.it (.call 7 (.cons V0 .nil))) .no)
noncomputable def aEo:Sx:=(.seq (.ret (.blt .tup (.cons (.fz aEd) .nil)))
 .skip)
noncomputable def aFl:Sx:=(.seq (.set 2 (.ix V0 J0))
 (.seq (.ret (.ix (.ix V2 V1) J1))
 .skip))
noncomputable def aEn:E:=(.comp (.ix V1 J1) (.one 1) (.it (.ix V0 J0)) .no)
noncomputable def aEW:Sx:=(.seq (.ret (.blt .tup (.cons (.fz aEn) .nil)))
 .skip)
noncomputable def aEm:Sx:=(.seq (.ret (.tup (.cons (.bin .BitAnd V2 (.un .Invert (.bin .BitAnd V1 (.un .Invert V0)))) (.cons (.bin .BitAnd V2 (.un .Invert V0)) .nil))))
 .skip)
noncomputable def aFh:Sx:=(.seq (.set 3 (.call 1 (.cons V2 .nil)))
 (.seq (.set 4 (.blt .mn (.cons V3 (.cons (.call 3 (.cons V1 .nil)) .nil))))
 (.seq (.set 5 (.blt .mn (.cons (.bin .Sub V3 V4) (.cons (.call 3 (.cons V0 .nil)) .nil))))
 (.seq (.ret (.tup (.cons (.call 0 (.cons (.bin .Sub V3 V4) .nil)) (.cons (.call 0 (.cons (.bin .Sub V3 V5) .nil)) .nil))))
 .skip))))
noncomputable def aCv:Sx:=(.seq (.ifs (.cmp .Eq (.bin .RShift V0 V1) J0) (.seq (.ret V0)
 .skip) .skip)
 (.seq (.ret (.bin .BitOr (.bin .BitAnd V0 (.call 0 (.cons V1 .nil))) (.bin .LShift J1 (.bin .Sub V1 J1))))
 .skip))
noncomputable def xN:Sx:=(.seq (.ifs (.cmp .Eq V0 (.str "left")) (.seq (.ret (.bin .RShift V3 V2))
 .skip) .skip)
 (.seq (.ifs (.cmp .Eq V0 (.str "right")) (.seq (.ret (.bin .BitAnd (.bin .LShift V3 V2) (.call 0 (.cons V1 .nil))))
 .skip) .skip)
 (.seq (.ret (.call 13 (.cons (.bin .LShift V3 V2) (.cons V1 .nil))))
 .skip)))
noncomputable def yB:Sx:=(.seq (.ifs (.cmp .Eq (.ix V0 J1) J1) (.seq (.ret (.tup (.cons J1 (.cons V1 (.cons J0 .nil)))))
 .skip) .skip)
 (.seq (.ifs (.cmp .Eq (.ix V0 J0) J1) (.seq (.ret (.tup (.cons J1 (.cons J0 (.cons V1 .nil)))))
 .skip) .skip)
 (.seq (.ret (.tup (.cons J1 (.cons V1 (.cons V1 .nil)))))
 .skip)))
noncomputable def aEu:Sx:=(.seq (.set 4 (.ix V0 J0))
 (.seq (.ifs (.cmp .Eq V4 (.str "and")) (.seq (.ret (.call 11 (.cons (.ix (.ix V2 J0) J0) (.cons (.ix (.ix V2 J1) J0) (.cons V3 .nil)))))
 .skip) .skip)
 (.seq (.ifs (.cmp .Eq V4 (.str "or")) (.seq (.ret (.call 11 (.cons (.ix (.ix V2 J0) J1) (.cons (.ix (.ix V2 J1) J1) (.cons V3 .nil)))))
 .skip) .skip)
 (.seq (.ifs (.cmp .In V4 (.tup (.cons (.str "add") (.cons (.str "sub") .nil)))) (.seq (.ret (.tup (.cons (.call 2 (.cons V3 .nil)) (.cons (.call 2 (.cons V3 .nil)) .nil))))
 .skip) .skip)
 (.seq (.ifs (.cmp .Eq V4 (.str "mul")) (.seq (.ret (.call 12 (.cons (.ix (.ix V2 J0) J0) (.cons (.ix (.ix V2 J1) J0) (.cons V3 .nil)))))
 .skip) .skip)
 (.seq (.ifs (.cmp .In V4 (.con "SHIFTS" qI)) (.seq (.ret (.tup (.cons (.call 14 (.cons V4 (.cons (.ix V0 J1) (.cons (.ix V0 J3) (.cons V3 .nil))))) .nil)))
 .skip) .skip)
 (.seq (.ifs (.cmp .Eq V4 (.str "wide")) (.seq (.ret (.tup (.cons (.bin .BitAnd V3 (.call 0 (.cons (.ix V1 J0) .nil))) .nil)))
 .skip) .skip)
 (.seq (.ifs (.cmp .Eq V4 (.str "sign")) (.seq (.ret (.tup (.cons (.call 13 (.cons V3 (.cons (.ix V1 J0) .nil))) .nil)))
 .skip) .skip)
 (.seq (.ifs (.cmp .In V4 (.con "COMPARES" qD)) (.seq (.ret (.tup (.cons (.call 0 (.cons (.ix V1 J0) .nil)) (.cons (.call 0 (.cons (.ix V1 J1) .nil)) .nil))))
 .skip) .skip)
 (.seq (.ifs (.cmp .Eq V4 (.str "pick")) (.seq (.ret (.call 15 (.cons (.ix V2 J0) (.cons V3 .nil))))
 .skip) .skip)
 (.seq (.ret (.bin .Mult (.tup (.cons V3 .nil)) (.blt .len (.cons (.call 7 (.cons V0 .nil)) .nil))))
 .skip)))))))))))
noncomputable def aC5:Sx:=(.seq (.ifs (.cmp .Eq V3 J0) (.seq (.ret (.bin .Mult (.tup (.cons J0 .nil)) (.blt .len (.cons (.call 7 (.cons V0 .nil)) .nil))))
 .skip) .skip)
 (.seq (.ret (.call 16 (.cons V0 (.cons V1 (.cons V2 (.cons V3 .nil))))))
 .skip))
noncomputable def aEl:E:=(.comp (.call 9 (.cons V0 (.cons V7 .nil))) (.one 7) (.it (.call 7 (.cons V4 .nil))) .no)
noncomputable def aE3:Sx:=(.seq (.set 4 (.ix (.ix V0 J0) V2))
 (.seq (.set 5 (.blt .tup (.cons (.fz aEl) .nil)))
 (.seq (.set 6 (.call 17 (.cons V4 (.cons V5 (.cons (.call 8 (.cons V4 (.cons V1 .nil))) (.cons V3 .nil))))))
 (.seq (.ret (.fz (.lzip (.call 7 (.cons V4 .nil)) V6)))
 .skip))))
noncomputable def yO:E:=(.it (.call 18 (.cons V0 (.cons V1 (.cons V4 (.cons (.ix V2 V4) .nil))))))
noncomputable def yN:Sx:=(.seq (.put V2 V7 (.bin .BitOr (.ix V2 V7) V8))
 .skip)
noncomputable def yS:E:=(.rng3 (.bin .Sub (.blt .len (.cons V5 .nil)) J1) (.un .USub J1) (.un .USub J1))
noncomputable def aBy:Sx:=(.seq (.loop (.many [7,8]) yO yN)
 .skip)
noncomputable def aBC:E:=(.it V6)
noncomputable def aBz:Sx:=(.seq (.put V2 V3 (.call 0 (.cons (.call 9 (.cons V0 (.cons V3 .nil))) .nil)))
 .skip)
noncomputable def gB:Sx:=(.seq (.setT (.many [5,6]) V0)
 (.seq (.set 2 (.new (.lrep (.fz (.lst (.cons J0 .nil))) (.blt .len (.cons V5 .nil)))))
 (.seq (.loop (.one 3) aBC aBz)
 (.seq (.loop (.one 4) yS aBy)
 (.seq (.ret (.blt .tup (.cons V2 .nil)))
 .skip)))))
noncomputable def aA7:E:=(.comp (.cmp .NotEq (.bin .BitAnd (.call 0 (.cons (.call 9 (.cons V0 (.cons V6 .nil))) .nil)) (.un .Invert (.ix V2 V6))) J0) (.one 6) (.it V5) .no)
noncomputable def aA6:E:=(.comp (.cmp .NotEq (.bin .BitAnd V8 (.un .Invert (.ix V2 V7))) J0) (.many [7,8]) (.it (.call 18 (.cons V0 (.cons V1 (.cons V3 (.cons (.ix V2 V3) .nil)))))) .no)
noncomputable def sM:E:=(.rng1 (.blt .len (.cons V4 .nil)))
noncomputable def oH:Sx:=(.seq (.ifs (.blt .any (.cons (.fz aA6) .nil)) (.seq (.ret V3)
 .skip) .skip)
 .skip)
noncomputable def iW:Sx:=(.seq (.setT (.many [4,5]) V0)
 (.seq (.loop (.one 3) sM oH)
 (.seq (.ifs (.blt .any (.cons (.fz aA7) .nil)) (.seq (.ret (.blt .len (.cons V4 .nil)))
 .skip) .skip)
 (.seq (.ret .non)
 .skip))))
noncomputable def aFp:Sx:=(.seq (.ret (.bin .BitXor (.call 0 (.cons V1 .nil)) (.call 0 (.cons (.bin .Sub V1 V0) .nil))))
 .skip)
noncomputable def aEQ:Sx:=(.seq (.ret (.bin .BitOr (.ix V0 J0) (.ix V0 J1)))
 .skip)
noncomputable def zE:Sx:=(.seq (.ret (.and (.cmp .Eq (.bin .BitAnd (.ix V0 J0) (.un .Invert (.ix V1 J0))) J0) (.and (.cmp .Eq (.bin .BitAnd (.ix V0 J1) (.un .Invert (.ix V1 J1))) J0) (.cmp .LtE (.ix V0 J2) (.ix V1 J2)))))
 .skip)
noncomputable def tY:Sx:=(.seq (.setT (.many [3,4,5]) V0)
 (.seq (.set 2 (.call 21 (.cons V5 (.cons V1 .nil))))
 (.seq (.ifs (.cmp .NotEq (.bin .BitAnd V3 V2) J0) (.seq (.set 3 (.bin .BitOr V3 V2))
 .skip) .skip)
 (.seq (.ifs (.cmp .NotEq (.bin .BitAnd V4 V2) J0) (.seq (.set 4 (.bin .BitOr V4 V2))
 .skip) .skip)
 (.seq (.ret (.tup (.cons V3 (.cons V4 (.cons (.blt .mx (.cons V5 (.cons (.call 4 (.cons V3 (.cons V1 .nil))) (.cons (.call 4 (.cons V4 (.cons V1 .nil))) .nil)))) .nil)))))
 .skip)))))
noncomputable def aIl:Sx:=(.seq (.ret (.ix V0 J1))
 .skip)
noncomputable def aFf:Sx:=(.seq (.ret (.bin .BitXor (.call 0 (.cons V1 .nil)) (.ix V0 J0)))
 .skip)
noncomputable def aNC:Sx:=(.seq (.ifs (.cmp .Eq V0 (.str "add")) (.seq (.ret (.bin .Add V1 V2))
 .skip) .skip)
 (.seq (.ifs (.cmp .Eq V0 (.str "sub")) (.seq (.ret (.bin .Sub V1 V2))
 .skip) .skip)
 (.seq (.ret (.bin .Mult V1 V2))
 .skip)))
noncomputable def aE4:Sx:=(.seq (.set 3 (.call 0 (.cons (.call 3 (.cons (.bin .BitAnd (.call 22 (.cons V1 .nil)) (.call 22 (.cons V2 .nil))) .nil)) .nil)))
 (.seq (.set 4 (.bin .BitAnd (.call 27 (.cons V0 (.cons (.call 25 (.cons V1 .nil)) (.cons (.call 25 (.cons V2 .nil)) .nil)))) V3))
 (.seq (.ret (.tup (.cons (.bin .BitXor V3 V4) (.cons V4 .nil))))
 .skip)))
noncomputable def xK:Sx:=(.seq (.ifs (.cmp .NotEq V0 (.str "mul")) (.seq (.ret J0)
 .skip) .skip)
 (.seq (.ret (.call 0 (.cons (.blt .mn (.cons V1 (.cons (.bin .Add (.call 3 (.cons (.ix V2 J0) .nil)) (.call 3 (.cons (.ix V3 J0) .nil))) .nil))) .nil)))
 .skip))
noncomputable def zK:Sx:=(.seq (.ifs (.cmp .Eq V0 (.str "sub")) (.seq (.ret (.tup (.cons (.bin .Sub (.call 25 (.cons V2 .nil)) (.call 26 (.cons V3 (.cons V1 .nil)))) (.cons (.bin .Sub (.call 26 (.cons V2 (.cons V1 .nil))) (.call 25 (.cons V3 .nil))) .nil))))
 .skip) .skip)
 (.seq (.set 4 (.call 27 (.cons V0 (.cons (.call 25 (.cons V2 .nil)) (.cons (.call 25 (.cons V3 .nil)) .nil)))))
 (.seq (.set 5 (.call 27 (.cons V0 (.cons (.call 26 (.cons V2 (.cons V1 .nil))) (.cons (.call 26 (.cons V3 (.cons V1 .nil))) .nil)))))
 (.seq (.ret (.tup (.cons V4 (.cons V5 .nil))))
 .skip))))
noncomputable def yD:Sx:=(.seq (.setT (.many [4,5]) (.call 30 (.cons V0 (.cons V1 (.cons V2 (.cons V3 .nil))))))
 (.seq (.ifs (.or (.cmp .Lt V4 J0) (.cmp .Gt V5 (.call 0 (.cons V1 .nil)))) (.seq (.ret (.tup (.cons J0 (.cons J0 .nil))))
 .skip) .skip)
 (.seq (.ret (.call 6 (.cons V4 (.cons V5 (.cons V1 .nil)))))
 .skip)))
noncomputable def yG:Sx:=(.seq (.ifs (.cmp .Eq V0 (.str "mul")) (.seq (.ret J1)
 .skip) .skip)
 (.seq (.ret (.blt .mx (.cons J1 (.cons (.bin .Sub (.blt .mn (.cons (.ix V1 J2) (.cons (.ix V2 J2) .nil))) J1) .nil))))
 .skip))
noncomputable def aE8:Sx:=(.seq (.set 4 (.call 28 (.cons V0 (.cons V2 (.cons V3 .nil)))))
 (.seq (.set 5 (.call 31 (.cons V0 (.cons V1 (.cons V2 (.cons V3 .nil))))))
 (.seq (.set 6 (.bin .BitOr (.bin .BitOr (.ix V4 J0) (.ix V5 J0)) (.call 29 (.cons V0 (.cons V1 (.cons V2 (.cons V3 .nil)))))))
 (.seq (.ret (.tup (.cons V6 (.cons (.bin .BitOr (.ix V4 J1) (.ix V5 J1)) (.cons (.call 32 (.cons V0 (.cons V2 (.cons V3 .nil)))) .nil)))))
 .skip))))
noncomputable def aFI:Sx:=(.seq (.ret (.tup (.cons (.bin .BitXor (.call 0 (.cons V0 .nil)) V1) (.cons V1 (.cons J1 .nil)))))
 .skip)
noncomputable def aEq:Sx:=(.seq (.ret (.bin .BitOr (.bin .BitAnd (.ix V0 J0) (.ix V1 J1)) (.bin .BitAnd (.ix V0 J1) (.ix V1 J0))))
 .skip)
noncomputable def xI:Sx:=(.seq (.set 3 (.blt .mn (.cons (.ix V1 J2) (.cons (.ix V2 J2) .nil))))
 (.seq (.ifs (.cmp .Eq V0 (.str "and")) (.seq (.ret (.tup (.cons (.bin .BitOr (.ix V1 J0) (.ix V2 J0)) (.cons (.bin .BitAnd (.ix V1 J1) (.ix V2 J1)) (.cons V3 .nil)))))
 .skip) .skip)
 (.seq (.ifs (.cmp .Eq V0 (.str "or")) (.seq (.ret (.tup (.cons (.bin .BitAnd (.ix V1 J0) (.ix V2 J0)) (.cons (.bin .BitOr (.ix V1 J1) (.ix V2 J1)) (.cons V3 .nil)))))
 .skip) .skip)
 (.seq (.set 4 (.bin .BitOr (.bin .BitAnd (.ix V1 J0) (.ix V2 J0)) (.bin .BitAnd (.ix V1 J1) (.ix V2 J1))))
 (.seq (.ret (.tup (.cons V4 (.cons (.call 35 (.cons V1 (.cons V2 .nil))) (.cons V3 .nil)))))
 .skip)))))
noncomputable def aEX:Sx:=(.seq (.set 3 (.bin .BitOr (.bin .LShift (.ix V1 J0) V2) (.call 0 (.cons V2 .nil))))
 (.seq (.ret (.tup (.cons (.bin .BitAnd V3 (.call 0 (.cons V0 .nil))) (.cons (.bin .BitAnd (.bin .LShift (.ix V1 J1) V2) (.call 0 (.cons V0 .nil))) (.cons (.blt .mx (.cons J1 (.cons (.bin .Sub (.ix V1 J2) V2) .nil))) .nil)))))
 .skip))
noncomputable def aBk:Sx:=(.seq (.set 3 (.bin .BitOr (.bin .RShift (.ix V1 J0) V2) (.call 21 (.cons (.blt .mn (.cons V2 (.cons V0 .nil))) (.cons V0 .nil)))))
 (.seq (.ret (.tup (.cons V3 (.cons (.bin .RShift (.ix V1 J1) V2) (.cons (.ite (.cmp .Eq V2 J0) (.ix V1 J2) J1) .nil)))))
 .skip))
noncomputable def aEJ:Sx:=(.seq (.set 3 (.bin .Add V0 V2))
 (.seq (.ret (.tup (.cons (.bin .RShift (.call 5 (.cons (.ix V1 J0) (.cons V0 (.cons V3 .nil)))) V2) (.cons (.bin .RShift (.call 5 (.cons (.ix V1 J1) (.cons V0 (.cons V3 .nil)))) V2) (.cons (.blt .mn (.cons V0 (.cons (.bin .Add (.ix V1 J2) V2) .nil))) .nil)))))
 .skip))
noncomputable def aK5:Sx:=(.seq (.ifs (.cmp .Eq V0 (.str "left")) (.seq (.ret (.call 37 (.cons V1 (.cons V2 (.cons V3 .nil)))))
 .skip) .skip)
 (.seq (.ifs (.cmp .Eq V0 (.str "right")) (.seq (.ret (.call 38 (.cons V1 (.cons V2 (.cons V3 .nil)))))
 .skip) .skip)
 (.seq (.ret (.call 39 (.cons V1 (.cons V2 (.cons V3 .nil)))))
 .skip)))
noncomputable def tG:Sx:=(.seq (.setT (.many [4,5,6]) V3)
 (.seq (.ifs (.cmp .Eq V0 (.str "cut")) (.seq (.ret (.tup (.cons (.bin .BitAnd V4 (.call 0 (.cons V2 .nil))) (.cons (.bin .BitAnd V5 (.call 0 (.cons V2 .nil))) (.cons (.blt .mx (.cons J1 (.cons (.bin .Sub V6 (.bin .Sub V1 V2)) .nil))) .nil)))))
 .skip) .skip)
 (.seq (.ifs (.cmp .Eq V0 (.str "wide")) (.seq (.ret (.tup (.cons (.bin .BitOr V4 (.call 21 (.cons (.bin .Sub V2 V1) (.cons V2 .nil)))) (.cons V5 (.cons (.ite (.cmp .Eq V2 V1) V6 J1) .nil)))))
 .skip) .skip)
 (.seq (.ret (.tup (.cons (.call 5 (.cons V4 (.cons V1 (.cons V2 .nil)))) (.cons (.call 5 (.cons V5 (.cons V1 (.cons V2 .nil)))) (.cons (.bin .Add V6 (.bin .Sub V2 V1)) .nil)))))
 .skip))))
noncomputable def xT:Sx:=(.seq (.ifs (.cmp .NotEq (.call 35 (.cons V1 (.cons V2 .nil))) J0) (.seq (.ret (.con "NOUGHT" tJ))
 .skip) .skip)
 (.seq (.ifs (.cmp .Eq (.bin .BitAnd (.call 22 (.cons V1 .nil)) (.call 22 (.cons V2 .nil))) (.call 0 (.cons V0 .nil))) (.seq (.ret (.con "ONE" uY))
 .skip) .skip)
 (.seq (.ret (.con "NOTHING" qE))
 .skip)))
noncomputable def xW:Sx:=(.seq (.ifs (.cmp .Lt (.call 26 (.cons V1 (.cons V0 .nil))) (.call 25 (.cons V2 .nil))) (.seq (.ret (.con "ONE" uY))
 .skip) .skip)
 (.seq (.ifs (.cmp .GtE (.call 25 (.cons V1 .nil)) (.call 26 (.cons V2 (.cons V0 .nil)))) (.seq (.ret (.con "NOUGHT" tJ))
 .skip) .skip)
 (.seq (.ret (.con "NOTHING" qE))
 .skip)))
noncomputable def aEI:Sx:=(.seq (.setT (.many [3,4,5]) V0)
 (.seq (.set 2 (.bin .BitAnd (.bin .BitXor V3 V4) (.call 21 (.cons J1 (.cons V1 .nil)))))
 (.seq (.ret (.tup (.cons (.bin .BitXor V3 V2) (.cons (.bin .BitXor V4 V2) (.cons V5 .nil)))))
 .skip)))
noncomputable def aKJ:Sx:=(.seq (.ifs (.cmp .Eq V0 (.str "same")) (.seq (.ret (.call 42 (.cons V1 (.cons V2 (.cons V3 .nil)))))
 .skip) .skip)
 (.seq (.ifs (.cmp .Eq V0 (.str "less")) (.seq (.ret (.call 43 (.cons V1 (.cons V2 (.cons V3 .nil)))))
 .skip) .skip)
 (.seq (.ret (.call 43 (.cons V1 (.cons (.call 44 (.cons V2 (.cons V1 .nil))) (.cons (.call 44 (.cons V3 (.cons V1 .nil))) .nil)))))
 .skip)))
noncomputable def xX:Sx:=(.seq (.ifs (.cmp .Eq (.ix V0 J1) J1) (.seq (.ret V1)
 .skip) .skip)
 (.seq (.ifs (.cmp .Eq (.ix V0 J0) J1) (.seq (.ret V2)
 .skip) .skip)
 (.seq (.ret (.tup (.cons (.bin .BitAnd (.ix V1 J0) (.ix V2 J0)) (.cons (.bin .BitAnd (.ix V1 J1) (.ix V2 J1)) (.cons (.blt .mn (.cons (.ix V1 J2) (.cons (.ix V2 J2) .nil))) .nil)))))
 .skip)))
noncomputable def aLp:Sx:=(.seq (.set 3 (.ix V0 J0))
 (.seq (.set 4 (.ix V0 J1))
 (.seq (.ifs (.cmp .Eq V3 (.str "in")) (.seq (.ret (.con "NOTHING" qE))
 .skip) .skip)
 (.seq (.ifs (.cmp .Eq V3 (.str "num")) (.seq (.ret (.call 34 (.cons V4 (.cons (.ix V0 J2) .nil))))
 .skip) .skip)
 (.seq (.ifs (.cmp .Eq V3 (.str "not")) (.seq (.ret (.tup (.cons (.ix (.ix V2 J0) J1) (.cons (.ix (.ix V2 J0) J0) (.cons (.ix (.ix V2 J0) J2) .nil)))))
 .skip) .skip)
 (.seq (.ifs (.cmp .In V3 (.con "SUMS" aCZ)) (.seq (.ret (.call 33 (.cons V3 (.cons V4 (.cons (.ix V2 J0) (.cons (.ix V2 J1) .nil))))))
 .skip) .skip)
 (.seq (.ifs (.cmp .In V3 (.con "SHIFTS" qI)) (.seq (.ret (.call 40 (.cons V3 (.cons V4 (.cons (.ix V2 J0) (.cons (.ix V0 J3) .nil))))))
 .skip) .skip)
 (.seq (.ifs (.cmp .In V3 (.con "COMPARES" qD)) (.seq (.ret (.call 45 (.cons V3 (.cons (.ix V1 J0) (.cons (.ix V2 J0) (.cons (.ix V2 J1) .nil))))))
 .skip) .skip)
 (.seq (.ifs (.cmp .Eq V3 (.str "pick")) (.seq (.ret (.call 46 (.cons (.ix V2 J0) (.cons (.ix V2 J1) (.cons (.ix V2 J2) .nil)))))
 .skip) .skip)
 (.seq (.ifs (.cmp .In V3 (.tup (.cons (.str "and") (.cons (.str "or") (.cons (.str "xor") .nil))))) (.seq (.ret (.call 36 (.cons V3 (.cons (.ix V2 J0) (.cons (.ix V2 J1) .nil)))))
 .skip) .skip)
 (.seq (.ret (.call 41 (.cons V3 (.cons (.ix V1 J0) (.cons V4 (.cons (.ix V2 J0) .nil))))))
 .skip)))))))))))
noncomputable def aJd:Sx:=(.seq (.ret (.call 24 (.cons (.call 47 (.cons V0 (.cons V1 (.cons V2 .nil)))) (.cons (.ix V0 J1) .nil))))
 .skip)
noncomputable def xL:E:=(.it (.ix V0 J0))
noncomputable def xJ:Sx:=(.seq (.expr (.app V2 (.call 48 (.cons V3 (.cons (.call 8 (.cons V3 (.cons V1 .nil))) (.cons (.call 8 (.cons V3 (.cons V2 .nil))) .nil))))))
 .skip)
noncomputable def aFN:Sx:=(.seq (.set 1 (.call 10 (.cons V0 .nil)))
 (.seq (.set 2 (.new (.lst .nil)))
 (.seq (.loop (.one 3) xL xJ)
 (.seq (.ret (.blt .tup (.cons V2 .nil)))
 .skip))))
noncomputable def xB:E:=(.enm (.ix V0 J0))
noncomputable def xD:Sx:=(.seq (.ifs (.not (.call 23 (.cons (.ix V1 V3) (.cons (.call 48 (.cons V4 (.cons (.call 8 (.cons V4 (.cons V2 .nil))) (.cons (.call 8 (.cons V4 (.cons V1 .nil))) .nil)))) .nil)))) (.seq (.ret V3)
 .skip) .skip)
 .skip)
noncomputable def aEC:Sx:=(.seq (.set 2 (.call 10 (.cons V0 .nil)))
 (.seq (.loop (.many [3,4]) xB xD)
 (.seq (.ret .non)
 .skip)))
noncomputable def aGu:Sx:=(.seq (.ret (.bin .BitXor V0 (.bin .LShift J1 (.bin .Sub V1 J1))))
 .skip)
noncomputable def aL0:Sx:=(.seq (.ifs (.cmp .Eq V0 (.str "same")) (.seq (.set 4 (.cmp .Eq V2 V3))
 .skip) (.seq (.ifs (.cmp .Eq V0 (.str "less")) (.seq (.set 4 (.cmp .Lt V2 V3))
 .skip) (.seq (.set 4 (.cmp .Lt (.call 51 (.cons V2 (.cons V1 .nil))) (.call 51 (.cons V3 (.cons V1 .nil)))))
 .skip))
 .skip))
 (.seq (.ret (.ite V4 J1 J0))
 .skip))
noncomputable def aM7:Sx:=(.seq (.ifs (.cmp .Eq V0 (.str "left")) (.seq (.ret (.bin .BitAnd (.bin .LShift V2 V3) (.call 0 (.cons V1 .nil))))
 .skip) .skip)
 (.seq (.ifs (.cmp .Eq V0 (.str "right")) (.seq (.ret (.bin .RShift V2 V3))
 .skip) .skip)
 (.seq (.ret (.bin .RShift (.call 5 (.cons V2 (.cons V1 (.cons (.bin .Add V1 V3) .nil)))) V3))
 .skip)))
noncomputable def aL6:Sx:=(.seq (.ifs (.cmp .Eq V0 (.str "and")) (.seq (.ret (.bin .BitAnd V2 V3))
 .skip) .skip)
 (.seq (.ifs (.cmp .Eq V0 (.str "or")) (.seq (.ret (.bin .BitOr V2 V3))
 .skip) .skip)
 (.seq (.ifs (.cmp .Eq V0 (.str "xor")) (.seq (.ret (.bin .BitXor V2 V3))
 .skip) .skip)
 (.seq (.ifs (.cmp .Eq V0 (.str "add")) (.seq (.ret (.bin .BitAnd (.bin .Add V2 V3) (.call 0 (.cons V1 .nil))))
 .skip) .skip)
 (.seq (.ifs (.cmp .Eq V0 (.str "sub")) (.seq (.ret (.bin .BitAnd (.bin .Sub V2 V3) (.call 0 (.cons V1 .nil))))
 .skip) .skip)
 (.seq (.ret (.bin .BitAnd (.bin .Mult V2 V3) (.call 0 (.cons V1 .nil))))
 .skip))))))
noncomputable def aDc:Sx:=(.seq (.set 3 (.ix V0 J0))
 (.seq (.set 4 (.ix V0 J1))
 (.seq (.ifs (.cmp .Eq V3 (.str "num")) (.seq (.ret (.ix V0 J2))
 .skip) .skip)
 (.seq (.ifs (.cmp .Eq V3 (.str "not")) (.seq (.ret (.bin .BitXor (.ix V2 J0) (.call 0 (.cons V4 .nil))))
 .skip) .skip)
 (.seq (.ifs (.cmp .In V3 (.con "SHIFTS" qI)) (.seq (.ret (.call 53 (.cons V3 (.cons V4 (.cons (.ix V2 J0) (.cons (.ix V0 J3) .nil))))))
 .skip) .skip)
 (.seq (.ifs (.cmp .Eq V3 (.str "cut")) (.seq (.ret (.bin .BitAnd (.ix V2 J0) (.call 0 (.cons V4 .nil))))
 .skip) .skip)
 (.seq (.ifs (.cmp .Eq V3 (.str "wide")) (.seq (.ret (.ix V2 J0))
 .skip) .skip)
 (.seq (.ifs (.cmp .Eq V3 (.str "sign")) (.seq (.ret (.call 5 (.cons (.ix V2 J0) (.cons (.ix V1 J0) (.cons V4 .nil)))))
 .skip) .skip)
 (.seq (.ifs (.cmp .In V3 (.con "COMPARES" qD)) (.seq (.ret (.call 52 (.cons V3 (.cons (.ix V1 J0) (.cons (.ix V2 J0) (.cons (.ix V2 J1) .nil))))))
 .skip) .skip)
 (.seq (.ifs (.cmp .Eq V3 (.str "pick")) (.seq (.ret (.ite (.cmp .Eq (.ix V2 J0) J1) (.ix V2 J1) (.ix V2 J2)))
 .skip) .skip)
 (.seq (.ret (.call 54 (.cons V3 (.cons V4 (.cons (.ix V2 J0) (.cons (.ix V2 J1) .nil))))))
 .skip)))))))))))
noncomputable def yF:E:=(.zip (.ix V0 J0) V2)
noncomputable def sX:Sx:=(.seq (.ifs (.cmp .Eq (.ix V6 J0) (.str "in")) (.seq (.set 8 (.ix V1 V5))
 (.seq (.set 5 (.bin .Add V5 J1))
 .skip)) (.seq (.set 8 (.call 55 (.cons V6 (.cons (.call 8 (.cons V6 (.cons V3 .nil))) (.cons (.call 8 (.cons V6 (.cons V4 .nil))) .nil)))))
 .skip))
 (.seq (.expr (.app V4 (.bin .BitXor V8 V7)))
 .skip))
noncomputable def aHb:Sx:=(.seq (.set 3 (.call 10 (.cons V0 .nil)))
 (.seq (.set 4 (.new (.lst .nil)))
 (.seq (.set 5 J0)
 (.seq (.loop (.many [6,7]) yF sX)
 (.seq (.ret (.blt .tup (.cons V4 .nil)))
 .skip)))))
noncomputable def aJW:Sx:=(.seq (.ret (.call 56 (.cons V0 (.cons V1 (.cons (.bin .Mult (.tup (.cons J0 .nil)) (.blt .len (.cons (.ix V0 J0) .nil))) .nil)))))
 .skip)
noncomputable def aEN:E:=(.comp (.ix V1 V2) (.one 2) (.it (.ix V0 J1)) .no)
noncomputable def aFY:Sx:=(.seq (.ret (.blt .tup (.cons (.fz aEN) .nil)))
 .skip)
noncomputable def aIz:Sx:=(.seq (.ret (.call 58 (.cons V0 (.cons (.call 57 (.cons V0 (.cons V1 .nil))) .nil))))
 .skip)
noncomputable def iF:Sx:=(.seq (.setT (.many [3,4]) (.sl V0 .no (.cons J2 .nil)))
 (.seq (.put V0 J1 (.bin .Add V4 J1))
 (.seq (.ifs (.and (.cmp .Lt (.bin .Add (.bin .FloorDiv V4 (.int 12)) J1) (.blt .len (.cons V3 .nil))) (.cmp .Eq (.bin .Mod (.ix V3 J0) J2) J1)) (.seq (.ifs (.cmp .Eq (.bin .Mod V4 (.int 12)) J0) (.seq (.put V0 J2 (.ix V3 (.bin .Add (.bin .FloorDiv V4 (.int 12)) J1)))
 .skip) .skip)
 (.seq (.set 5 (.bin .Mod (.ix V0 J2) V1))
 (.seq (.put V0 J2 (.bin .FloorDiv (.ix V0 J2) V1))
 (.seq (.ret V5)
 .skip)))) .skip)
 (.seq (.ifs (.cmp .Lt V4 (.blt .len (.cons V3 .nil))) (.seq (.ret (.bin .Mod (.ix V3 V4) V1))
 .skip) .skip)
 (.seq (.set 2 (.bin .Add (.bin .Mult V4 (.int 7919)) J5))
 (.seq (.ifs (.cmp .Gt (.blt .len (.cons (.ix V0 J0) .nil)) J0) (.seq (.set 2 (.bin .Add V2 (.bin .Mult (.ix (.ix V0 J0) (.bin .Mod (.bin .Mult V4 J7) (.blt .len (.cons (.ix V0 J0) .nil)))) (.bin .Add (.int 48271) V4))))
 .skip) .skip)
 (.seq (.set 2 (.bin .Mod (.bin .Mult (.bin .Mod V2 (.int 2147483629)) (.bin .Add V4 J3)) (.int 2147483629)))
 (.seq (.set 2 (.bin .Mod (.bin .Mult V2 V2) (.int 2147483587)))
 (.seq (.ret (.bin .Mod (.bin .Mod (.bin .Mult V2 V2) (.int 1999999973)) V1))
 .skip)))))))))
noncomputable def aBd:Sx:=(.seq (.ifs (.cmp .Lt V1 (.int 31)) (.seq (.ret (.call 60 (.cons V0 (.cons (.bin .LShift J1 V1) .nil))))
 .skip) .skip)
 (.seq (.ret (.bin .Add (.call 60 (.cons V0 (.cons (.bin .LShift J1 (.int 30)) .nil))) (.bin .LShift (.call 60 (.cons V0 (.cons (.bin .LShift J1 (.bin .Sub V1 (.int 30))) .nil))) (.int 30))))
 .skip))
noncomputable def aEF:Sx:=(.seq (.ret (.ix (.fz (.lst (.cons J1 (.cons (.int 64) (.cons (.bin .Add J1 (.call 60 (.cons V0 (.cons J8 .nil)))) (.cons (.bin .Add J1 (.call 60 (.cons V0 (.cons (.int 64) .nil)))) .nil)))))) (.call 60 (.cons V0 (.cons J4 .nil)))))
 .skip)
noncomputable def aBD:Sx:=(.seq (.set 2 (.call 60 (.cons V0 (.cons J5 .nil))))
 (.seq (.set 3 (.fz (.lst (.cons J0 (.cons (.bin .Sub (.bin .LShift J1 V1) J1) (.cons (.bin .LShift J1 (.call 60 (.cons V0 (.cons V1 .nil)))) (.cons (.bin .Sub (.bin .LShift J1 (.call 60 (.cons V0 (.cons V1 .nil)))) J1) .nil)))))))
 (.seq (.ifs (.cmp .Lt V2 J4) (.seq (.ret (.ix V3 V2))
 .skip) .skip)
 (.seq (.ret (.call 61 (.cons V0 (.cons V1 .nil))))
 .skip))))
noncomputable def tB:Sx:=(.seq (.ifs (.cmp .Eq (.ix (.ix V1 V2) J1) V3) (.seq (.ret V2)
 .skip) .skip)
 (.seq (.set 4 (.ix (.fz (.lst (.cons (.str "wide") (.cons (.str "sign") .nil)))) (.call 60 (.cons V0 (.cons J2 .nil)))))
 (.seq (.ifs (.cmp .Gt (.ix (.ix V1 V2) J1) V3) (.seq (.set 4 (.str "cut"))
 .skip) .skip)
 (.seq (.expr (.app V1 (.tup (.cons V4 (.cons V3 (.cons V2 .nil))))))
 (.seq (.ret (.bin .Sub (.blt .len (.cons V1 .nil)) J1))
 .skip)))))
noncomputable def aKp:E:=(.comp V4 (.one 4) (.rng1 (.blt .len (.cons V1 .nil))) (.cmp .Eq (.ix (.ix V1 V4) J1) V2))
noncomputable def sP:Sx:=(.seq (.setC false 3 aKp)
 (.seq (.ifs (.and (.cmp .NotEq V3 (.fz (.lst .nil))) (.cmp .Gt (.call 60 (.cons V0 (.cons J4 .nil))) J0)) (.seq (.ret (.ix V3 (.bin .Sub (.bin .Sub (.blt .len (.cons V3 .nil)) J1) (.call 60 (.cons V0 (.cons (.blt .len (.cons V3 .nil)) .nil))))))
 .skip) .skip)
 (.seq (.ret (.call 64 (.cons V0 (.cons V1 (.cons (.call 60 (.cons V0 (.cons (.blt .len (.cons V1 .nil)) .nil))) (.cons V2 .nil))))))
 .skip)))
noncomputable def aA3:Sx:=(.seq (.set 3 (.call 60 (.cons V0 (.cons (.blt .len (.cons V1 .nil)) .nil))))
 (.seq (.set 4 (.ix (.ix V1 V3) J1))
 (.seq (.ifs (.cmp .Eq V2 (.str "cut")) (.seq (.ret (.tup (.cons (.str "cut") (.cons (.bin .Add J1 (.call 60 (.cons V0 (.cons V4 .nil)))) (.cons V3 .nil)))))
 .skip) .skip)
 (.seq (.ret (.tup (.cons V2 (.cons (.bin .Add V4 (.call 60 (.cons V0 (.cons (.bin .Sub (.int 65) V4) .nil)))) (.cons V3 .nil)))))
 .skip))))
noncomputable def aBl:Sx:=(.seq (.set 4 (.ix (.fz (.lst (.cons (.call 60 (.cons V0 (.cons V3 .nil))) (.cons (.call 60 (.cons V0 (.cons (.int 64) .nil))) .nil)))) (.bin .FloorDiv (.call 60 (.cons V0 (.cons J4 .nil))) J3)))
 (.seq (.ret (.tup (.cons V2 (.cons V3 (.cons (.call 65 (.cons V0 (.cons V1 (.cons V3 .nil)))) (.cons V4 .nil))))))
 .skip))
noncomputable def aBt:Sx:=(.seq (.set 4 (.call 65 (.cons V0 (.cons V1 (.cons V3 .nil)))))
 (.seq (.set 5 (.call 65 (.cons V0 (.cons V1 (.cons V3 .nil)))))
 (.seq (.ifs (.cmp .In V2 (.tup (.cons (.str "same") (.cons (.str "less") (.cons (.str "under") .nil))))) (.seq (.set 3 J1)
 .skip) .skip)
 (.seq (.ret (.tup (.cons V2 (.cons V3 (.cons V4 (.cons V5 .nil))))))
 .skip))))
noncomputable def jK:Sx:=(.seq (.set 2 (.fz (.lst (.cons (.str "in") (.cons (.str "num") (.cons (.str "num") (.cons (.str "not") (.cons (.str "and") (.cons (.str "or") (.cons (.str "xor") (.cons (.str "add") (.cons (.str "sub") (.cons (.str "mul") (.cons (.str "left") (.cons (.str "right") (.cons (.str "slide") (.cons (.str "cut") .nil)))))))))))))))))
 (.seq (.set 2 (.bin .Add V2 (.fz (.lst (.cons (.str "wide") (.cons (.str "sign") (.cons (.str "same") (.cons (.str "less") (.cons (.str "under") (.cons (.str "pick") .nil))))))))))
 (.seq (.set 3 (.ix V2 (.call 60 (.cons V0 (.cons (.int 20) .nil)))))
 (.seq (.set 4 (.ix (.ix V1 (.call 60 (.cons V0 (.cons (.blt .len (.cons V1 .nil)) .nil)))) J1))
 (.seq (.ifs (.cmp .Eq (.call 60 (.cons V0 (.cons J4 .nil))) J1) (.seq (.set 4 (.call 62 (.cons V0 .nil)))
 .skip) .skip)
 (.seq (.ifs (.cmp .Eq V3 (.str "in")) (.seq (.set 5 (.tup (.cons (.str "in") (.cons V4 .nil))))
 .skip) (.seq (.ifs (.cmp .Eq V3 (.str "num")) (.seq (.set 5 (.tup (.cons (.str "num") (.cons V4 (.cons (.call 63 (.cons V0 (.cons V4 .nil))) .nil)))))
 .skip) (.seq (.ifs (.cmp .Eq V3 (.str "not")) (.seq (.set 5 (.tup (.cons (.str "not") (.cons V4 (.cons (.call 65 (.cons V0 (.cons V1 (.cons V4 .nil)))) .nil)))))
 .skip) (.seq (.ifs (.cmp .In V3 (.tup (.cons (.str "left") (.cons (.str "right") (.cons (.str "slide") .nil))))) (.seq (.set 5 (.call 67 (.cons V0 (.cons V1 (.cons V3 (.cons V4 .nil))))))
 .skip) (.seq (.ifs (.cmp .In V3 (.tup (.cons (.str "cut") (.cons (.str "wide") (.cons (.str "sign") .nil))))) (.seq (.set 5 (.call 66 (.cons V0 (.cons V1 (.cons V3 .nil)))))
 .skip) (.seq (.ifs (.cmp .Eq V3 (.str "pick")) (.seq (.set 6 (.call 65 (.cons V0 (.cons V1 (.cons J1 .nil)))))
 (.seq (.set 5 (.bin .Add (.tup (.cons (.str "pick") (.cons V4 (.cons V6 .nil)))) (.sl (.call 68 (.cons V0 (.cons V1 (.cons V3 (.cons V4 .nil))))) (.cons J2 .nil) .no)))
 .skip)) (.seq (.set 5 (.call 68 (.cons V0 (.cons V1 (.cons V3 (.cons V4 .nil))))))
 .skip))
 .skip))
 .skip))
 .skip))
 .skip))
 .skip))
 (.seq (.expr (.app V1 V5))
 .skip)))))))
noncomputable def aA4:E:=(.rng1 (.ix (.fz (.lst (.cons (.call 60 (.cons V0 (.cons J3 .nil))) (.cons J7 .nil)))) (.blt .int (.cons (.cmp .Eq (.call 60 (.cons V0 (.cons J8 .nil))) J1) .nil))))
noncomputable def aA5:Sx:=(.seq (.expr (.app V6 (.call 60 (.cons V0 (.cons (.blt .len (.cons V3 .nil)) .nil)))))
 .skip)
noncomputable def wY:E:=(.rng1 V1)
noncomputable def wX:Sx:=(.seq (.ifs (.cmp .Lt (.blt .len (.cons V3 .nil)) (.int 37)) (.seq (.expr (.call 69 (.cons V0 (.cons V3 .nil))))
 .skip) .skip)
 .skip)
noncomputable def gL:Sx:=(.seq (.set 2 (.call 62 (.cons V0 .nil)))
 (.seq (.set 3 (.new (.lst (.cons (.tup (.cons (.str "in") (.cons V2 .nil))) .nil))))
 (.seq (.ifs (.cmp .Eq (.call 60 (.cons V0 (.cons J8 .nil))) J1) (.seq (.set 3 (.new (.lst (.cons (.tup (.cons (.str "num") (.cons V2 (.cons (.call 63 (.cons V0 (.cons V2 .nil))) .nil)))) .nil))))
 .skip) .skip)
 (.seq (.loop (.one 4) wY wX)
 (.seq (.set 5 (.fz (.lst (.cons (.bin .Sub (.blt .len (.cons V3 .nil)) J1) (.cons (.call 60 (.cons V0 (.cons (.blt .len (.cons V3 .nil)) .nil))) .nil)))))
 (.seq (.set 6 (.new (.lst (.cons (.ix V5 (.blt .int (.cons (.cmp .Eq (.call 60 (.cons V0 (.cons J4 .nil))) J1) .nil))) .nil))))
 (.seq (.loop (.one 4) aA4 aA5)
 (.seq (.ret (.tup (.cons (.blt .tup (.cons V3 .nil)) (.cons (.blt .tup (.cons V6 .nil)) .nil))))
 .skip))))))))
noncomputable def wZ:E:=(.it (.ix V1 J0))
noncomputable def sL:Sx:=(.seq (.ifs (.cmp .Eq (.ix V3 J0) (.str "in")) (.seq (.expr (.app V2 (.call 63 (.cons V0 (.cons (.ix V3 J1) .nil)))))
 .skip) .skip)
 .skip)
noncomputable def aEr:Sx:=(.seq (.set 2 (.new (.lst .nil)))
 (.seq (.loop (.one 3) wZ sL)
 (.seq (.ret (.blt .tup (.cons V2 .nil)))
 .skip)))
noncomputable def aA9:Sx:=(.seq (.ifs (.cmp .Gt (.call 60 (.cons V0 (.cons J3 .nil))) J0) (.seq (.ret V1)
 .skip) .skip)
 (.seq (.set 3 (.bin .BitOr (.call 61 (.cons V0 (.cons V2 .nil))) (.call 61 (.cons V0 (.cons V2 .nil)))))
 (.seq (.ret (.tup (.cons (.bin .BitAnd (.ix V1 J0) V3) (.cons (.bin .BitAnd (.ix V1 J1) V3) (.cons (.bin .Add J1 (.call 60 (.cons V0 (.cons (.ix V1 J2) .nil)))) .nil)))))
 .skip)))
noncomputable def aEe:E:=(.comp (.ix (.ix (.ix V0 J0) V3) J1) (.one 3) (.it V2) .no)
noncomputable def aED:Sx:=(.seq (.set 2 (.call 7 (.cons (.ix (.ix V0 J0) V1) .nil)))
 (.seq (.ret (.tup (.cons V2 (.cons (.blt .tup (.cons (.fz aEe) .nil)) .nil))))
 .skip))
noncomputable def aEf:E:=(.comp (.ix V2 V8) (.one 8) (.it V6) .no)
noncomputable def xA:E:=(.rng1 (.blt .len (.cons (.ix V1 J0) .nil)))
noncomputable def xH:Sx:=(.seq (.setT (.many [6,7]) (.call 73 (.cons V1 (.cons V3 .nil))))
 (.seq (.set 4 (.blt .tup (.cons (.fz aEf) .nil)))
 (.seq (.set 5 (.ix (.ix V1 J0) V3))
 (.seq (.expr (.app V2 (.call 72 (.cons V0 (.cons (.call 48 (.cons V5 (.cons V7 (.cons V4 .nil)))) (.cons (.ix V5 J1) .nil))))))
 .skip))))
noncomputable def aBh:Sx:=(.seq (.ifs (.cmp .Eq (.call 60 (.cons V0 (.cons J2 .nil))) J1) (.seq (.ret (.call 49 (.cons V1 .nil)))
 .skip) .skip)
 (.seq (.set 2 (.new (.lst .nil)))
 (.seq (.loop (.one 3) xA xH)
 (.seq (.ret (.blt .tup (.cons V2 .nil)))
 .skip))))
noncomputable def aEi:E:=(.comp (.ix V1 V6) (.one 6) (.it V4) .no)
noncomputable def aEx:Sx:=(.seq (.setT (.many [4,5]) (.call 73 (.cons V0 (.cons V2 .nil))))
 (.seq (.ret (.fz (.lzip V4 (.call 17 (.cons (.ix (.ix V0 J0) V2) (.cons V5 (.cons (.blt .tup (.cons (.fz aEi) .nil)) (.cons V3 .nil))))))))
 .skip))
noncomputable def sN:E:=(.it (.call 75 (.cons V1 (.cons V2 (.cons V4 (.cons (.ix V3 V4) .nil))))))
noncomputable def sO:Sx:=(.seq (.put V3 V6 (.bin .BitOr (.ix V3 V6) V7))
 .skip)
noncomputable def xE:E:=(.rrng (.blt .len (.cons V3 .nil)))
noncomputable def jJ:Sx:=(.seq (.ifs (.cmp .Eq (.call 60 (.cons V0 (.cons J8 .nil))) J1) (.seq (.put V3 V4 (.bin .BitOr (.ix V3 V4) (.bin .LShift J1 (.call 60 (.cons V0 (.cons (.ix (.ix (.ix V1 J0) V4) J1) .nil))))))
 .skip) .skip)
 (.seq (.loop (.many [6,7]) sN sO)
 .skip))
noncomputable def xC:E:=(.it (.ix V1 J1))
noncomputable def xF:Sx:=(.seq (.put V3 V4 (.bin .Sub (.bin .LShift J1 (.ix (.ix (.ix V1 J0) V4) J1)) J1))
 .skip)
noncomputable def aEg:E:=(.comp J0 (.one 5) (.it (.ix V1 J0)) .no)
noncomputable def aBe:Sx:=(.seq (.ifs (.cmp .Eq (.call 60 (.cons V0 (.cons J2 .nil))) J1) (.seq (.ret (.call 19 (.cons V1 (.cons V2 .nil))))
 .skip) .skip)
 (.seq (.setC true 3 aEg)
 (.seq (.loop (.one 4) xC xF)
 (.seq (.loop (.one 4) xE jJ)
 (.seq (.ret (.blt .tup (.cons V3 .nil)))
 .skip)))))
noncomputable def xG:E:=(.zip (.ix V1 J0) V2)
noncomputable def eG:Sx:=(.seq (.set 7 (.bin .Sub (.bin .LShift J1 (.ix V5 J1)) J1))
 (.seq (.set 8 V7)
 (.seq (.ifs (.and (.cmp .Eq V4 J1) (.cmp .Gt (.call 60 (.cons V0 (.cons J3 .nil))) J0)) (.seq (.set 8 J0)
 .skip) .skip)
 (.seq (.ifs (.cmp .Eq V4 J2) (.seq (.set 8 (.call 61 (.cons V0 (.cons (.ix V5 J1) .nil))))
 .skip) .skip)
 (.seq (.expr (.app V3 (.bin .BitAnd V8 (.un .Invert V6))))
 .skip)))))
noncomputable def aEH:Sx:=(.seq (.set 3 (.new (.lst .nil)))
 (.seq (.set 4 (.call 60 (.cons V0 (.cons J3 .nil))))
 (.seq (.loop (.many [5,6]) xG eG)
 (.seq (.ret (.blt .tup (.cons V3 .nil)))
 .skip))))
noncomputable def aGU:E:=(.comp (.ix V8 (.var 12)) (.one 12) (.it (.ix V2 J1)) .no)
noncomputable def aCe:E:=(.comp (.cmp .NotEq (.bin .BitAnd (.bin .BitXor V9 (.var 10)) (.var 11)) J0) (.many [9,10,11]) (.zip3 V7 V8 V4) .no)
noncomputable def zG:E:=(.rng1 J4)
noncomputable def tT:Sx:=(.seq (.set 6 (.call 71 (.cons V1 (.cons V2 .nil))))
 (.seq (.set 7 (.call 57 (.cons V2 (.cons V6 .nil))))
 (.seq (.set 8 (.call 56 (.cons V2 (.cons V6 (.cons (.call 77 (.cons V1 (.cons V2 (.cons V4 .nil)))) .nil)))))
 (.seq (.ifs (.blt .any (.cons (.fz aCe) .nil)) (.seq (.ret (.bl false))
 .skip) .skip)
 (.seq (.ifs (.cmp .NotEq (.blt .tup (.cons (.fz aGU) .nil)) (.call 59 (.cons V2 (.cons V6 .nil)))) (.seq (.ret (.bl false))
 .skip) .skip)
 .skip)))))
noncomputable def iR:Sx:=(.seq (.set 1 (.new (.lst (.cons V0 (.cons J0 (.cons J0 .nil))))))
 (.seq (.set 2 (.call 70 (.cons V1 (.cons (.bin .Add J1 (.blt .mn (.cons (.blt .len (.cons V0 .nil)) (.cons (.int 24) .nil)))) .nil))))
 (.seq (.set 3 (.call 74 (.cons V1 (.cons V2 .nil))))
 (.seq (.set 4 (.call 76 (.cons V1 (.cons V2 (.cons V3 .nil)))))
 (.seq (.ifs (.or (.cmp .IsNot (.call 50 (.cons V2 (.cons V3 .nil))) .non) (.cmp .IsNot (.call 20 (.cons V2 (.cons V3 (.cons V4 .nil)))) .non)) (.seq (.ret (.bl false))
 .skip) .skip)
 (.seq (.loop (.one 5) zG tT)
 (.seq (.ret (.bl true))
 .skip)))))))
noncomputable def fns:List Fn:=[
 {name:="full",np:=1,N:=["width"],body:=aI6,st:=top 1 },
 {name:="reach",np:=1,N:=["number"],body:=aH4,st:=top 2 },
 {name:="below",np:=1,N:=["number"],body:=aHx,st:=top 3 },
 {name:="low_run",np:=1,N:=["number"],body:=aFX,st:=top 4 },
 {name:="top_run",np:=2,N:=["number", "width"],body:=aGo,st:=top 5 },
 {name:="stretched",np:=3,N:=["number", "width", "wider", "top"],body:=aBp,st:=top 6 },
 {name:="shared_top",np:=3,N:=["least", "greatest", "width", "known", "ones"],body:=aEL,st:=top 7 },
 {name:="operands",np:=1,N:=["row"],body:=aLZ,st:=top 13 },
 {name:="of_operands",np:=2,N:=["row", "values", "k"],body:=aEo,st:=top 14 },
 {name:="width_of",np:=2,N:=["program", "k", "rows"],body:=aFl,st:=top 15 },
 {name:="widths_of",np:=1,N:=["program", "row"],body:=aEW,st:=top 16 },
 {name:="settled_need",np:=3,N:=["first", "second", "mask"],body:=aEm,st:=top 18 },
 {name:="mul_need",np:=3,N:=["first", "second", "mask", "h", "u", "g"],body:=aFh,st:=top 19 },
 {name:="folded",np:=2,N:=["mask", "width"],body:=aCv,st:=top 20 },
 {name:="shift_need",np:=4,N:=["word", "width", "k", "mask"],body:=xN,st:=top 21 },
 {name:="pick_need",np:=2,N:=["choice", "mask"],body:=yB,st:=top 22 },
 {name:="asking_need",np:=4,N:=["row", "widths", "facts", "mask", "word"],body:=aEu,st:=top 23 },
 {name:="need",np:=4,N:=["row", "widths", "facts", "mask"],body:=aC5,st:=top 24 },
 {name:="row_needs",np:=4,N:=["program", "facts", "k", "mask", "row", "widths", "needs", "operand"],body:=aE3,st:=top 26 },
 {name:="asked",np:=2,N:=["program", "facts", "masks", "out", "k", "rows", "outs", "operand", "mask"],body:=gB,st:=top 27 },
 {name:="wrong_mask",np:=3,N:=["program", "facts", "masks", "k", "rows", "outs", "out", "operand", "mask"],body:=iW,st:=top 28 },
 {name:="top_mask",np:=2,N:=["count", "width"],body:=aFp,st:=top 30 },
 {name:="known_bits",np:=1,N:=["fact"],body:=aEQ,st:=top 31 },
 {name:="weaker",np:=2,N:=["one", "other"],body:=zE,st:=top 32 },
 {name:="closed",np:=2,N:=["fact", "width", "top", "noughts", "ones", "alike"],body:=tY,st:=top 33 },
 {name:="least",np:=1,N:=["fact"],body:=aIl,st:=top 34 },
 {name:="greatest",np:=2,N:=["fact", "width"],body:=aFf,st:=top 35 },
 {name:="outcome",np:=3,N:=["word", "one", "other"],body:=aNC,st:=top 37 },
 {name:="low_masks",np:=3,N:=["word", "one", "other", "low", "ones"],body:=aE4,st:=top 38 },
 {name:="low_noughts",np:=4,N:=["word", "width", "one", "other"],body:=xK,st:=top 39 },
 {name:="bounds",np:=4,N:=["word", "width", "one", "other", "lowest", "highest"],body:=zK,st:=top 40 },
 {name:="top_masks",np:=4,N:=["word", "width", "one", "other", "lowest", "highest"],body:=yD,st:=top 41 },
 {name:="sum_alike",np:=3,N:=["word", "one", "other"],body:=yG,st:=top 42 },
 {name:="sum_fact",np:=4,N:=["word", "width", "one", "other", "low", "top", "noughts"],body:=aE8,st:=top 43 },
 {name:="num_fact",np:=2,N:=["width", "number"],body:=aFI,st:=top 48 },
 {name:="unlike_bits",np:=2,N:=["one", "other"],body:=aEq,st:=top 49 },
 {name:="bitwise_fact",np:=3,N:=["word", "one", "other", "alike", "noughts"],body:=xI,st:=top 50 },
 {name:="left_fact",np:=3,N:=["width", "fact", "k", "noughts"],body:=aEX,st:=top 51 },
 {name:="right_fact",np:=3,N:=["width", "fact", "k", "noughts"],body:=aBk,st:=top 52 },
 {name:="slide_fact",np:=3,N:=["width", "fact", "k", "wider"],body:=aEJ,st:=top 53 },
 {name:="shift_fact",np:=4,N:=["word", "width", "fact", "k"],body:=aK5,st:=top 54 },
 {name:="fit_fact",np:=4,N:=["word", "v", "w", "fact", "noughts", "ones", "alike"],body:=tG,st:=top 55 },
 {name:="same_fact",np:=3,N:=["width", "one", "other"],body:=xT,st:=top 56 },
 {name:="less_fact",np:=3,N:=["width", "one", "other"],body:=xW,st:=top 57 },
 {name:="top_turned",np:=2,N:=["fact", "width", "turning", "noughts", "ones", "alike"],body:=aEI,st:=top 58 },
 {name:="compare_fact",np:=4,N:=["word", "width", "one", "other"],body:=aKJ,st:=top 59 },
 {name:="pick_fact",np:=3,N:=["choice", "one", "other"],body:=xX,st:=top 60 },
 {name:="open_fact",np:=3,N:=["row", "widths", "facts", "word", "width"],body:=aLp,st:=top 61 },
 {name:="rule",np:=3,N:=["row", "widths", "facts"],body:=aJd,st:=top 62 },
 {name:="facts_of",np:=1,N:=["program", "widths", "facts", "row"],body:=aFN,st:=top 63 },
 {name:="wrong_fact",np:=2,N:=["program", "facts", "widths", "k", "row"],body:=aEC,st:=top 64 },
 {name:="lifted",np:=2,N:=["number", "width"],body:=aGu,st:=top 66 },
 {name:="compared",np:=4,N:=["word", "width", "one", "other", "found"],body:=aL0,st:=top 67 },
 {name:="shifted",np:=4,N:=["word", "width", "number", "k"],body:=aM7,st:=top 68 },
 {name:="combined",np:=4,N:=["word", "width", "one", "other"],body:=aL6,st:=top 69 },
 {name:="work",np:=3,N:=["row", "widths", "numbers", "word", "width"],body:=aDc,st:=top 70 },
 {name:="turned",np:=3,N:=["program", "inputs", "masks", "widths", "numbers", "taken", "row", "mask", "number"],body:=aHb,st:=top 72 },
 {name:="run",np:=2,N:=["program", "inputs"],body:=aJW,st:=top 73 },
 {name:="of_outs",np:=2,N:=["program", "numbers", "out"],body:=aFY,st:=top 74 },
 {name:="told",np:=2,N:=["program", "inputs"],body:=aIz,st:=top 75 },
 {name:="_law_draw",np:=2,N:=["_law_state", "_law_many", "_law_cell", "_law_script", "_law_k", "_law_digit"],body:=iF,st:=top 77 },
 {name:="_law_number",np:=2,N:=["_law_state", "_law_width_here"],body:=aBd,st:=top 78 },
 {name:="_law_width",np:=1,N:=["_law_state"],body:=aEF,st:=top 79 },
 {name:="_law_num",np:=2,N:=["_law_state", "_law_width_here", "_law_sort", "_law_some"],body:=aBD,st:=top 80 },
 {name:="_law_fit",np:=4,N:=["_law_state", "_law_rows", "_law_a", "_law_width_here", "_law_word"],body:=tB,st:=top 81 },
 {name:="_law_operand",np:=3,N:=["_law_state", "_law_rows", "_law_width_here", "_law_some", "_law_k"],body:=sP,st:=top 82 },
 {name:="_law_turned_width",np:=3,N:=["_law_state", "_law_rows", "_law_word", "_law_a", "_law_width_here"],body:=aA3,st:=top 83 },
 {name:="_law_shift",np:=4,N:=["_law_state", "_law_rows", "_law_word", "_law_width_here", "_law_k"],body:=aBl,st:=top 84 },
 {name:="_law_pair",np:=4,N:=["_law_state", "_law_rows", "_law_word", "_law_width_here", "_law_a", "_law_b"],body:=aBt,st:=top 85 },
 {name:="_law_row",np:=2,N:=["_law_state", "_law_rows", "_law_some", "_law_word", "_law_width_here", "_law_row_here", "_law_c"],body:=jK,st:=top 86 },
 {name:="_law_program",np:=2,N:=["_law_state", "_law_most", "_law_width_here", "_law_rows", "_law_k", "_law_last", "_law_outs"],body:=gL,st:=top 87 },
 {name:="_law_inputs",np:=2,N:=["_law_state", "_law_program_here", "_law_found", "_law_row_here"],body:=aEr,st:=top 88 },
 {name:="_law_weaker",np:=3,N:=["_law_state", "_law_fact", "_law_width_here", "_law_left"],body:=aA9,st:=top 89 },
 {name:="_law_ahead",np:=2,N:=["_law_program_here", "_law_k", "_law_ahead_here", "_law_a"],body:=aED,st:=top 90 },
 {name:="_law_facts",np:=2,N:=["_law_state", "_law_program_here", "_law_facts_here", "_law_k", "_law_told_ahead", "_law_row_here", "_law_ahead_here", "_law_widths", "_law_a"],body:=aBh,st:=top 91 },
 {name:="_law_needs",np:=4,N:=["_law_program_here", "_law_facts_here", "_law_k", "_law_mask", "_law_ahead_here", "_law_widths", "_law_a"],body:=aEx,st:=top 92 },
 {name:="_law_masks",np:=3,N:=["_law_state", "_law_program_here", "_law_facts_here", "_law_masks_here", "_law_k", "_law_row_here", "_law_a", "_law_wanted"],body:=aBe,st:=top 93 },
 {name:="_law_turns",np:=3,N:=["_law_state", "_law_program_here", "_law_masks_here", "_law_turns_here", "_law_sort", "_law_row_here", "_law_mask", "_law_every", "_law_noise"],body:=aEH,st:=top 94 },
 {name:="law",np:=1,N:=["_law_script", "_law_state", "_law_program_here", "_law_facts_here", "_law_masks_here", "_law_turn", "_law_inputs_here", "_law_due", "_law_found", "_law_one", "_law_other", "_law_mask", "_law_k"],body:=iR,st:=top 95 }]
noncomputable def aH(ns:List Int)(k:Nat)(x:Int):List D:=[.list (ns.map yAp),.int (k:Nat),.int x]
theorem aPk{α:Type}{S:List α}{n:Nat}{a v:α}(h:S[n]? = qq a):(S.set n v)[n]? = qq v:=yAx (gIm h).1
theorem aBB{α:Type}(S:List α)(n:Nat)(v:α):(S.set n v).take S.length=S.set n v:=by
 rw[yDc];rw[yBc];exact yAc _
theorem aHL(a b c:D):aI (.list [a,b,c]) (.int 0)=qq a:=rfl
theorem aIi(a b c:D):aI (.list [a,b,c]) (.int 2)=qq c:=rfl
theorem aUZ(a b c:D):iA [a,b,c] qz (qq 2)=[a,b]:=rfl
theorem qL{ns:List Int}{k:Nat}(h:k<ns.length):aI (.list (ns.map yAp)) (.int (k:Nat))=qq (.int ns[k]):=lH (by rw[yAe,yAa h];rfl)
theorem tS(i:Int){w:Nat}(hw:0<w):∃ r:Nat,i%(w:Int)=(r:Int)/\r<w:=by
 have h0:=Int.emod_nonneg i (show(w:Int)≠0 by omega)
 have h1:=yFz i (show(0:Int)<(w:Int) by omega)
 exact⟨(i%(w:Int)).toNat,by omega,by omega⟩
theorem aTz:jG 3 1=qq 1:=rfl
theorem aIy:jG 3 2=qq 2:=rfl
theorem oN(ns:List Int):(ns.map yAp).length=ns.length:=yAf ..
noncomputable def qJ:Sx:=match iF with
 | .seq _ (.seq _ (.seq _ r))=>r
 | _=>.skip
theorem qF(i p:Int)(hp:0<p)(hp2:p<=2147483647) : -(2^64)<i%p/\i%p<2^64:=by
 have h0:=Int.emod_nonneg i (show p≠0 by omega)
 have h1:=yFz i hp;exact⟨by omega,by omega⟩
theorem aMd(C:Calls)(n k m:Nat)(ns:List Int)(x:Int)(S:aD)(e2 e5:Option W)(hS:S[n]? = qq (qq (aH ns (k+1) x)))(hm:0<m)(hk:k<=100000) :
 ∃ r:Nat,r<m/\xs C qJ [qq (.loc n),qq (.d (.int (m:Nat))),e2,qq (.d (.list (ns.map yAp))),qq (.d (.int (k:Nat))),e5] S=qq (.rt (.d (.int (r:Nat))),S):=by
 unfold aH at hS;have hm':(0:Int)<(m:Int):=by omega
 by_cases c1:k<ns.length
 ·have d1:decide ((k:Int)<((ns.length:Nat):Int))=true:=dqT (by omega)
  obtain⟨r,er,hr⟩:=tS ns[k] hm;refine⟨r,hr,?_⟩;simp only[gS2,qJ,iF,eB,eD,oN,eO,d1,qL c1,fP hm',er]
 ·have d1:decide ((k:Int)<((ns.length:Nat):Int))=false:=dqF (by omega)
  have bX:∀ c:Int,∃ r:Nat,r<m/\c%2147483629*((k:Int)+3)%2147483629*(c%2147483629*((k:Int)+3)%2147483629)%2147483587*(c%2147483629*((k:Int)+3)%2147483629*(c%2147483629*((k:Int)+3)%2147483629)%2147483587)%1999999973%(m:Int)=(r:Int):=λ c=>by
   obtain⟨r,er,hr⟩:=tS (c%2147483629*((k:Int)+3)%2147483629*(c%2147483629*((k:Int)+3)%2147483629)%2147483587*(c%2147483629*((k:Int)+3)%2147483629*(c%2147483629*((k:Int)+3)%2147483629)%2147483587)%1999999973) hm;exact⟨r,hr,er⟩
  by_cases c2:0<ns.length
  ·have d2:decide ((0:Int)<((ns.length:Nat):Int))=true:=dqT (by omega)
   obtain⟨q,eq,hq⟩:=tS ((k:Int)*7) c2;obtain⟨r,hr,er⟩:=bX ((k:Int)*7919+5+ns[q]*(48271+(k:Int)));refine⟨r,hr,?_⟩;have s1:=qF ((k:Int)*7919+5+ns[q]*(48271+(k:Int))) 2147483629 (by decide) (by decide)
   have s2:=qF (((k:Int)*7919+5+ns[q]*(48271+(k:Int)))%2147483629*((k:Int)+3)) 2147483629 (by decide) (by decide)
   have s3:=qF (((k:Int)*7919+5+ns[q]*(48271+(k:Int)))%2147483629*((k:Int)+3)%2147483629*(((k:Int)*7919+5+ns[q]*(48271+(k:Int)))%2147483629*((k:Int)+3)%2147483629)) 2147483587 (by decide) (by decide)
   simp only[evs,qJ,iF,eB,eD,oN,eO,d1,zL (i:=(k:Int)) (j:=7919) (by decide) (by decide),eI,hS,aHL,iI,d2,zL (i:=(k:Int)) (j:=7) (by decide) (by decide),fP (i:=(k:Int)*7) (j:=((ns.length:Nat):Int)) (by omega),eq,qL hq,
    zL (i:=ns[q]) (j:=48271+(k:Int)) (by omega) (by omega),fP (j:=2147483629) (by decide),mN s1.1 s1.2,mN s2.1 s2.2,fP (j:=2147483587) (by decide),mN s3.1 s3.2,fP (j:=1999999973) (by decide),fP hm',er]
  ·have d2:decide ((0:Int)<((ns.length:Nat):Int))=false:=dqF (by omega)
   obtain⟨r,hr,er⟩:=bX ((k:Int)*7919+5);refine⟨r,hr,?_⟩;have s1:=qF ((k:Int)*7919+5) 2147483629 (by decide) (by decide)
   have s2:=qF (((k:Int)*7919+5)%2147483629*((k:Int)+3)) 2147483629 (by decide) (by decide)
   have s3:=qF (((k:Int)*7919+5)%2147483629*((k:Int)+3)%2147483629*(((k:Int)*7919+5)%2147483629*((k:Int)+3)%2147483629)) 2147483587 (by decide) (by decide)
   have hq1:=zL (i:=(k:Int)) (j:=7919) (by decide) (by decide)
   have hq2:=λ i=>fP (i:=i) (j:=2147483629) (by decide)
   have hq3:=λ i=>fP (i:=i) (j:=2147483587) (by decide)
   have hq4:=λ i=>fP (i:=i) (j:=1999999973) (by decide)
   simp only[gS2,qJ,iF,eB,eD,oN,eO,d1,hq1,eI,hS,aHL,iI,d2,hq2,mN s1.1 s1.2,mN s2.1 s2.2,hq3,mN s3.1 s3.2,hq4,fP hm',er]
noncomputable def oV:Sx:=match iF with
 | .seq _ (.seq _ (.seq i _))=>i
 | _=>.skip
noncomputable def aB4:Sx:=match iF with
 | .seq _ (.seq p _)=>p
 | _=>.skip
noncomputable def zF:Sx:=match iF with
 | .seq p _=>p
 | _=>.skip
theorem aO5(d n k m:Nat)(ns:List Int)(x:Int)(S:aD)(hS:S[n]? = qq (qq (aH ns k x)))(hm:0<m)(hm2:m<2^64)(hk:k<=100000) :
 ∃ (r:Nat) (x':Int),r<m/\cl fns (d+1) 60 [.loc n,.d (.int (m:Nat))] S=qq (.d (.int (r:Nat)),S.set n (qq (aH ns (k+1) x'))):=by
 have hm':(0:Int)<(m:Int):=by omega
 have hm2':(m:Int)<2^64:=by exact_mod_cast hm2
 have e1:(k:Int)/12+1=((k/12+1:Nat):Int):=by omega
 have e2:(k:Int)+1=((k+1:Nat):Int):=by omega
 have gs:=λ v=>aPk (v:=v) hS
 have start:(dY (xs (aC fns d) zF) (xs (aC fns d) aB4)) [qq (.loc n),qq (.d (.int (m:Nat))),qz,qz,qz,qz] S=qq (.nx [qq (.loc n),qq (.d (.int (m:Nat))),qz,qq (.d (.list (ns.map yAp))),qq (.d (.int (k:Nat))),qz],S.set n (qq (aH ns (k+1) x))):=by
  unfold aH at hS ⊢;simp only[gS3,zF,aB4,iF,oC,nJ,wU,hS,aUZ,iO,hJ,aTz,eI,e2]
 have fJ:∀ (R:Option (Fl×aD)),dY (xs (aC fns d) oV) (xs (aC fns d) qJ) [qq (.loc n),qq (.d (.int (m:Nat))),qz,qq (.d (.list (ns.map yAp))),qq (.d (.int (k:Nat))),qz] (S.set n (qq (aH ns (k+1) x)))=R ->
  cl fns (d+1) 60 [.loc n,.d (.int (m:Nat))] S=R.bind λ p=>match p.1 with
   | .rt w=>kQ S.length p.2 w
   | .nx _=>qq (.d .none,p.2.take S.length)
   | _=>qz:=λ R hR=>by
  rw[aV rfl d _ S rfl,<- hR];simp only[dY] at start ⊢;cases q:xs (aC fns d) zF [qq (.loc n),qq (.d (.int (m:Nat))),qz,qz,qz,qz] S with
  | none=>rw[q] at start;cases start
  | some z =>
    obtain⟨fl,S1⟩:=z;rw[q] at start;simp only[oB] at start;cases fl with
    | nx e =>
      simp only at start;show((dY (xs (aC fns d) zF) (dY (xs (aC fns d) aB4) (dY (xs (aC fns d) oV) (xs (aC fns d) qJ)))) [qq (.loc n),qq (.d (.int (m:Nat))),qz,qz,qz,qz] S).bind _=_;simp only[dY,q,oB,start]
      all_goals rfl
    | rt w=>cases start
    | bk e=>cases start
    | ct e=>cases start
 have hS2:(S.set n (qq (aH ns (k+1) x)))[n]? = qq (qq (aH ns (k+1) x)):=gs _;have skip:xs (aC fns d) oV [qq (.loc n),qq (.d (.int (m:Nat))),qz,qq (.d (.list (ns.map yAp))),qq (.d (.int (k:Nat))),qz] (S.set n (qq (aH ns (k+1) x)))=qq (.nx [qq (.loc n),qq (.d (.int (m:Nat))),qz,qq (.d (.list (ns.map yAp))),qq (.d (.int (k:Nat))),qz],S.set n (qq (aH ns (k+1) x))) ->
  ∃ (r:Nat) (x':Int),r<m/\cl fns (d+1) 60 [.loc n,.d (.int (m:Nat))] S=qq (.d (.int (r:Nat)),S.set n (qq (aH ns (k+1) x'))):=λ h=>by
  obtain⟨r,hr,ht⟩:=aMd (aC fns d) n k m ns x _ qz qz hS2 hm hk;refine⟨r,x,hr,?_⟩;rw[fJ _ rfl];simp only[dY,h,oB,ht,kQ,aBB]
 by_cases c1:k/12+1<ns.length
 ·have d1:decide (((k/12+1:Nat):Int)<((ns.length:Nat):Int))=true:=dqT (by omega)
  have i0:aI (.list (ns.map yAp)) (.int 0)=qq (.int ns[0]):=qL (k:=0) (by omega)
  rcases yDq (ns[0]%2==1) with c2 | c2
  ·rcases yDq ((k:Int)%12==0) with c3 | c3
   ·obtain⟨r,er,hr⟩:=tS ns[k/12+1] hm;refine⟨r,ns[k/12+1]/(m:Int),hr,?_⟩;rw[fJ _ rfl];unfold aH at hS2 ⊢;have hq5:=mX (i:=(k:Int)) (j:=12) (by decide) (by decide)
    have hq6:=fP (i:=ns[0]) (j:=2) (by decide)
    have hq7:=fP (i:=(k:Int)) (j:=12) (by decide)
    simp only[gS2,oV,iF,iO,hJ,aIy,eI,hq5,e1,eB,eD,oN,eO,d1,i0,hq6,bP,c2,hq7,c3,hS2,gs,yGs,qL c1,aIi,fP hm',er,mX hm' hm2',aBB]
   ·obtain⟨r,er,hr⟩:=tS x hm;refine⟨r,x/(m:Int),hr,?_⟩;rw[fJ _ rfl];unfold aH at hS2 ⊢;have hq8:=mX (i:=(k:Int)) (j:=12) (by decide) (by decide)
    have hq9:=fP (i:=ns[0]) (j:=2) (by decide)
    have hq10:=fP (i:=(k:Int)) (j:=12) (by decide)
    simp only[gS2,oV,iF,iO,hJ,aIy,eI,hq8,e1,eB,eD,oN,eO,d1,i0,hq9,bP,c2,hq10,c3,hS2,gs,yGs,aIi,fP hm',er,mX hm' hm2',aBB]
  ·apply skip;have hq11:=mX (i:=(k:Int)) (j:=12) (by decide) (by decide)
   have hq12:=fP (i:=ns[0]) (j:=2) (by decide)
   simp only[gS2,oV,iF,eI,hq11,e1,eB,eD,oN,eO,d1,i0,hq12,bP,c2]
 ·have d1:decide (((k/12+1:Nat):Int)<((ns.length:Nat):Int))=false:=dqF (by omega)
  apply skip;have hq13:=mX (i:=(k:Int)) (j:=12) (by decide) (by decide)
  simp only[gS2,oV,iF,eI,hq13,e1,eB,eD,oN,eO,d1]
inductive Wd where
 | «in» | num | not | and | or | xor | add | sub | mul | left | right | slide | cut | wide | sign | same | less | under | pick
 deriving DecidableEq
noncomputable def Wd.s:Wd->Str
 | .in => "in" | .num => "num" | .not => "not" | .and => "and" | .or => "or" | .xor => "xor" | .add => "add" | .sub => "sub" | .mul => "mul" | .left => "left" | .right => "right" | .slide => "slide"
 | .cut => "cut" | .wide => "wide" | .sign => "sign" | .same => "same" | .less => "less" | .under => "under" | .pick => "pick"
structure Rw where
 wd:Wd
 w:Nat
 args:List Nat
noncomputable def nD(n:Nat):D:=.int (n:Nat)
noncomputable def Rw.d(r:Rw):D:=.tuple (.str r.wd.s::nD r.w::r.args.map nD)
def gE(ws:List Nat)(r:Rw):Prop:=1<=r.w/\r.w<=64/\match r.wd,r.args with
 | .in,[]=>True
 | .num,[n]=>n<2^r.w
 | .not,[a]=>ws[a]? = qq r.w
 | .and,[a,b] | .or,[a,b] | .xor,[a,b] | .add,[a,b] | .sub,[a,b] | .mul,[a,b]=>ws[a]? = qq r.w/\ws[b]? = qq r.w
 | .left,[a,k] | .right,[a,k] | .slide,[a,k]=>ws[a]? = qq r.w/\k<64
 | .cut,[a]=>∃ v,ws[a]? = qq v/\r.w<=v
 | .wide,[a] | .sign,[a]=>∃ v,ws[a]? = qq v/\v<=r.w
 | .same,[a,b] | .less,[a,b] | .under,[a,b]=>r.w=1/\∃ v,ws[a]? = qq v/\ws[b]? = qq v
 | .pick,[c,a,b]=>ws[c]? = qq 1/\ws[a]? = qq r.w/\ws[b]? = qq r.w
 | _,_=>False
noncomputable def dW:List Nat->List Rw->Prop
 | _,[]=>True
 | ws,r::rs=>gE ws r/\dW (ws++[r.w]) rs
theorem aBg:∀ {rs:List Rw}{ws:List Nat}{r:Rw},dW ws rs->gE (ws++rs.map (·.w)) r->dW ws (rs++[r])
 | [],ws,r,_,h=>⟨by simpa using h,True.intro⟩
 | q::rs,ws,r,⟨h1,h2⟩,h=>⟨h1,aBg h2 (by simpa using h)⟩
noncomputable def aP(S:aD)(n p:Nat)(ns:List Int)(k:Nat)(x:Int)(rs:List Rw):aD:=(S.set n (qq (aH ns k x))).set p (qq (rs.map Rw.d))
section
variable {S : aD}{n p : Nat}{ns : List Int}{k : Nat}{x : Int}{rs : List Rw}
structure At0(S:aD)(n p:Nat):Prop where
 hn:n<S.length
 ne:n≠p
structure At(S:aD)(n p:Nat):Prop extends At0 S n p where
 hp:p<S.length
theorem At0.state(h:At0 S n p):(aP S n p ns k x rs)[n]? = qq (qq (aH ns k x)):=by
 unfold aP;rw[yAy h.ne.symm,yAx h.hn]
theorem At.rows(h:At S n p):(aP S n p ns k x rs)[p]? = qq (qq (rs.map Rw.d)):=by
 unfold aP;rw[yAx (by rw[yBc];exact h.hp)]
theorem At.rowsT(h:At S n p)(T:aD):(aP S n p ns k x rs++T)[p]? = qq (qq (rs.map Rw.d)):=by
 rw[xAm (by simp[aP];exact h.hp)]
 exact h.rows
theorem At0.len(h:At0 S n p):(aP S n p ns k x rs).length=S.length:=by simp[aP]
theorem At0.take(h:At0 S n p)(k':Nat)(x':Int)(aM:List Rw):(aP S n p ns k' x' aM).take (aP S n p ns k x rs).length=aP S n p ns k' x' aM:=by
 rw[h.len,yDc];rw[h.len];exact yAc _
theorem At0.put(h:At0 S n p)(k':Nat)(x':Int):(aP S n p ns k x rs).set n (qq (aH ns k' x'))=aP S n p ns k' x' rs:=by
 unfold aP;rw[List.set_comm _ _ h.ne.symm,yGs]
theorem At.putR(h:At S n p)(r:Rw):(aP S n p ns k x rs).set p (qq (rs.map Rw.d++[r.d]))=aP S n p ns k x (rs++[r]):=by
 unfold aP;rw[yGs,yCo];rfl
end
section
variable {S : aD}{n p : Nat}{ns : List Int}{k : Nat}{x : Int}{rs : List Rw}
theorem fQ(h:At0 S n p)(d m:Nat)(hm:0<m)(hm2:m<2^64)(hk:k<=100000):∃ (r:Nat) (x':Int),r<m/\cl fns (d+1) 60 [.loc n,.d (.int (m:Nat))] (aP S n p ns k x rs)=qq (.d (.int (r:Nat)),aP S n p ns (k+1) x' rs):=by
 obtain⟨r,x',hr,e⟩:=aO5 d n k m ns x _ h.state hm hm2 hk;exact⟨r,x',hr,by rw[e,h.put]⟩
theorem gW(h:At0 S n p)(d m:Nat){i:Int}(hi:i=(m:Nat))(hm:0<m)(hm2:m<2^64)(hk:k<=100000):∃ (r:Nat) (x':Int),r<m/\cl fns (d+1) 60 [.loc n,.d (.int i)] (aP S n p ns k x rs)=qq (.d (.int (r:Nat)),aP S n p ns (k+1) x' rs):=by
 subst hi;exact fQ h d m hm hm2 hk
theorem aFQ{w:Nat}(h:w<64):2^w<2^64:=yDl (by decide) h
theorem aFG(h:At0 S n p)(d w:Nat)(hw:w<=64)(hk:k<=99000):∃ (r k':Nat) (x':Int),r<2^w/\k'<=k+2/\cl fns (d+2) 61 [.loc n,.d (.int (w:Nat))] (aP S n p ns k x rs)=qq (.d (.int (r:Nat)),aP S n p ns k' x' rs):=by
 by_cases c:w<31
 ·have d1:decide ((w:Int)<31)=true:=dqT (by omega)
  obtain⟨r,x',hr,e⟩:=fQ (ns:=ns) (k:=k) (x:=x) (rs:=rs) h d (2^w) (tH w) (aFQ (by omega)) (by omega)
  refine⟨r,k+1,x',hr,by omega,?_⟩
  rw[aV rfl (d+1) _ _ rfl];have hq14:=fO (show w<=100000 by omega)
  simp only[gR1,aBd,eO,d1,hq14,e,h.take]
 ·have d1:decide ((w:Int)<31)=false:=dqF (by omega)
  have e1:(w:Int)-30=((w-30:Nat):Int):=by omega
  have s30:=fO (w:=30) (by decide)
  rw[show((30:Nat):Int)=30 from rfl] at s30
  obtain⟨r,x',hr,e⟩:=fQ (ns:=ns) (k:=k) (x:=x) (rs:=rs) h d (2^30) (by decide) (by decide) (by omega)
  obtain⟨q,x2,hq,e'⟩:=fQ (ns:=ns) (k:=k+1) (x:=x') (rs:=rs) h d (2^(w-30)) (tH _) (aFQ (by omega)) (by omega)
  have hb:r+q*2^30<2^w:=by
   have e3:(2:Nat)^w=2^(w-30)*2^30:=by rw[<- yEl,show w-30+30=w by omega]
   have h3:(q+1)*2^30<=2^(w-30)*2^30:=Nat.mul_le_mul_right _ hq;rw[Nat.add_mul] at h3;omega
  have sh:cG .LShift (.int (q:Nat)) (.int 30)=qq (.int ((q*2^30:Nat):Int)):=qN (n:=q) (a:=w-30) (k:=30) hq (by omega)
  have ad:(r:Int)+((q*2^30:Nat):Int)=((r+q*2^30:Nat):Int):=(Int.natCast_add _ _).symm;refine⟨r+q*2^30,k+2,x2,hb,by omega,?_⟩
  rw[aV rfl (d+1) _ _ rfl];have hq15:=fO (show w-30<=100000 by omega)
  simp only[gR1,aBd,eO,d1,s30,e,cR,e1,hq15,e',sh,eI,ad,h.take]
end
theorem at4(a b c e:D){r:Nat}(h1:r<4):∃ x,(x=a\/x=b\/x=c\/x=e)/\aI (.list [a,b,c,e]) (.int (r:Nat))=qq x:=by
 have:r=0\/r=1\/r=2\/r=3:=by omega
 rcases this with rfl | rfl | rfl | rfl
 ·exact⟨a,.inl rfl,rfl⟩
 ·exact⟨b,.inr (.inl rfl),rfl⟩
 ·exact⟨c,.inr (.inr (.inl rfl)),rfl⟩
 ·exact⟨e,.inr (.inr (.inr rfl)),rfl⟩
section
variable {S : aD}{n p : Nat}{ns : List Int}{k : Nat}{x : Int}{rs : List Rw}
theorem aGk(h:At0 S n p)(d:Nat)(hk:k<=99000):∃ (w:Nat) (x':Int),1<=w/\w<=64/\cl fns (d+2) 62 [.loc n] (aP S n p ns k x rs)=qq (.d (.int (w:Nat)),aP S n p ns (k+3) x' rs):=by
 obtain⟨r1,x1,h1,e1⟩:=gW (ns:=ns) (k:=k) (x:=x) (rs:=rs) h d 8 (i:=8) rfl (by decide) (by decide) (by omega)
 obtain⟨r2,x2,h2,e2⟩:=gW (ns:=ns) (k:=k+1) (x:=x1) (rs:=rs) h d 64 (i:=64) rfl (by decide) (by decide) (by omega)
 obtain⟨r3,x3,h3,e3⟩:=gW (ns:=ns) (k:=k+2) (x:=x2) (rs:=rs) h d 4 (i:=4) rfl (by decide) (by decide) (by omega)
 have a1:(1:Int)+(r1:Int)=((1+r1:Nat):Int):=by omega
 have a2:(1:Int)+(r2:Int)=((1+r2:Nat):Int):=by omega
 obtain⟨y,hy,e⟩:=at4 (.int 1) (.int 64) (.int ((1+r1:Nat):Int)) (.int ((1+r2:Nat):Int)) h3;obtain⟨w,bS,bV,rfl⟩:∃ w:Nat,1<=w/\w<=64/\y=.int (w:Nat):=by
  rcases hy with rfl | rfl | rfl | rfl
  ·exact⟨1,by decide,by decide,rfl⟩
  ·exact⟨64,by decide,by decide,rfl⟩
  ·exact⟨_,by omega,by omega,rfl⟩
  ·exact⟨_,by omega,by omega,rfl⟩
 refine⟨w,x3,bS,bV,?_⟩;rw[aV rfl (d+1) _ _ rfl];simp only[gR1,aEF,e1,e2,e3,eI,a1,a2,e,h.take]
end
theorem aDb(a b:D):aI (.list [a,b]) (.int ((0:Nat):Int))=qq a:=rfl
theorem aC6(a b:D):aI (.list [a,b]) (.int ((1:Nat):Int))=qq b:=rfl
theorem aGv{t:Tg}{fb:FS}(P:Nat->aW->aD->Prop):∀ (ds:List D) (i:Nat) (env:aW) (S:aD),P i env S->(∀ j d env S,i<=j->j<i+ds.length->P j env S->∃ e1 aJ S',t.put d env=qq e1/\fb e1 S=qq (.nx aJ,S')/\P (j+1) aJ S') ->
 ∃ aJ S',gO t fb ds env S=qq (.nx aJ,S')/\P (i+ds.length) aJ S'
 | [],i,env,S,h0,_=>⟨env,S,rfl,h0⟩
 | d::ds,i,env,S,h0,h=>by
   obtain⟨e1,aJ,S',h1,h2,h3⟩:=h i d env S (yAc _) (by simp) h0
   obtain⟨env2,S2,h4,h5⟩:=aGv P ds (i+1) aJ S' h3 λ j d' env S a b=>h j d' env S (by omega) (by simp at b ⊢;omega)
   refine⟨env2,S2,by simp only[gO,h1,oB,h2];exact h4,?_⟩
   have:i+(d::ds).length=i+1+ds.length:=by simp;omega
   rw[this];exact h5
theorem aHZ{t:Tg}{fi:FL}{fb:FS}{env:aW}{S S1:aD}{ds:List D}(P:Nat->aW->aD->Prop)(hi:fi env S=qq (ds,S1))(h0:P 0 env S1)(h:∀ j d env S,j<ds.length->P j env S->∃ e1 aJ S',t.put d env=qq e1/\fb e1 S=qq (.nx aJ,S')/\P (j+1) aJ S') :
 ∃ aJ S',dX t fi fb env S=qq (.nx aJ,S')/\P ds.length aJ S':=by
 obtain⟨aJ,S',h1,h2⟩:=aGv (t:=t) (fb:=fb) P ds 0 env S1 h0 λ j d env S _ b=>h j d env S (by omega)
 exact⟨aJ,S',by unfold dX;rw[hi,oB];exact h1,by simpa using h2⟩
theorem b2i(b:Bool):∃ q:Nat,q<2/\(if b then (1:Int) else 0)=(q:Int):=by
 cases b
 ·exact⟨0,by decide,rfl⟩
 ·exact⟨1,by decide,rfl⟩
theorem at2(a b:D){r:Nat}(h1:r<2):∃ x,(x=a\/x=b)/\aI (.list [a,b]) (.int (r:Nat))=qq x:=by
 have:r=0\/r=1:=by omega
 rcases this with rfl | rfl
 ·exact⟨a,.inl rfl,rfl⟩
 ·exact⟨b,.inr rfl,rfl⟩
theorem dN{C:Calls}{a r:Sx}{env e1:aW}{S S1:aD}(h:xs C a env S=qq (.nx e1,S1)):xs C (.seq a r) env S=xs C r e1 S1:=by simp only[lK,dY,h,oB]
theorem aJn(ns:List Int)(k:Nat)(x:Int):aP [qz] 0 1 ns k x []=[qq (aH ns k x)]:=rfl
theorem at1:At0 [qz] 0 1:=⟨by decide,by decide⟩
noncomputable abbrev s0(ns:List Int)(k:Nat)(x:Int):aD:=[qq (aH ns k x)]
section
variable {ns : List Int}{k : Nat}{x : Int}
end
theorem eV(n:Nat):(((n:Nat):Int)==0)=(n==0):=by
 rw[yEc,beq_iff_eq,beq_iff_eq];omega
section
variable {S : aD}{n p : Nat}{ns : List Int}{k : Nat}{x : Int}{rs : List Rw}
theorem aCz(h:At0 S n p)(d w:Nat)(hw:1<=w)(bV:w<=64)(hk:k<=98000):∃ (r k':Nat) (x':Int),r<2^w/\k'<=k+5/\cl fns (d+3) 63 [.loc n,.d (.int (w:Nat))] (aP S n p ns k x rs)=qq (.d (.int (r:Nat)),aP S n p ns k' x' rs):=by
 have hw3:w<2^64:=by omega
 have hp:=tH w;obtain⟨r1,x1,h1,e1⟩:=gW (ns:=ns) (k:=k) (x:=x) (rs:=rs) h (d+1) 5 (i:=5) rfl (by decide) (by decide) (by omega)
 obtain⟨r2,x2,h2,e2⟩:=fQ (ns:=ns) (k:=k+1) (x:=x1) (rs:=rs) h (d+1) w (by omega) hw3 (by omega)
 obtain⟨r3,x3,h3,e3⟩:=fQ (ns:=ns) (k:=k+2) (x:=x2) (rs:=rs) h (d+1) w (by omega) hw3 (by omega)
 by_cases c:r1<4
 ·have d1:decide ((r1:Int)<4)=true:=dqT (by omega)
  obtain⟨y,hy,e⟩:=at4 (.int 0) (.int ((2^w-1:Nat):Int)) (.int ((2^r2:Nat):Int)) (.int ((2^r3-1:Nat):Int)) c;obtain⟨q,hq,rfl⟩:∃ q:Nat,q<2^w/\y=.int (q:Nat):=by
   have l2:2^r2<2^w:=yDl (by decide) h2
   have l3:2^r3<2^w:=yDl (by decide) h3
   rcases hy with rfl | rfl | rfl | rfl
   ·exact⟨0,hp,rfl⟩
   ·exact⟨_,by omega,rfl⟩
   ·exact⟨_,l2,rfl⟩
   ·exact⟨_,by omega,rfl⟩
  refine⟨q,k+3,x3,hq,by omega,?_⟩
  rw[aV rfl (d+2) _ _ rfl];have hq16:=fO (show w<=100000 by omega)
  have hq17:=fO (show r2<=100000 by omega)
  have hq18:=fO (show r3<=100000 by omega)
  simp only[gR1,aBD,e1,hq16,cR,tE,e2,hq17,e3,hq18,eO,d1,e,h.take]
 ·have d1:decide ((r1:Int)<4)=false:=dqF (by omega)
  obtain⟨r,k',x',hr,hk',e⟩:=aFG (ns:=ns) (k:=k+3) (x:=x3) (rs:=rs) h d w bV (by omega)
  refine⟨r,k',x',hr,by omega,?_⟩
  rw[aV rfl (d+2) _ _ rfl];have hq19:=fO (show w<=100000 by omega)
  have hq20:=fO (show r2<=100000 by omega)
  have hq21:=fO (show r3<=100000 by omega)
  simp only[gR1,aBD,e1,hq19,cR,tE,e2,hq20,e3,hq21,eO,d1,e,h.take]
end
theorem aCB:∀ L:List Nat,PyData.canLayAll0 (L.map nD)=true
 | []=>rfl
 | a::r=>by
   have ih:=aCB r;simp only[yBg,PyData.canLayAll0,ih,yCj];rfl
theorem aB2:∀ L:List Nat,yFq (L.map nD)=0
 | []=>rfl
 | a::r=>by
   have ih:=aB2 r;simp only[yBg,yFq,ih];rfl
theorem aP2(L:List Nat):bH .NotEq (.list (L.map nD)) (.list [])=qq (.bool (!L.isEmpty)):=by
 have h1:(yGi (L.map nD)).canLay0=true:=aCB L;have h2:(yGi (L.map nD)).depth<=60:=by
  show yFq (L.map nD)+1<=60;rw[aB2];decide
 unfold bH rM;simp only[];rw[if_pos ⟨h1,rfl,h2⟩];cases L<;>rfl
theorem fK(r:Rw):aI r.d (.int 1)=qq (.int (r.w:Nat)):=fB (xs:=.str r.wd.s::nD r.w::r.args.map nD) (k:=1) rfl
noncomputable def wdE(a b:Wd):Bool:=match bH .Eq (.str a.s) (.str b.s) with
 | some (.bool c)=>c==decide (a=b)
 | _=>false
theorem aSh(a b:Wd):wdE a b=true:=by
 have h:∀ i:Fin 19,∀ j:Fin 19,wdE (Wd.ofNat i) (Wd.ofNat j)=true:=by decide +kernel
 have e:∀ a:Wd,∃ i:Fin 19,Wd.ofNat i=a:=λ a=>⟨⟨a.ctorIdx,by cases a<;>decide⟩,Wd.ofNat_ctorIdx a⟩
 obtain⟨i,rfl⟩:=e a;obtain⟨j,rfl⟩:=e b;exact h i j
theorem bO(a b:Wd):bH .Eq (.str a.s) (.str b.s)=qq (.bool (decide (a=b))):=by
 have h:=aSh a b;unfold wdE at h
 split at h
 ·rename_i c e;rw[e,eq_of_beq h]
 ·cases h
theorem aB0(a:Wd):bH .In (.str a.s) (.tuple [.str "left",.str "right",.str "slide"])=qq (.bool (decide (a=.left\/a=.right\/a=.slide))):=by cases a<;>rfl
theorem aR8(a:Wd):bH .In (.str a.s) (.tuple [.str "cut",.str "wide",.str "sign"])=qq (.bool (decide (a=.cut\/a=.wide\/a=.sign))):=by cases a<;>rfl
theorem zI(a:Wd):bH .In (.str a.s) (.tuple [.str "same",.str "less",.str "under"])=qq (.bool (decide (a=.same\/a=.less\/a=.under))):=by cases a<;>rfl
theorem aS{C:Calls}{c:E}{t dC:Sx}{env:aW}{S S1:aD}{r:Option (Fl×aD)}(h:tv C c env S=qq (false,S1))(k:xs C dC env S1=r):xs C (.seq (.ifs c t .skip) dC) env S=r:=by
 rw[<- k];simp only[lK,qV,aGz,dY,mD,rD,h,oB,yAu,if_false]
theorem cF{C:Calls}{c:E}{t e dC:Sx}{env:aW}{S S1 S2:aD}{w:W}(h:tv C c env S=qq (true,S1))(k:xs C t env S1=qq (.rt w,S2)):xs C (.seq (.ifs c t e) dC) env S=qq (.rt w,S2):=by
 simp only[lK,qV,dY,mD,h,oB,if_true,k]
theorem bQ{C:Calls}{e:E}{dC:Sx}{env:aW}{S S1:aD}{w:W}(h:ev C e env S=qq (w,S1)):xs C (.seq (.ret e) dC) env S=qq (.rt w,S1):=by
 simp only[lK,aCK,dY,nX,h,oB]
theorem eC{C:Calls}{i:Nat}{e:E}{dC:Sx}{env aJ:aW}{S S1:aD}{w:W}{r:Option (Fl×aD)}(h:ev C e env S=qq (w,S1))(he:env.set i (qq w)=aJ)(k:xs C dC aJ S1=r):xs C (.seq (.set i e) dC) env S=r:=by
 subst he;rw[<- k];simp only[lK,zQ,dY,jD,h,oB]
theorem cM{fs:List Fn}{f:Nat}{F:Fn}(h:fs[f]? = qq F)(d:Nat){ws:List W}{env:aW}{S S1:aD}{x:D}(hw:ws.length=F.np)(he:ws.map qq++yAb (F.N.length-ws.length) qz=env)(hS:S1.take S.length=S1)(k:xs (aC fs d) F.body env S=qq (.rt (.d x),S1)):cl fs (d+1) f ws S=qq (.d x,S1):=by
 subst he;rw[aV h d ws S hw];simp only[eX,k,oB,kQ,hS]
theorem cQ{C:Calls}{i:Nat}{x:Str}{env:aW}{S:aD}{a:D}{b:Bool}(h:env[i]? = qq (qq (.d a)))(hc:bH .Eq a (.str x)=qq (.bool b)):tv C (.cmp .Eq (.var i) (.str x)) env S=qq (b,S):=by
 simp only[gS0,h,hc]
theorem jR{C:Calls}{i:Nat}{e:E}{env:aW}{S:aD}{a t:D}{b:Bool}(h:env[i]? = qq (qq (.d a)))(he:ev C e env S=qq (.d t,S))(hc:bH .In a t=qq (.bool b)):tv C (.cmp .In (.var i) e) env S=qq (b,S):=by
 simp only[gS0,h,he,hc]
noncomputable def aT:Sx->Sx
 | .seq _ b=>b
 | x=>x
noncomputable def bI:Sx->Sx
 | .seq a _=>a
 | x=>x
noncomputable def reS:Sx->E
 | .ret e=>e
 | _=>.no
theorem nN{C:Calls}{c:E}{a b:Sx}{env:aW}{S S1:aD}{r:Option (Fl×aD)}(h:tv C c env S=qq (true,S1))(k:xs C a env S1=r):xs C (.ifs c a b) env S=r:=by
 rw[<- k];simp only[qV,mD,h,oB,if_true]
theorem vF{C:Calls}{c:E}{a b:Sx}{env:aW}{S S1:aD}{r:Option (Fl×aD)}(h:tv C c env S=qq (false,S1))(k:xs C b env S1=r):xs C (.ifs c a b) env S=r:=by
 rw[<- k];simp only[qV,mD,h,oB,yAu,if_false]
theorem zZ{C:Calls}{a b:Sx}{env e1:aW}{S S1:aD}{r:Option (Fl×aD)}(h:xs C a env S=qq (.nx e1,S1))(k:xs C b e1 S1=r):xs C (.seq a b) env S=r:=by
 rw[dN h];exact k
theorem aCH{C:Calls}{a:Sx}{env e1:aW}{S S1:aD}(h:xs C a env S=qq (.nx e1,S1)):xs C (.seq a .skip) env S=qq (.nx e1,S1):=zZ h rfl
theorem kJ{C:Calls}{i:Nat}{e:E}{env:aW}{S S1:aD}{w:W}(h:ev C e env S=qq (w,S1)):xs C (.seq (.set i e) .skip) env S=qq (.nx (env.set i (qq w)),S1):=eC h rfl rfl
theorem vZ{C:Calls}{s:Sx}{c:E}{a b:Sx}{env r:aW}{S S1:aD}(hs:s=.ifs c a (.seq b .skip))(h:tv C c env S=qq (false,S))(k:xs C b env S=qq (.nx r,S1)):xs C s env S=qq (.nx r,S1):=by
 rw[hs];exact vF h (aCH k)
namespace GP
section
variable {S : aD}{n p : Nat}{ns : List Int}{k : Nat}{x : Int}{rs : List Rw}
theorem zX{a:Nat}{r:Rw}(h:rs[a]? = qq r):aI (.list (rs.map Rw.d)) (.int (a:Nat))=qq r.d:=lH (by rw[yAe,h];rfl)
theorem rows_len(rs:List Rw):(rs.map Rw.d).length=rs.length:=yAf ..
theorem aG5(h:At S n p)(hl:rs.length<=1000)(r:Rw):eJ (aP S n p ns k x rs) (.loc p) (.d r.d)=qq (.d .none,aP S n p ns k x (rs++[r])):=by
 unfold eJ;simp only[h.rows];rw[if_pos (by rw[rows_len,zv];omega),h.putR]
structure Opd(rs aM:List Rw)(a w:Nat):Prop where
 ext:∃ t,aM=rs++t/\t.length<=1
 ok:dW [] aM
 wd:(aM.map (·.w))[a]? = qq w
theorem nW{a:Nat}{r:Rw}(h:rs[a]? = qq r):(rs.map (·.w))[a]? = qq r.w:=by rw[yAe,h];rfl
theorem aHO(h:At S n p)(d a w:Nat)(hr:dW [] rs)(ha:a<rs.length)(hl:rs.length<=100)(hw:1<=w)(bV:w<=64)(hk:k<=99000) :
 ∃ (a' k':Nat) (x':Int) (aM:List Rw),Opd rs aM a' w/\k'<=k+1/\cl fns (d+2) 64 [.loc n,.loc p,.d (.int (a:Nat)),.d (.int (w:Nat))] (aP S n p ns k x rs)=qq (.d (.int (a':Nat)),aP S n p ns k' x' aM):=by
 obtain⟨r,hra⟩:∃ r,rs[a]? = qq r:=⟨rs[a],yAa ha⟩;have ga:=zX hra
 by_cases c:r.w=w
 ·refine⟨a,k,x,rs,⟨⟨[],by simp,by simp⟩,hr,by rw[nW hra,c]⟩,by omega,?_⟩
  rw[aV rfl (d+1) _ _ rfl];simp only[gR1,tB,h.rows,ga,fK,bP,c,beq_self_eq_true,h.take]
 ·have c':(((r.w:Nat):Int)==((w:Nat):Int))=false:=by
   rw[beq_eq_false_iff_ne];intro z;exact c (by exact_mod_cast z)
  obtain⟨q,x',hq,e⟩:=gW (ns:=ns) (k:=k) (x:=x) (rs:=rs) h.toAt0 d 2 (i:=2) rfl (by decide) (by decide) (by omega)
  have bX:∀ wd:Wd,gE ([]++rs.map (·.w)) ⟨wd,w,[a]⟩->Opd rs (rs++[⟨wd,w,[a]⟩]) rs.length w:=λ wd ok=>⟨⟨_,rfl,yAc _⟩,aBg hr ok,by simp⟩
  have aAy:∀ r:Rw,((rs++[r]).length:Int)-1=((rs.length:Nat):Int):=λ r=>by simp
  have ap:∀ wd:Wd,eJ (aP S n p ns (k+1) x' rs) (.loc p) (.d (.tuple [.str wd.s,.int (w:Nat),.int (a:Nat)]))=qq (.d .none,aP S n p ns (k+1) x' (rs++[⟨wd,w,[a]⟩])):=λ wd=>aG5 h (by omega) ⟨wd,w,[a]⟩
  by_cases c2:w<r.w
  ·have d2:decide (((w:Nat):Int)<((r.w:Nat):Int))=true:=dqT (by omega)
   refine⟨rs.length,k+1,x',_,bX .cut ⟨hw,bV,r.w,by simpa using nW hra,yFg c2⟩,by omega,?_⟩
   have ap':=ap .cut;simp only[Wd.s] at ap';have:q=0\/q=1:=by omega
   rw[aV rfl (d+1) _ _ rfl];rcases this with rfl | rfl
   all_goals simp only[evs,eX,tB,h.rows,ga,fK,bP,c',e,aDb,aC6,iI,d2,gQ,ap',eB,eD,rows_len,cR,aAy,h.take]
  ·have d2:decide (((w:Nat):Int)<((r.w:Nat):Int))=false:=dqF (by omega)
   have:q=0\/q=1:=by omega
   rcases this with rfl | rfl
   ·refine⟨rs.length,k+1,x',_,bX .wide ⟨hw,bV,r.w,by simpa using nW hra,yFi c2⟩,by omega,?_⟩
    have ap':=ap .wide;simp only[Wd.s] at ap';rw[aV rfl (d+1) _ _ rfl];simp only[gR1,tB,h.rows,ga,fK,bP,c',e,aDb,iI,d2,gQ,ap',eB,eD,rows_len,cR,aAy,h.take]
   ·refine⟨rs.length,k+1,x',_,bX .sign ⟨hw,bV,r.w,by simpa using nW hra,yFi c2⟩,by omega,?_⟩
    have ap':=ap .sign;simp only[Wd.s] at ap';rw[aV rfl (d+1) _ _ rfl];simp only[gR1,tB,h.rows,ga,fK,bP,c',e,aC6,iI,d2,gQ,ap',eB,eD,rows_len,cR,aAy,h.take]
end
section
variable {S : aD}{n p : Nat}{ns : List Int}{k : Nat}{x : Int}{rs : List Rw}
theorem aBr:∀ {rs:List Rw}{ws:List Nat}{a:Nat}{r:Rw},dW ws rs->rs[a]? = qq r->1<=r.w/\r.w<=64
 | q::rs,ws,0,r,⟨h1,_⟩,e=>by
   have e':q=r:=by simpa using e
   subst e';exact⟨h1.1,h1.2.1⟩
 | q::rs,ws,a+1,r,⟨_,h2⟩,e=>aBr h2 (by simpa using e)
 | [],_,_,_,_,e=>by simp at e
noncomputable def tP:Sx:=match sP with
 | .seq _ r=>r
 | _=>.skip
theorem sW(h:At S n p)(d w:Nat)(hr:dW [] rs)(h0:0<rs.length)(hl:rs.length<=100)(hw:1<=w)(bV:w<=64)(hk:k<=98000) :
 ∃ (a k':Nat) (x':Int) (aM:List Rw),Opd rs aM a w/\k'<=k+3/\cl fns (d+3) 65 [.loc n,.loc p,.d (.int (w:Nat))] (aP S n p ns k x rs)=qq (.d (.int (a:Nat)),aP S n p ns k' x' aM):=by
 have hc:hG (.one 4) (lv (aC fns (d+2)) (.rng1 (.blt .len (.cons (.var 1) .nil)))) (tv (aC fns (d+2)) (.cmp .Eq (.ix (.ix (.var 1) (.var 4)) (.int 1)) (.var 2))) (ev (aC fns (d+2)) (.var 4)) [qq (.loc n),qq (.loc p),qq (.d (.int (w:Nat))),qz,qz] (aP S n p ns k x rs)
  = qq (((yBk rs.length).filter λ j=>(rs.map (·.w))[j]?==qq w).map nD,aP S n p ns k x rs):=by
  refine aNd nD nD (λ j=>(rs.map (·.w))[j]?==qq w) (yBk rs.length) ?_ (by rw[List.length_range,zv];omega) (λ j hj=>?_)
  ·simp only[nP,mV,mP,mU,nC,nF,mS];refine qB ?_ (by omega)
   simp only[gS0,h.rows,eB,eD,rows_len]
  ·have hj':j<rs.length:=by simpa using hj
   obtain⟨r,hrj⟩:∃ r,rs[j]? = qq r:=⟨rs[j],yAa hj'⟩;have hb:((rs.map (·.w))[j]?==qq w)=(((r.w:Nat):Int)==((w:Nat):Int)):=by
    rw[nW hrj,yEc];simp;omega
   refine⟨_,rfl,λ aF=>?_,λ _ aF=>?_⟩
   ·rw[hb];simp only[gS0,clr,yBl,yCk,nD,h.rowsT,zX hrj,fK,bP]
   ·simp only[gS0,clr,yBl,yCk,nD]
 generalize hL:(yBk rs.length).filter (λ j=>(rs.map (·.w))[j]?==qq w)=L at hc
 have hmem:∀ a∈L,(rs.map (·.w))[a]? = qq w:=λ a ha=>by
  rw[<- hL] at ha;simpa using (List.mem_filter.mp ha).2
 have cT:L.length<=rs.length:=by
  rw[<- hL];have:=List.length_filter_le (λ j=>(rs.map (·.w))[j]?==qq w) (yBk rs.length)
  simpa using this
 have set:xs (aC fns (d+2)) (.setC false 3 (.comp (.var 4) (.one 4) (.rng1 (.blt .len (.cons (.var 1) .nil))) (.cmp .Eq (.ix (.ix (.var 1) (.var 4)) (.int 1)) (.var 2)))) [qq (.loc n),qq (.loc p),qq (.d (.int (w:Nat))),qz,qz] (aP S n p ns k x rs)=qq (.nx [qq (.loc n),qq (.loc p),qq (.d (.int (w:Nat))),qq (.d (.list (L.map nD))),qz],aP S n p ns k x rs):=by
  simp only[aGL,jD,jZ];show((hG _ _ _ _ _ _).bind _).bind _=_;rw[hc];simp only[gS0,True]
 have fJ:∀ R,xs (aC fns (d+2)) tP [qq (.loc n),qq (.loc p),qq (.d (.int (w:Nat))),qq (.d (.list (L.map nD))),qz] (aP S n p ns k x rs)=R->cl fns (d+3) 65 [.loc n,.loc p,.d (.int (w:Nat))] (aP S n p ns k x rs)=R.bind λ q=>match q.1 with
  | .rt w=>kQ (aP S n p ns k x rs).length q.2 w
  | .nx _=>qq (.d .none,q.2.take (aP S n p ns k x rs).length)
  | _=>qz:=λ R hR=>by
  rw[aV rfl (d+2) _ _ rfl,<- hR];show((dY (xs (aC fns (d+2)) (.setC false 3 (.comp (.var 4) (.one 4) (.rng1 (.blt .len (.cons (.var 1) .nil))) (.cmp .Eq (.ix (.ix (.var 1) (.var 4)) (.int 1)) (.var 2))))) (xs (aC fns (d+2)) tP)) [qq (.loc n),qq (.loc p),qq (.d (.int (w:Nat))),qz,qz] (aP S n p ns k x rs)).bind _=_;simp only[dY,set,oB]
  all_goals rfl
 rw[fJ _ rfl];clear fJ set hc;have hr64:rs.length<2^64:=by omega
 have nn:=aP2 L;have ll:(L.map nD).length=L.length:=yAf ..;rcases yDq L.isEmpty with hE | hE
 ·rw[hE] at nn;obtain⟨q,x1,hq,e1⟩:=fQ (ns:=ns) (k:=k) (x:=x) (rs:=rs) h.toAt0 (d+1) rs.length h0 hr64 (by omega)
  obtain⟨a,k',x',aM,ho,hk',e2⟩:=aHO (ns:=ns) (k:=k+1) (x:=x1) h d q w hr hq hl hw bV (by omega)
  refine⟨a,k',x',aM,ho,by omega,?_⟩
  simp only[gS2,tP,sP,nn,h.rows,eB,eD,rows_len,e1,e2,h.take]
 ·rw[hE] at nn;have hL0:0<L.length:=by
   cases L with
   | nil=>cases hE
   | cons b r=>simp
  obtain⟨q4,x1,hq4,e1⟩:=gW (ns:=ns) (k:=k) (x:=x) (rs:=rs) h.toAt0 (d+1) 4 (i:=4) rfl (by decide) (by decide) (by omega)
  by_cases c:0<q4
  ·have d1:decide ((0:Int)<(q4:Int))=true:=dqT (by omega)
   obtain⟨q,x2,hq,e2⟩:=fQ (ns:=ns) (k:=k+1) (x:=x1) (rs:=rs) h.toAt0 (d+1) L.length hL0 (by omega) (by omega)
   have e3:((L.length:Nat):Int)-1-(q:Int)=((L.length-1-q:Nat):Int):=by omega
   obtain⟨a,ha⟩:∃ a,L[L.length-1-q]? = qq a:=⟨L[L.length-1-q],yAa (by omega)⟩
   have ga:aI (.list (L.map nD)) (.int ((L.length-1-q:Nat):Int))=qq (.int (a:Nat)):=lH (by rw[yAe,ha];rfl)
   refine⟨a,k+2,x2,rs,⟨⟨[],by simp,by simp⟩,hr,hmem a (xAk ha)⟩,by omega,?_⟩
   simp only[gS2,tP,sP,nn,e1,iI,d1,eB,eD,ll,cR,e2,e3,ga,h.take]
  ·have d1:decide ((0:Int)<(q4:Int))=false:=dqF (by omega)
   obtain⟨q,x2,hq,e2⟩:=fQ (ns:=ns) (k:=k+1) (x:=x1) (rs:=rs) h.toAt0 (d+1) rs.length h0 hr64 (by omega)
   obtain⟨a,k',x',aM,ho,hk',e3⟩:=aHO (ns:=ns) (k:=k+2) (x:=x2) h d q w hr hq hl hw bV (by omega)
   refine⟨a,k',x',aM,ho,by omega,?_⟩
   simp only[gS2,tP,sP,nn,e1,iI,d1,h.rows,eB,eD,rows_len,e2,e3,h.take]
end
section
variable {S : aD}{n p : Nat}{ns : List Int}{k : Nat}{x : Int}{rs : List Rw}
theorem yI(h:At S n p)(d:Nat)(wd:Wd)(aN:wd=.cut\/wd=.wide\/wd=.sign)(hr:dW [] rs)(h0:0<rs.length)(hl:rs.length<=100)(hk:k<=98000) :
 ∃ (r:Rw) (x':Int),gE (rs.map (·.w)) r/\cl fns (d+2) 66 [.loc n,.loc p,.d (.str wd.s)] (aP S n p ns k x rs)=qq (.d r.d,aP S n p ns (k+2) x' rs):=by
 obtain⟨a,x1,ha,e1⟩:=fQ (ns:=ns) (k:=k) (x:=x) (rs:=rs) h.toAt0 d rs.length h0 (by omega) (by omega)
 obtain⟨r,hra⟩:∃ r,rs[a]? = qq r:=⟨rs[a],yAa ha⟩;obtain⟨bS,bV⟩:=aBr hr hra;have ga:=zX hra;have cw:=bO wd .cut;rw[show Wd.cut.s=("cut" : Str) from rfl] at cw
 have e65:(65:Int)-(r.w:Int)=((65-r.w:Nat):Int):=by omega
 by_cases c:wd=.cut
 ·subst c;obtain⟨q,x2,hq,e2⟩:=fQ (ns:=ns) (k:=k+1) (x:=x1) (rs:=rs) h.toAt0 d r.w (by omega) (by omega) (by omega)
  have a1:(1:Int)+(q:Int)=((1+q:Nat):Int):=by omega
  refine⟨⟨.cut,1+q,[a]⟩,x2,⟨by show 1<=1+q;omega,by show 1+q<=64;omega,r.w,nW hra,by show 1+q<=r.w;omega⟩,?_⟩
  rw[aV rfl (d+1) _ _ rfl];simp only[gR1,aA3,h.rows,eB,eD,rows_len,e1,ga,fK,cw,decide_true,e2,eI,a1,h.take]
 ·obtain⟨q,x2,hq,e2⟩:=fQ (ns:=ns) (k:=k+1) (x:=x1) (rs:=rs) h.toAt0 d (65-r.w) (by omega) (by omega) (by omega)
  have a1:(r.w:Int)+(q:Int)=((r.w+q:Nat):Int):=by omega
  rw[dqF c] at cw;have ok:gE (rs.map (·.w)) ⟨wd,r.w+q,[a]⟩:=by
   refine⟨by show 1<=r.w+q;omega,by show r.w+q<=64;omega,?_⟩
   rcases aN with rfl | rfl | rfl
   ·exact absurd rfl c
   ·exact⟨r.w,nW hra,by show r.w<=r.w+q;omega⟩
   ·exact⟨r.w,nW hra,by show r.w<=r.w+q;omega⟩
  refine⟨⟨wd,r.w+q,[a]⟩,x2,ok,?_⟩;rw[aV rfl (d+1) _ _ rfl];simp only[gR1,aA3,h.rows,eB,eD,rows_len,e1,ga,fK,cw,cR,e65,e2,eI,a1,h.take]
theorem Opd.len{rs aM:List Rw}{a w:Nat}(o:Opd rs aM a w):rs.length<=aM.length/\aM.length<=rs.length+1:=by
 obtain⟨t,rfl,h⟩:=o.ext;simp;omega
theorem Opd.keep{rs aM:List Rw}{a w b v:Nat}(o:Opd rs aM a w)(h:(rs.map (·.w))[b]? = qq v):(aM.map (·.w))[b]? = qq v:=by
 obtain⟨t,rfl,_⟩:=o.ext;rw[yCo,xAm (gIm h).1];exact h
theorem aBK(h:At S n p)(d w:Nat)(wd:Wd)(aN:wd=.left\/wd=.right\/wd=.slide)(hr:dW [] rs)(h0:0<rs.length)(hl:rs.length<=90)(hw:1<=w)(bV:w<=64)(hk:k<=97000) :
 ∃ (r:Rw) (k':Nat) (x':Int) (aM:List Rw),dW [] aM/\rs.length<=aM.length/\aM.length<=rs.length+1/\gE (aM.map (·.w)) r/\k'<=k+6/\cl fns (d+4) 67 [.loc n,.loc p,.d (.str wd.s),.d (.int (w:Nat))] (aP S n p ns k x rs)=qq (.d r.d,aP S n p ns k' x' aM):=by
 obtain⟨q1,x1,h1,e1⟩:=fQ (ns:=ns) (k:=k) (x:=x) (rs:=rs) h.toAt0 (d+2) w (by omega) (by omega) (by omega)
 obtain⟨q2,x2,h2,e2⟩:=gW (ns:=ns) (k:=k+1) (x:=x1) (rs:=rs) h.toAt0 (d+2) 64 (i:=64) rfl (by decide) (by decide) (by omega)
 obtain⟨q3,x3,h3,e3⟩:=gW (ns:=ns) (k:=k+2) (x:=x2) (rs:=rs) h.toAt0 (d+2) 4 (i:=4) rfl (by decide) (by decide) (by omega)
 obtain⟨a,k',x',aM,ho,hk',e4⟩:=sW (ns:=ns) (k:=k+3) (x:=x3) h d w hr h0 (by omega) hw bV (by omega)
 have bX:∀ kk:Nat,kk<64->gE (aM.map (·.w)) ⟨wd,w,[a,kk]⟩:=λ kk hkk=>by
  refine⟨hw,bV,?_⟩;rcases aN with rfl | rfl | rfl<;>exact⟨ho.wd,hkk⟩
 have hq:(q3:Int)/3=((0:Nat):Int)\/(q3:Int)/3=((1:Nat):Int):=by omega
 rcases hq with hq | hq
 ·refine⟨⟨wd,w,[a,q1]⟩,k',x',aM,ho.ok,ho.len.1,ho.len.2,bX q1 (by omega),by omega,?_⟩
  rw[aV rfl (d+3) _ _ rfl];have hq22:=mX (i:=(q3:Int)) (j:=3) (by decide) (by decide)
  simp only[gR1,aBl,e1,e2,e3,hq22,hq,aDb,e4,h.take]
 ·refine⟨⟨wd,w,[a,q2]⟩,k',x',aM,ho.ok,ho.len.1,ho.len.2,bX q2 (by omega),by omega,?_⟩
  rw[aV rfl (d+3) _ _ rfl];have hq23:=mX (i:=(q3:Int)) (j:=3) (by decide) (by decide)
  simp only[gR1,aBl,e1,e2,e3,hq23,hq,aC6,e4,h.take]
noncomputable def vC(wd:Wd)(w:Nat):Nat:=if (wd=.same\/wd=.less\/wd=.under) then 1 else w
theorem aHc(h:At S n p)(d w:Nat)(wd:Wd)(hr:dW [] rs)(h0:0<rs.length)(hl:rs.length<=90)(hw:1<=w)(bV:w<=64)(hk:k<=97000) :
 ∃ (a b k':Nat) (x':Int) (aM:List Rw),dW [] aM/\(∃ t,aM=rs++t/\t.length<=2)/\(aM.map (·.w))[a]? = qq w/\(aM.map (·.w))[b]? = qq w/\k'<=k+6 /\
  cl fns (d+4) 68 [.loc n,.loc p,.d (.str wd.s),.d (.int (w:Nat))] (aP S n p ns k x rs)=qq (.d (.tuple [.str wd.s,.int (vC wd w:Nat),.int (a:Nat),.int (b:Nat)]),aP S n p ns k' x' aM):=by
 obtain⟨a,k1,x1,rs1,o1,hk1,e1⟩:=sW (ns:=ns) (k:=k) (x:=x) h d w hr h0 (by omega) hw bV (by omega)
 have l1:=o1.len;obtain⟨b,k2,x2,rs2,o2,hk2,e2⟩:=sW (ns:=ns) (k:=k1) (x:=x1) h d w o1.ok (by omega) (by omega) hw bV (by omega)
 refine⟨a,b,k2,x2,rs2,o2.ok,?_,o2.keep o1.wd,o2.wd,by omega,?_⟩
 ·obtain⟨t1,rfl,ht1⟩:=o1.ext;obtain⟨t2,rfl,ht2⟩:=o2.ext;exact⟨t1++t2,by simp,by simp;omega⟩
 ·rw[aV rfl (d+3) _ _ rfl]
  by_cases c:wd=.same\/wd=.less\/wd=.under
  ·have is:=zI wd;rw[dqT c] at is;have pw:vC wd w=1:=if_pos c;simp only[gR1,aBt,e1,e2,is,pw,h.take]
  ·have is:=zI wd;rw[dqF c] at is;have pw:vC wd w=w:=if_neg c;simp only[gR1,aBt,e1,e2,is,pw,h.take]
end
noncomputable def eE(k:Nat):Sx:=match jK with
 | .seq a1 (.seq a2 (.seq a3 (.seq a4 (.seq a5 (.seq a6 (.seq a7 _))))))=>[a1,a2,a3,a4,a5,a6,a7].getD k .skip
 | _=>.skip
theorem aL4:jK=.seq (eE 0) (.seq (eE 1) (.seq (eE 2) (.seq (eE 3) (.seq (eE 4) (.seq (eE 5) (.seq (eE 6) .skip)))))):=rfl
theorem aTV(a b c e f:D):cG .Add (.tuple [a,b,c]) (.tuple [e,f])=qq (.tuple [a,b,c,e,f]):=by
 show(if [a,b,c].isEmpty=false/\[a,b,c].length+[e,f].length<=qk then qq (yCx ([a,b,c]++[e,f])) else qz)=_
 rw[if_pos ⟨rfl,by rw[zv];show 3+2<=16777216;decide⟩]
 rfl
theorem aUm(a b c e:D):iA [a,b,c,e] (qq 2) qz=[c,e]:=rfl
theorem aUd:(HT.sIx 4 0 (qq 2)=0/\HT.sIx 4 4 qz=4)=False:=by simp[HT.sIx]
section
variable {S : aD}{n p : Nat}{ns : List Int}{k : Nat}{x : Int}{rs : List Rw}
theorem aPp(h:At S n p)(d w:Nat)(wd:Wd)(l2 e5 e6:Option W)(hr:dW [] rs)(h0:0<rs.length)(hl:rs.length<=80)(hw:1<=w)(bV:w<=64)(hk:k<=96000) :
 ∃ (r:Rw) (k':Nat) (x':Int) (aM:List Rw) (e6':Option W),dW [] aM/\rs.length<=aM.length/\aM.length<=rs.length+3/\gE (aM.map (·.w)) r/\k'<=k+12 /\
  xs (aC fns (d+4)) (eE 5) [qq (.loc n),qq (.loc p),l2,qq (.d (.str wd.s)),qq (.d (.int (w:Nat))),e5,e6] (aP S n p ns k x rs)=qq (.nx [qq (.loc n),qq (.loc p),l2,qq (.d (.str wd.s)),qq (.d (.int (w:Nat))),qq (.d r.d),e6'],aP S n p ns k' x' aM):=by
 have c1:bH .Eq (.str wd.s) (.str "in")=qq (.bool (decide (wd=.in))):=bO wd .in
 by_cases k1:wd=.in
 ·subst k1;refine⟨⟨.in,w,[]⟩,k,x,rs,e6,hr,by omega,by omega,⟨hw,bV,True.intro⟩,by omega,?_⟩
  exact nN (cQ rfl c1) (kJ rfl)
 rw[dqF k1] at c1;have q1:=λ {r S1}=>vZ (C:=aC fns (d+4)) (s:=eE 5) (env:=[qq (.loc n),qq (.loc p),l2,qq (.d (.str wd.s)),qq (.d (.int (w:Nat))),e5,e6]) (S:=aP S n p ns k x rs) (r:=r) (S1:=S1) rfl (cQ rfl c1)
 clear c1;have c2:bH .Eq (.str wd.s) (.str "num")=qq (.bool (decide (wd=.num))):=bO wd .num
 by_cases k2:wd=.num
 ·subst k2;obtain⟨q,k',x',hq,hk',e⟩:=aCz (ns:=ns) (k:=k) (x:=x) (rs:=rs) h.toAt0 (d+1) w hw bV (by omega)
  refine⟨⟨.num,w,[q]⟩,k',x',rs,e6,hr,by omega,by omega,⟨hw,bV,hq⟩,by omega,q1 (nN (cQ rfl c2) (kJ ?_))⟩
  simp only[gS0,e]
 rw[dqF k2] at c2;have q2:=λ {r S1} h=>q1 (vZ (r:=r) (S1:=S1) rfl (cQ rfl c2) h)
 clear c2;have c3:bH .Eq (.str wd.s) (.str "not")=qq (.bool (decide (wd=.not))):=bO wd .not
 by_cases k3:wd=.not
 ·subst k3;obtain⟨a,k',x',aM,o,hk',e⟩:=sW (ns:=ns) (k:=k) (x:=x) h (d+1) w hr h0 (by omega) hw bV (by omega)
  have l:=o.len;refine⟨⟨.not,w,[a]⟩,k',x',aM,e6,o.ok,by omega,by omega,⟨hw,bV,o.wd⟩,by omega,q2 (nN (cQ rfl c3) (kJ ?_))⟩
  simp only[gS0,e]
 rw[dqF k3] at c3;have q3:=λ {r S1} h=>q2 (vZ (r:=r) (S1:=S1) rfl (cQ rfl c3) h)
 clear c3;have c4:=aB0 wd
 by_cases k4:wd=.left\/wd=.right\/wd=.slide
 ·rw[dqT k4] at c4;obtain⟨r,k',x',aM,ok,l1,l2,okr,hk',e⟩:=aBK (ns:=ns) (k:=k) (x:=x) h d w wd k4 hr h0 (by omega) hw bV (by omega)
  refine⟨r,k',x',aM,e6,ok,by omega,by omega,okr,by omega,q3 (nN (jR rfl rfl c4) (kJ ?_))⟩
  simp only[gS0,e]
 rw[dqF k4] at c4;have q4:=λ {r S1} h=>q3 (vZ (r:=r) (S1:=S1) rfl (jR rfl rfl c4) h)
 clear c4;have c5:=aR8 wd
 by_cases k5:wd=.cut\/wd=.wide\/wd=.sign
 ·rw[dqT k5] at c5;obtain⟨r,x',okr,e⟩:=yI (ns:=ns) (k:=k) (x:=x) h (d+2) wd k5 hr h0 (by omega) (by omega)
  refine⟨r,k+2,x',rs,e6,hr,by omega,by omega,okr,by omega,q4 (nN (jR rfl rfl c5) (kJ ?_))⟩
  simp only[gS0,e]
 rw[dqF k5] at c5;have q5:=λ {r S1} h=>q4 (vZ (r:=r) (S1:=S1) rfl (jR rfl rfl c5) h)
 clear c5;have c6:bH .Eq (.str wd.s) (.str "pick")=qq (.bool (decide (wd=.pick))):=bO wd .pick
 by_cases k6:wd=.pick
 ·subst k6;obtain⟨c,k1',x1,rs1,o1,hk1,e1⟩:=sW (ns:=ns) (k:=k) (x:=x) h (d+1) 1 hr h0 (by omega) (by decide) (by decide) (by omega)
  have l1:=o1.len;obtain⟨a,b,k',x',aM,ok,⟨t,rfl,ht⟩,wa,wb,hk',e2⟩:=aHc (ns:=ns) (k:=k1') (x:=x1) h d w .pick o1.ok (by omega) (by omega) hw bV (by omega)
  have wc:((rs1++t).map (·.w))[c]? = qq 1:=by
   rw[yCo,xAm (gIm o1.wd).1];exact o1.wd
  rw[show((1:Nat):Int)=1 from rfl] at e1
  refine⟨⟨.pick,w,[c,a,b]⟩,k',x',rs1++t,qq (.d (.int (c:Nat))),ok,by simp;omega,by simp;omega,⟨hw,bV,wc,wa,wb⟩,by omega,q5 (nN (cQ rfl c6) (eC (S1:=aP S n p ns k1' x1 rs1) (w:=.d (.int (c:Nat))) ?_ rfl (kJ ?_)))⟩
  ·simp only[gS0,e1]
  ·simp only[gS0,e2,oC,nJ,wU,aUd,aUm,aTV]
 rw[dqF k6] at c6;obtain⟨a,b,k',x',aM,ok,⟨t,rfl,ht⟩,wa,wb,hk',e2⟩:=aHc (ns:=ns) (k:=k) (x:=x) h d w wd hr h0 (by omega) hw bV (by omega)
 have okr:gE ((rs++t).map (·.w)) ⟨wd,vC wd w,[a,b]⟩:=by
  clear q1 q2 q3 q4 q5 c6 e2;cases wd
  all_goals first | exact⟨hw,bV,wa,wb⟩ | exact⟨yAc 1,oqT rfl,rfl,w,wa,wb⟩ | exact absurd rfl k1 | exact absurd rfl k2 | exact absurd rfl k3 | exact absurd rfl k6 | exact absurd (.inl rfl) k4 | exact absurd (.inr (.inl rfl)) k4 | exact absurd (.inr (.inr rfl)) k4 | exact absurd (.inl rfl) k5 | exact absurd (.inr (.inl rfl)) k5 | exact absurd (.inr (.inr rfl)) k5
 refine⟨⟨wd,vC wd w,[a,b]⟩,k',x',rs++t,e6,ok,by simp,by simp;omega,okr,by omega,q5 (vF (cQ rfl c6) (kJ ?_))⟩
 simp only[gS0,e2]
end
noncomputable def wds:List Wd:=[.in,.num,.num,.not,.and,.or,.xor,.add,.sub,.mul,.left,.right,.slide,.cut,.wide,.sign,.same,.less,.under,.pick]
noncomputable def kD:D:=.list (wds.map λ w=>PyData.str w.s)
section
variable {S : aD}{n p : Nat}{ns : List Int}{k : Nat}{x : Int}{rs : List Rw}
theorem row_ok(h:At S n p)(d:Nat)(hr:dW [] rs)(h0:0<rs.length)(hl:rs.length<=80)(hk:k<=95000) :
 ∃ (k':Nat) (x':Int) (aM:List Rw),dW [] aM/\rs.length<=aM.length/\aM.length<=rs.length+4/\k'<=k+20/\cl fns (d+5) 69 [.loc n,.loc p] (aP S n p ns k x rs)=qq (.d .none,aP S n p ns k' x' aM):=by
 have s01:xs (aC fns (d+4)) (.seq (eE 0) (eE 1)) [qq (.loc n),qq (.loc p),qz,qz,qz,qz,qz] (aP S n p ns k x rs)=qq (.nx [qq (.loc n),qq (.loc p),qq (.d kD),qz,qz,qz,qz],aP S n p ns k x rs):=by
  simp only[evs,eE,jK,yBr,yBm];rw[aPO (by simp)]
  simp only[gS0,True]
 obtain⟨q1,x1,h1,e1⟩:=gW (ns:=ns) (k:=k) (x:=x) (rs:=rs) h.toAt0 (d+3) 20 (i:=20) rfl (by decide) (by decide) (by omega)
 obtain⟨wd,aN⟩:∃ wd,wds[q1]? = qq wd:=⟨wds[q1],yAa (by simpa [wds] using h1)⟩
 have gw:aI kD (.int (q1:Nat))=qq (.str wd.s):=lH (by rw[yAe,aN];rfl)
 have s2:xs (aC fns (d+4)) (eE 2) [qq (.loc n),qq (.loc p),qq (.d kD),qz,qz,qz,qz] (aP S n p ns k x rs)=qq (.nx [qq (.loc n),qq (.loc p),qq (.d kD),qq (.d (.str wd.s)),qz,qz,qz],aP S n p ns (k+1) x1 rs):=by
  simp only[gS2,eE,jK,yBr,yBm,e1,gw]
 obtain⟨a,x2,ha,e2⟩:=fQ (ns:=ns) (k:=k+1) (x:=x1) (rs:=rs) h.toAt0 (d+3) rs.length h0 (by omega) (by omega)
 obtain⟨r,hra⟩:∃ r,rs[a]? = qq r:=⟨rs[a],yAa ha⟩;obtain⟨bS,bV⟩:=aBr hr hra;have s3:xs (aC fns (d+4)) (eE 3) [qq (.loc n),qq (.loc p),qq (.d kD),qq (.d (.str wd.s)),qz,qz,qz] (aP S n p ns (k+1) x1 rs)=qq (.nx [qq (.loc n),qq (.loc p),qq (.d kD),qq (.d (.str wd.s)),qq (.d (.int (r.w:Nat))),qz,qz],aP S n p ns (k+2) x2 rs):=by
  simp only[gS2,eE,jK,yBr,yBm,h.rows,eB,eD,rows_len,e2,zX hra,fK]
 obtain⟨q3,x3,h3,e3⟩:=gW (ns:=ns) (k:=k+2) (x:=x2) (rs:=rs) h.toAt0 (d+3) 4 (i:=4) rfl (by decide) (by decide) (by omega)
 obtain⟨w,k4,x4,hw3,hw4,hk4,s4⟩:∃ (w k4:Nat) (x4:Int),1<=w/\w<=64/\k4<=k+6/\xs (aC fns (d+4)) (eE 4) [qq (.loc n),qq (.loc p),qq (.d kD),qq (.d (.str wd.s)),qq (.d (.int (r.w:Nat))),qz,qz] (aP S n p ns (k+2) x2 rs)=qq (.nx [qq (.loc n),qq (.loc p),qq (.d kD),qq (.d (.str wd.s)),qq (.d (.int (w:Nat))),qz,qz],aP S n p ns k4 x4 rs):=by
  rcases yDq ((q3:Int)==1) with c | c
  ·obtain⟨w,x4,g1,g2,e4⟩:=aGk (ns:=ns) (k:=k+3) (x:=x3) (rs:=rs) h.toAt0 (d+2) (by omega)
   refine⟨w,k+6,x4,g1,g2,by omega,?_⟩
   simp only[gS2,eE,jK,yBr,yBm,e3,bP,c,e4]
  ·refine⟨r.w,k+3,x3,bS,bV,by omega,?_⟩
   simp only[gS2,eE,jK,yBr,yBm,e3,bP,c]
 obtain⟨rr,k',x',aM,e6',ok,l1,l2,okr,hk',s5⟩:=aPp (ns:=ns) (k:=k4) (x:=x4) h d w wd (qq (.d kD)) qz qz hr h0 hl hw3 hw4 (by omega)
 refine⟨k',x',aM++[rr],aBg ok (by simpa using okr),by simp;omega,by simp;omega,by omega,?_⟩
 rw[aV rfl (d+4) _ _ rfl];have full:xs (aC fns (d+4)) jK [qq (.loc n),qq (.loc p),qz,qz,qz,qz,qz] (aP S n p ns k x rs)=qq (.nx [qq (.loc n),qq (.loc p),qq (.d kD),qq (.d (.str wd.s)),qq (.d (.int (w:Nat))),qq (.d rr.d),e6'],aP S n p ns k' x' (aM++[rr])):=by
  have s01':∀ r:Sx,xs (aC fns (d+4)) (.seq (eE 0) (.seq (eE 1) r)) [qq (.loc n),qq (.loc p),qz,qz,qz,qz,qz] (aP S n p ns k x rs)=xs (aC fns (d+4)) r [qq (.loc n),qq (.loc p),qq (.d kD),qz,qz,qz,qz] (aP S n p ns k x rs):=λ r=>by
   simp only[lK,dY] at s01 ⊢;cases q:xs (aC fns (d+4)) (eE 0) [qq (.loc n),qq (.loc p),qz,qz,qz,qz,qz] (aP S n p ns k x rs) with
   | none=>rw[q] at s01;cases s01
   | some z =>
     obtain⟨fl,S1⟩:=z;rw[q] at s01;cases fl with
     | nx e =>
       simp only[oB] at s01 ⊢;rw[s01];simp only[oB]
     | rt w=>cases s01
     | bk e=>cases s01
     | ct e=>cases s01
  rw[aL4,s01',dN s2,dN s3,dN s4,dN s5];have hq24:=λ ns k x=>aG5 (ns:=ns) (k:=k) (x:=x) h (show aM.length<=1000 by omega)
  simp only[gS2,eE,jK,yBr,yBm,gQ,hq24]
 show((xs (aC fns (d+4)) jK [qq (.loc n),qq (.loc p),qz,qz,qz,qz,qz] (aP S n p ns k x rs)).bind _)=_;rw[full];simp only[oB,h.take]
end
end GP
noncomputable def tr(n w:Nat):Nat:=w-bl (n^^^(2^w-1))
theorem aRv(n w i:Nat):(n^^^(2^w-1)).testBit i=(n.testBit i ^^ decide (i<w)):=by rw[yAo,cW]
theorem aI9(n w:Nat):tr n w<=w:=yGg _ _
theorem aG8{n w i:Nat}(hi:w-tr n w<=i)(hw:i<w):n.testBit i=true:=by
 have h1:bl (n^^^(2^w-1))<=i:=by unfold tr at hi;omega
 have h2:=cL (oZ (n^^^(2^w-1))) h1;rw[aRv,dqT hw] at h2;cases q:n.testBit i with
 | true=>rfl
 | false=>rw[q] at h2;cases h2
noncomputable def dJ(a w:Nat):Nat:=(2^w-1)^^^(2^(w-a)-1)
theorem mO{a w i:Nat}:(dJ a w).testBit i=(decide (w-a<=i)&&decide (i<w)):=by
 unfold dJ;rw[yAo,cW,cW]
 by_cases h1:i<w<;>by_cases h2:i<w-a
 ·rw[dqT h1,dqT h2,dqF (by omega)];rfl
 ·rw[dqT h1,dqF h2,dqT (by omega)];rfl
 ·omega
 ·rw[dqF h1,dqF h2,yCl];rfl
theorem aCC{x y:Nat}:x&&&y≠0 ↔ ∃ i,x.testBit i=true/\y.testBit i=true:=by
 constructor
 ·intro h
  by_cases c:∃ i,x.testBit i=true/\y.testBit i=true
  ·exact c
  ·refine absurd ((jL _).mpr λ i=>?_) h
   rw[yAj];cases h1:x.testBit i<;>cases h2:y.testBit i<;>first | rfl | exact absurd ⟨i,h1,h2⟩ c
 ·rintro ⟨i,h1,h2⟩ z;rw[jL] at z;have:=z i;rw[yAj,h1,h2] at this;cases this
noncomputable def dD(x a w:Nat):Nat:=if x&&&dJ a w=0 then x else x|||dJ a w
theorem aAt{x a w:Nat}(h:x<2^w):dD x a w<2^w:=by
 unfold dD
 split
 ·exact h
 ·exact yBj h (by
   apply yCi;intro i hi;rw[mO,dqF (show ¬ i<w by omega),yCl])
theorem zO{x a w i:Nat}:(dD x a w).testBit i=true ↔ x.testBit i=true\/((w-a<=i/\i<w)/\∃ j,(w-a<=j/\j<w)/\x.testBit j=true):=by
 unfold dD
 split
 ·rename_i h;constructor
  ·intro z;exact .inl z
  ·rintro (z | ⟨_,j,h1,h2⟩)
   ·exact z
   ·refine absurd h (aCC.mpr ⟨j,h2,?_⟩);rw[mO,dqT h1.1,dqT h1.2];rfl
 ·rename_i h;obtain⟨j,h1,h2⟩:=aCC.mp h;rw[mO,yBb,decide_eq_true_eq,decide_eq_true_eq] at h2;rw[xAo,yEe,mO,yBb,decide_eq_true_eq,decide_eq_true_eq];constructor
  ·rintro (z | z)
   ·exact .inl z
   ·exact .inr ⟨z,j,h2,h1⟩
  ·rintro (z | ⟨z,_⟩)
   ·exact .inl z
   ·exact .inr z
noncomputable def vR(i j k:Nat):Nat:=max (max i j) k
structure Ft where
 N:Nat
 O:Nat
 A:Nat
noncomputable def gK(f:Ft)(w:Nat):Ft:=⟨dD f.N f.A w,dD f.O f.A w,vR f.A (tr (dD f.N f.A w) w) (tr (dD f.O f.A w) w)⟩
def Hd(f:Ft)(n w:Nat):Prop:=(∀ i,f.N.testBit i=true->n.testBit i=false)/\(∀ i,f.O.testBit i=true->n.testBit i=true)/\((∀ i,w-f.A<=i->i<w->n.testBit i=true)\/(∀ i,w-f.A<=i->i<w->n.testBit i=false))
structure FtOk(f:Ft)(w:Nat):Prop where
 lN:f.N<2^w
 lO:f.O<2^w
 a1:1<=f.A
 aw:f.A<=w
theorem aUs{f:Ft}{w:Nat}(h:FtOk f w):FtOk (gK f w) w:=by
 have h1:=aI9 (dD f.N f.A w) w;have h2:=aI9 (dD f.O f.A w) w;have h3:=h.a1;have h4:=h.aw;exact⟨aAt h.lN,aAt h.lO,by show 1<=max (max _ _) _;omega,by show max (max _ _) _<=w;omega⟩
theorem aNn{f:Ft}{n w:Nat}(h:FtOk f w):Hd (gK f w) n w ↔ Hd f n w:=by
 have aA:f.A<=(gK f w).A:=by show f.A<=max (max _ _) _;omega
 constructor
 ·rintro ⟨h1,h2,h3⟩;refine⟨λ i hi=>h1 i (zO.mpr (.inl hi)),λ i hi=>h2 i (zO.mpr (.inl hi)),?_⟩
  rcases h3 with h3 | h3
  ·exact .inl λ i a b=>h3 i (by omega) b
  ·exact .inr λ i a b=>h3 i (by omega) b
 ·rintro ⟨h1,h2,h3⟩;have hN:∀ i,(gK f w).N.testBit i=true->n.testBit i=false:=λ i hi=>by
   rcases zO.mp hi with z | ⟨⟨a,b⟩,j,⟨c,d⟩,e⟩
   ·exact h1 i z
   ·rcases h3 with h3 | h3
    ·have x1:=h3 j c d;rw[h1 j e] at x1;cases x1
    ·exact h3 i a b
  have hO:∀ i,(gK f w).O.testBit i=true->n.testBit i=true:=λ i hi=>by
   rcases zO.mp hi with z | ⟨⟨a,b⟩,j,⟨c,d⟩,e⟩
   ·exact h2 i z
   ·rcases h3 with h3 | h3
    ·exact h3 i a b
    ·have x1:=h3 j c d;rw[h2 j e] at x1;cases x1
  refine⟨hN,hO,?_⟩;have cA:(gK f w).A=f.A\/(gK f w).A=tr (gK f w).N w\/(gK f w).A=tr (gK f w).O w:=by
   show max (max _ _) _=_\/max (max _ _) _=tr (dD f.N f.A w) w\/max (max _ _) _=tr (dD f.O f.A w) w;omega
  rcases cA with c | c | c
  ·rw[c];exact h3
  ·rw[c];exact .inr λ i a b=>hN i (aG8 a b)
  ·rw[c];exact .inl λ i a b=>hO i (aG8 a b)
theorem aUL{f:Ft}{n w:Nat}(h:Hd f n w):f.N&&&f.O=0:=by
 by_cases c:f.N&&&f.O=0
 ·exact c
 ·obtain⟨i,h1,h2⟩:=aCC.mp c;have x:=h.1 i h1;rw[h.2.1 i h2] at x;cases x
theorem zN{n w i:Nat}(hn:n<2^w)(hi:i<w):(2^w-1-n).testBit i = !n.testBit i:=by
 have:=mY hn i;unfold oE at this;rw[this,dqT hi,yAt]
theorem aMW{n w a:Nat}(hn:n<2^w)(ha:a<=w):n/2^(w-a)=2^a-1 ↔ ∀ i,w-a<=i->i<w->n.testBit i=true:=by
 constructor
 ·intro h i h1 h2;have:(n/2^(w-a)).testBit (i-(w-a))=(2^a-1).testBit (i-(w-a)):=by rw[h]
  rw[gM,cW,show w-a+(i-(w-a))=i by omega,dqT (by omega)] at this
  exact this
 ·intro h;apply xAl;intro i;rw[gM,cW]
  by_cases c:i<a
  ·rw[h _ (by omega) (by omega),dqT c]
  ·rw[cL hn (by omega),dqF c]
theorem aME{n w a:Nat}(hn:n<2^w)(ha:a<=w):n/2^(w-a)=0 ↔ ∀ i,w-a<=i->i<w->n.testBit i=false:=by
 rw[aBc];constructor
 ·intro h i h1 _;exact h i h1
 ·intro h i h1
  by_cases c:i<w
  ·exact h i h1 c
  ·exact cL hn (by omega)
theorem aNN{x y:Nat}:(x&&&y=0) ↔ ∀ i,y.testBit i=true->x.testBit i=false:=by
 rw[jL];constructor
 ·intro h i hy;have:=h i;rw[yAj,hy,yCj] at this;exact this
 ·intro h i;rw[yAj];cases hy:y.testBit i with
  | false=>exact yCl _
  | true=>rw[h i hy];rfl
theorem aFq{x y:Nat}:(x&&&y=y) ↔ ∀ i,y.testBit i=true->x.testBit i=true:=by
 constructor
 ·intro h i hy;have:=congrArg (λ z=>z.testBit i) h
  simp only[yAj,hy,yCj] at this;exact this
 ·intro h;apply xAl;intro i;rw[yAj];cases hy:y.testBit i with
  | false=>exact yCl _
  | true=>rw[h i hy];rfl
noncomputable def sG(f g:Ft):Bool:=(bY f.N g.N==0)&&((bY f.O g.O==0)&&decide (f.A<=g.A))
theorem cP(d w:Nat)(h:w<=100000)(S:aD):cl fns (d+1) 0 [.d (.int w)] S=qq (.d (.int ((2^w-1:Nat):Int)),S):=by
 rw[aV rfl d _ S rfl];simp only[gR1,aI6,fO h,cR,tE]
theorem aOA(n:Nat):yAn (n:Int)=bl n:=aEK n
theorem yV(d n:Nat)(S:aD):cl fns (d+1) 1 [.d (.int n)] S=qq (.d (.int ((bl n:Nat):Int)),S):=by
 rw[aV rfl d _ S rfl];simp only[gR1,aH4,aDa,aJc,aOA]
noncomputable def lr(n:Nat):Nat:=bl (n^^^(n+1))-1
theorem aOd(n:Nat):lr n=kR (nQ n (bl n+1)):=aEU (bl n+1) n (xAb (oZ n) (yBd (by decide) (by omega)))
theorem aFV(d n:Nat)(S:aD)(h:n<2^10000):cl fns (d+2) 2 [.d (.int n)] S=qq (.d (.int ((2^bl n-1:Nat):Int)),S):=by
 rw[aV rfl (d+1) _ S rfl];have hq25:=cP d (bl n) (xAh (qZ h) (by decide))
 simp only[gR1,aHx,yV d n,hq25]
theorem aHQ{n w:Nat}(h:n<2^w)(hw:w<=10000):n<2^10000:=xAb h (yBd (by decide) hw)
theorem aCL(d n:Nat)(S:aD):cl fns (d+2) 3 [.d (.int n)] S=qq (.d (.int ((lr n:Nat):Int)),S):=by
 have h1:=aFb (aEz n);have e1:(n:Int)+1=((n+1:Nat):Int):=by omega
 have e2:((bl (n^^^(n+1)):Nat):Int)-1=((lr n:Nat):Int):=by unfold lr;omega
 rw[aV rfl (d+1) _ S rfl];simp only[gR1,aFX,eI,e1,gY,yV d,cR,e2]
noncomputable def Ft.d(f:Ft):D:=.tuple [.int (f.N:Nat),.int (f.O:Nat),.int (f.A:Nat)]
theorem fL(f:Ft):aI f.d (.int 0)=qq (.int (f.N:Nat)):=rfl
theorem fS(f:Ft):aI f.d (.int 1)=qq (.int (f.O:Nat)):=rfl
theorem iS(f:Ft):aI f.d (.int 2)=qq (.int (f.A:Nat)):=rfl
theorem tI(a b:Nat):(((a:Nat):Int)==((b:Nat):Int))=(a==b):=by
 rw[yEc,beq_iff_eq,beq_iff_eq];omega
theorem aOP(a b:Nat):decide (((a:Nat):Int)<=((b:Nat):Int))=decide (a<=b):=by
 rw[decide_eq_decide];omega
theorem aFF(d n w:Nat)(S:aD)(hn:n<2^w)(hw:w<=64):cl fns (d+2) 4 [.d (.int (n:Nat)),.d (.int (w:Nat))] S=qq (.d (.int ((tr n w:Nat):Int)),S):=by
 have h1:=qZ (aK3 hn);have e2:(w:Int)-((bl (n^^^(2^w-1)):Nat):Int)=((tr n w:Nat):Int):=by unfold tr;omega
 rw[aV rfl (d+1) _ S rfl];have hq26:=cP d w (by omega)
 simp only[gR1,aGo,hq26,gY,yV d,cR,e2]
theorem oI(d a w:Nat)(S:aD)(ha:a<=w)(hw:w<=64):cl fns (d+2) 21 [.d (.int (a:Nat)),.d (.int (w:Nat))] S=qq (.d (.int ((dJ a w:Nat):Int)),S):=by
 have e:(w:Int)-(a:Int)=((w-a:Nat):Int):=by omega
 rw[aV rfl (d+1) _ S rfl];have hq27:=cP d w (by omega)
 have hq28:=cP d (w-a) (by omega)
 simp only[gR1,aFp,hq27,cR,e,hq28,gY]
theorem mxI(i j:Nat):(if (j:Int)>(i:Int) then ((j:Nat):Int) else ((i:Nat):Int))=((max i j:Nat):Int):=by
 by_cases h:(j:Int)>(i:Int)
 ·rw[if_pos h];omega
 ·rw[if_neg h];omega
theorem yL(i j k:Nat):pN [.int (i:Nat),.int (j:Nat),.int (k:Nat)]=qq (.int ((vR i j k:Nat):Int)):=by
 show qq (yAp (if (j:Int)>(i:Int) then (if (k:Int)>(j:Int) then ((k:Nat):Int) else ((j:Nat):Int)) else (if (k:Int)>(i:Int) then ((k:Nat):Int) else ((i:Nat):Int))))=_
 rw[mxI,mxI];unfold vR
 by_cases h:(j:Int)>(i:Int)
 ·rw[if_pos h,show max (max i j) k=max j k by omega]
 ·rw[if_neg h,show max (max i j) k=max i k by omega]
theorem aCN{x a w:Nat}(h:(x&&&dJ a w==0)=true):dD x a w=x:=by
 unfold dD;rw[if_pos (eq_of_beq h)]
theorem aCO{x a w:Nat}(h:(x&&&dJ a w==0)=false):dD x a w=x|||dJ a w:=by
 unfold dD;rw[if_neg (by simpa using h)]
theorem aLX(d:Nat)(f:Ft)(w:Nat)(k:FtOk f w)(hw:w<=64)(S:aD):cl fns (d+3) 24 [.d f.d,.d (.int (w:Nat))] S=qq (.d (gK f w).d,S):=by
 have t1:=aFF d (dD f.N f.A w) w S (aAt k.lN) hw;have t2:=aFF d (dD f.O f.A w) w S (aAt k.lO) hw;rw[aV rfl (d+2) _ S rfl];show _=qq (W.d (.tuple [.int ((dD f.N f.A w:Nat):Int),.int ((dD f.O f.A w:Nat):Int),.int ((vR f.A (tr (dD f.N f.A w) w) (tr (dD f.O f.A w) w):Nat):Int)]),S);cases c1:(f.N&&&dJ f.A w==0) with
 | true =>
   rw[aCN c1] at t1 ⊢;cases c2:(f.O&&&dJ f.A w==0) with
   | true =>
     rw[aCN c2] at t2 ⊢;simp only[gR1,tY,Ft.d,oI (d:=d) (a:=f.A) (w:=w) (S:=S) k.aw hw,dG,kL,eV,c1,c2,t1,t2,yL]
   | false =>
     rw[aCO c2] at t2 ⊢;simp only[gR1,tY,Ft.d,oI (d:=d) (a:=f.A) (w:=w) (S:=S) k.aw hw,dG,kL,eV,c1,c2,eP,t1,t2,yL]
 | false =>
   rw[aCO c1] at t1 ⊢;cases c2:(f.O&&&dJ f.A w==0) with
   | true =>
     rw[aCN c2] at t2 ⊢;simp only[gR1,tY,Ft.d,oI (d:=d) (a:=f.A) (w:=w) (S:=S) k.aw hw,dG,kL,eV,c1,c2,eP,t1,t2,yL]
   | false =>
     rw[aCO c2] at t2 ⊢;simp only[gR1,tY,Ft.d,oI (d:=d) (a:=f.A) (w:=w) (S:=S) k.aw hw,dG,kL,eV,c1,c2,eP,t1,t2,yL]
theorem aMl(d:Nat)(f g:Ft)(S:aD):cl fns (d+1) 23 [.d f.d,.d g.d] S=qq (.d (.bool (sG f g)),S):=by
 rw[aV rfl d _ S rfl];unfold sG;cases c1:(bY f.N g.N==0) with
 | false=>simp only[evs,eX,zE,fL,oR,oP,bP,eV,c1,yBh]
 | true =>
   cases c2:(bY f.O g.O==0) with
   | false=>simp only[evs,eX,zE,fL,fS,oR,oP,bP,eV,c1,c2,yBh,yAt]
   | true=>simp only[evs,eX,zE,fL,fS,iS,oR,oP,bP,eV,c1,c2,aQH,aOP,yAt]
theorem tN(d:Nat)(f:Ft)(S:aD):cl fns (d+1) 25 [.d f.d] S=qq (.d (.int (f.O:Nat)),S):=by
 rw[aV rfl d _ S rfl];simp only[gR1,aIl,fS]
theorem xP(d:Nat)(f:Ft)(w:Nat)(lN:f.N<2^w)(hw:w<=64)(S:aD):cl fns (d+2) 26 [.d f.d,.d (.int (w:Nat))] S=qq (.d (.int ((2^w-1-f.N:Nat):Int)),S):=by
 have e:(2^w-1)^^^f.N=2^w-1-f.N:=by
  apply xAl;intro i;have:=mY lN i;unfold oE at this;rw[this,yAo,cW]
  by_cases c:i<w
  ·rw[dqT c];cases f.N.testBit i<;>rfl
  ·rw[dqF c,cL lN (by omega)];rfl
 rw[aV rfl (d+1) _ S rfl];have hq29:=cP d w (by omega)
 simp only[gR1,aFf,fL,hq29,gY,e]
theorem pY(d n w v:Nat)(S:aD)(hw:0<w)(hv:v<=1000)(bV:w<=64):cl fns (d+2) 5 [.d (.int (n:Nat)),.d (.int (w:Nat)),.d (.int (v:Nat))] S=qq (.d (.int ((dF n w v:Nat):Int)),S):=by
 have e1:(w:Int)-1=((w-1:Nat):Int):=by omega
 rw[aV rfl (d+1) _ S rfl];unfold dF
 by_cases c:n&&&2^(w-1)=0
 ·have d1:(n&&&2^(w-1)==0)=true:=by rw[beq_iff_eq];exact c
  rw[if_pos c];have hq30:=fO (show w-1<=100000 by omega)
  simp only[gR1,aBp,cR,e1,hq30,dG,bP,eV,d1]
 ·have d1:(n&&&2^(w-1)==0)=false:=by rw[beq_eq_false_iff_ne];exact c
  rw[if_neg c];have hq31:=fO (show w-1<=100000 by omega)
  have hq32:=cP d v (by omega)
  have hq33:=cP d w (by omega)
  simp only[gR1,aBp,cR,e1,hq31,dG,bP,eV,d1,hq32,hq33,gY,eP]
theorem aBL(a k:Nat):pN [.int 1,.int ((a:Nat)-(k:Nat):Int)]=qq (.int ((max 1 (a-k):Nat):Int)):=by
 unfold pN;simp only[];congr 2
 by_cases h1:(a:Int)-(k:Int)>1<;>simp only[h1,if_true,if_false]<;>omega
theorem kF(i j:Nat):pG [.int (i:Nat),.int (j:Nat)]=qq (.int ((min i j:Nat):Int)):=by
 unfold pG;simp only[];congr 2
 by_cases h1:(j:Int)<(i:Int)<;>simp only[h1,if_true,if_false]<;>omega
noncomputable def uX(w:Nat)(f:Ft)(k:Nat):Ft:=⟨(f.N*2^k|||(2^k-1))&&&(2^w-1),f.O*2^k&&&(2^w-1),max 1 (f.A-k)⟩
theorem aOe(d w:Nat)(f:Ft)(k:Nat)(hf:FtOk f w)(hw:w<=64)(hk:k<=1000)(S:aD):cl fns (d+2) 37 [.d (.int (w:Nat)),.d f.d,.d (.int (k:Nat))] S=qq (.d (uX w f k).d,S):=by
 rw[aV rfl (d+1) _ S rfl];have hq34:=qN hf.lN (show w+k<=100000 by omega)
 have hq35:=qN hf.lO (show w+k<=100000 by omega)
 have hq36:=cP d k (by omega)
 have hq37:=cP d w (by omega)
 simp only[gR1,aEX,fL,fS,iS,hq34,hq35,hq36,hq37,eP,dG,cR,aBL]
noncomputable def lF(w:Nat)(f:Ft)(k:Nat):Ft:=⟨f.N/2^k|||dJ (min k w) w,f.O/2^k,if k=0 then f.A else 1⟩
theorem aMS(d w:Nat)(f:Ft)(k:Nat)(hw:w<=64)(S:aD):cl fns (d+3) 38 [.d (.int (w:Nat)),.d f.d,.d (.int (k:Nat))] S=qq (.d (lF w f k).d,S):=by
 have tm:=oI d (min k w) w S (by omega) hw
 rw[aV rfl (d+2) _ S rfl]
 by_cases c:k=0
 ·have d1:(k==0)=true:=by rw[beq_iff_eq];exact c
  have e:(lF w f k).d=.tuple [.int ((f.N/2^k|||dJ (min k w) w:Nat):Int),.int ((f.O/2^k:Nat):Int),.int (f.A:Nat)]:=by unfold lF;rw[if_pos c];rfl
  rw[e];simp only[gR1,aBk,fL,fS,iS,mQ,kF,tm,eP,bP,eV,d1]
 ·have d1:(k==0)=false:=by rw[beq_eq_false_iff_ne];exact c
  have e:(lF w f k).d=.tuple [.int ((f.N/2^k|||dJ (min k w) w:Nat):Int),.int ((f.O/2^k:Nat):Int),.int 1]:=by unfold lF;rw[if_neg c];rfl
  rw[e];simp only[gR1,aBk,fL,fS,iS,mQ,kF,tm,eP,bP,eV,d1]
noncomputable def uE(w:Nat)(f:Ft)(k:Nat):Ft:=⟨dF f.N w (w+k)/2^k,dF f.O w (w+k)/2^k,min w (f.A+k)⟩
theorem aML(d w:Nat)(f:Ft)(k:Nat)(bS:1<=w)(hw:w<=64)(hk:k<=900)(S:aD):cl fns (d+3) 39 [.d (.int (w:Nat)),.d f.d,.d (.int (k:Nat))] S=qq (.d (uE w f k).d,S):=by
 have e1:(w:Int)+(k:Int)=((w+k:Nat):Int):=by omega
 have e2:(f.A:Int)+(k:Int)=((f.A+k:Nat):Int):=by omega
 rw[aV rfl (d+2) _ S rfl];have hq38:=pY d f.N w (w+k) S (by omega) (by omega) hw
 have hq39:=pY d f.O w (w+k) S (by omega) (by omega) hw
 simp only[gR1,aEJ,fL,fS,iS,eI,e1,e2,hq38,hq39,mQ,kF]
noncomputable def vQ(v w:Nat)(f:Ft):Ft:=⟨f.N&&&(2^w-1),f.O&&&(2^w-1),max 1 (f.A-(v-w))⟩
noncomputable def lS(v w:Nat)(f:Ft):Ft:=⟨f.N|||dJ (w-v) w,f.O,if w=v then f.A else 1⟩
noncomputable def vD(v w:Nat)(f:Ft):Ft:=⟨dF f.N v w,dF f.O v w,f.A+(w-v)⟩
theorem aRy(d v w:Nat)(f:Ft)(hv:w<=v)(hw:w<=64)(S:aD):cl fns (d+2) 41 [.d (.str "cut"),.d (.int (v:Nat)),.d (.int (w:Nat)),.d f.d] S=qq (.d (vQ v w f).d,S):=by
 have c1:bH .Eq (.str "cut") (.str "cut")=qq (.bool true):=bO .cut .cut;have e1:(v:Int)-(w:Int)=((v-w:Nat):Int):=by omega
 rw[aV rfl (d+1) _ S rfl];have hq40:=cP d w (by omega)
 simp only[gR1,tG,Ft.d,c1,hq40,dG,cR,e1,aBL]
theorem aOT(d v w:Nat)(f:Ft)(hv:v<=w)(hw:w<=64)(S:aD):cl fns (d+3) 41 [.d (.str "wide"),.d (.int (v:Nat)),.d (.int (w:Nat)),.d f.d] S=qq (.d (lS v w f).d,S):=by
 have c1:bH .Eq (.str "wide") (.str "cut")=qq (.bool false):=bO .wide .cut;have c2:bH .Eq (.str "wide") (.str "wide")=qq (.bool true):=bO .wide .wide;have e1:(w:Int)-(v:Int)=((w-v:Nat):Int):=by omega
 have tm:=oI d (w-v) w S (by omega) hw
 rw[aV rfl (d+2) _ S rfl]
 by_cases c:w=v
 ·have d1:(w==v)=true:=by rw[beq_iff_eq];exact c
  have e:(lS v w f).d=.tuple [.int ((f.N|||dJ (w-v) w:Nat):Int),.int (f.O:Nat),.int (f.A:Nat)]:=by unfold lS;rw[if_pos c];rfl
  rw[e];simp only[gR1,tG,Ft.d,c1,c2,cR,e1,tm,eP,bP,tI,d1]
 ·have d1:(w==v)=false:=by rw[beq_eq_false_iff_ne];exact c
  have e:(lS v w f).d=.tuple [.int ((f.N|||dJ (w-v) w:Nat):Int),.int (f.O:Nat),.int 1]:=by unfold lS;rw[if_neg c];rfl
  rw[e];simp only[gR1,tG,Ft.d,c1,c2,cR,e1,tm,eP,bP,tI,d1]
theorem aO2(d v w:Nat)(f:Ft)(hv1:1<=v)(hv:v<=w)(hw:w<=64)(S:aD):cl fns (d+3) 41 [.d (.str "sign"),.d (.int (v:Nat)),.d (.int (w:Nat)),.d f.d] S=qq (.d (vD v w f).d,S):=by
 have c1:bH .Eq (.str "sign") (.str "cut")=qq (.bool false):=bO .sign .cut;have c2:bH .Eq (.str "sign") (.str "wide")=qq (.bool false):=bO .sign .wide;have e1:(w:Int)-(v:Int)=((w-v:Nat):Int):=by omega
 have e2:(f.A:Int)+((w-v:Nat):Int)=((f.A+(w-v):Nat):Int):=by omega
 rw[aV rfl (d+2) _ S rfl];have hq41:=pY d f.N v w S (by omega) (by omega) (by omega)
 have hq42:=pY d f.O v w S (by omega) (by omega) (by omega)
 simp only[gR1,tG,Ft.d,c1,c2,cR,e1,hq41,hq42,eI,e2]
noncomputable def bwN(wd:Wd)(f g:Ft):Ft:=match wd with
 | .and=>⟨f.N|||g.N,f.O&&&g.O,min f.A g.A⟩
 | .or=>⟨f.N&&&g.N,f.O|||g.O,min f.A g.A⟩
 | _=>⟨f.N&&&g.N|||f.O&&&g.O,f.N&&&g.O|||f.O&&&g.N,min f.A g.A⟩
theorem yM(d:Nat)(f g:Ft)(S:aD):cl fns (d+1) 35 [.d f.d,.d g.d] S=qq (.d (.int ((f.N&&&g.O|||f.O&&&g.N:Nat):Int)),S):=by
 rw[aV rfl d _ S rfl];simp only[gR1,aEq,fL,fS,eP,dG]
theorem aLm(d:Nat)(wd:Wd)(aN:wd=.and\/wd=.or\/wd=.xor)(f g:Ft)(S:aD):cl fns (d+2) 36 [.d (.str wd.s),.d f.d,.d g.d] S=qq (.d (bwN wd f g).d,S):=by
 have c1:bH .Eq (.str wd.s) (.str "and")=qq (.bool (decide (wd=.and))):=bO wd .and;have c2:bH .Eq (.str wd.s) (.str "or")=qq (.bool (decide (wd=.or))):=bO wd .or;rw[aV rfl (d+1) _ S rfl];rcases aN with rfl | rfl | rfl
 ·simp only[decide_true] at c1;simp only[gR1,xI,fL,fS,iS,kF,c1,eP,dG]
 ·simp only[reduceCtorEq,decide_false,decide_true] at c1 c2;simp only[gR1,xI,fL,fS,iS,kF,c1,c2,eP,dG]
 ·simp only[reduceCtorEq,decide_false] at c1 c2;simp only[gR1,xI,fL,fS,iS,kF,c1,c2,eP,dG,yM d]
noncomputable def dI(f:Ft)(k:Nat):Nat:=2-2*(f.N.testBit k).toNat-(f.O.testBit k).toNat
theorem gG{f:Ft}(hd:f.N&&&f.O=0)(k:Nat):(dI f k==0)=f.N.testBit k:=by
 have:=(jL _).mp hd k;rw[yAj] at this;unfold dI
 revert this
 cases f.N.testBit k<;>cases f.O.testBit k<;>decide
theorem gD{f:Ft}(hd:f.N&&&f.O=0)(k:Nat):(dI f k==1)=f.O.testBit k:=by
 have:=(jL _).mp hd k;rw[yAj] at this;unfold dI
 revert this
 cases f.N.testBit k<;>cases f.O.testBit k<;>decide
theorem uO(f:Ft)(k:Nat):dI f k<3:=by
 unfold dI;omega
noncomputable def ntN(x:Nat):Nat:=[1,0,2].getD x 2
noncomputable def aAh(f:Ft)(k i:Nat):Nat:=if i<k then 0 else dI f (i-k)
noncomputable def zR(f:Ft)(w k i:Nat):Nat:=if i+k<w then dI f (i+k) else 0
noncomputable def aJm(f:Ft)(w i:Nat):Nat:=dI f (min i (w-1))
noncomputable def aAq(f:Ft)(w i:Nat):Nat:=if i<w then dI f i else 0
structure Mk(t:Nat->Nat)(n:Nat)(g:Ft):Prop where
 lN:g.N<2^n
 lO:g.O<2^n
 b0:∀ i,i<n->g.N.testBit i=(t i==0)
 b1:∀ i,i<n->g.O.testBit i=(t i==1)
theorem aJs{f:Ft}(hd:f.N&&&f.O=0)(k:Nat):(ntN (dI f k)==0)=f.O.testBit k:=by
 rw[<- gD hd k];have:=uO f k
 revert this
 generalize dI f k=x;intro h;have:x=0\/x=1\/x=2:=by omega
 rcases this with rfl | rfl | rfl<;>rfl
theorem aJw{f:Ft}(hd:f.N&&&f.O=0)(k:Nat):(ntN (dI f k)==1)=f.N.testBit k:=by
 rw[<- gG hd k];have:=uO f k
 revert this
 generalize dI f k=x;intro h;have:x=0\/x=1\/x=2:=by omega
 rcases this with rfl | rfl | rfl<;>rfl
theorem aRZ{f:Ft}{w:Nat}(hf:FtOk f w)(hd:f.N&&&f.O=0):Mk (λ i=>ntN (dI f i)) w ⟨f.O,f.N,f.A⟩:=
 ⟨hf.lO,hf.lN,λ i _=>(aJs hd i).symm,λ i _=>(aJw hd i).symm⟩
theorem uB(w:Nat):2^w-1<2^w:=by have:=xAe w;omega
theorem xV(n k i:Nat):(n*2^k).testBit i=(decide (k<=i)&&n.testBit (i-k)):=by
 have:=aEB (x:=0) (k:=k) (q:=n) (xAe k) i;rw[yDs] at this;rw[this]
 by_cases c:i<k
 ·rw[if_pos c,dqF (by omega),yAz,yBh]
 ·rw[if_neg c,dqT (by omega),yAt]
theorem aGG{f:Ft}{w:Nat}(k:Nat)(hd:f.N&&&f.O=0):Mk (aAh f k) w (uX w f k):=by
 refine⟨xAi yEj (uB w),xAi yEj (uB w),λ i hi=>?_,λ i hi=>?_⟩
 ·show((f.N*2^k|||(2^k-1))&&&(2^w-1)).testBit i=_
  rw[yAj,xAo,cW,cW,xV,dqT hi,yCj];unfold aAh
  by_cases c:i<k
  ·rw[if_pos c,dqT c,yGt];rfl
  ·rw[if_neg c,dqF c,yEu,dqT (by omega),yAt,gG hd]
 ·show(f.O*2^k&&&(2^w-1)).testBit i=_;rw[yAj,cW,xV,dqT hi,yCj];unfold aAh
  by_cases c:i<k
  ·rw[if_pos c,dqF (by omega),yBh];rfl
  ·rw[if_neg c,dqT (by omega),yAt,gD hd]
theorem aCY(a w:Nat):dJ a w<2^w:=by
 apply yCi;intro i hi;rw[mO,dqF (show ¬ i<w by omega),yCl]
theorem aFC{n k w:Nat}(h:n<2^w):n/2^k<2^w:=xAi (Nat.div_le_self _ _) h
theorem aFP{f:Ft}{w:Nat}(k:Nat)(hf:FtOk f w)(hd:f.N&&&f.O=0):Mk (zR f w k) w (lF w f k):=by
 refine⟨yBj (aFC hf.lN) (aCY _ _),aFC hf.lO,λ i hi=>?_,λ i hi=>?_⟩
 ·show(f.N/2^k|||dJ (min k w) w).testBit i=_
  rw[xAo,gM,mO,dqT hi,yCj];unfold zR
  by_cases c:i+k<w
  ·rw[if_pos c,dqF (by omega),yEu,gG hd,yDr]
  ·rw[if_neg c,dqT (by omega),yGt];rfl
 ·show(f.O/2^k).testBit i=_;rw[gM];unfold zR
  by_cases c:i+k<w
  ·rw[if_pos c,gD hd,yDr]
  ·rw[if_neg c,cL hf.lO (by omega)];rfl
theorem qQ{n w v:Nat}(h:n<2^w)(hw:0<w)(hv:w<=v){i:Nat}(hi:i<v):(dF n w v).testBit i=n.testBit (min i (w-1)):=by
 rw[pZ h hw hv]
 by_cases c:i<w
 ·rw[if_pos c,Nat.min_eq_left (by omega)]
 ·rw[if_neg c,dqT hi,yAt,yGo (by omega)]
theorem aGm{f:Ft}{w:Nat}(k:Nat)(hw:1<=w)(hf:FtOk f w)(hd:f.N&&&f.O=0):Mk (λ i=>aJm f w (i+k)) w (uE w f k):=by
 have hl:∀ n,n<2^w->dF n w (w+k)/2^k<2^w:=λ n hn=>by
  rw[yEf (xAe k),<- yEl];exact sR hn hw (by omega)
 refine⟨hl _ hf.lN,hl _ hf.lO,λ i hi=>?_,λ i hi=>?_⟩
 ·show(dF f.N w (w+k)/2^k).testBit i=(dI f (min (i+k) (w-1))==0);rw[gM,qQ hf.lN hw (by omega) (by omega),gG hd,yDr]
 ·show(dF f.O w (w+k)/2^k).testBit i=(dI f (min (i+k) (w-1))==1);rw[gM,qQ hf.lO hw (by omega) (by omega),gD hd,yDr]
theorem aHX{f:Ft}(v w:Nat)(hd:f.N&&&f.O=0):Mk (dI f) w (vQ v w f):=by
 refine⟨xAi yEj (uB w),xAi yEj (uB w),λ i hi=>?_,λ i hi=>?_⟩
 ·show(f.N&&&(2^w-1)).testBit i=_;rw[yAj,cW,dqT hi,yCj,gG hd]
 ·show(f.O&&&(2^w-1)).testBit i=_;rw[yAj,cW,dqT hi,yCj,gD hd]
theorem aGO{n v w:Nat}(h:n<2^v)(hv:v<=w):n<2^w:=xAb h (yBd (by decide) hv)
theorem aGA{f:Ft}{v w:Nat}(hv:v<=w)(hf:FtOk f v)(hd:f.N&&&f.O=0):Mk (aAq f v) w (lS v w f):=by
 refine⟨yBj (aGO hf.lN hv) (aCY _ _),aGO hf.lO hv,λ i hi=>?_,λ i hi=>?_⟩
 ·show(f.N|||dJ (w-v) w).testBit i=_
  rw[xAo,mO,dqT hi,yCj];unfold aAq
  by_cases c:i<v
  ·rw[if_pos c,dqF (by omega),yEu,gG hd]
  ·rw[if_neg c,dqT (by omega),yGt];rfl
 ·show f.O.testBit i=_;unfold aAq
  by_cases c:i<v
  ·rw[if_pos c,gD hd]
  ·rw[if_neg c,cL hf.lO (by omega)];rfl
theorem aG6{f:Ft}{v w:Nat}(h1:1<=v)(hv:v<=w)(hf:FtOk f v)(hd:f.N&&&f.O=0):Mk (aJm f v) w (vD v w f):=by
 refine⟨sR hf.lN h1 hv,sR hf.lO h1 hv,λ i hi=>?_,λ i hi=>?_⟩
 ·show(dF f.N v w).testBit i=(dI f (min i (v-1))==0);rw[qQ hf.lN h1 hv hi,gG hd]
 ·show(dF f.O v w).testBit i=(dI f (min i (v-1))==1);rw[qQ hf.lO h1 hv hi,gD hd]
noncomputable def btN(b:Nat)(x y:Nat):Nat:=match b with
 | 0=>if x=0\/y=0 then 0 else if x<2/\y<2 then x*y else 2
 | 1=>if x=1\/y=1 then 1 else if x<2/\y<2 then x+y else 2
 | _=>if x<2/\y<2 then (if x=y then 0 else 1) else 2
theorem jB(f:Ft)(k:Nat):dI f k=0\/dI f k=1\/dI f k=2:=by
 have:=uO f k;omega
noncomputable def sC(b:Nat)(f g:Ft):Ft:=match b with
 | 0=>⟨f.N|||g.N,f.O&&&g.O,min f.A g.A⟩
 | 1=>⟨f.N&&&g.N,f.O|||g.O,min f.A g.A⟩
 | _=>⟨f.N&&&g.N|||f.O&&&g.O,f.N&&&g.O|||f.O&&&g.N,min f.A g.A⟩
theorem aI7(b:Nat)(hb:b=0\/b=1\/b=2){f g:Ft}{w:Nat}(hf:FtOk f w)(hd:f.N&&&f.O=0)(hg:FtOk g w)(he:g.N&&&g.O=0):Mk (λ i=>btN b (dI f i) (dI g i)) w (sC b f g):=by
 have an:∀ {x y:Nat},x<2^w->x&&&y<2^w:=λ h=>xAi yBy h
 rcases hb with rfl | rfl | rfl
 ·refine⟨yBj hf.lN hg.lN,an hf.lO,λ i _=>?_,λ i _=>?_⟩
  ·show(f.N|||g.N).testBit i=_
   rw[xAo,<- gG hd,<- gG he];rcases jB f i with h | h | h<;>rcases jB g i with h' | h' | h'<;>rw[h,h']<;>rfl
  ·show(f.O&&&g.O).testBit i=_;rw[yAj,<- gD hd,<- gD he];rcases jB f i with h | h | h<;>rcases jB g i with h' | h' | h'<;>rw[h,h']<;>rfl
 ·refine⟨an hf.lN,yBj hf.lO hg.lO,λ i _=>?_,λ i _=>?_⟩
  ·show(f.N&&&g.N).testBit i=_;rw[yAj,<- gG hd,<- gG he];rcases jB f i with h | h | h<;>rcases jB g i with h' | h' | h'<;>rw[h,h']<;>rfl
  ·show(f.O|||g.O).testBit i=_
   rw[xAo,<- gD hd,<- gD he];rcases jB f i with h | h | h<;>rcases jB g i with h' | h' | h'<;>rw[h,h']<;>rfl
 ·refine⟨yBj (an hf.lN) (an hf.lO),yBj (an hf.lN) (an hf.lO),λ i _=>?_,λ i _=>?_⟩
  ·show(f.N&&&g.N|||f.O&&&g.O).testBit i=_
   rw[xAo,yAj,yAj,<- gG hd,<- gG he,<- gD hd,<- gD he];rcases jB f i with h | h | h<;>rcases jB g i with h' | h' | h'<;>rw[h,h']<;>rfl
  ·show(f.N&&&g.O|||f.O&&&g.N).testBit i=_
   rw[xAo,yAj,yAj,<- gG hd,<- gG he,<- gD hd,<- gD he];rcases jB f i with h | h | h<;>rcases jB g i with h' | h' | h'<;>rw[h,h']<;>rfl
noncomputable def rs(x:Int)(w:Nat):Nat:=(x%((2^w:Nat):Int)).toNat
theorem nB(x:Int)(w:Nat):((rs x w:Nat):Int)=x%((2^w:Nat):Int):=by
 unfold rs;have:(0:Int)<((2^w:Nat):Int):=by have:=xAe w;omega
 have:=Int.emod_nonneg x (b:=((2^w:Nat):Int)) (by omega)
 omega
theorem nR(x:Int)(w:Nat):rs x w<2^w:=by
 have h:=nB x w;have:(0:Int)<((2^w:Nat):Int):=by have:=xAe w;omega
 have:=yFz x this;omega
theorem aTm{x:Int}{w:Nat}(h0:0<=x)(h1:x<((2^w:Nat):Int)):((rs x w:Nat):Int)=x:=by
 rw[nB,Int.emod_eq_of_lt h0 h1]
theorem aHR(x:Int){w L:Nat}(h:L<=w):rs x w%2^L=rs x L:=by
 have e:((rs x w%2^L:Nat):Int)=((rs x L:Nat):Int):=by
  rw[yEk,nB,nB];exact Int.emod_emod_of_dvd x (by
   have:(2:Nat)^L ∣ 2^w:=Nat.pow_dvd_pow 2 h;exact Int.natCast_dvd_natCast.mpr this)
 omega
theorem aRG(x:Int){w L i:Nat}(h:L<=w)(hi:i<L):(rs x w).testBit i=(rs x L).testBit i:=by
 rw[<- aHR x h,yAr,dqT hi,yAt]
theorem qP{n i:Nat}(h:i<lr n):n.testBit i=true:=by
 rw[aOd] at h;have h1:=aGp _ i h;have h2:(nQ n (bl n+1)).getD i false=true:=by rw[xAg,h1];rfl
 rw[aMb,yBb] at h2;exact h2.2
theorem aUB{n w:Nat}(h:n<2^w):lr n<=w:=by
 by_cases c:lr n<=w
 ·exact c
 ·have:=qP (n:=n) (i:=w) (by omega)
  rw[cL h (yAc _)] at this;cases this
theorem aCt{x y:Nat}(h:∀ i,x.testBit i=true->y.testBit i=true):x<=y:=by
 have:y&&&x=x:=by
  rw[aFq];exact h
 rw[<- this];exact yBy
theorem aH2{x y w:Nat}(hx:x<2^w)(hy:y<2^w)(h:∀ i,x.testBit i=true->y.testBit i=false):y<=2^w-1-x:=by
 refine aCt (y:=oE x w) λ i hi=>?_
 have hiw:i<w:=by
  by_cases c:i<w
  ·exact c
  ·rw[cL hy (by omega)] at hi
   cases hi
 rw[mY hx,dqT hiw,yAt];cases q:x.testBit i with
 | false=>rfl
 | true=>rw[h i q] at hi;cases hi
theorem aAd{f:Ft}{n w:Nat}(h:Hd f n w):f.O<=n:=aCt h.2.1
theorem aAr{f:Ft}{n w:Nat}(k:FtOk f w)(hn:n<2^w)(h:Hd f n w):n<=2^w-1-f.N:=aH2 k.lN hn h.1
theorem aIn{f:Ft}{n w L:Nat}(h:Hd f n w)(hk:∀ i,i<L->(f.N|||f.O).testBit i=true):n%2^L=f.O%2^L:=by
 apply xAl;intro i;rw[yAr,yAr]
 by_cases c:i<L
 ·rw[dqT c,yAt,yAt];have q:=hk i c;rw[xAo] at q;cases o:f.O.testBit i with
  | true=>exact h.2.1 i o
  | false =>
    rw[o,yEu] at q;exact h.1 i q
 ·rw[dqF c,yBh,yBh]
inductive Sw where | add | sub | mul
noncomputable def Sw.oc:Sw->Int->Int->Int
 | .add,a,b=>a+b
 | .sub,a,b=>a-b
 | .mul,a,b=>a*b
theorem aET{a b:Nat}{L:Nat}(h:a%2^L=b%2^L):((a:Nat):Int)%((2^L:Nat):Int)=((b:Nat):Int)%((2^L:Nat):Int):=by
 rw[<- yEk,<- yEk,h]
theorem aQu(s:Sw){a b c e:Nat}{L:Nat}(h1:a%2^L=c%2^L)(h2:b%2^L=e%2^L):rs (s.oc a b) L=rs (s.oc c e) L:=by
 have g1:=aET h1;have g2:=aET h2;have:s.oc a b%((2^L:Nat):Int)=s.oc c e%((2^L:Nat):Int):=by
  cases s with
  | add=>show((a:Nat)+(b:Nat):Int)%_=((c:Nat)+(e:Nat):Int)%_;rw[Int.add_emod,g1,g2,<- Int.add_emod]
  | sub=>show((a:Nat)-(b:Nat):Int)%_=((c:Nat)-(e:Nat):Int)%_;rw[Int.sub_emod,g1,g2,<- Int.sub_emod]
  | mul=>show((a:Nat)*(b:Nat):Int)%_=((c:Nat)*(e:Nat):Int)%_;rw[Int.mul_emod,g1,g2,<- Int.mul_emod]
 unfold rs;rw[this]
noncomputable def fV(f g:Ft):Nat:=lr ((f.N|||f.O)&&&(g.N|||g.O))
theorem aB6{f g:Ft}{w:Nat}(k:FtOk f w):fV f g<=w:=aUB (xAi yBy (yBj k.lN k.lO))
noncomputable def jT(s:Sw)(f g:Ft):Nat:=rs (s.oc (f.O:Nat) (g.O:Nat)) (fV f g)
noncomputable def rK(s:Sw)(f g:Ft):Nat:=(2^fV f g-1)^^^jT s f g
theorem aF9(s:Sw){f g:Ft}{a b w:Nat}(k:FtOk f w)(h1:Hd f a w)(h2:Hd g b w){i:Nat}(hi:i<fV f g):(rs (s.oc (a:Nat) (b:Nat)) w).testBit i=(jT s f g).testBit i:=by
 have hk:∀ i,i<fV f g->(f.N|||f.O).testBit i=true/\(g.N|||g.O).testBit i=true:=λ i hi=>by
  have:=qP hi;rw[yAj,yBb] at this;exact this
 rw[aRG _ (aB6 k) hi,aQu s (aIn h1 λ i hi=>(hk i hi).1) (aIn h2 λ i hi=>(hk i hi).2)]
 rfl
theorem aNM{s:Sw}{f g:Ft}{i:Nat}(h:(jT s f g).testBit i=true):i<fV f g:=by
 by_cases c:i<fV f g
 ·exact c
 ·have hl:jT s f g<2^fV f g:=nR _ _;rw[cL hl (by omega)] at h
  cases h
theorem aNy{s:Sw}{f g:Ft}{i:Nat}(h:(rK s f g).testBit i=true):i<fV f g/\(jT s f g).testBit i=false:=by
 unfold rK at h;rw[yAo,cW] at h;have hl:jT s f g<2^fV f g:=nR _ _
 by_cases c:i<fV f g
 ·rw[dqT c] at h;refine⟨c,?_⟩;cases q:(jT s f g).testBit i with
  | false=>rfl
  | true=>rw[q] at h;cases h
 ·rw[dqF c,cL hl (by omega)] at h
  cases h
noncomputable def fX(s:Sw)(w:Nat)(f g:Ft):Int:=match s with
 | .sub=>(f.O:Nat)-((2^w-1-g.N:Nat):Int)
 | s=>s.oc (f.O:Nat) (g.O:Nat)
noncomputable def fY(s:Sw)(w:Nat)(f g:Ft):Int:=match s with
 | .sub=>((2^w-1-f.N:Nat):Int)-(g.O:Nat)
 | s=>s.oc ((2^w-1-f.N:Nat):Int) ((2^w-1-g.N:Nat):Int)
theorem aJg(s:Sw){f g:Ft}{a b w:Nat}(kf:FtOk f w)(kg:FtOk g w)(ha:a<2^w)(hb:b<2^w)(h1:Hd f a w)(h2:Hd g b w):fX s w f g<=s.oc (a:Nat) (b:Nat)/\s.oc (a:Nat) (b:Nat)<=fY s w f g:=by
 have l1:=aAd h1;have l2:=aAd h2;have m1:=aAr kf ha h1;have m2:=aAr kg hb h2;cases s with
 | add =>
   show((f.O:Nat)+(g.O:Nat):Int)<=(a:Nat)+(b:Nat)/\((a:Nat)+(b:Nat):Int)<=((2^w-1-f.N:Nat):Int)+((2^w-1-g.N:Nat):Int);generalize 2^w-1-f.N=F at *;generalize 2^w-1-g.N=G at *;omega
 | sub =>
   show((f.O:Nat)-((2^w-1-g.N:Nat):Int))<=(a:Nat)-(b:Nat)/\((a:Nat)-(b:Nat):Int)<=((2^w-1-f.N:Nat):Int)-(g.O:Nat);generalize 2^w-1-f.N=F at *;generalize 2^w-1-g.N=G at *;omega
 | mul =>
   show((f.O:Nat)*(g.O:Nat):Int)<=(a:Nat)*(b:Nat)/\((a:Nat)*(b:Nat):Int)<=((2^w-1-f.N:Nat):Int)*((2^w-1-g.N:Nat):Int);rw[<- yCd,<- yCd,<- yCd];exact⟨Int.ofNat_le.mpr (Nat.mul_le_mul l1 l2),Int.ofNat_le.mpr (Nat.mul_le_mul m1 m2)⟩
noncomputable def pS(s:Sw)(w:Nat)(f g:Ft):Nat:=if fX s w f g<0\/fY s w f g>((2^w-1:Nat):Int) then 0 else tM (fX s w f g).toNat (fY s w f g).toNat w
noncomputable def pW(s:Sw)(w:Nat)(f g:Ft):Nat:=if fX s w f g<0\/fY s w f g>((2^w-1:Nat):Int) then 0 else nK (fX s w f g).toNat (fY s w f g).toNat w
theorem aNI{l g w:Nat}(hl:l<2^w)(hg:g<2^w):uF l g w<2^w:=by
 apply yCi;intro i hi;rw[aBq hl hg,dqF (by omega),yBh]
theorem aGq(s:Sw){f g:Ft}{a b w:Nat}(kf:FtOk f w)(kg:FtOk g w)(ha:a<2^w)(hb:b<2^w)(h1:Hd f a w)(h2:Hd g b w) :
 (∀ i,(pS s w f g).testBit i=true->(rs (s.oc (a:Nat) (b:Nat)) w).testBit i=false)/\(∀ i,(pW s w f g).testBit i=true->(rs (s.oc (a:Nat) (b:Nat)) w).testBit i=true)/\pS s w f g<2^w/\pW s w f g<2^w:=by
 have hb':=aJg s kf kg ha hb h1 h2;have hp:=xAe w;unfold pS pW
 by_cases c:fX s w f g<0\/fY s w f g>((2^w-1:Nat):Int)
 ·rw[if_pos c,if_pos c];refine⟨λ i hi=>?_,λ i hi=>?_,hp,hp⟩
  ·rw[yAz] at hi;cases hi
  ·rw[yAz] at hi;cases hi
 ·rw[if_neg c,if_neg c];have e:=aTm (x:=s.oc (a:Nat) (b:Nat)) (w:=w) (by omega) (by omega)
  have q1:(fX s w f g).toNat<=rs (s.oc (a:Nat) (b:Nat)) w:=by omega
  have q2:rs (s.oc (a:Nat) (b:Nat)) w<=(fY s w f g).toNat:=by omega
  have q3:(fX s w f g).toNat<2^w:=by omega
  have q4:(fY s w f g).toNat<2^w:=by omega
  have n1:=aKs q3 q4 q1 q2;have n2:=aKV q3 q4 q1 q2;rw[aNN] at n1;rw[aFq] at n2;have kl:=aNI q3 q4;exact⟨n1,n2,yBv kl (xAi yBy kl),xAi yBy kl⟩
noncomputable def pQ(s:Sw)(w:Nat)(f g:Ft):Nat:=match s with
 | .mul=>2^min w (lr f.N+lr g.N)-1
 | _=>0
theorem aHt{n L:Nat}(h:∀ i,i<L->n.testBit i=false):2^L ∣ n:=by
 have:n%2^L=0:=by
  rw[jL];intro i;rw[yAr]
  by_cases c:i<L
  ·rw[h i c,yCl]
  ·rw[dqF c,yBh]
 exact Nat.dvd_of_mod_eq_zero this
theorem aPx(s:Sw){f g:Ft}{a b w:Nat}(h1:Hd f a w)(h2:Hd g b w):∀ i,(pQ s w f g).testBit i=true->(rs (s.oc (a:Nat) (b:Nat)) w).testBit i=false:=by
 intro i hi;cases s with
 | add=>rw[show pQ .add w f g=0 from rfl,yAz] at hi;cases hi
 | sub=>rw[show pQ .sub w f g=0 from rfl,yAz] at hi;cases hi
 | mul =>
   have hi':(2^min w (lr f.N+lr g.N)-1).testBit i=true:=hi;rw[cW,decide_eq_true_eq] at hi';obtain⟨c,hc⟩:=aHt (L:=lr f.N) (n:=a) λ i hi=>h1.1 i (qP hi)
   obtain⟨e,he⟩:=aHt (L:=lr g.N) (n:=b) λ i hi=>h2.1 i (qP hi)
   have ex:rs (Sw.mul.oc (a:Nat) (b:Nat)) w=a*b%2^w:=by
    have:=nB (Sw.mul.oc (a:Nat) (b:Nat)) w;have e2:Sw.mul.oc (a:Nat) (b:Nat)=((a*b:Nat):Int):=(yCd a b).symm;rw[e2,<- yEk] at this;rw[e2];omega
   rw[ex,yAr,dqT (by omega),yAt]
   have:a*b=c*e*2^(lr f.N+lr g.N):=by
    rw[hc,he,yEl];simp only[yGq,Nat.mul_left_comm,Nat.mul_assoc]
   rw[this,xV,dqF (by omega),yBh]
theorem aCM{n w a:Nat}(hn:n<2^w)(ha:a<=w):((∀ i,w-a<=i->i<w->n.testBit i=true)\/(∀ i,w-a<=i->i<w->n.testBit i=false)) ↔ 2^w-2^(w-a)<=n\/n<2^(w-a):=by
 have hp:=xAe (w-a);have e1:(2:Nat)^w=2^a*2^(w-a):=by rw[<- yEl,show a+(w-a)=w by omega]
 have hpa:=xAe a;rw[<- aMW hn ha,<- aME hn ha];have q0:n/2^(w-a)=0 ↔ n<2^(w-a):=by
  rw[Nat.div_eq_zero_iff];omega
 have q1:n/2^(w-a)=2^a-1 ↔ 2^w-2^(w-a)<=n:=by
  have es:(2^a-1)*2^(w-a)=2^w-2^(w-a):=by rw[Nat.sub_mul,Nat.one_mul,<- e1]
  constructor
  ·intro h;have:=Nat.div_mul_le_self n (2^(w-a));rw[h,es] at this;exact this
  ·intro h;have g1:2^a-1<=n/2^(w-a):=by
    rw[Nat.le_div_iff_mul_le hp,es];exact h
   have g2:n/2^(w-a)<2^a:=by
    rw[yEf hp,<- e1];exact hn
   omega
 rw[q0,q1]
noncomputable def kB(s:Sw)(f g:Ft):Nat:=match s with
 | .mul=>1
 | _=>max 1 (min f.A g.A-1)
theorem qM{n w a m:Nat}(ha:m<=a)(h:(∀ i,w-a<=i->i<w->n.testBit i=true)\/(∀ i,w-a<=i->i<w->n.testBit i=false)):(∀ i,w-m<=i->i<w->n.testBit i=true)\/(∀ i,w-m<=i->i<w->n.testBit i=false):=by
 rcases h with h | h
 ·exact .inl λ i a b=>h i (by omega) b
 ·exact .inr λ i a b=>h i (by omega) b
theorem kI(n w:Nat):(∀ i,w-1<=i->i<w->n.testBit i=true)\/(∀ i,w-1<=i->i<w->n.testBit i=false):=by
 cases c:n.testBit (w-1) with
 | true=>exact .inl λ i h1 h2=>by rw[show i=w-1 by omega];exact c
 | false=>exact .inr λ i h1 h2=>by rw[show i=w-1 by omega];exact c
theorem aIo{a T W:Nat}(ha:a<W)(h:W-T<=a\/a<T)(hT:T<=W):∃ x k:Int,((a:Nat):Int)=x+k*((W:Nat):Int) /\ -((T:Nat):Int)<=x/\x<((T:Nat):Int):=by
 rcases h with h | h
 ·exact⟨(a:Int)-W,1,by omega,by omega,by omega⟩
 ·exact⟨(a:Int),0,by omega,by omega,by omega⟩
theorem aPG{x W T r k:Int}(h:r=x+k*W)(h1 : -(2*T)<=x)(h2:x<2*T)(hT:2*T<=W)(r0:0<=r)(rW:r<W):W-2*T<=r\/r<2*T:=by
 rcases (show k <= -1\/k=0\/k=1\/2<=k by omega) with c | rfl | rfl | c
 ·have:k*W<=(-1)*W:=yFh c (by omega)
  omega
 ·exact .inr (by omega)
 ·exact .inl (by omega)
 ·have:2*W<=k*W:=yFh c (by omega)
  omega
theorem aQX{x y k l W z:Int}:(x+k*W+(y+l*W))-W*z=x+y+(k+l-z)*W:=by
 rw[Int.sub_mul,Int.add_mul,Int.mul_comm W z];omega
theorem aQf{x y k l W z:Int}:(x+k*W-(y+l*W))-W*z=x-y+(k-l-z)*W:=by
 rw[Int.sub_mul,Int.sub_mul,Int.mul_comm W z];omega
theorem aVd{s:Sw}{f g:Ft}(c:kB s f g≠1):(kB s f g=min f.A g.A-1/\2<=min f.A g.A-1)/\s≠.mul:=by
 cases s with
 | mul=>exact absurd rfl c
 | add =>
   have e:kB .add f g=max 1 (min f.A g.A-1):=rfl;exact⟨by omega,λ h=>nomatch h⟩
 | sub =>
   have e:kB .sub f g=max 1 (min f.A g.A-1):=rfl;exact⟨by omega,λ h=>nomatch h⟩
theorem aPE(s:Sw){f g:Ft}{a b w:Nat}(kf:FtOk f w)(kg:FtOk g w)(ha:a<2^w)(hb:b<2^w)(h1:Hd f a w)(h2:Hd g b w) :
 (∀ i,w-kB s f g<=i->i<w->(rs (s.oc (a:Nat) (b:Nat)) w).testBit i=true)\/(∀ i,w-kB s f g<=i->i<w->(rs (s.oc (a:Nat) (b:Nat)) w).testBit i=false):=by
 by_cases c:kB s f g=1
 ·rw[c];exact kI _ _
 ·have hw:=kf.aw;obtain⟨⟨hA,hm⟩,hs⟩:=aVd c;have g1:min f.A g.A<=f.A:=Nat.min_le_left ..;have g2:min f.A g.A<=g.A:=Nat.min_le_right ..;rw[hA];generalize min f.A g.A=m at *;have hmw:m<=w:=xAh g1 hw;rw[aCM (nR _ _) (xAh (yGg m 1) hmw)];have a1:=(aCM ha hmw).mp (qM g1 h1.2.2);have a2:=(aCM hb hmw).mp (qM g2 h2.2.2);have e:(2:Nat)^(w-(m-1))=2*2^(w-m):=by
   rw[show w-(m-1)=w-m+1 by omega,yEr,yGq]
  have hT:2*2^(w-m)<=2^w:=by
   rw[<- e];exact yBd (by decide) (yGg ..)
  rw[e];have hT1:2^(w-m)<=2^w:=yBd (by decide) (yGg ..)
  obtain⟨x,k,e1,x1,x2⟩:=aIo ha a1 hT1;obtain⟨y,l,e2,y1,y2⟩:=aIo hb a2 hT1;have hr:=nB (s.oc (a:Nat) (b:Nat)) w;have hl:=nR (s.oc (a:Nat) (b:Nat)) w;rw[Int.emod_def] at hr;generalize rs (s.oc (a:Nat) (b:Nat)) w=r at *;generalize s.oc (a:Nat) (b:Nat)/((2^w:Nat):Int)=z at *;generalize (2:Nat)^w=W at *;generalize (2:Nat)^(w-m)=T at *;clear a1 a2 h1 h2 e g1 g2 hmw hw hm hA c;have bX:∀ {x k:Int},((r:Nat):Int)=x+k*((W:Nat):Int) -> -(2*((T:Nat):Int))<=x->x<2*((T:Nat):Int)->W-2*T<=r\/r<2*T:=λ q1 q2 q3=>by
   rcases aPG q1 q2 q3 (by omega) (by omega) (by omega) with q | q
   ·exact .inl (by omega)
   ·exact .inr (by omega)
  cases s with
  | mul=>exact absurd rfl hs
  | add =>
    have hk:((r:Nat):Int)=((a:Nat):Int)+((b:Nat):Int)-((W:Nat):Int)*z:=hr;rw[e1,e2,aQX] at hk;exact bX hk (by omega) (by omega)
  | sub =>
    have hk:((r:Nat):Int)=((a:Nat):Int)-((b:Nat):Int)-((W:Nat):Int)*z:=hr;rw[e1,e2,aQf] at hk;exact bX hk (by omega) (by omega)
noncomputable def vT(s:Sw)(w:Nat)(f g:Ft):Ft:=⟨rK s f g|||pS s w f g|||pQ s w f g,jT s f g|||pW s w f g,kB s f g⟩
theorem aNQ(s:Sw){f g:Ft}{a b w:Nat}(kf:FtOk f w)(kg:FtOk g w)(ha:a<2^w)(hb:b<2^w)(h1:Hd f a w)(h2:Hd g b w):Hd (vT s w f g) (rs (s.oc (a:Nat) (b:Nat)) w) w:=by
 obtain⟨t1,t2,_,_⟩:=aGq s kf kg ha hb h1 h2;refine⟨λ i hi=>?_,λ i hi=>?_,aPE s kf kg ha hb h1 h2⟩
 ·have hi':(rK s f g|||pS s w f g|||pQ s w f g).testBit i=true:=hi
  rw[xAo,xAo,yEe,yEe] at hi';rcases hi' with (q | q) | q
  ·obtain⟨q1,q2⟩:=aNy q;rw[aF9 s kf h1 h2 q1,q2]
  ·exact t1 i q
  ·exact aPx s h1 h2 i q
 ·have hi':(jT s f g|||pW s w f g).testBit i=true:=hi
  rw[xAo,yEe] at hi';rcases hi' with q | q
  ·rw[aF9 s kf h1 h2 (aNM q),q]
  ·exact t2 i q
theorem aBw{n v w:Nat}(h:n<2^v)(hv:v<=w):n<2^w:=xAb h (yBd (by decide) hv)
theorem aQe(s:Sw){f g:Ft}{a b w:Nat}(kf:FtOk f w)(kg:FtOk g w)(ha:a<2^w)(hb:b<2^w)(h1:Hd f a w)(h2:Hd g b w):FtOk (vT s w f g) w:=by
 obtain⟨_,_,t3,t4⟩:=aGq s kf kg ha hb h1 h2;have hL:=aB6 (g:=g) kf;have hO:jT s f g<2^fV f g:=nR _ _;have hN:rK s f g<2^fV f g:=yBv (by have:=xAe (fV f g);omega) hO
 have hl:pQ s w f g<2^w:=by
  have:=xAe w;cases s with
  | add=>exact this
  | sub=>exact this
  | mul=>exact aBw (v:=min w (lr f.N+lr g.N)) (by show 2^min w (lr f.N+lr g.N)-1<_;have:=xAe (min w (lr f.N+lr g.N));omega) (by omega)
 have q1:=kf.aw;have q2:=kf.a1;refine⟨yBj (yBj (aBw hN hL) t3) hl,yBj (aBw hO hL) t4,?_,?_⟩
 ·show 1<=kB s f g;cases s with
  | mul=>exact yAc 1
  | add=>show 1<=max 1 (min f.A g.A-1);omega
  | sub=>show 1<=max 1 (min f.A g.A-1);omega
 ·show kB s f g<=w;cases s with
  | mul=>show 1<=w;omega
  | add=>show max 1 (min f.A g.A-1)<=w;omega
  | sub=>show max 1 (min f.A g.A-1)<=w;omega
noncomputable def F1:Ft:=⟨0,1,1⟩
noncomputable def F0:Ft:=⟨1,0,1⟩
noncomputable def jI:Ft:=⟨0,0,1⟩
noncomputable def l3(a b c e:Int):Ft:=if b<c then F1 else if e<=a then F0 else jI
theorem aJM(a b c e:Int):l3 a b c e=F1\/l3 a b c e=F0\/l3 a b c e=jI:=by
 unfold l3
 split
 ·exact .inl rfl
 ·split
  ·exact .inr (.inl rfl)
  ·exact .inr (.inr rfl)
theorem zJ{r k:Nat}(h:r<2^k):r^^^2^k=r+2^k:=by
 apply xAl;intro i;have e:r+2^k=r+1*2^k:=by omega
 rw[e,aEB h,yAo,yDw]
 by_cases c:i<k
 ·rw[if_pos c,dqF (by omega),Bool.xor_false]
 ·rw[if_neg c,cL h (by omega),Bool.false_xor]
  by_cases c2:k=i
  ·subst c2;rw[dqT rfl,yBe];rfl
  ·rw[dqF c2];have:1<2^(i-k):=Nat.one_lt_two_pow (by omega)
   rw[cL this (yAc _)]
theorem aB3{n k:Nat}(h1:2^k<=n)(h2:n<2^(k+1)):n^^^2^k=n-2^k:=by
 have hr:n-2^k<2^k:=by rw[yEr] at h2;omega
 have e:(n-2^k)^^^2^k=n:=by rw[zJ hr];omega
 calc n^^^2^k=((n-2^k)^^^2^k)^^^2^k:=by rw[e]
  _=n-2^k:=by rw[Nat.xor_assoc,Nat.xor_self,yEs]
theorem aIA{n w:Nat}(h:n<2^w)(hw:0<w):n.testBit (w-1)=decide (2^(w-1)<=n):=by
 have hb:=aOH h hw;have hp:=xAe (w-1);cases c:n.testBit (w-1) with
 | true =>
   rw[c] at hb;have:2^(w-1)<=n:=by
    by_cases q:n<2^(w-1)
    ·rw[Nat.div_eq_of_lt q] at hb;exact absurd hb (by decide)
    ·omega
   rw[dqT this]
 | false =>
   rw[c] at hb;have:¬ 2^(w-1)<=n:=λ q=>by
    have h3:=Nat.div_pos q hp;rw[hb] at h3;exact absurd h3 (by decide)
   rw[dqF this]
noncomputable def tt(f:Ft)(w:Nat):Ft:=⟨f.N^^^((f.N^^^f.O)&&&dJ 1 w),f.O^^^((f.N^^^f.O)&&&dJ 1 w),f.A⟩
theorem aFR{w i:Nat}(hw:1<=w):(dJ 1 w).testBit i=decide (w-1=i):=by
 rw[mO]
 by_cases c:w-1=i
 ·rw[dqT c,dqT (by omega),dqT (by omega)];rfl
 ·rw[dqF c]
  by_cases c2:w-1<=i
  ·rw[dqF (show ¬ i<w by omega),yCl]
  ·rw[dqF c2,yBh]
theorem aMD{f:Ft}{w:Nat}(k:FtOk f w)(hd:f.N&&&f.O=0)(hw:1<=w) :
 (f.N<2^(w-1)/\f.O<2^(w-1)/\(tt f w).N=f.N/\(tt f w).O=f.O)\/(f.N<2^(w-1)/\2^(w-1)<=f.O/\(tt f w).N=f.N+2^(w-1)/\(tt f w).O=f.O-2^(w-1))\/(2^(w-1)<=f.N/\f.O<2^(w-1)/\(tt f w).N=f.N-2^(w-1)/\(tt f w).O=f.O+2^(w-1)):=by
 have hN:=aIA k.lN (show 0<w by omega)
 have hO:=aIA k.lO (show 0<w by omega)
 have lN:=k.lN;have lO:=k.lO;have e:w-1+1=w:=by omega
 have tb:∀ b:Bool,(f.N.testBit (w-1) ^^ f.O.testBit (w-1))=b->(f.N^^^f.O)&&&dJ 1 w=if b=true then 2^(w-1) else 0:=λ b hb=>by
  apply xAl;intro i;rw[yAj,aFR hw,yAo]
  by_cases c:w-1=i
  ·subst c;rw[hb,dqT rfl,yCj];cases b
   ·simp
   ·simp
  ·rw[dqF c,yCl];cases b
   ·simp
   ·rw[if_pos rfl,yDw,dqF c]
 by_cases c1:2^(w-1)<=f.N
 ·by_cases c2:2^(w-1)<=f.O
  ·exfalso;have:=(jL _).mp hd (w-1);rw[yAj,hN,hO,dqT c1,dqT c2] at this;cases this
  ·refine .inr (.inr ⟨c1,by omega,?_,?_⟩)
   ·show f.N^^^_=_;rw[tb true (by rw[hN,hO,dqT c1,dqF c2];rfl),if_pos rfl,aB3 c1 (by rw[e];exact lN)]
   ·show f.O^^^_=_;rw[tb true (by rw[hN,hO,dqT c1,dqF c2];rfl),if_pos rfl,zJ (by omega)]
 ·by_cases c2:2^(w-1)<=f.O
  ·refine .inr (.inl ⟨by omega,c2,?_,?_⟩)
   ·show f.N^^^_=_;rw[tb true (by rw[hN,hO,dqT c2,dqF c1];rfl),if_pos rfl,zJ (by omega)]
   ·show f.O^^^_=_;rw[tb true (by rw[hN,hO,dqT c2,dqF c1];rfl),if_pos rfl,aB3 c2 (by rw[e];exact lO)]
  ·refine .inl ⟨by omega,by omega,?_,?_⟩
   ·show f.N^^^_=_;rw[tb false (by rw[hN,hO,dqF c2,dqF c1];rfl),if_neg (by decide),yEs]
   ·show f.O^^^_=_;rw[tb false (by rw[hN,hO,dqF c2,dqF c1];rfl),if_neg (by decide),yEs]
theorem aIY{f:Ft}{w:Nat}(k:FtOk f w)(hd:f.N&&&f.O=0)(hw:1<=w):(tt f w).N<2^w:=by
 have h2:(2:Nat)^w=2^(w-1)+2^(w-1):=by
  have:(2:Nat)^(w-1+1)=2^(w-1)*2:=yEr ..;rw[show w-1+1=w by omega] at this
  omega
 have lN:=k.lN;rcases aMD k hd hw with ⟨_,_,h,_⟩ | ⟨_,_,h,_⟩ | ⟨_,_,h,_⟩<;>rw[h]<;>omega
noncomputable def mH(w:Nat)(f g:Ft):Ft:=if f.N&&&g.O|||f.O&&&g.N≠0 then F0 else if (f.N|||f.O)&&&(g.N|||g.O)=2^w-1 then F1 else jI
theorem aTH(w:Nat)(f g:Ft):mH w f g=F1\/mH w f g=F0\/mH w f g=jI:=by
 unfold mH
 split
 ·exact .inr (.inl rfl)
 ·split
  ·exact .inl rfl
  ·exact .inr (.inr rfl)
noncomputable def oG(t f g:Ft):Ft:=if t.O=1 then f else if t.N=1 then g else ⟨f.N&&&g.N,f.O&&&g.O,min f.A g.A⟩
theorem aSU{t f g:Ft}{w:Nat}(hf:FtOk f w)(hg:FtOk g w):FtOk (oG t f g) w:=by
 unfold oG
 split
 ·exact hf
 ·split
  ·exact hg
  ·have h1:=hf.a1;have h2:=hg.a1;have h3:=hf.aw;exact⟨xAi yBy hf.lN,xAi yBy hf.lO,by show 1<=min f.A g.A;omega,by show min f.A g.A<=w;omega⟩
def Al(n w a:Nat):Prop:=(∀ i,w-a<=i->i<w->n.testBit i=true)\/(∀ i,w-a<=i->i<w->n.testBit i=false)
theorem nO{f:Ft}{a w:Nat}(hd:f.N&&&f.O=0)(h:Hd f a w)(j:Nat):(dI f j=0->a.testBit j=false)/\(dI f j=1->a.testBit j=true):=by
 refine⟨λ e=>h.1 j ?_,λ e=>h.2.1 j ?_⟩
 ·rw[<- gG hd j,beq_iff_eq];exact e
 ·rw[<- gD hd j,beq_iff_eq];exact e
theorem mR{t:Nat->Nat}{n:Nat}{g:Ft}{z:Nat}(m:Mk t n g)(hz:∀ i,i<n->(t i=0->z.testBit i=false)/\(t i=1->z.testBit i=true))(ha:Al z n g.A):Hd g z n:=by
 have hl:∀ {x:Nat},x<2^n->∀ i,x.testBit i=true->i<n:=λ {x} hx i hi=>by
  by_cases c:i<n
  ·exact c
  ·rw[cL hx (by omega)] at hi;cases hi
 refine⟨λ i hi=>?_,λ i hi=>?_,ha⟩
 ·have c:=hl m.lN i hi;rw[m.b0 i c,beq_iff_eq] at hi;exact(hz i c).1 hi
 ·have c:=hl m.lO i hi;rw[m.b1 i c,beq_iff_eq] at hi;exact(hz i c).2 hi
theorem aSk(n w:Nat):rs ((n:Nat):Int) w=n%2^w:=by
 have:=nB ((n:Nat):Int) w;rw[<- yEk] at this;omega
section
variable {f : Ft}{a w : Nat}(hf : FtOk f w)(hd : f.N&&&f.O = 0)(ha : a<2 ^ w)(h : Hd f a w)
include hf hd ha h
theorem aNe:Hd ⟨f.O,f.N,f.A⟩ (2^w-1-a) w:=by
 refine mR (aRZ hf hd) (λ i hi=>?_) ?_
 ·rw[zN ha hi];refine⟨λ e=>?_,λ e=>?_⟩
  ·have:f.O.testBit i=true:=by rw[<- aJs hd i,beq_iff_eq];exact e
   rw[h.2.1 i this];rfl
  ·have:f.N.testBit i=true:=by rw[<- aJw hd i,beq_iff_eq];exact e
   rw[h.1 i this];rfl
 ·rcases h.2.2 with q | q
  ·exact .inr λ i h1 h2=>by rw[zN ha h2,q i h1 h2];rfl
  ·exact .inl λ i h1 h2=>by rw[zN ha h2,q i h1 h2];rfl
theorem aMh(k:Nat):Hd (uX w f k) (a*2^k%2^w) w:=by
 have hb:∀ i,i<w->(a*2^k%2^w).testBit i=(decide (k<=i)&&a.testBit (i-k)):=λ i hi=>by
  rw[yAr,dqT hi,yAt,xV]
 refine mR (aGG k hd) (λ i hi=>?_) ?_
 ·rw[hb i hi];unfold aAh
  by_cases c:i<k
  ·rw[if_pos c,dqF (by omega),yBh]
   exact⟨λ _=>rfl,λ e=>nomatch e⟩
  ·rw[if_neg c,dqT (by omega),yAt]
   exact nO hd h (i-k)
 ·show Al _ w (max 1 (f.A-k))
  by_cases c:f.A-k<=1
  ·rw[Nat.max_eq_left c];exact kI _ _
  ·rw[Nat.max_eq_right (by omega)]
   have:=hf.aw;rcases h.2.2 with q | q
   ·exact .inl λ i h1 h2=>by rw[hb i h2,dqT (by omega),yAt];exact q _ (by omega) (by omega)
   ·exact .inr λ i h1 h2=>by rw[hb i h2,dqT (by omega),yAt];exact q _ (by omega) (by omega)
theorem aLA(k:Nat):Hd (lF w f k) (a/2^k) w:=by
 refine mR (aFP k hf hd) (λ i hi=>?_) ?_
 ·rw[gM];unfold zR
  by_cases c:i+k<w
  ·rw[if_pos c,yDr k i];exact nO hd h (i+k)
  ·rw[if_neg c,cL ha (by omega)]
   exact⟨λ _=>rfl,λ e=>nomatch e⟩
 ·show Al _ w (if k=0 then f.A else 1)
  by_cases c:k=0
  ·subst c;rw[if_pos rfl,Nat.pow_zero,Nat.div_one];exact h.2.2
  ·rw[if_neg c];exact kI _ _
theorem aLa(hw:1<=w)(k:Nat):Hd (uE w f k) (dF a w (w+k)/2^k) w:=by
 have hb:∀ i,i<w->(dF a w (w+k)/2^k).testBit i=a.testBit (min (i+k) (w-1)):=λ i hi=>by
  rw[gM,qQ ha hw (by omega) (by omega),yDr]
 refine mR (aGm k hw hf hd) (λ i hi=>?_) ?_
 ·rw[hb i hi];exact nO hd h _
 ·have h1:=hf.a1;show Al _ w (min w (f.A+k));rcases h.2.2 with q | q
  ·exact .inl λ i h1 h2=>by rw[hb i h2];exact q _ (by omega) (by omega)
  ·exact .inr λ i h1 h2=>by rw[hb i h2];exact q _ (by omega) (by omega)
theorem aNK{v:Nat}(hv:v<=w):Hd (vQ w v f) (a%2^v) v:=by
 have hb:∀ i,i<v->(a%2^v).testBit i=a.testBit i:=λ i hi=>by rw[yAr,dqT hi,yAt]
 refine mR (aHX w v hd) (λ i hi=>?_) ?_
 ·rw[hb i hi];exact nO hd h _
 ·have h1:=hf.aw;show Al _ v (max 1 (f.A-(w-v)))
  by_cases c:f.A-(w-v)<=1
  ·rw[Nat.max_eq_left c];exact kI _ _
  ·rw[Nat.max_eq_right (by omega)]
   rcases h.2.2 with q | q
   ·exact .inl λ i h1 h2=>by rw[hb i h2];exact q _ (by omega) (by omega)
   ·exact .inr λ i h1 h2=>by rw[hb i h2];exact q _ (by omega) (by omega)
theorem aMo{v:Nat}(hv:w<=v):Hd (lS w v f) a v:=by
 refine mR (aGA hv hf hd) (λ i hi=>?_) ?_
 ·unfold aAq
  by_cases c:i<w
  ·rw[if_pos c];exact nO hd h i
  ·rw[if_neg c,cL ha (by omega)]
   exact⟨λ _=>rfl,λ e=>nomatch e⟩
 ·show Al _ v (if v=w then f.A else 1)
  by_cases c:v=w
  ·subst c;rw[if_pos rfl];exact h.2.2
  ·rw[if_neg c];exact kI _ _
theorem aMk(hw:1<=w){v:Nat}(hv:w<=v):Hd (vD w v f) (dF a w v) v:=by
 have hb:∀ i,i<v->(dF a w v).testBit i=a.testBit (min i (w-1)):=λ i hi=>qQ ha hw hv hi
 refine mR (aG6 hw hv hf hd) (λ i hi=>?_) ?_
 ·rw[hb i hi];exact nO hd h _
 ·have h1:=hf.a1;show Al _ v (f.A+(v-w));rcases h.2.2 with q | q
  ·exact .inl λ i h1 h2=>by rw[hb i h2];exact q _ (by omega) (by omega)
  ·exact .inr λ i h1 h2=>by rw[hb i h2];exact q _ (by omega) (by omega)
end
noncomputable def bwv(b:Nat)(x y:Nat):Nat:=match b with
 | 0=>x&&&y
 | 1=>x|||y
 | _=>x^^^y
noncomputable def bwB(b:Nat)(x y:Bool):Bool:=match b with
 | 0=>x&&y
 | 1=>x||y
 | _=>x ^^ y
theorem aCr{b:Nat}(hb:b=0\/b=1\/b=2)(x y i:Nat):(bwv b x y).testBit i=bwB b (x.testBit i) (y.testBit i):=by
 rcases hb with rfl | rfl | rfl
 ·exact yAj ..
 ·exact xAo ..
 ·exact yAo ..
theorem aRT:∀ (b p q:Fin 3) (x y:Bool),(p.1=0->x=false)/\(p.1=1->x=true)->(q.1=0->y=false)/\(q.1=1->y=true)->(btN b.1 p.1 q.1=0->bwB b.1 x y=false)/\(btN b.1 p.1 q.1=1->bwB b.1 x y=true):=by decide
theorem aNX{b:Nat}(hb:b=0\/b=1\/b=2){f g:Ft}{x y w:Nat}(hf:FtOk f w)(hd:f.N&&&f.O=0)(h:Hd f x w)(hg:FtOk g w)(he:g.N&&&g.O=0)(h':Hd g y w):Hd (sC b f g) (bwv b x y) w:=by
 refine mR (aI7 b hb hf hd hg he) (λ i hi=>?_) ?_
 ·rw[aCr hb];exact aRT ⟨b,by omega⟩ ⟨_,uO f i⟩ ⟨_,uO g i⟩ _ _ (nO hd h i) (nO he h' i)
 ·have hA:(sC b f g).A=min f.A g.A:=by rcases hb with rfl | rfl | rfl<;>rfl
  rw[hA];have q1:Al x w (min f.A g.A):=qM (by omega) h.2.2
  have q2:Al y w (min f.A g.A):=qM (by omega) h'.2.2
  have go:∀ (p q:Bool),(∀ i,w-min f.A g.A<=i->i<w->x.testBit i=p)->(∀ i,w-min f.A g.A<=i->i<w->y.testBit i=q)->Al (bwv b x y) w (min f.A g.A):=λ p q hp hq=>by
   cases c:bwB b p q with
   | true=>exact .inl λ i h1 h2=>by rw[aCr hb,hp i h1 h2,hq i h1 h2,c]
   | false=>exact .inr λ i h1 h2=>by rw[aCr hb,hp i h1 h2,hq i h1 h2,c]
  rcases q1 with q1 | q1<;>rcases q2 with q2 | q2
  ·exact go _ _ q1 q2
  ·exact go _ _ q1 q2
  ·exact go _ _ q1 q2
  ·exact go _ _ q1 q2
noncomputable def jH(a w:Nat):Int:=if 2^(w-1)<=a then (a:Nat)-((2^w:Nat):Int) else (a:Nat)
theorem aP3(x:Int)(w:Nat)(q:Int):rs (x+((2^w:Nat):Int)*q) w=rs x w:=by
 unfold rs;rw[Int.add_mul_emod_self_left]
theorem qO{i:Nat}{p:Prop}(h:(0:Nat).testBit i=true):p:=by
 rw[yAz] at h;cases h
theorem aHe:Hd F1 1 1:=⟨λ i h=>qO h,λ i h=>h,kI _ _⟩
theorem aHq:Hd F0 0 1:=⟨λ i h=>yAz i,λ i h=>qO h,kI _ _⟩
theorem aGJ(z:Nat):Hd jI z 1:=⟨λ i h=>qO h,λ i h=>qO h,kI _ _⟩
theorem aGR{a b c e x y:Int}(h1:a<=x)(h2:x<=b)(h3:c<=y)(h4:y<=e):Hd (l3 a b c e) (decide (x<y)).toNat 1:=by
 unfold l3
 by_cases c1:b<c
 ·rw[if_pos c1,dqT (by omega)]
  exact aHe
 ·rw[if_neg c1]
  by_cases c2:e<=a
  ·rw[if_pos c2,dqF (by omega)]
   exact aHq
  ·rw[if_neg c2];exact aGJ _
theorem aMc{f g:Ft}{a b w:Nat}(kf:FtOk f w)(kg:FtOk g w)(ha:a<2^w)(hb:b<2^w)(h1:Hd f a w)(h2:Hd g b w):Hd (l3 (f.O:Nat) ((2^w-1-f.N:Nat):Int) (g.O:Nat) ((2^w-1-g.N:Nat):Int)) (decide ((a:Int)<(b:Int))).toNat 1:=
 aGR (Int.ofNat_le.mpr (aAd h1)) (Int.ofNat_le.mpr (aAr kf ha h1)) (Int.ofNat_le.mpr (aAd h2)) (Int.ofNat_le.mpr (aAr kg hb h2))
theorem aMv{f g:Ft}{a b w:Nat}(kf:FtOk f w)(ha:a<2^w)(hb:b<2^w)(h1:Hd f a w)(h2:Hd g b w):Hd (mH w f g) (decide (a=b)).toNat 1:=by
 unfold mH
 by_cases c1:f.N&&&g.O|||f.O&&&g.N=0
 ·rw[if_neg (by simp[c1])]
  by_cases c2:(f.N|||f.O)&&&(g.N|||g.O)=2^w-1
  ·rw[if_pos c2];have:a=b:=by
    apply xAl;intro i
    by_cases c:i<w
    ·have q:((f.N|||f.O)&&&(g.N|||g.O)).testBit i=true:=by rw[c2,cW,dqT c]
     have z:=(jL _).mp c1 i;rw[yAj,xAo,xAo] at q;rw[xAo,yAj,yAj] at z;have p1:=h1.1 i;have p2:=h1.2.1 i;have p3:=h2.1 i;have p4:=h2.2.1 i
     revert q z p1 p2 p3 p4
     generalize f.N.testBit i=y0;generalize f.O.testBit i=y1;generalize g.N.testBit i=y2;generalize g.O.testBit i=y3;generalize a.testBit i=y4;generalize b.testBit i=y5
     revert y0 y1 y2 y3 y4 y5
     decide
    ·rw[cL ha (by omega),cL hb (by omega)]
   rw[dqT this];exact aHe
  ·rw[if_neg c2];exact aGJ _
 ·rw[if_pos c1];have:a≠b:=by
   rintro rfl;apply c1;rw[jL];intro i;rw[xAo,yAj,yAj];have p1:=h1.1 i;have p2:=h1.2.1 i;have p3:=h2.1 i;have p4:=h2.2.1 i
   revert p1 p2 p3 p4
   generalize f.N.testBit i=y0;generalize f.O.testBit i=y1;generalize g.N.testBit i=y2;generalize g.O.testBit i=y3;generalize a.testBit i=y4
   revert y0 y1 y2 y3 y4
   decide
  rw[dqF this];exact aHq
noncomputable def tw(a w:Nat):Int:=jH a w+((2^(w-1):Nat):Int)
theorem aTl{w:Nat}(hw:1<=w):(2:Nat)^w=2^(w-1)+2^(w-1):=by
 have:(2:Nat)^(w-1+1)=2^(w-1)*2:=yEr ..;rw[show w-1+1=w by omega] at this
 omega
theorem aC0{a w:Nat}(ha:a<2^w)(hw:1<=w):((a^^^2^(w-1):Nat):Int)=tw a w:=by
 have h2:=aTl hw;unfold tw jH
 by_cases c:2^(w-1)<=a
 ·rw[if_pos c,aB3 c (by rw[show w-1+1=w by omega];exact ha)]
  omega
 ·rw[if_neg c,zJ (by omega)]
  omega
theorem aHa{f:Ft}{a w:Nat}(hw:1<=w)(h:Hd f a w)(i:Nat):((tt f w).N.testBit i=true->(a^^^2^(w-1)).testBit i=false)/\((tt f w).O.testBit i=true->(a^^^2^(w-1)).testBit i=true):=by
 have h1:=h.1 i;have h2:=h.2.1 i;show((f.N^^^((f.N^^^f.O)&&&dJ 1 w)).testBit i=true->_)/\((f.O^^^((f.N^^^f.O)&&&dJ 1 w)).testBit i=true->_);simp only[yAo,yAj,aFR hw,yDw];have key:∀ b n o x:Bool,(n=true->x=false)->(o=true->x=true)->((n ^^ ((n ^^ o)&&b))=true->(x ^^ b)=false)/\((o ^^ ((n ^^ o)&&b))=true->(x ^^ b)=true):=by decide
 exact key _ _ _ _ h1 h2
theorem aJa{f:Ft}{a w:Nat}(kf:FtOk f w)(hd:f.N&&&f.O=0)(hw:1<=w)(ha:a<2^w)(h:Hd f a w):(((tt f w).O:Nat):Int)<=tw a w/\tw a w<=((2^w-1-(tt f w).N:Nat):Int):=by
 have hp:2^(w-1)<2^w:=yDl (by decide) (by omega)
 have lN:(tt f w).N<2^w:=yBv kf.lN (xAi yEj (aCY 1 w));rw[<- aC0 ha hw];exact⟨Int.ofNat_le.mpr (aCt λ i=>(aHa hw h i).2),Int.ofNat_le.mpr (aH2 lN (yBv ha hp) λ i=>(aHa hw h i).1)⟩
theorem aLv{f g:Ft}{a b w:Nat}(kf:FtOk f w)(kg:FtOk g w)(fd:f.N&&&f.O=0)(gd:g.N&&&g.O=0)(hw:1<=w)(ha:a<2^w)(hb:b<2^w)(h1:Hd f a w)(h2:Hd g b w):Hd (l3 ((tt f w).O:Nat) ((2^w-1-(tt f w).N:Nat):Int) ((tt g w).O:Nat) ((2^w-1-(tt g w).N:Nat):Int)) (decide (jH a w<jH b w)).toNat 1:=by
 have i1:=aJa kf fd hw ha h1;have i2:=aJa kg gd hw hb h2;have e:decide (jH a w<jH b w)=decide (tw a w<tw b w):=by
  rw[decide_eq_decide];unfold tw;omega
 rw[e];exact aGR i1.1 i1.2 i2.1 i2.2
theorem aL2{t f g:Ft}{c a b w:Nat}(ht:Hd t c 1)(hc:c<2)(h1:Hd f a w)(h2:Hd g b w):Hd (oG t f g) (if c=1 then a else b) w:=by
 unfold oG
 by_cases c1:t.O=1
 ·have:c=1:=by
   have:=ht.2.1 0 (by rw[c1];rfl)
   rcases (show c=0\/c=1 by omega) with rfl | rfl
   ·cases this
   ·rfl
  rw[if_pos c1,if_pos this];exact h1
 ·rw[if_neg c1]
  by_cases c2:t.N=1
  ·have:c=0:=by
    have:=ht.1 0 (by rw[c2];rfl)
    rcases (show c=0\/c=1 by omega) with rfl | rfl
    ·rfl
    ·cases this
   rw[if_pos c2,if_neg (by omega)]
   exact h2
  ·rw[if_neg c2];have go:∀ {z:Nat}{h:Ft},Hd h z w->(∀ i,(f.N&&&g.N).testBit i=true->h.N.testBit i=true)->(∀ i,(f.O&&&g.O).testBit i=true->h.O.testBit i=true)->min f.A g.A<=h.A->Hd ⟨f.N&&&g.N,f.O&&&g.O,min f.A g.A⟩ z w:=λ {z h} q q1 q2 q3 =>
    ⟨λ i hi=>q.1 i (q1 i hi),λ i hi=>q.2.1 i (q2 i hi),qM q3 q.2.2⟩
   have an:∀ {x y:Nat} i,(x&&&y).testBit i=true->x.testBit i=true/\y.testBit i=true:=λ i hi=>by
    rw[yAj,yBb] at hi;exact hi
   split
   ·exact go h1 (λ i hi=>(an i hi).1) (λ i hi=>(an i hi).1) (by omega)
   ·exact go h2 (λ i hi=>(an i hi).2) (λ i hi=>(an i hi).2) (by omega)
theorem aTx(a b:D):aI (.tuple [a,b]) (.int 0)=qq a:=rfl
theorem aSP(a b:D):aI (.tuple [a,b]) (.int 1)=qq b:=rfl
theorem aPJ(a:Wd):bH .In (.str a.s) (.tuple [.str "add",.str "sub",.str "mul"])=qq (.bool (decide (a=.add\/a=.sub\/a=.mul))):=by cases a<;>rfl
theorem aSH(a:Wd):bH .In (.str a.s) (.tuple [.str "and",.str "or",.str "xor"])=qq (.bool (decide (a=.and\/a=.or\/a=.xor))):=by cases a<;>rfl
theorem eN{C:Calls}{i:Nat}{j:Int}{env:aW}{R x:D}{S:aD}(h:env[i]? = qq (qq (.d R)))(e:aI R (.int j)=qq x):ev C (.ix (.var i) (.int j)) env S=qq (.d x,S):=by
 simp only[gS0,h,e]
noncomputable abbrev oe(R Wi Fs:D)(wd:Wd)(v:Int):aW:=[qq (.d R),qq (.d Wi),qq (.d Fs),qq (.d (.str wd.s)),qq (.d (.int v))]
section
variable (C : Calls)(R Wi Fs : D)(v : Int)(S : aD)(wd : Wd)
theorem mB:tv C (.cmp .Eq (.var 3) (.str "in")) (oe R Wi Fs wd v) S=qq (decide (wd=.in),S):=cQ rfl (bO wd .in)
theorem fR:tv C (.cmp .Eq (.var 3) (.str "num")) (oe R Wi Fs wd v) S=qq (decide (wd=.num),S):=cQ rfl (bO wd .num)
theorem gN:tv C (.cmp .Eq (.var 3) (.str "not")) (oe R Wi Fs wd v) S=qq (decide (wd=.not),S):=cQ rfl (bO wd .not)
theorem uS:tv C (.cmp .Eq (.var 3) (.str "pick")) (oe R Wi Fs wd v) S=qq (decide (wd=.pick),S):=cQ rfl (bO wd .pick)
theorem qT:tv C (.cmp .In (.var 3) (.con "SUMS" aCZ)) (oe R Wi Fs wd v) S=qq (decide (wd=.add\/wd=.sub\/wd=.mul),S):=jR rfl rfl (aPJ wd)
theorem iX:tv C (.cmp .In (.var 3) (.con "SHIFTS" qI)) (oe R Wi Fs wd v) S=qq (decide (wd=.left\/wd=.right\/wd=.slide),S):=jR rfl rfl (aB0 wd)
theorem oT:tv C (.cmp .In (.var 3) (.con "COMPARES" qD)) (oe R Wi Fs wd v) S=qq (decide (wd=.same\/wd=.less\/wd=.under),S):=jR rfl rfl (zI wd)
theorem aJB:tv C (.cmp .In (.var 3) (.tup (.cons (.str "and") (.cons (.str "or") (.cons (.str "xor") .nil))))) (oe R Wi Fs wd v) S=qq (decide (wd=.and\/wd=.or\/wd=.xor),S):=jR rfl rfl (aSH wd)
end
theorem aQR{wd:Wd}(h:wd=.cut\/wd=.wide\/wd=.sign):¬ wd=.in/\¬ wd=.num/\¬ wd=.not/\¬ (wd=.add\/wd=.sub\/wd=.mul)/\¬ (wd=.left\/wd=.right\/wd=.slide)/\¬ (wd=.same\/wd=.less\/wd=.under)/\¬ wd=.pick/\¬ (wd=.and\/wd=.or\/wd=.xor):=by
 rcases h with rfl | rfl | rfl<;>decide
theorem aS5{wd:Wd}(h:wd=.and\/wd=.or\/wd=.xor):¬ wd=.in/\¬ wd=.num/\¬ wd=.not/\¬ (wd=.add\/wd=.sub\/wd=.mul)/\¬ (wd=.left\/wd=.right\/wd=.slide)/\¬ (wd=.same\/wd=.less\/wd=.under)/\¬ wd=.pick:=by
 rcases h with rfl | rfl | rfl<;>decide
theorem aTd{wd:Wd}(h:wd=.left\/wd=.right\/wd=.slide):¬ wd=.in/\¬ wd=.num/\¬ wd=.not/\¬ (wd=.add\/wd=.sub\/wd=.mul):=by
 rcases h with rfl | rfl | rfl<;>decide
section
variable (d : Nat)(R Wi Fs : D)(v : Int)(S : aD)
theorem aNF(f:Ft)(e0:aI R (.int 0)=qq (.str "not"))(e1:aI R (.int 1)=qq (.int v))(ef:aI Fs (.int 0)=qq f.d):cl fns (d+1) 47 [.d R,.d Wi,.d Fs] S=qq (.d (Ft.mk f.O f.N f.A).d,S):=by
 have t1:=mB (aC fns d) R Wi Fs v S .not;have t2:=fR (aC fns d) R Wi Fs v S .not;have t3:=gN (aC fns d) R Wi Fs v S .not;refine cM (S1:=S) rfl d rfl rfl yAi (eC (S1:=S) (w:=.d (.str Wd.not.s)) (eN rfl e0) rfl (eC (S1:=S) (w:=.d (.int v)) (eN rfl e1) rfl (aS t1 (aS t2 (cF t3 (bQ ?_))))));simp only[gS0,ef,fL,fS,iS]
theorem aLq(wd:Wd)(aN:wd=.left\/wd=.right\/wd=.slide)(f:Ft)(k:Nat)(g:D)(e0:aI R (.int 0)=qq (.str wd.s))(e1:aI R (.int 1)=qq (.int v))(e3:aI R (.int 3)=qq (.int (k:Nat)))(ef:aI Fs (.int 0)=qq f.d)(hk:cl fns d 40 [.d (.str wd.s),.d (.int v),.d f.d,.d (.int (k:Nat))] S=qq (.d g,S)):cl fns (d+1) 47 [.d R,.d Wi,.d Fs] S=qq (.d g,S):=by
 have t1:=mB (aC fns d) R Wi Fs v S wd;have t2:=fR (aC fns d) R Wi Fs v S wd;have t3:=gN (aC fns d) R Wi Fs v S wd;have t4:=qT (aC fns d) R Wi Fs v S wd;have t5:=iX (aC fns d) R Wi Fs v S wd;rw[dqT aN] at t5;obtain⟨n1,n2,n3,n4⟩:=aTd aN;rw[dqF n1] at t1;rw[dqF n2] at t2;rw[dqF n3] at t3;rw[dqF n4] at t4;refine cM (S1:=S) rfl d rfl rfl yAi (eC (S1:=S) (w:=.d (.str wd.s)) (eN rfl e0) rfl (eC (S1:=S) (w:=.d (.int v)) (eN rfl e1) rfl (aS t1 (aS t2 (aS t3 (aS t4 (cF t5 (bQ ?_))))))));simp only[gS0,ef,e3,hk]
theorem aNU(wd:Wd)(aN:wd=.and\/wd=.or\/wd=.xor)(f g:Ft)(e0:aI R (.int 0)=qq (.str wd.s))(e1:aI R (.int 1)=qq (.int v))(ef:aI Fs (.int 0)=qq f.d)(eg:aI Fs (.int 1)=qq g.d):cl fns (d+3) 47 [.d R,.d Wi,.d Fs] S=qq (.d (bwN wd f g).d,S):=by
 have t1:=mB (aC fns (d+2)) R Wi Fs v S wd;have t2:=fR (aC fns (d+2)) R Wi Fs v S wd;have t3:=gN (aC fns (d+2)) R Wi Fs v S wd;have t4:=qT (aC fns (d+2)) R Wi Fs v S wd;have t5:=iX (aC fns (d+2)) R Wi Fs v S wd;have t6:=oT (aC fns (d+2)) R Wi Fs v S wd;have t7:=uS (aC fns (d+2)) R Wi Fs v S wd;have t8:=aJB (aC fns (d+2)) R Wi Fs v S wd;rw[dqT aN] at t8;obtain⟨n1,n2,n3,n4,n5,n6,n7⟩:=aS5 aN;rw[dqF n1] at t1;rw[dqF n2] at t2;rw[dqF n3] at t3;rw[dqF n4] at t4;rw[dqF n5] at t5;rw[dqF n6] at t6;rw[dqF n7] at t7;refine cM (S1:=S) rfl (d+2) rfl rfl yAi (eC (S1:=S) (w:=.d (.str wd.s)) (eN rfl e0) rfl (eC (S1:=S) (w:=.d (.int v)) (eN rfl e1) rfl (aS t1 (aS t2 (aS t3 (aS t4 (aS t5 (aS t6 (aS t7 (cF t8 (bQ ?_)))))))))));simp only[gS0,ef,eg,aLm d wd aN f g]
theorem aBQ(wd:Wd)(aN:wd=.cut\/wd=.wide\/wd=.sign)(f:Ft)(w:Int)(g:D)(e0:aI R (.int 0)=qq (.str wd.s))(e1:aI R (.int 1)=qq (.int v))(ew:aI Wi (.int 0)=qq (.int w))(ef:aI Fs (.int 0)=qq f.d)(hk:cl fns d 41 [.d (.str wd.s),.d (.int w),.d (.int v),.d f.d] S=qq (.d g,S)):cl fns (d+1) 47 [.d R,.d Wi,.d Fs] S=qq (.d g,S):=by
 have t1:=mB (aC fns d) R Wi Fs v S wd;have t2:=fR (aC fns d) R Wi Fs v S wd;have t3:=gN (aC fns d) R Wi Fs v S wd;have t4:=qT (aC fns d) R Wi Fs v S wd;have t5:=iX (aC fns d) R Wi Fs v S wd;have t6:=oT (aC fns d) R Wi Fs v S wd;have t7:=uS (aC fns d) R Wi Fs v S wd;have t8:=aJB (aC fns d) R Wi Fs v S wd;obtain⟨n1,n2,n3,n4,n5,n6,n7,n8⟩:=aQR aN;rw[dqF n1] at t1;rw[dqF n2] at t2;rw[dqF n3] at t3;rw[dqF n4] at t4;rw[dqF n5] at t5;rw[dqF n6] at t6;rw[dqF n7] at t7;rw[dqF n8] at t8;refine cM (S1:=S) rfl d rfl rfl yAi (eC (S1:=S) (w:=.d (.str wd.s)) (eN rfl e0) rfl (eC (S1:=S) (w:=.d (.int v)) (eN rfl e1) rfl (aS t1 (aS t2 (aS t3 (aS t4 (aS t5 (aS t6 (aS t7 (aS t8 (bQ ?_)))))))))));simp only[gS0,ew,ef,hk]
theorem aCl(n:Nat)(g:Ft)(e1:aI R (.int 1)=qq (.int (n:Nat)))(ho:cl fns (d+3) 47 [.d R,.d Wi,.d Fs] S=qq (.d g.d,S))(hg:FtOk g n)(hn:n<=64):cl fns (d+4) 48 [.d R,.d Wi,.d Fs] S=qq (.d (gK g n).d,S):=by
 rw[aV rfl (d+3) _ S rfl];simp only[gR1,aJd,ho,e1,aLX d g n hg hn]
end
noncomputable def shN(wd:Wd)(w:Nat)(f:Ft)(k:Nat):Ft:=match wd with
 | .left=>uX w f k
 | .right=>lF w f k
 | _=>uE w f k
theorem aBK(d:Nat)(wd:Wd)(aN:wd=.left\/wd=.right\/wd=.slide)(w:Nat)(f:Ft)(k:Nat)(hf:FtOk f w)(bS:1<=w)(hw:w<=64)(hk:k<=900)(S:aD):cl fns (d+4) 40 [.d (.str wd.s),.d (.int (w:Nat)),.d f.d,.d (.int (k:Nat))] S=qq (.d (shN wd w f k).d,S):=by
 have t1:=cQ (C:=aC fns (d+3)) (i:=0) (S:=S) (x:="left") (env:=[qq (.d (.str wd.s)),qq (.d (.int (w:Nat))),qq (.d f.d),qq (.d (.int (k:Nat)))]) rfl (bO wd .left);have t2:=cQ (C:=aC fns (d+3)) (i:=0) (S:=S) (x:="right") (env:=[qq (.d (.str wd.s)),qq (.d (.int (w:Nat))),qq (.d f.d),qq (.d (.int (k:Nat)))]) rfl (bO wd .right);rcases aN with rfl | rfl | rfl
 ·refine cM (S1:=S) rfl (d+3) rfl rfl yAi (cF t1 (bQ ?_));have hq43:=aOe (d+1) w f k hf hw (by omega)
  simp only[gS0,hq43]
 ·refine cM (S1:=S) rfl (d+3) rfl rfl yAi (aS t1 (cF t2 (bQ ?_)));simp only[gS0,aMS d w f k hw]
 ·refine cM (S1:=S) rfl (d+3) rfl rfl yAi (aS t1 (aS t2 (bQ ?_)));simp only[gS0,aML d w f k bS hw hk]
theorem aBN(d:Nat)(f:Ft)(S:aD):cl fns (d+1) 22 [.d f.d] S=qq (.d (.int ((f.N|||f.O:Nat):Int)),S):=by
 rw[aV rfl d _ S rfl];simp only[gR1,aEQ,fL,fS,eP]
theorem mM(n:Nat):(((n:Nat):Int)==1)=(n==1):=by
 rw[yEc,beq_iff_eq,beq_iff_eq];omega
theorem aHk(d w:Nat)(f g:Ft)(hf:f.N<2^w)(hg:g.N<2^w)(hw:w<=64)(S:aD):cl fns (d+3) 43 [.d (.int (w:Nat)),.d f.d,.d g.d] S=qq (.d (l3 (f.O:Nat) ((2^w-1-f.N:Nat):Int) (g.O:Nat) ((2^w-1-g.N:Nat):Int)).d,S):=by
 have g1:=xP d f w hf hw S;have g2:=xP d g w hg hw S;have l1:=tN (d+1) f S;have l2:=tN (d+1) g S;rw[aV rfl (d+2) _ S rfl];unfold l3
 by_cases c1:((2^w-1-f.N:Nat):Int)<((g.O:Nat):Int)
 ·rw[if_pos c1];simp only[gR1,xW,g1,l2,eO,dqT c1,uY,Tv.d]
 ·rw[if_neg c1]
  by_cases c2:((2^w-1-g.N:Nat):Int)<=((f.O:Nat):Int)
  ·rw[if_pos c2];simp only[gR1,xW,g1,l2,eO,dqF c1,l1,g2,aIc,dqT c2,tJ,Tv.d]
  ·rw[if_neg c2];simp only[gR1,xW,g1,l2,eO,dqF c1,l1,g2,aIc,dqF c2,qE,Tv.d]
theorem yI(d w:Nat)(f:Ft)(bS:1<=w)(hw:w<=64)(S:aD):cl fns (d+3) 44 [.d f.d,.d (.int (w:Nat))] S=qq (.d (tt f w).d,S):=by
 have t:cl fns (d+2) 21 [.d (.int 1),.d (.int (w:Nat))] S=qq (.d (.int ((dJ 1 w:Nat):Int)),S):=oI d 1 w S bS hw;rw[aV rfl (d+2) _ S rfl];simp only[gR1,aEI,Ft.d,t,gY,dG]
theorem aOB(d w:Nat)(f g:Ft)(hw:w<=64)(S:aD):cl fns (d+3) 42 [.d (.int (w:Nat)),.d f.d,.d g.d] S=qq (.d (mH w f g).d,S):=by
 rw[aV rfl (d+2) _ S rfl];unfold mH
 by_cases c1:f.N&&&g.O|||f.O&&&g.N=0
 ·have d1:(f.N&&&g.O|||f.O&&&g.N==0)=true:=by rw[beq_iff_eq];exact c1
  rw[if_neg (by simp[c1])]
  by_cases c2:(f.N|||f.O)&&&(g.N|||g.O)=2^w-1
  ·have d2:((f.N|||f.O)&&&(g.N|||g.O)==2^w-1)=true:=by rw[beq_iff_eq];exact c2
   rw[if_pos c2];have hq44:=cP (d+1) w (by omega)
   simp only[gR1,xT,yM (d+1),kL,eV,d1,aBN (d+1),dG,hq44,bP,tI,d2,uY,Tv.d]
  ·have d2:((f.N|||f.O)&&&(g.N|||g.O)==2^w-1)=false:=by rw[beq_eq_false_iff_ne];exact c2
   rw[if_neg c2];have hq45:=cP (d+1) w (by omega)
   simp only[gR1,xT,yM (d+1),kL,eV,d1,aBN (d+1),dG,hq45,bP,tI,d2,qE,Tv.d]
 ·have d1:(f.N&&&g.O|||f.O&&&g.N==0)=false:=by rw[beq_eq_false_iff_ne];exact c1
  rw[if_pos c1];simp only[gR1,xT,yM (d+1),kL,eV,d1,tJ,Tv.d]
theorem aOa(d:Nat)(t f g:Ft)(S:aD):cl fns (d+1) 46 [.d t.d,.d f.d,.d g.d] S=qq (.d (oG t f g).d,S):=by
 rw[aV rfl d _ S rfl];unfold oG
 by_cases c1:t.O=1
 ·have d1:(t.O==1)=true:=by rw[beq_iff_eq];exact c1
  rw[if_pos c1];simp only[gR1,xX,fS,bP,mM,d1]
 ·have d1:(t.O==1)=false:=by rw[beq_eq_false_iff_ne];exact c1
  rw[if_neg c1]
  by_cases c2:t.N=1
  ·have d2:(t.N==1)=true:=by rw[beq_iff_eq];exact c2
   rw[if_pos c2];simp only[gR1,xX,fS,fL,bP,mM,d1,d2]
  ·have d2:(t.N==1)=false:=by rw[beq_eq_false_iff_ne];exact c2
   rw[if_neg c2];simp only[gR1,xX,fS,fL,iS,bP,mM,d1,d2,dG,kF]
noncomputable def oD(wd:Wd)(w:Nat)(f g:Ft):Ft:=match wd with
 | .same=>mH w f g
 | .less=>l3 (f.O:Nat) ((2^w-1-f.N:Nat):Int) (g.O:Nat) ((2^w-1-g.N:Nat):Int)
 | _=>l3 ((tt f w).O:Nat) ((2^w-1-(tt f w).N:Nat):Int) ((tt g w).O:Nat) ((2^w-1-(tt g w).N:Nat):Int)
theorem aT8(wd:Wd)(w:Nat)(f g:Ft):oD wd w f g=F1\/oD wd w f g=F0\/oD wd w f g=jI:=by
 unfold oD
 split
 ·exact aTH ..
 ·exact aJM ..
 ·exact aJM ..
structure Ftd(f:Ft)(w:Nat):Prop where
 ok:FtOk f w
 dj:f.N&&&f.O=0
theorem aLu(d:Nat)(wd:Wd)(aN:wd=.same\/wd=.less\/wd=.under)(w:Nat)(f g:Ft)(hf:Ftd f w)(hg:Ftd g w)(bS:1<=w)(hw:w<=64)(S:aD):cl fns (d+4) 45 [.d (.str wd.s),.d (.int (w:Nat)),.d f.d,.d g.d] S=qq (.d (oD wd w f g).d,S):=by
 have t1:=cQ (C:=aC fns (d+3)) (i:=0) (S:=S) (x:="same") (env:=[qq (.d (.str wd.s)),qq (.d (.int (w:Nat))),qq (.d f.d),qq (.d g.d)]) rfl (bO wd .same);have t2:=cQ (C:=aC fns (d+3)) (i:=0) (S:=S) (x:="less") (env:=[qq (.d (.str wd.s)),qq (.d (.int (w:Nat))),qq (.d f.d),qq (.d g.d)]) rfl (bO wd .less);rcases aN with rfl | rfl | rfl
 ·refine cM (S1:=S) rfl (d+3) rfl rfl yAi (cF t1 (bQ ?_));simp only[gS0,aOB d w f g hw]
 ·refine cM (S1:=S) rfl (d+3) rfl rfl yAi (aS t1 (cF t2 (bQ ?_)));simp only[gS0,aHk d w f g hf.ok.lN hg.ok.lN hw]
 ·refine cM (S1:=S) rfl (d+3) rfl rfl yAi (aS t1 (aS t2 (bQ ?_)));simp only[gS0,yI d w f bS hw,yI d w g bS hw,aHk d w (tt f w) (tt g w) (aIY hf.ok hf.dj bS) (aIY hg.ok hg.dj bS) hw]
noncomputable def Sw.wd:Sw->Wd
 | .add=>.add
 | .sub=>.sub
 | .mul=>.mul
theorem xM(x:Int)(L:Nat):cG .BitAnd (.int x) (.int ((2^L-1:Nat):Int))=qq (.int ((rs x L:Nat):Int)):=by
 have hp:=xAe L
 by_cases c:0<=x
 ·obtain⟨n,rfl⟩:∃ n:Nat,x=(n:Nat):=⟨x.toNat,by omega⟩
  rw[dG,aSk,yDt]
 ·have h1:decide ((0:Int)<=x)=false:=dqF c;have h2:decide ((0:Int)<=((2^L-1:Nat):Int))=true:=dqT (by omega)
  obtain⟨b,hb⟩:∃ b:Nat,yBn x=(b:Nat):=⟨(yBn x).toNat,by unfold yBn;omega⟩
  have hx:x = -((b:Nat):Int)-1:=by unfold yBn at hb;omega
  have e:(2^L-1)&&&b=b%2^L:=by rw[Nat.and_comm,yDt]
  have hm:=Nat.mod_lt b hp;have hr:=nB x L;have e2:x%((2^L:Nat):Int)=((2^L:Nat):Int)-1-((b%2^L:Nat):Int):=by
   have hd:((b:Nat):Int)=((2^L:Nat):Int)*((b/2^L:Nat):Int)+((b%2^L:Nat):Int):=by
    rw[<- yCd,<- Int.natCast_add,yEg]
   have hx2:x=(((2^L:Nat):Int)-1-((b%2^L:Nat):Int))+((2^L:Nat):Int)*(-((b/2^L:Nat):Int)-1):=by
    rw[hx,hd,Int.mul_sub,Int.mul_neg,Int.mul_one];omega
   rw[hx2,Int.add_mul_emod_self_left,Int.emod_eq_of_lt (by omega) (by omega)]
  simp only[cG,kM];unfold yDy;rw[h1,h2];simp only[hb,yAq,e];congr 2;omega
theorem aBn(d:Nat)(s:Sw)(x y:Nat)(hx:x<2^64)(S:aD):cl fns (d+1) 27 [.d (.str s.wd.s),.d (.int (x:Nat)),.d (.int (y:Nat))] S=qq (.d (.int (s.oc (x:Nat) (y:Nat))),S):=by
 have t1:=cQ (C:=aC fns d) (i:=0) (S:=S) (x:="add") (env:=[qq (.d (.str s.wd.s)),qq (.d (.int (x:Nat))),qq (.d (.int (y:Nat)))]) rfl (bO s.wd .add);have t2:=cQ (C:=aC fns d) (i:=0) (S:=S) (x:="sub") (env:=[qq (.d (.str s.wd.s)),qq (.d (.int (x:Nat))),qq (.d (.int (y:Nat)))]) rfl (bO s.wd .sub);cases s with
 | add =>
   refine cM (S1:=S) rfl d rfl rfl yAi (cF t1 (bQ ?_));simp only[gS0,eI]
 | sub =>
   refine cM (S1:=S) rfl d rfl rfl yAi (aS t1 (cF t2 (bQ ?_)));simp only[gS0,cR]
 | mul =>
   refine cM (S1:=S) rfl d rfl rfl yAi (aS t1 (aS t2 (bQ ?_)));have hq46:=mN (i:=((x:Nat):Int)) (j:=((y:Nat):Int)) (by omega) (by omega)
   simp only[gS0,hq46]
theorem p64{n w:Nat}(h:n<2^w)(hw:w<=64):n<2^64:=xAb h (yBd (by decide) hw)
theorem aPQ(d:Nat)(s:Sw)(w:Nat)(f g:Ft)(hf:FtOk f w)(hw:w<=64)(S:aD):cl fns (d+3) 28 [.d (.str s.wd.s),.d f.d,.d g.d] S=qq (.d (.tuple [.int ((rK s f g:Nat):Int),.int ((jT s f g:Nat):Int)]),S):=by
 have hL:=aB6 (g:=g) hf;have e1:=aCL d ((f.N|||f.O)&&&(g.N|||g.O)) S
 have e2:=cP (d+1) (fV f g) (show fV f g<=100000 by omega) S
 rw[aV rfl (d+2) _ S rfl];simp only[evs,eX,aE4,aBN (d+1),dG];rw[e1];simp only[evs,show lr ((f.N|||f.O)&&&(g.N|||g.O))=fV f g from rfl]
 rw[e2];simp only[gS0,tN (d+1),aBn (d+1) s f.O g.O (p64 hf.lO hw),xM,gY]
theorem aLO(d:Nat)(s:Sw)(w:Nat)(f g:Ft)(hf:FtOk f w)(hg:FtOk g w)(hw:w<=64)(S:aD):cl fns (d+3) 30 [.d (.str s.wd.s),.d (.int (w:Nat)),.d f.d,.d g.d] S=qq (.d (.tuple [.int (fX s w f g),.int (fY s w f g)]),S):=by
 have g1:=xP d f w hf.lN hw S;have g2:=xP d g w hg.lN hw S;have l1:=tN (d+1) f S;have l2:=tN (d+1) g S;have hp:=xAe w;have o1:=aBn (d+1) s f.O g.O (p64 hf.lO hw) S;have o2:=aBn (d+1) s (2^w-1-f.N) (2^w-1-g.N) (p64 (w:=w) (by omega) hw) S
 have t1:bH .Eq (.str s.wd.s) (.str "sub")=qq (.bool (decide (s.wd=.sub))):=bO s.wd .sub;rw[aV rfl (d+2) _ S rfl];cases s with
 | sub =>
   have t:bH .Eq (.str Sw.sub.wd.s) (.str "sub")=qq (.bool true):=t1;simp only[gR1,zK,t,g1,g2,l1,l2,cR]
 | add =>
   have t:bH .Eq (.str Sw.add.wd.s) (.str "sub")=qq (.bool false):=t1;simp only[gR1,zK,t,g1,g2,l1,l2,o1,o2]
 | mul =>
   have t:bH .Eq (.str Sw.mul.wd.s) (.str "sub")=qq (.bool false):=t1;simp only[gR1,zK,t,g1,g2,l1,l2,o1,o2]
theorem aMe(d l g w:Nat)(S:aD)(hl:l<2^w)(hg:g<2^w)(hw:w<=64):cl fns (d+3) 6 [.d (.int (l:Nat)),.d (.int (g:Nat)),.d (.int (w:Nat))] S=qq (.d (.tuple [.int (tM l g w:Nat),.int (nK l g w:Nat)]),S):=by
 have hx:l^^^g<2^10000:=aHQ (yBv hl hg) (by omega)
 rw[aV rfl (d+2) _ S rfl];have hq47:=cP (d+1) w (by omega)
 simp only[gR1,aEL,hq47,gY,aFV d (l^^^g) _ hx,dG]
theorem aTp(s:Sw)(w:Nat)(f g:Ft){a b:Nat}(hf:FtOk f w)(hg:FtOk g w)(ha:a<2^w)(hb:b<2^w)(h1:Hd f a w)(h2:Hd g b w):fX s w f g<=fY s w f g:=by
 have:=aJg s hf hg ha hb h1 h2;omega
theorem aPM(d:Nat)(s:Sw)(w:Nat)(f g:Ft)(hf:FtOk f w)(hg:FtOk g w)(hb:fX s w f g<=fY s w f g)(hw:w<=64)(S:aD):cl fns (d+4) 31 [.d (.str s.wd.s),.d (.int (w:Nat)),.d f.d,.d g.d] S=qq (.d (.tuple [.int ((pS s w f g:Nat):Int),.int ((pW s w f g:Nat):Int)]),S):=by
 have b1:=aLO d s w f g hf hg hw S;have hp:=xAe w;rw[aV rfl (d+3) _ S rfl];unfold pS pW
 by_cases c1:fX s w f g<0
 ·rw[if_pos (.inl c1),if_pos (.inl c1)];simp only[gR1,yD,b1,eO,dqT c1]
 ·by_cases c2:((2^w-1:Nat):Int)<fY s w f g
  ·rw[if_pos (.inr c2),if_pos (.inr c2)];have hq48:=cP (d+2) w (by omega)
   simp only[gR1,yD,b1,eO,dqF c1,hq48,iI,dqT c2]
  ·have c:¬ (fX s w f g<0\/fY s w f g>((2^w-1:Nat):Int)):=λ h=>h.elim c1 c2
   rw[if_neg c,if_neg c];obtain⟨l,hl⟩:∃ l:Nat,fX s w f g=(l:Nat):=⟨(fX s w f g).toNat,by omega⟩
   obtain⟨u,hu⟩:∃ u:Nat,fY s w f g=(u:Nat):=⟨(fY s w f g).toNat,by omega⟩
   rw[hl] at c1;rw[hu] at c2;rw[hl,hu] at b1 hb;rw[hl,hu,yAq,yAq];have hq49:=cP (d+2) w (by omega)
   have hq50:=aMe d l u w S (by omega) (by omega) hw
   simp only[gR1,yD,b1,eO,dqF c1,hq49,iI,dqF c2,hq50]
theorem aOU(d:Nat)(s:Sw)(w:Nat)(f g:Ft)(hw:w<=64)(S:aD):cl fns (d+3) 29 [.d (.str s.wd.s),.d (.int (w:Nat)),.d f.d,.d g.d] S=qq (.d (.int ((pQ s w f g:Nat):Int)),S):=by
 rw[aV rfl (d+2) _ S rfl];cases s with
 | add =>
   have t:bH .NotEq (.str Sw.add.wd.s) (.str "mul")=qq (.bool true):=by kernel_rfl
   simp only[gR1,xK,t]
 | sub =>
   have t:bH .NotEq (.str Sw.sub.wd.s) (.str "mul")=qq (.bool true):=by kernel_rfl
   simp only[gR1,xK,t]
 | mul =>
   have t:bH .NotEq (.str Sw.mul.wd.s) (.str "mul")=qq (.bool false):=by kernel_rfl
   have e:((lr f.N:Nat):Int)+((lr g.N:Nat):Int)=((lr f.N+lr g.N:Nat):Int):=by omega
   have hq51:=cP (d+1) (min w (lr f.N+lr g.N)) (by omega)
   simp only[gR1,xK,t,fL,aCL d,eI,e,kF,hq51]
theorem aMB(d:Nat)(s:Sw)(f g:Ft)(S:aD):cl fns (d+1) 32 [.d (.str s.wd.s),.d f.d,.d g.d] S=qq (.d (.int ((kB s f g:Nat):Int)),S):=by
 have e:∀ m:Nat,pN [.int 1,.int (((m:Nat):Int)-1)]=qq (.int ((max 1 (m-1):Nat):Int)):=λ m=>aBL m 1
 rw[aV rfl d _ S rfl];cases s with
 | add =>
   have t:bH .Eq (.str Sw.add.wd.s) (.str "mul")=qq (.bool false):=bO .add .mul;simp only[gR1,yG,t,iS,kF,cR,e]
 | sub =>
   have t:bH .Eq (.str Sw.sub.wd.s) (.str "mul")=qq (.bool false):=bO .sub .mul;simp only[gR1,yG,t,iS,kF,cR,e]
 | mul =>
   have t:bH .Eq (.str Sw.mul.wd.s) (.str "mul")=qq (.bool true):=bO .mul .mul;simp only[gR1,yG,t]
theorem aRu(d:Nat)(s:Sw)(w:Nat)(f g:Ft)(hf:FtOk f w)(hg:FtOk g w)(hb:fX s w f g<=fY s w f g)(hw:w<=64)(S:aD):cl fns (d+5) 33 [.d (.str s.wd.s),.d (.int (w:Nat)),.d f.d,.d g.d] S=qq (.d (vT s w f g).d,S):=by
 rw[aV rfl (d+4) _ S rfl];simp only[gR1,aE8,aPQ (d+1) s w f g hf hw,aPM d s w f g hf hg hb hw,aTx,aSP,eP,aOU (d+1) s w f g hw,aMB (d+3) s f g]
section
variable (d : Nat)(R Wi Fs : D)(v : Nat)(S : aD)
theorem aM5(s:Sw)(f g:Ft)(e0:aI R (.int 0)=qq (.str s.wd.s))(e1:aI R (.int 1)=qq (.int (v:Nat)))(ef:aI Fs (.int 0)=qq f.d)(eg:aI Fs (.int 1)=qq g.d)(hf:FtOk f v)(hg:FtOk g v)(hb:fX s v f g<=fY s v f g)(hv:v<=64):cl fns (d+6) 47 [.d R,.d Wi,.d Fs] S=qq (.d (vT s v f g).d,S):=by
 have aN:s.wd=.add\/s.wd=.sub\/s.wd=.mul:=by
  cases s
  ·exact .inl rfl
  ·exact .inr (.inl rfl)
  ·exact .inr (.inr rfl)
 have t1:=mB (aC fns (d+5)) R Wi Fs (v:Nat) S s.wd;have t2:=fR (aC fns (d+5)) R Wi Fs (v:Nat) S s.wd;have t3:=gN (aC fns (d+5)) R Wi Fs (v:Nat) S s.wd;have t4:=qT (aC fns (d+5)) R Wi Fs (v:Nat) S s.wd;rw[dqT aN] at t4;rw[dqF (by rcases aN with h | h | h<;>rw[h]<;>decide)] at t1 t2 t3
 refine cM (S1:=S) rfl (d+5) rfl rfl yAi (eC (S1:=S) (w:=.d (.str s.wd.s)) (eN rfl e0) rfl (eC (S1:=S) (w:=.d (.int (v:Nat))) (eN rfl e1) rfl (aS t1 (aS t2 (aS t3 (cF t4 (bQ ?_)))))));simp only[gS0,ef,eg,aRu d s v f g hf hg hb hv]
end
section
variable {f : Ft}{w : Nat}(hf : FtOk f w)(hd : f.N&&&f.O = 0)(bS : 1 <= w)
include hf hd bS
theorem aO7(k:Nat):FtOk (uX w f k) w:=by
 have m:=aGG (w:=w) k hd;have:=hf.aw;exact⟨m.lN,m.lO,by show 1<=max 1 (f.A-k);omega,by show max 1 (f.A-k)<=w;omega⟩
theorem aM8(k:Nat):FtOk (lF w f k) w:=by
 have m:=aFP k hf hd;have h1:=hf.aw;have h2:=hf.a1;refine⟨m.lN,m.lO,?_,?_⟩
 ·show 1<=if k=0 then f.A else 1
  split<;>omega
 ·show(if k=0 then f.A else 1)<=w
  split<;>omega
theorem aNv(k:Nat):FtOk (uE w f k) w:=by
 have m:=aGm k bS hf hd;have h1:=hf.a1;exact⟨m.lN,m.lO,by show 1<=min w (f.A+k);omega,by show min w (f.A+k)<=w;omega⟩
theorem aQ6{v:Nat}(hv1:1<=v)(hv:v<=w):FtOk (vQ w v f) v:=by
 have m:=aHX w v hd;have h1:=hf.aw;exact⟨m.lN,m.lO,by show 1<=max 1 (f.A-(w-v));omega,by show max 1 (f.A-(w-v))<=v;omega⟩
theorem aPl{v:Nat}(hv:w<=v):FtOk (lS w v f) v:=by
 have m:=aGA hv hf hd;have h1:=hf.aw;have h2:=hf.a1;refine⟨m.lN,m.lO,?_,?_⟩
 ·show 1<=if v=w then f.A else 1
  split<;>omega
 ·show(if v=w then f.A else 1)<=v
  split<;>omega
theorem aOr{v:Nat}(hv:w<=v):FtOk (vD w v f) v:=by
 have m:=aG6 bS hv hf hd;have h1:=hf.aw;have h2:=hf.a1;exact⟨m.lN,m.lO,by show 1<=f.A+(v-w);omega,by show f.A+(v-w)<=v;omega⟩
end
theorem aT5{b:Nat}{f g:Ft}{w:Nat}(hb:b=0\/b=1\/b=2)(hf:FtOk f w)(hd:f.N&&&f.O=0)(hg:FtOk g w)(he:g.N&&&g.O=0):FtOk (sC b f g) w:=by
 have m:=aI7 b hb hf hd hg he;have h1:=hf.a1;have h2:=hg.a1;have h3:=hf.aw;rcases hb with rfl | rfl | rfl<;>exact⟨m.lN,m.lO,by show 1<=min f.A g.A;omega,by show min f.A g.A<=w;omega⟩
section
variable (d : Nat)(R Wi Fs : D)(v : Int)(S : aD)
theorem aLS(wd:Wd)(aN:wd=.same\/wd=.less\/wd=.under)(w:Nat)(f g:Ft)(e0:aI R (.int 0)=qq (.str wd.s))(e1:aI R (.int 1)=qq (.int v))(ew:aI Wi (.int 0)=qq (.int (w:Nat)))(ef:aI Fs (.int 0)=qq f.d)(eg:aI Fs (.int 1)=qq g.d)(hf:Ftd f w)(hg:Ftd g w)(bS:1<=w)(hw:w<=64):cl fns (d+5) 47 [.d R,.d Wi,.d Fs] S=qq (.d (oD wd w f g).d,S):=by
 have t1:=mB (aC fns (d+4)) R Wi Fs v S wd;have t2:=fR (aC fns (d+4)) R Wi Fs v S wd;have t3:=gN (aC fns (d+4)) R Wi Fs v S wd;have t4:=qT (aC fns (d+4)) R Wi Fs v S wd;have t5:=iX (aC fns (d+4)) R Wi Fs v S wd;have t6:=oT (aC fns (d+4)) R Wi Fs v S wd;rw[dqT aN] at t6;rw[dqF (by rcases aN with rfl | rfl | rfl<;>decide)] at t1 t2 t3 t4 t5
 refine cM (S1:=S) rfl (d+4) rfl rfl yAi (eC (S1:=S) (w:=.d (.str wd.s)) (eN rfl e0) rfl (eC (S1:=S) (w:=.d (.int v)) (eN rfl e1) rfl (aS t1 (aS t2 (aS t3 (aS t4 (aS t5 (cF t6 (bQ ?_)))))))));simp only[gS0,ew,ef,eg,aLu d wd aN w f g hf hg bS hw]
theorem aLw(t f g:Ft)(e0:aI R (.int 0)=qq (.str "pick"))(e1:aI R (.int 1)=qq (.int v))(et:aI Fs (.int 0)=qq t.d)(ef:aI Fs (.int 1)=qq f.d)(eg:aI Fs (.int 2)=qq g.d):cl fns (d+2) 47 [.d R,.d Wi,.d Fs] S=qq (.d (oG t f g).d,S):=by
 have t1:=mB (aC fns (d+1)) R Wi Fs v S .pick;have t2:=fR (aC fns (d+1)) R Wi Fs v S .pick;have t3:=gN (aC fns (d+1)) R Wi Fs v S .pick;have t4:=qT (aC fns (d+1)) R Wi Fs v S .pick;have t5:=iX (aC fns (d+1)) R Wi Fs v S .pick;have t6:=oT (aC fns (d+1)) R Wi Fs v S .pick;have t7:=uS (aC fns (d+1)) R Wi Fs v S .pick;refine cM (S1:=S) rfl (d+1) rfl rfl yAi (eC (S1:=S) (w:=.d (.str Wd.pick.s)) (eN rfl e0) rfl (eC (S1:=S) (w:=.d (.int v)) (eN rfl e1) rfl (aS t1 (aS t2 (aS t3 (aS t4 (aS t5 (aS t6 (cF t7 (bQ ?_))))))))));simp only[gS0,et,ef,eg,aOa d t f g]
end
structure Op(f:Ft)(w:Nat):Prop where
 ok:FtOk f w
 ho:∃ a,a<2^w/\Hd f a w
 w1:1<=w
 w2:w<=64
theorem Op.dj{f:Ft}{w:Nat}(o:Op f w):f.N&&&f.O=0:=by
 obtain⟨a,_,h⟩:=o.ho;exact aUL h
noncomputable def bF:Wd->Nat
 | .in | .num=>0
 | .not | .left | .right | .slide | .cut | .wide | .sign=>1
 | .pick=>3
 | _=>2
theorem aOi(wd:Wd):aAD sK (.str wd.s)=qq (.int (bF wd:Nat)):=by cases wd<;>kernel_rfl
theorem rF(r:Rw):aI r.d (.int 0)=qq (.str r.wd.s):=fB (xs:=.str r.wd.s::nD r.w::r.args.map nD) (k:=0) rfl
theorem aPo{fa:FE}{fl fh:FO}{env:aW}{S:aD}(r:Rw)(c:Nat)(h1:fa env S=qq (.d r.d,S))(h2:fl env S=qq (qq 2,S))(h3:fh env S=qq (qq ((2+c:Nat):Int),S)):oC fa fl fh env S=qq (.d (.tuple ((r.args.take c).map nD)),S):=by
 have i2:HT.sIx (PyData.str r.wd.s::nD r.w::r.args.map nD).length 0 (qq 2)=2:=by
  rw[show(2:Int)=((2:Nat):Int) from rfl,HT.sIx_nat]
  simp
 have e:iA (PyData.str r.wd.s::nD r.w::r.args.map nD) (qq 2) (qq ((2+c:Nat):Int))=(r.args.take c).map nD:=by
  unfold iA;rw[i2,HT.sIx_nat];simp only[List.drop_succ_cons,yFe,yBs,yAf];rw[List.map_take];rcases Nat.le_total c r.args.length with z | z
  ·rw[Nat.min_eq_left (by omega),show 2+c-2=c by omega]
  ·rw[yGo (by omega),yDc (by simp),yDc (by simpa using z)]
 unfold oC;rw[h1,oB];simp only[];rw[h2,oB];simp only[];rw[h3,oB];simp only[dr,oB,Rw.d];rw[e]
theorem qC(d:Nat)(r:Rw)(S:aD):cl fns (d+1) 7 [.d r.d] S=qq (.d (.tuple ((r.args.take (bF r.wd)).map nD)),S):=by
 have e2:(2:Int)+((bF r.wd:Nat):Int)=((2+bF r.wd:Nat):Int):=by omega
 have sl:ev (aC fns d) (.sl (.var 0) (.cons (.int 2) .nil) (.cons (.bin .Add (.int 2) (.tab "OPERAND_COUNTS" sK (.ix (.var 0) (.int 0)))) .nil)) [qq (.d r.d)] S=qq (.d (.tuple ((r.args.take (bF r.wd)).map nD)),S):=by
  simp only[aC8];refine aPo r (bF r.wd) (by simp only[evs]) (by simp only[evs,nJ]) ?_
  simp only[gS0,nJ,rF,aOi,eI,e2]
 rw[aV rfl d _ S rfl];show((dY (nX (ev (aC fns d) (.sl (.var 0) (.cons (.int 2) .nil) (.cons (.bin .Add (.int 2) (.tab "OPERAND_COUNTS" sK (.ix (.var 0) (.int 0)))) .nil)))) rD) [qq (.d r.d)] S).bind _=_;simp only[dY,nX,sl,oB,kQ,yAi]
inductive RwOk:Rw->List Nat->Prop
 | inp {w:Nat} (h1:1<=w) (h2:w<=64):RwOk ⟨.in,w,[]⟩ []
 | num {w n:Nat} (h1:1<=w) (h2:w<=64) (hn:n<2^w):RwOk ⟨.num,w,[n]⟩ []
 | nt {w a:Nat} (h1:1<=w) (h2:w<=64):RwOk ⟨.not,w,[a]⟩ [w]
 | sh {wd:Wd}{w a k:Nat} (h1:1<=w) (h2:w<=64) (aN:wd=.left\/wd=.right\/wd=.slide) (hk:k<64):RwOk ⟨wd,w,[a,k]⟩ [w]
 | cut {w v a:Nat} (h1:1<=w) (hv:w<=v) (h2:v<=64):RwOk ⟨.cut,w,[a]⟩ [v]
 | wide {w v a:Nat} (h1:1<=v) (hv:v<=w) (h2:w<=64):RwOk ⟨.wide,w,[a]⟩ [v]
 | sign {w v a:Nat} (h1:1<=v) (hv:v<=w) (h2:w<=64):RwOk ⟨.sign,w,[a]⟩ [v]
 | bw {wd:Wd}{w a b:Nat} (h1:1<=w) (h2:w<=64) (aN:wd=.and\/wd=.or\/wd=.xor):RwOk ⟨wd,w,[a,b]⟩ [w,w]
 | sm {s:Sw}{w a b:Nat} (h1:1<=w) (h2:w<=64):RwOk ⟨s.wd,w,[a,b]⟩ [w,w]
 | cmp {wd:Wd}{v a b:Nat} (h1:1<=v) (h2:v<=64) (aN:wd=.same\/wd=.less\/wd=.under):RwOk ⟨wd,1,[a,b]⟩ [v,v]
 | pick {w c a b:Nat} (h1:1<=w) (h2:w<=64):RwOk ⟨.pick,w,[c,a,b]⟩ [1,w,w]
noncomputable def mK:List Nat->List Nat->Prop
 | w::ws,n::ns=>n<2^w/\mK ws ns
 | [],[]=>True
 | _,_=>False
theorem fF{w:Nat}{ns:List Nat}(h:mK [w] ns):∃ a,ns=[a]/\a<2^w:=by
 rcases ns with _ | ⟨a,_ | ⟨b,r⟩⟩
 ·exact h.elim
 ·exact⟨a,rfl,h.1⟩
 ·exact h.2.elim
theorem jX{w v:Nat}{ns:List Nat}(h:mK [w,v] ns):∃ a b,ns=[a,b]/\a<2^w/\b<2^v:=by
 rcases ns with _ | ⟨a,_ | ⟨b,_ | ⟨c,r⟩⟩⟩
 ·exact h.elim
 ·exact h.2.elim
 ·exact⟨a,b,rfl,h.1,h.2.1⟩
 ·exact h.2.2.elim
theorem aAC{w v u:Nat}{ns:List Nat}(h:mK [w,v,u] ns):∃ a b c,ns=[a,b,c]/\a<2^w/\b<2^v/\c<2^u:=by
 rcases ns with _ | ⟨a,_ | ⟨b,_ | ⟨c,_ | ⟨e,r⟩⟩⟩⟩
 ·exact h.elim
 ·exact h.2.elim
 ·exact h.2.2.elim
 ·exact⟨a,b,c,rfl,h.1,h.2.1,h.2.2.1⟩
 ·exact h.2.2.2.elim
noncomputable def shV(wd:Wd)(w a k:Nat):Nat:=match wd with
 | .left=>a*2^k%2^w
 | .right=>a/2^k
 | _=>dF a w (w+k)/2^k
noncomputable def cmV(wd:Wd)(w a b:Nat):Bool:=match wd with
 | .same=>decide (a=b)
 | .less=>decide ((a:Int)<(b:Int))
 | _=>decide (jH a w<jH b w)
noncomputable def wQ(wd:Wd)(w a b:Nat):Nat:=match wd with
 | .and=>a&&&b
 | .or=>a|||b
 | .xor=>a^^^b
 | .add=>rs ((a:Nat)+(b:Nat):Int) w
 | .sub=>rs ((a:Nat)-(b:Nat):Int) w
 | _=>rs ((a:Nat)*(b:Nat):Int) w
noncomputable def g0(l:List Nat)(i:Nat):Nat:=l.getD i 0
noncomputable def cN(r:Rw)(ws ns:List Nat):Nat:=match r.wd with
 | .in=>0
 | .num=>g0 r.args 0
 | .not=>2^r.w-1-g0 ns 0
 | .left | .right | .slide=>shV r.wd r.w (g0 ns 0) (g0 r.args 1)
 | .cut=>g0 ns 0%2^r.w
 | .wide=>g0 ns 0
 | .sign=>dF (g0 ns 0) (g0 ws 0) r.w
 | .same | .less | .under=>(cmV r.wd (g0 ws 0) (g0 ns 0) (g0 ns 1)).toNat
 | .pick=>if g0 ns 0=1 then g0 ns 1 else g0 ns 2
 | wd=>wQ wd r.w (g0 ns 0) (g0 ns 1)
theorem aGS{n w:Nat}(hn:n<2^w):n^^^(2^w-1)=2^w-1-n:=by
 apply xAl;intro i;rw[yAo,cW];have:=mY hn i;unfold oE at this;rw[this]
 by_cases c:i<w
 ·rw[dqT c,yAt];cases n.testBit i<;>rfl
 ·rw[dqF c,cL hn (by omega)]
  rfl
theorem aE6(d a w:Nat)(bS:1<=w)(hw:w<=64)(S:aD):cl fns (d+1) 51 [.d (.int (a:Nat)),.d (.int (w:Nat))] S=qq (.d (.int ((a^^^2^(w-1):Nat):Int)),S):=by
 have e1:(w:Int)-1=((w-1:Nat):Int):=by omega
 rw[aV rfl d _ S rfl];have hq52:=fO (show w-1<=100000 by omega)
 simp only[gR1,aGu,cR,e1,hq52,gY]
theorem aBO{C:Calls}{env:aW}{S:aD}{i:Nat}{b:Bool}(h:env[i]? = qq (qq (.d (.bool b)))):ev C (.ite (.var i) (.int 1) (.int 0)) env S=qq (.d (.int ((b.toNat:Nat):Int)),S):=by
 cases b
 ·simp only[gS0,h]
 ·simp only[gS0,h]
theorem aK7(d:Nat)(wd:Wd)(aN:wd=.same\/wd=.less\/wd=.under)(w a b:Nat)(bS:1<=w)(hw:w<=64)(ha:a<2^w)(hb:b<2^w)(S:aD):cl fns (d+2) 52 [.d (.str wd.s),.d (.int (w:Nat)),.d (.int (a:Nat)),.d (.int (b:Nat))] S=qq (.d (.int (((cmV wd w a b).toNat:Nat):Int)),S):=by
 have t1:=cQ (C:=aC fns (d+1)) (i:=0) (S:=S) (x:="same") (env:=[qq (.d (.str wd.s)),qq (.d (.int (w:Nat))),qq (.d (.int (a:Nat))),qq (.d (.int (b:Nat))),qz]) rfl (bO wd .same);have t2:=cQ (C:=aC fns (d+1)) (i:=0) (S:=S) (x:="less") (env:=[qq (.d (.str wd.s)),qq (.d (.int (w:Nat))),qq (.d (.int (a:Nat))),qq (.d (.int (b:Nat))),qz]) rfl (bO wd .less);have e:(a==b)=decide (a=b):=by rw[yEc,beq_iff_eq,decide_eq_true_eq]
 rcases aN with rfl | rfl | rfl
 ·refine cM (S1:=S) rfl (d+1) rfl rfl yAi (zZ (nN t1 (kJ (w:=.d (.bool (decide (a=b)))) ?_)) (bQ (aBO rfl)));simp only[gS0,bP,tI,e]
 ·refine cM (S1:=S) rfl (d+1) rfl rfl yAi (zZ (vF t1 (aCH (nN t2 (kJ (w:=.d (.bool (decide ((a:Int)<(b:Int))))) ?_)))) (bQ (aBO rfl)));simp only[gS0,eO]
 ·refine cM (S1:=S) rfl (d+1) rfl rfl yAi (zZ (vF t1 (aCH (vF t2 (kJ (w:=.d (.bool (decide (jH a w<jH b w)))) ?_)))) (bQ (aBO rfl)));have e2:decide (tw a w<tw b w)=decide (jH a w<jH b w):=by
   rw[decide_eq_decide];unfold tw;omega
  simp only[gS0,aE6 d a w bS hw,aE6 d b w bS hw,eO,aC0 ha bS,aC0 hb bS,e2]
theorem aFe(n w:Nat):n&&&(2^w-1)=n%2^w:=yDt n w
theorem aLB(d:Nat)(wd:Wd)(aN:wd=.left\/wd=.right\/wd=.slide)(w a k:Nat)(bS:1<=w)(hw:w<=64)(ha:a<2^w)(hk:k<=900)(S:aD):cl fns (d+3) 53 [.d (.str wd.s),.d (.int (w:Nat)),.d (.int (a:Nat)),.d (.int (k:Nat))] S=qq (.d (.int ((shV wd w a k:Nat):Int)),S):=by
 have t1:=cQ (C:=aC fns (d+2)) (i:=0) (S:=S) (x:="left") (env:=[qq (.d (.str wd.s)),qq (.d (.int (w:Nat))),qq (.d (.int (a:Nat))),qq (.d (.int (k:Nat)))]) rfl (bO wd .left);have t2:=cQ (C:=aC fns (d+2)) (i:=0) (S:=S) (x:="right") (env:=[qq (.d (.str wd.s)),qq (.d (.int (w:Nat))),qq (.d (.int (a:Nat))),qq (.d (.int (k:Nat)))]) rfl (bO wd .right);have e1:(w:Int)+(k:Int)=((w+k:Nat):Int):=by omega
 rcases aN with rfl | rfl | rfl
 ·refine cM (S1:=S) rfl (d+2) rfl rfl yAi (cF t1 (bQ ?_));have hq53:=qN ha (show w+k<=100000 by omega)
  have hq54:=cP (d+1) w (by omega)
  simp only[gS0,hq53,hq54,dG,aFe]
 ·refine cM (S1:=S) rfl (d+2) rfl rfl yAi (aS t1 (cF t2 (bQ ?_)));simp only[gS0,mQ]
 ·refine cM (S1:=S) rfl (d+2) rfl rfl yAi (aS t1 (aS t2 (bQ ?_)));have hq55:=pY d a w (w+k) S (by omega) (by omega) hw
  simp only[gS0,eI,e1,hq55,mQ]
theorem aKY(d:Nat)(wd:Wd)(aN:(wd=.and\/wd=.or\/wd=.xor)\/wd=.add\/wd=.sub\/wd=.mul)(w a b:Nat)(hw:w<=64)(ha:a<2^w)(S:aD):cl fns (d+2) 54 [.d (.str wd.s),.d (.int (w:Nat)),.d (.int (a:Nat)),.d (.int (b:Nat))] S=qq (.d (.int ((wQ wd w a b:Nat):Int)),S):=by
 have t:∀ (x:Str) (v:Wd),x=v.s->tv (aC fns (d+1)) (.cmp .Eq (.var 0) (.str x)) [qq (.d (.str wd.s)),qq (.d (.int (w:Nat))),qq (.d (.int (a:Nat))),qq (.d (.int (b:Nat)))] S=qq (decide (wd=v),S):=λ x v hx=>by
  subst hx;exact cQ rfl (bO wd v)
 have t1:=t "and" .and rfl;have t2:=t "or" .or rfl;have t3:=t "xor" .xor rfl;have t4:=t "add" .add rfl;have t5:=t "sub" .sub rfl;have h64:=p64 ha hw;rcases aN with (rfl | rfl | rfl) | rfl | rfl | rfl
 ·refine cM (S1:=S) rfl (d+1) rfl rfl yAi (cF t1 (bQ ?_));simp only[gS0,dG]
 ·refine cM (S1:=S) rfl (d+1) rfl rfl yAi (aS t1 (cF t2 (bQ ?_)));simp only[gS0,eP]
 ·refine cM (S1:=S) rfl (d+1) rfl rfl yAi (aS t1 (aS t2 (cF t3 (bQ ?_))));simp only[gS0,gY]
 ·refine cM (S1:=S) rfl (d+1) rfl rfl yAi (aS t1 (aS t2 (aS t3 (cF t4 (bQ ?_)))));have hq56:=cP d w (by omega)
  simp only[gS0,eI,hq56,xM]
 ·refine cM (S1:=S) rfl (d+1) rfl rfl yAi (aS t1 (aS t2 (aS t3 (aS t4 (cF t5 (bQ ?_))))));have hq57:=cP d w (by omega)
  simp only[gS0,cR,hq57,xM]
 ·refine cM (S1:=S) rfl (d+1) rfl rfl yAi (aS t1 (aS t2 (aS t3 (aS t4 (aS t5 (bQ ?_))))));have hq58:=mN (i:=((a:Nat):Int)) (j:=((b:Nat):Int)) (by omega) (by omega)
  have hq59:=cP d w (by omega)
  simp only[gS0,hq58,hq59,xM]
section
variable (C : Calls)(R Wi Fs : D)(v : Int)(S : aD)(wd : Wd)
theorem rE:tv C (.cmp .Eq (.var 3) (.str "cut")) (oe R Wi Fs wd v) S=qq (decide (wd=.cut),S):=cQ rfl (bO wd .cut)
theorem uI:tv C (.cmp .Eq (.var 3) (.str "wide")) (oe R Wi Fs wd v) S=qq (decide (wd=.wide),S):=cQ rfl (bO wd .wide)
theorem zS:tv C (.cmp .Eq (.var 3) (.str "sign")) (oe R Wi Fs wd v) S=qq (decide (wd=.sign),S):=cQ rfl (bO wd .sign)
end
noncomputable def aAj:Sx:=aT (aT aDc)
noncomputable def aIS:E:=reS (bI (aT (aT (aT (aT (aT (aT (aT (aT aAj)))))))))
theorem aO8{wd:Wd}(aN:(wd=.and\/wd=.or\/wd=.xor)\/wd=.add\/wd=.sub\/wd=.mul):¬ wd=.num/\¬ wd=.not/\¬ (wd=.left\/wd=.right\/wd=.slide)/\¬ wd=.cut/\¬ wd=.wide/\¬ wd=.sign/\¬ (wd=.same\/wd=.less\/wd=.under)/\¬ wd=.pick:=by
 rcases aN with (rfl | rfl | rfl) | rfl | rfl | rfl<;>decide
theorem aMt{C:Calls}{R Wi Ns:D}{v:Int}{S:aD}{x:D}(wd:Wd)(aN:(wd=.and\/wd=.or\/wd=.xor)\/wd=.add\/wd=.sub\/wd=.mul)(h:ev C aIS (oe R Wi Ns wd v) S=qq (.d x,S)):xs C aAj (oe R Wi Ns wd v) S=qq (.rt (.d x),S):=by
 have t1:=fR C R Wi Ns v S wd;have t2:=gN C R Wi Ns v S wd;have t3:=iX C R Wi Ns v S wd;have t4:=rE C R Wi Ns v S wd;have t5:=uI C R Wi Ns v S wd;have t6:=zS C R Wi Ns v S wd;have t7:=oT C R Wi Ns v S wd;have t8:=uS C R Wi Ns v S wd;obtain⟨n1,n2,n3,n4,n5,n6,n7,n8⟩:=aO8 aN;rw[dqF n1] at t1;rw[dqF n2] at t2;rw[dqF n3] at t3;rw[dqF n4] at t4;rw[dqF n5] at t5;rw[dqF n6] at t6;rw[dqF n7] at t7;rw[dqF n8] at t8;exact aS t1 (aS t2 (aS t3 (aS t4 (aS t5 (aS t6 (aS t7 (aS t8 (bQ h))))))))
theorem aSm{wd:Wd}(aN:wd=.same\/wd=.less\/wd=.under):¬ wd=.num/\¬ wd=.not/\¬ (wd=.left\/wd=.right\/wd=.slide)/\¬ wd=.cut/\¬ wd=.wide/\¬ wd=.sign:=by
 rcases aN with rfl | rfl | rfl<;>decide
theorem lL(d:Nat){x R Wi Ns:D}{wd:Wd}{v:Nat}(S:aD)(e0:aI R (.int 0)=qq (.str wd.s))(e1:aI R (.int 1)=qq (.int (v:Nat)))(k:xs (aC fns (d+3)) aAj (oe R Wi Ns wd (v:Nat)) S=qq (.rt (.d x),S)):cl fns (d+4) 55 [.d R,.d Wi,.d Ns] S=qq (.d x,S):=
 cM (S1:=S) rfl (d+3) rfl rfl yAi (eC (S1:=S) (eN rfl e0) rfl (eC (S1:=S) (eN rfl e1) rfl k))
section
variable (d : Nat)(S : aD)(R Wi Ns : D)(w : Nat)(e1 : aI R (.int 1) = qq (.int (w : Nat)))
include e1
theorem aPU(n:Nat)(e0:aI R (.int 0)=qq (.str "num"))(e2:aI R (.int 2)=qq (.int (n:Nat))):cl fns (d+4) 55 [.d R,.d Wi,.d Ns] S=qq (.d (.int (n:Nat)),S):=
 lL d (wd:=.num) S e0 e1 (cF (fR (aC fns (d+3)) R Wi Ns (w:Nat) S .num) (bQ (eN rfl e2)))
theorem aRl(x:Nat)(hw:w<=64)(hx:x<2^w)(e0:aI R (.int 0)=qq (.str "not"))(i0:aI Ns (.int 0)=qq (.int (x:Nat))):cl fns (d+4) 55 [.d R,.d Wi,.d Ns] S=qq (.d (.int ((2^w-1-x:Nat):Int)),S):=by
 refine lL d (wd:=.not) S e0 e1 (aS (fR (aC fns (d+3)) R Wi Ns (w:Nat) S .not) (cF (gN (aC fns (d+3)) R Wi Ns (w:Nat) S .not) (bQ ?_)));have hq60:=cP (d+2) w (by omega)
 simp only[gS0,i0,hq60,gY,aGS hx]
theorem aTe(wd:Wd)(aN:wd=.left\/wd=.right\/wd=.slide)(x k:Nat)(bS:1<=w)(hw:w<=64)(hx:x<2^w)(hk:k<64)(e0:aI R (.int 0)=qq (.str wd.s))(e3:aI R (.int 3)=qq (.int (k:Nat)))(i0:aI Ns (.int 0)=qq (.int (x:Nat))):cl fns (d+4) 55 [.d R,.d Wi,.d Ns] S=qq (.d (.int ((shV wd w x k:Nat):Int)),S):=by
 have t1:=fR (aC fns (d+3)) R Wi Ns (w:Nat) S wd;have t2:=gN (aC fns (d+3)) R Wi Ns (w:Nat) S wd;have t3:=iX (aC fns (d+3)) R Wi Ns (w:Nat) S wd;rw[dqT aN] at t3;rw[dqF (by rcases aN with rfl | rfl | rfl<;>decide)] at t1 t2
 refine lL d (wd:=wd) S e0 e1 (aS t1 (aS t2 (cF t3 (bQ ?_))));have hq61:=aLB d wd aN w x k bS hw hx (by omega)
 simp only[gS0,i0,e3,hq61]
theorem aRY(x:Nat)(hw:w<=64)(e0:aI R (.int 0)=qq (.str "cut"))(i0:aI Ns (.int 0)=qq (.int (x:Nat))):cl fns (d+4) 55 [.d R,.d Wi,.d Ns] S=qq (.d (.int ((x%2^w:Nat):Int)),S):=by
 refine lL d (wd:=.cut) S e0 e1 (aS (fR (aC fns (d+3)) R Wi Ns (w:Nat) S .cut) (aS (gN (aC fns (d+3)) R Wi Ns (w:Nat) S .cut) (aS (iX (aC fns (d+3)) R Wi Ns (w:Nat) S .cut) (cF (rE (aC fns (d+3)) R Wi Ns (w:Nat) S .cut) (bQ ?_)))));have hq62:=cP (d+2) w (by omega)
 simp only[gS0,i0,hq62,dG,aFe]
theorem aPr(x:Nat)(e0:aI R (.int 0)=qq (.str "wide"))(i0:aI Ns (.int 0)=qq (.int (x:Nat))):cl fns (d+4) 55 [.d R,.d Wi,.d Ns] S=qq (.d (.int (x:Nat)),S):=
 lL d (wd:=.wide) S e0 e1 (aS (fR (aC fns (d+3)) R Wi Ns (w:Nat) S .wide) (aS (gN (aC fns (d+3)) R Wi Ns (w:Nat) S .wide) (aS (iX (aC fns (d+3)) R Wi Ns (w:Nat) S .wide) (aS (rE (aC fns (d+3)) R Wi Ns (w:Nat) S .wide) (cF (uI (aC fns (d+3)) R Wi Ns (w:Nat) S .wide) (bQ (eN rfl i0)))))))
theorem aN2(x v:Nat)(hv:1<=v)(hvw:v<=w)(hw:w<=64)(e0:aI R (.int 0)=qq (.str "sign"))(i0:aI Ns (.int 0)=qq (.int (x:Nat)))(j0:aI Wi (.int 0)=qq (.int (v:Nat))):cl fns (d+4) 55 [.d R,.d Wi,.d Ns] S=qq (.d (.int ((dF x v w:Nat):Int)),S):=by
 refine lL d (wd:=.sign) S e0 e1 (aS (fR (aC fns (d+3)) R Wi Ns (w:Nat) S .sign) (aS (gN (aC fns (d+3)) R Wi Ns (w:Nat) S .sign) (aS (iX (aC fns (d+3)) R Wi Ns (w:Nat) S .sign) (aS (rE (aC fns (d+3)) R Wi Ns (w:Nat) S .sign) (aS (uI (aC fns (d+3)) R Wi Ns (w:Nat) S .sign) (cF (zS (aC fns (d+3)) R Wi Ns (w:Nat) S .sign) (bQ ?_)))))));have hq63:=pY (d+1) x v w S (by omega) (by omega) (by omega)
 simp only[gS0,i0,j0,hq63]
theorem aGT(wd:Wd)(aN:(wd=.and\/wd=.or\/wd=.xor)\/wd=.add\/wd=.sub\/wd=.mul)(x y:Nat)(hw:w<=64)(hx:x<2^w)(e0:aI R (.int 0)=qq (.str wd.s))(i0:aI Ns (.int 0)=qq (.int (x:Nat)))(i1:aI Ns (.int 1)=qq (.int (y:Nat))):cl fns (d+4) 55 [.d R,.d Wi,.d Ns] S=qq (.d (.int ((wQ wd w x y:Nat):Int)),S):=by
 refine lL d (wd:=wd) S e0 e1 (aMt wd aN ?_);simp only[gS6,aIS,aAj,aT,bI,reS,aDc,i0,i1,aKY (d+1) wd aN w x y hw hx]
theorem aRk(wd:Wd)(aN:wd=.same\/wd=.less\/wd=.under)(x y v:Nat)(hv1:1<=v)(hv:v<=64)(hx:x<2^v)(hy:y<2^v)(e0:aI R (.int 0)=qq (.str wd.s))(i0:aI Ns (.int 0)=qq (.int (x:Nat)))(i1:aI Ns (.int 1)=qq (.int (y:Nat)))(j0:aI Wi (.int 0)=qq (.int (v:Nat))):cl fns (d+4) 55 [.d R,.d Wi,.d Ns] S=qq (.d (.int (((cmV wd v x y).toNat:Nat):Int)),S):=by
 have t1:=fR (aC fns (d+3)) R Wi Ns (w:Nat) S wd;have t2:=gN (aC fns (d+3)) R Wi Ns (w:Nat) S wd;have t3:=iX (aC fns (d+3)) R Wi Ns (w:Nat) S wd;have t4:=rE (aC fns (d+3)) R Wi Ns (w:Nat) S wd;have t5:=uI (aC fns (d+3)) R Wi Ns (w:Nat) S wd;have t6:=zS (aC fns (d+3)) R Wi Ns (w:Nat) S wd;have t7:=oT (aC fns (d+3)) R Wi Ns (w:Nat) S wd;obtain⟨n1,n2,n3,n4,n5,n6⟩:=aSm aN;rw[dqT aN] at t7;rw[dqF n1] at t1;rw[dqF n2] at t2;rw[dqF n3] at t3;rw[dqF n4] at t4;rw[dqF n5] at t5;rw[dqF n6] at t6;refine lL d (wd:=wd) S e0 e1 (aS t1 (aS t2 (aS t3 (aS t4 (aS t5 (aS t6 (cF t7 (bQ ?_))))))));simp only[gS0,i0,i1,j0,aK7 (d+1) wd aN v x y hv1 hv hx hy]
theorem aPI(z x y:Nat)(e0:aI R (.int 0)=qq (.str "pick"))(i0:aI Ns (.int 0)=qq (.int (z:Nat)))(i1:aI Ns (.int 1)=qq (.int (x:Nat)))(i2:aI Ns (.int 2)=qq (.int (y:Nat))):cl fns (d+4) 55 [.d R,.d Wi,.d Ns] S=qq (.d (.int (((if z=1 then x else y):Nat):Int)),S):=by
 refine lL d (wd:=.pick) S e0 e1 (aS (fR (aC fns (d+3)) R Wi Ns (w:Nat) S .pick) (aS (gN (aC fns (d+3)) R Wi Ns (w:Nat) S .pick) (aS (iX (aC fns (d+3)) R Wi Ns (w:Nat) S .pick) (aS (rE (aC fns (d+3)) R Wi Ns (w:Nat) S .pick) (aS (uI (aC fns (d+3)) R Wi Ns (w:Nat) S .pick) (aS (zS (aC fns (d+3)) R Wi Ns (w:Nat) S .pick) (aS (oT (aC fns (d+3)) R Wi Ns (w:Nat) S .pick) (cF (uS (aC fns (d+3)) R Wi Ns (w:Nat) S .pick) (bQ ?_)))))))))
 by_cases q:z=1
 ·have d1:(z==1)=true:=by rw[beq_iff_eq];exact q
  rw[if_pos q];simp only[gS0,i0,i1,bP,mM,d1]
 ·have d1:(z==1)=false:=by rw[beq_eq_false_iff_ne];exact q
  rw[if_neg q];simp only[gS0,i0,i2,bP,mM,d1]
end
theorem aPi{r:Rw}{ws ns:List Nat}(h:RwOk r ws)(hi:r.wd≠.in)(hl:mK ws ns)(d:Nat)(S:aD):cl fns (d+4) 55 [.d r.d,.d (.tuple (ws.map nD)),.d (.tuple (ns.map nD))] S=qq (.d (.int ((cN r ws ns:Nat):Int)),S):=by
 cases h with
 | inp=>exact absurd rfl hi
 | num h1 h2 hn=>exact aPU d S _ _ _ _ rfl _ rfl rfl
 | nt h1 h2 =>
   obtain⟨x,rfl,hx⟩:=fF hl;exact aRl d S _ _ _ _ rfl x h2 hx rfl rfl
 | sh h1 h2 aN hk =>
   rename_i wd w a k;obtain⟨x,rfl,hx⟩:=fF hl;have ev':cN ⟨wd,w,[a,k]⟩ [w] [x]=shV wd w x k:=by rcases aN with rfl | rfl | rfl<;>rfl
   rw[ev'];exact aTe d S _ _ _ w rfl wd aN x k h1 h2 hx hk rfl rfl rfl
 | cut h1 hv h2 =>
   obtain⟨x,rfl,hx⟩:=fF hl;exact aRY d S _ _ _ _ rfl x (xAh hv h2) rfl rfl
 | wide h1 hv h2 =>
   obtain⟨x,rfl,hx⟩:=fF hl;exact aPr d S _ _ _ _ rfl x rfl rfl
 | sign h1 hv h2 =>
   obtain⟨x,rfl,hx⟩:=fF hl;exact aN2 d S _ _ _ _ rfl x _ h1 hv h2 rfl rfl rfl
 | bw h1 h2 aN =>
   rename_i wd w a b;obtain⟨x,y,rfl,hx,hy⟩:=jX hl;have ev':cN ⟨wd,w,[a,b]⟩ [w,w] [x,y]=wQ wd w x y:=by rcases aN with rfl | rfl | rfl<;>rfl
   rw[ev'];exact aGT d S _ _ _ w rfl wd (.inl aN) x y h2 hx rfl rfl rfl
 | sm h1 h2 =>
   rename_i s w a b;obtain⟨x,y,rfl,hx,hy⟩:=jX hl;have aN:s.wd=.add\/s.wd=.sub\/s.wd=.mul:=by
    cases s
    ·exact .inl rfl
    ·exact .inr (.inl rfl)
    ·exact .inr (.inr rfl)
   have ev':cN ⟨s.wd,w,[a,b]⟩ [w,w] [x,y]=wQ s.wd w x y:=by cases s<;>rfl
   rw[ev'];exact aGT d S _ _ _ w rfl s.wd (.inr aN) x y h2 hx rfl rfl rfl
 | cmp h1 h2 aN =>
   rename_i wd v a b;obtain⟨x,y,rfl,hx,hy⟩:=jX hl;have ev':cN ⟨wd,1,[a,b]⟩ [v,v] [x,y]=(cmV wd v x y).toNat:=by rcases aN with rfl | rfl | rfl<;>rfl
   rw[ev'];exact aRk d S _ _ _ 1 rfl wd aN x y v h1 h2 hx hy rfl rfl rfl rfl
 | pick h1 h2 =>
   obtain⟨z,x,y,rfl,hz,hx,hy⟩:=aAC hl;exact aPI d S _ _ _ _ rfl z x y rfl rfl rfl rfl
theorem aHJ(wd:Wd):bF wd<=3:=by cases wd<;>decide
theorem qG(S0:aD)(l:List D)(x:D)(h:l.length<=1000):eJ (S0++[qq l]) (.loc S0.length) (.d x)=qq (.d .none,S0++[qq (l++[x])]):=by
 unfold eJ;simp only[yAh (yAc S0.length),yBe,yBt];rw[if_pos (by rw[zv];omega)]
 rw[List.set_append_right _ _ (yAc _),yBe];rfl
theorem oK(S0:aD)(l:List D):(S0++[qq l])[S0.length]? = qq (qq l):=by
 rw[yAh (yAc _),yBe];rfl
noncomputable def aU(r:Rw)(l:List Nat):List Nat:=(r.args.take (bF r.wd)).map (g0 l)
theorem aE0{α:Type}{l:List α}{vs:List D}{f:α->D}(h1:vs.length=l.length)(h2:∀ (i:Nat) (a:α),l[i]? = qq a->∃ v,vs[i]? = qq v/\v=f a):vs=l.map f:=by
 apply List.ext_getElem?;intro i;rw[yAe]
 by_cases c:i<l.length
 ·obtain⟨v,h3,rfl⟩:=h2 i l[i] (yAa c);rw[h3,yAa c];rfl
 ·rw[yDf (by omega),yDf (by omega)]
  rfl
theorem tK(d:Nat)(r:Rw)(w:W)(x:D)(f:Nat->D)(S:aD)(hv:∀ aF,dr (S++[qq aF]) w=qq x)(hx:∀ a∈r.args.take (bF r.wd),aI x (nD a)=qq (f a)):cl fns (d+2) 8 [.d r.d,w] S=qq (.d (.tuple ((r.args.take (bF r.wd)).map f)),S):=by
 have cT:(r.args.take (bF r.wd)).length<=3:=by have:=aHJ r.wd;rw[yBz];omega
 obtain⟨vs,S',e1,hS',hI,hvl,hq⟩:=aGg (t:=.one 2) (fi:=lv (aC fns (d+1)) (.it (.call 7 (.cons (.var 0) .nil)))) (fe:=ev (aC fns (d+1)) (.ix (.var 1) (.var 2))) (env:=[qq (.d r.d),qq w,qz]) (S:=S) (S1:=S) nD (λ _ S'=>S'=S) (λ a v=>v=f a) (r.args.take (bF r.wd)) (by
  simp only[evs,qC d,eZ]) (by rw[zv];omega) rfl (by
  intro a ha;refine⟨_,rfl,?_⟩;rintro j S' aF hj hS rfl;refine⟨f a,S',?_,rfl,rfl,rfl⟩;have hd:∀ {k:D->Option (W×aD)},(dr (S'++[qq aF]) w).bind k=k x:=λ {k}=>by rw[hv aF];rfl
  simp only[aDd,aCW,oA,f2,iQ,gS,clr,Tg.slots,yBl,yCk,yFy,yEx,yDv,yBt,oB,hd];show((aI x (nD a)).bind λ z=>qq (W.d z,S'++[qq aF]))=_
  rw[hx a ha];rfl)
 subst hI;have e2:vs=(r.args.take (bF r.wd)).map f:=aE0 hvl hq;subst e2;have e1':lv (aC fns (d+1)) aEd [qq (.d r.d),qq w,qz] S'=qq ((r.args.take (bF r.wd)).map f,S'):=e1;rw[aV rfl (d+1) _ S' rfl];simp only[gR1,aEo,e1',gC,fZ]
theorem aAm{l:List Nat}{a:Nat}(h:a<l.length):(l.map nD)[a]? = qq (nD (g0 l a)):=by
 rw[yAe,yAa h];show qq (nD l[a])=qq (nD (l.getD a 0));rw[xAg,yAa h];rfl
theorem aCd(d:Nat)(r:Rw)(l:List Nat)(S:aD)(h:∀ a∈r.args.take (bF r.wd),a<l.length):cl fns (d+2) 8 [.d r.d,.d (.tuple (l.map nD))] S=qq (.d (.tuple ((aU r l).map nD)),S):=by
 have:=tK d r (.d (.tuple (l.map nD))) (.tuple (l.map nD)) (λ a=>nD (g0 l a)) S (λ _=>rfl) λ a ha=>fB (aAm (h a ha))
 rw[this,aU,yBo];rfl
theorem aOX(d:Nat)(r:Rw)(l:List Nat)(S0:aD)(h:∀ a∈r.args.take (bF r.wd),a<l.length):cl fns (d+2) 8 [.d r.d,.loc S0.length] (S0++[qq (l.map nD)])=qq (.d (.tuple ((aU r l).map nD)),S0++[qq (l.map nD)]):=by
 have:=tK d r (.loc S0.length) (.list (l.map nD)) (λ a=>nD (g0 l a)) (S0++[qq (l.map nD)]) (λ aF=>by
  show(match (S0++[qq (l.map nD)]++[qq aF])[S0.length]? with | some (qq ds)=>qq (yGi ds) | _=>qz)=_
  rw[yBa,yAh (yAc _),yBe];rfl) λ a ha=>lH (aAm (h a ha))
 rw[this,aU,yBo];rfl
theorem aBb(d:Nat)(rs:List Rw)(o:D)(hl:rs.length<=1000)(S:aD):cl fns (d+1) 10 [.d (.tuple [.tuple (rs.map Rw.d),o])] S=qq (.d (.tuple ((rs.map (·.w)).map nD)),S):=by
 have i0:aI (.tuple [.tuple (rs.map Rw.d),o]) (.int 0)=qq (.tuple (rs.map Rw.d)):=rfl;have hc:lv (aC fns d) aEn [qq (.d (.tuple [.tuple (rs.map Rw.d),o])),qz] S=qq ((rs.map (·.w)).map nD,S):=by
  rw[yBo];refine kH (fi:=lv (aC fns d) (.it (.ix (.var 0) (.int 0)))) (fe:=ev (aC fns d) (.ix (.var 1) (.int 1))) Rw.d (nD ∘ λ r=>r.w) rs ?_ (by rw[zv];omega) λ r hr=>?_
  ·simp only[gS0,i0,eZ]
  ·refine⟨_,rfl,λ S'=>?_⟩
   simp only[gS0,clr,yBl,yCk,fK]
 rw[aV rfl d _ S rfl];simp only[gR1,aEW,hc,gC,fZ]
noncomputable def cK:List Rw->List Nat->Prop
 | [],is=>is=[]
 | r::rs,is=>if r.wd=.in then ∃ n is',is=n::is'/\n<2^r.w/\cK rs is' else cK rs is
def wA(rs:List Rw):Prop:=∀ (j:Nat) (r:Rw),rs[j]? = qq r->RwOk r (aU r (rs.map (·.w)))/\∀ a∈r.args.take (bF r.wd),a<j
theorem tX{W aF:List Nat}(h:∀ (i a w:Nat),aF[i]? = qq a->W[i]? = qq w->a<2^w):∀ (l:List Nat),(∀ a∈l,a<aF.length/\a<W.length)->mK (l.map (g0 W)) (l.map (g0 aF))
 | [],_=>True.intro
 | a::l,hl=>by
   obtain⟨h1,h2⟩:=hl a xAc;refine⟨h a _ _ ?_ ?_,tX h l λ b hb=>hl b (xAf _ hb)⟩
   ·show aF[a]? = qq (aF.getD a 0);rw[xAg,yAa h1];rfl
   ·show W[a]? = qq (W.getD a 0);rw[xAg,yAa h2];rfl
theorem aHW{r:Rw}{ws ns:List Nat}(h:RwOk r ws)(hl:mK ws ns):cN r ws ns<2^r.w:=by
 have hp:=xAe r.w;cases h with
 | inp=>exact hp
 | num h1 h2 hn=>exact hn
 | nt =>
   obtain⟨x,rfl,hx⟩:=fF hl;exact xAi (yGg _ _) (by omega)
 | sh h1 h2 aN hk =>
   obtain⟨x,rfl,hx⟩:=fF hl;rcases aN with rfl | rfl | rfl
   ·exact Nat.mod_lt _ hp
   ·exact xAi (Nat.div_le_self _ _) hx
   ·rename_i w a k;show dF x w (w+k)/2^k<2^w;rw[yEf (xAe k),<- yEl];exact sR hx h1 (by omega)
 | cut=>exact Nat.mod_lt _ hp
 | wide h1 hv h2 =>
   obtain⟨x,rfl,hx⟩:=fF hl;exact xAb hx (yBd (by decide) hv)
 | sign h1 hv h2 =>
   obtain⟨x,rfl,hx⟩:=fF hl;exact sR hx h1 hv
 | bw h1 h2 aN =>
   obtain⟨x,y,rfl,hx,hy⟩:=jX hl;rcases aN with rfl | rfl | rfl
   ·exact xAi yBy hx
   ·exact yBj hx hy
   ·exact yBv hx hy
 | sm h1 h2 =>
   obtain⟨x,y,rfl,hx,hy⟩:=jX hl;rename_i s w a b;cases s
   ·exact nR (((x:Nat):Int)+((y:Nat):Int)) w
   ·exact nR (((x:Nat):Int)-((y:Nat):Int)) w
   ·exact nR (((x:Nat):Int)*((y:Nat):Int)) w
 | cmp h1 h2 aN =>
   have q:∀ b:Bool,b.toNat<2^1:=λ b=>by cases b<;>decide
   rcases aN with rfl | rfl | rfl<;>exact q _
 | pick h1 h2 =>
   obtain⟨z,x,y,rfl,hz,hx,hy⟩:=aAC hl;show(if z=1 then x else y)<_
   split
   ·exact hx
   ·exact hy
theorem yH{α:Type}{l:List α}{j:Nat}{a:α}(h:l[j]? = qq a):l.drop j=a::l.drop (j+1):=by
 obtain⟨hl,rfl⟩:=gIm h;exact yDj hl
noncomputable def cX:List Rw->List Nat->List Nat->List Nat->List Nat
 | [],_,_,aF=>aF
 | r::rs,W,is,aF=>if r.wd=.in then cX rs W is.tail (aF++[g0 is 0]) else cX rs W is (aF++[cN r (aU r W) (aU r aF)])
structure Prg(rs:List Rw):Prop where
 l:rs.length<=100
 fit:wA rs
 ins:∃ is,cK rs is
 ws:∀ (j:Nat) (r:Rw),rs[j]? = qq r->1<=r.w/\r.w<=64
theorem nE{l:List Nat}{a:Nat}(h:a<l.length):l[a]? = qq (g0 l a):=by
 show l[a]? = qq (l.getD a 0);rw[xAg,yAa h];rfl
theorem aBZ:∀ (rs:List Rw) (W is aF:List Nat),∃ t,cX rs W is aF=aF++t
 | [],W,is,aF=>⟨[],by simp[cX]⟩
 | r::rs,W,is,aF=>by
   unfold cX
   split
   ·obtain⟨t,h⟩:=aBZ rs W is.tail (aF++[g0 is 0]);exact⟨[g0 is 0]++t,by rw[h,yBa]⟩
   ·obtain⟨t,h⟩:=aBZ rs W is (aF++[cN r (aU r W) (aU r aF)]);exact⟨[cN r (aU r W) (aU r aF)]++t,by rw[h,yBa]⟩
theorem aCu:∀ (rs:List Rw) (W is aF:List Nat) (j:Nat) (r:Rw),rs[j]? = qq r->r.wd≠.in->(cX rs W is aF)[aF.length+j]? = qq (cN r (aU r W) (aU r ((cX rs W is aF).take (aF.length+j))))
 | [],W,is,aF,j,r,h,_=>by simp at h
 | q::rs,W,is,aF,0,r,h,hw=>by
   cases h;unfold cX;rw[if_neg hw];obtain⟨t,ht⟩:=aBZ rs W is (aF++[cN q (aU q W) (aU q aF)]);rw[ht,Nat.add_zero,yBa,yFf,yAh (yAc _),yBe];rfl
 | q::rs,W,is,aF,j+1,r,h,hw=>by
   have h':rs[j]? = qq r:=by simpa using h
   unfold cX
   split
   ·have:=aCu rs W is.tail (aF++[g0 is 0]) j r h' hw;rw[xAn,show aF.length+[g0 is 0].length+j=aF.length+(j+1) by simp;omega] at this
    exact this
   ·have:=aCu rs W is (aF++[cN q (aU q W) (aU q aF)]) j r h' hw;rw[xAn,show aF.length+[cN q (aU q W) (aU q aF)].length+j=aF.length+(j+1) by simp;omega] at this
    exact this
theorem aF2{r:Rw}{l:List Nat}{m:Nat}(h:∀ a∈r.args.take (bF r.wd),a<m):aU r (l.take m)=aU r l:=by
 unfold aU;refine yCg λ a ha=>?_
 show(l.take m).getD a 0=l.getD a 0;rw[xAg,xAg,yDn (h a ha)]
theorem aQM{rs:List Rw}(hf:wA rs)(is:List Nat){j:Nat}{r:Rw}(hr:rs[j]? = qq r)(hw:r.wd≠.in):(cX rs (rs.map (·.w)) is [])[j]? = qq (cN r (aU r (rs.map (·.w))) (aU r (cX rs (rs.map (·.w)) is []))):=by
 have:=aCu rs (rs.map (·.w)) is [] j r hr hw;rw[yCn,yDs,aF2 (hf j r hr).2] at this;exact this
theorem aBM:∀ (rs:List Rw) (W is aF:List Nat),(cX rs W is aF).length=aF.length+rs.length
 | [],_,_,_=>rfl
 | r::rs,W,is,aF=>by
   unfold cX
   split
   ·rw[aBM rs,xAn];simp;omega
   ·rw[aBM rs,xAn];simp;omega
theorem aGP{W aF:List Nat}{z w:Nat}(h:∀ (i a w:Nat),aF[i]? = qq a->W[i]? = qq w->a<2^w)(hw:W[aF.length]? = qq w)(hz:z<2^w):∀ (i a w:Nat),(aF++[z])[i]? = qq a->W[i]? = qq w->a<2^w:=λ i a v h1 h2=>by
 by_cases c:i<aF.length
 ·rw[xAm c] at h1;exact h i a v h1 h2
 ·have ci:i=aF.length:=by
   have:=(gIm h1).1;simp at this;omega
  subst ci;rw[yAh (yAc _),yBe] at h1;cases h1;rw[hw] at h2;cases h2;exact hz
theorem aCh{rs0:List Rw}(hf:wA rs0):∀ (rs:List Rw) (is aF:List Nat),rs=rs0.drop aF.length->cK rs is->(∀ (i a w:Nat),aF[i]? = qq a->(rs0.map (·.w))[i]? = qq w->a<2^w)->∀ (i a w:Nat),(cX rs (rs0.map (·.w)) is aF)[i]? = qq a->(rs0.map (·.w))[i]? = qq w->a<2^w
 | [],is,aF,_,_,hb=>hb
 | r::rs,is,aF,hd,hi,hb=>by
   have hr:rs0[aF.length]? = qq r:=by
    have:=congrArg (λ l=>l[0]?) hd
    simp only[yBt,List.getElem?_drop,Nat.add_zero] at this;exact this.symm
   have hd':∀ z:Nat,rs=rs0.drop (aF++[z]).length:=λ z=>by
    rw[xAn,List.length_singleton];have:=congrArg List.tail hd;rw[List.tail_drop] at this;exact this
   have hw:(rs0.map (·.w))[aF.length]? = qq r.w:=by rw[yAe,hr];rfl
   have hj:aF.length<rs0.length:=(gIm hr).1;unfold cX
   split
   ·rename_i c;rw[cK,if_pos c] at hi;obtain⟨n,is',rfl,hn,hi'⟩:=hi;exact aCh hf rs is' (aF++[n]) (hd' n) hi' (aGP hb hw hn)
   ·rename_i c;rw[cK,if_neg c] at hi;obtain⟨f1,f2⟩:=hf _ r hr;have lt:=tX hb (r.args.take (bF r.wd)) λ a ha=>⟨f2 a ha,by have:=f2 a ha;rw[yAf];omega⟩
    exact aCh hf rs is _ (hd' _) hi (aGP hb hw (aHW f1 lt))
theorem tU{rs:List Rw}(p:Prg rs){is:List Nat}(hi:cK rs is):(cX rs (rs.map (·.w)) is []).length=rs.length:=by
 rw[aBM];simp
theorem zY{rs:List Rw}(p:Prg rs){is:List Nat}(hi:cK rs is){i a w:Nat}(h1:(cX rs (rs.map (·.w)) is [])[i]? = qq a)(h2:(rs.map (·.w))[i]? = qq w):a<2^w:=aCh p.fit rs is [] rfl hi (λ i a w h=>by simp at h) i a w h1 h2
noncomputable def cJ:List Rw->List Nat->List Nat->List Nat->List Nat->List Nat
 | r::rs,W,is,m::ms,aF=>if r.wd=.in then cJ rs W is.tail ms (aF++[g0 is 0^^^m]) else cJ rs W is ms (aF++[cN r (aU r W) (aU r aF)^^^m])
 | _,_,_,_,aF=>aF
structure MsOk(rs:List Rw)(ms:List Nat):Prop where
 l:ms.length=rs.length
 lt:∀ (j:Nat) (r:Rw) (m:Nat),rs[j]? = qq r->ms[j]? = qq m->m<2^r.w
theorem aES(d:Nat)(rs:List Rw)(o:D)(is ms:List Nat)(hl:rs.length<=100)(hf:wA rs)(hi:cK rs is)(hm:MsOk rs ms)(S:aD):cl fns (d+6) 56 [.d (.tuple [.tuple (rs.map Rw.d),o]),.d (.tuple (is.map nD)),.d (.tuple (ms.map nD))] S=qq (.d (.tuple ((cJ rs (rs.map (·.w)) is ms []).map nD)),S)/\(cJ rs (rs.map (·.w)) is ms []).length=rs.length/\∀ (i a w:Nat),(cJ rs (rs.map (·.w)) is ms [])[i]? = qq a->(rs.map (·.w))[i]? = qq w->a<2^w:=by
 have i0:aI (.tuple [.tuple (rs.map Rw.d),o]) (.int 0)=qq (.tuple (rs.map Rw.d)):=rfl;obtain⟨P,hP⟩:∃ P:D,P=.tuple [.tuple (rs.map Rw.d),o]:=⟨_,rfl⟩;have wo:=aBb (d+4) rs o (by omega)
 rw[<- hP] at i0 wo ⊢;obtain⟨aJ,S',p1,aF,tk,c6,c7,c8,rfl,rfl,al,ar,ai,ab⟩:=iH (t:=.many [6,7]) (fi:=lv (aC fns (d+5)) yF) (fb:=xs (aC fns (d+5)) sX) (env:=[qq (.d P),qq (.d (.tuple (is.map nD))),qq (.d (.tuple (ms.map nD))),qq (.d (.tuple ((rs.map (·.w)).map nD))),qq (.loc S.length),qq (.d (.int 0)),qz,qz,qz]) (S:=S++[qq []]) (S1:=S++[qq []]) (ds:=cY (rs.map Rw.d) (ms.map nD))
  (λ j env S'=>∃ (aF:List Nat) (tk:Nat) (c6 c7 c8:Option W),env=[qq (.d P),qq (.d (.tuple (is.map nD))),qq (.d (.tuple (ms.map nD))),qq (.d (.tuple ((rs.map (·.w)).map nD))),qq (.loc S.length),qq (.d (.int (tk:Nat))),c6,c7,c8]/\S'=S++[qq (aF.map nD)]/\aF.length=j/\cJ (rs.drop j) (rs.map (·.w)) (is.drop tk) (ms.drop j) aF=cJ rs (rs.map (·.w)) is ms []/\cK (rs.drop j) (is.drop tk)/\∀ (i a w:Nat),aF[i]? = qq a->(rs.map (·.w))[i]? = qq w->a<2^w)
  (by simp only[evs,yF,i0]) ⟨[],0,qz,qz,qz,rfl,rfl,rfl,rfl,hi,by simp⟩ (by
    rintro j dd env S' hd ⟨aF,tk,c6,c7,c8,rfl,rfl,al,ar,ai,ab⟩;obtain⟨a0,b0,ha,hb,rfl⟩:=yY _ _ j dd hd;rw[yAe] at ha hb;obtain⟨r,hr,rfl⟩:=Option.map_eq_some_iff.mp ha;obtain⟨m,hmj,rfl⟩:=Option.map_eq_some_iff.mp hb;have hmlt:=hm.lt j r m hr hmj;obtain⟨f1,f2⟩:=hf j r hr;have hj:j<rs.length:=(gIm hr).1;have hw:(rs.map (·.w))[j]? = qq r.w:=by rw[yAe,hr];rfl
    have hWl:(rs.map (·.w)).length=rs.length:=yAf ..;rw[yH hr] at ar ai;rw[yH hmj] at ar;have more:∀ z:Nat,z<2^r.w->∀ (i a w:Nat),(aF++[z^^^m])[i]? = qq a->(rs.map (·.w))[i]? = qq w->a<2^w:=λ z hz i a w h1 h2=>by
     by_cases c:i<aF.length
     ·rw[xAm c] at h1;exact ab i a w h1 h2
     ·have ci:i=j:=by
       have:=(gIm h1).1;simp at this;omega
      subst ci;rw[yAh (by omega),show i-aF.length=0 by omega] at h1
      cases h1;rw[hw] at h2;cases h2;exact yBv hz hmlt
    have ap:∀ z:Nat,eJ (S++[qq (aF.map nD)]) (.loc S.length) (.d (.int (z:Nat)))=qq (.d .none,S++[qq ((aF++[z]).map nD)]):=λ z=>by
     rw[qG S (aF.map nD) _ (by rw[yAf];omega),yCo]
     rfl
    have xo:∀ z:Nat,cG .BitXor (.int (z:Nat)) (nD m)=qq (.int ((z^^^m:Nat):Int)):=λ z=>gY z m
    by_cases c:r.wd=.in
    ·have t:bH .Eq (.str r.wd.s) (.str "in")=qq (.bool true):=by rw[c];exact bO .in .in
     rw[cK,if_pos c] at ai;obtain⟨n,is',e1,hn,hi'⟩:=ai;rw[cJ,if_pos c,e1] at ar;have e2:is'=is.drop (tk+1):=by rw[<- List.tail_drop,e1];rfl
     have e3:aI (.tuple (is.map nD)) (.int (tk:Nat))=qq (.int (n:Nat)):=fB (by
      have:(is.drop tk)[0]? = qq n:=by rw[e1];rfl
      rw[List.getElem?_drop,Nat.add_zero] at this;rw[yAe,this];rfl)
     have e4:((tk:Nat):Int)+1=((tk+1:Nat):Int):=by omega
     refine⟨_,[qq (.d P),qq (.d (.tuple (is.map nD))),qq (.d (.tuple (ms.map nD))),qq (.d (.tuple ((rs.map (·.w)).map nD))),qq (.loc S.length),qq (.d (.int ((tk+1:Nat):Int))),qq (.d r.d),qq (.d (nD m)),qq (.d (.int (n:Nat)))],S++[qq ((aF++[n^^^m]).map nD)],rfl,?_,aF++[n^^^m],tk+1,_,_,_,rfl,rfl,by simp[al],?_,?_,more n hn⟩
     ·simp only[gS1,sX,rF,t,e3,eI,e4,xo,gQ,ap]
     ·rw[<- e2,<- ar];rfl
     ·rw[<- e2];exact hi'
    ·have t:bH .Eq (.str r.wd.s) (.str "in")=qq (.bool false):=by
      have:=bO r.wd .in;rw[dqF c] at this;exact this
     rw[cK,if_neg c] at ai;rw[cJ,if_neg c] at ar;have lt:=tX ab (r.args.take (bF r.wd)) λ a ha=>⟨by have:=f2 a ha;omega,by have:=f2 a ha;omega⟩
     have o1:=aCd (d+3) r (rs.map (·.w)) (S++[qq (aF.map nD)]) λ a ha=>by have:=f2 a ha;omega
     have o2:=aOX (d+3) r aF S λ a ha=>by have:=f2 a ha;omega
     have wk:=aPi f1 c lt (d+1) (S++[qq (aF.map nD)]);have wl:=aHW f1 lt;refine⟨_,[qq (.d P),qq (.d (.tuple (is.map nD))),qq (.d (.tuple (ms.map nD))),qq (.d (.tuple ((rs.map (·.w)).map nD))),qq (.loc S.length),qq (.d (.int (tk:Nat))),qq (.d r.d),qq (.d (nD m)),qq (.d (.int ((cN r (aU r (rs.map (·.w))) (aU r aF):Nat):Int)))],S++[qq ((aF++[cN r (aU r (rs.map (·.w))) (aU r aF)^^^m]).map nD)],rfl,?_,_,tk,_,_,_,rfl,rfl,by simp[al],ar,ai,more _ wl⟩
     have wk':cl fns (d+5) 55 [.d r.d,.d (.tuple ((aU r (rs.map (·.w))).map nD)),.d (.tuple ((aU r aF).map nD))] (S++[qq (aF.map nD)])=qq (.d (.int ((cN r (aU r (rs.map (·.w))) (aU r aF):Nat):Int)),S++[qq (aF.map nD)]):=wk;simp only[evs,sX,rF,t,o1,o2,wk',xo,gQ,ap])
 have zl:(cY (rs.map Rw.d) (ms.map nD)).length=rs.length:=by
  rw[sS,yAf,yAf,hm.l,Nat.min_self]
 rw[zl] at al ar;rw[yFj] at ar;have ar':aF=cJ rs (rs.map (·.w)) is ms []:=by
  have e:cJ [] (rs.map (·.w)) (is.drop tk) (ms.drop rs.length) aF=aF:=by unfold cJ;rfl
  rw[<- e];exact ar
 subst ar';refine⟨?_,al,ab⟩;have p1':dX (.many [6,7]) (lv (aC fns (d+5)) yF) (xs (aC fns (d+5)) sX) [qq (.d P),qq (.d (.tuple (is.map nD))),qq (.d (.tuple (ms.map nD))),qq (.d (.tuple ((rs.map (·.w)).map nD))),qq (.loc S.length),qq (.d (.int 0)),qz,qz,qz] (S++[qq []])=qq (.nx [qq (.d P),qq (.d (.tuple (is.map nD))),qq (.d (.tuple (ms.map nD))),qq (.d (.tuple ((rs.map (·.w)).map nD))),qq (.loc S.length),qq (.d (.int (tk:Nat))),c6,c7,c8],S++[qq ((cJ rs (rs.map (·.w)) is ms []).map nD)]):=p1;have tk1:∀ x,yDx S.length (S++[x])=S:=λ x=>yFf
 rw[aV rfl (d+5) _ S rfl];simp only[gR1,aHb,wo,fD,p1',oK,gC,fZ,tk1]
theorem aPn(rs:List Rw):MsOk rs (yAb rs.length 0):=⟨yBp,λ j r m h1 h2=>by
 rw[yCr] at h2
 split at h2
 ·cases h2;exact xAe _
 ·cases h2⟩
theorem aGI(d:Nat)(rs:List Rw)(o:D)(is:List Nat)(hl:rs.length<=100)(hf:wA rs)(hi:cK rs is)(S:aD):cl fns (d+7) 57 [.d (.tuple [.tuple (rs.map Rw.d),o]),.d (.tuple (is.map nD))] S=qq (.d (.tuple ((cJ rs (rs.map (·.w)) is (yAb rs.length 0) []).map nD)),S):=by
 have i0:aI (.tuple [.tuple (rs.map Rw.d),o]) (.int 0)=qq (.tuple (rs.map Rw.d)):=rfl;have ln:iN [.tuple (rs.map Rw.d)]=qq (.int (rs.length:Nat)):=by
  show qq (yAp (((rs.map Rw.d).length:Nat):Int))=_;rw[yAf]
 have e:=(aES d rs o is _ hl hf hi (aPn rs) S).1;rw[yEa] at e;have e':cl fns (d+6) 56 [.d (.tuple [.tuple (rs.map Rw.d),o]),.d (.tuple (is.map nD)),.d (.tuple (yAb rs.length (.int 0)))] S=qq (.d (.tuple ((cJ rs (rs.map (·.w)) is (yAb rs.length 0) []).map nD)),S):=e;rw[aV rfl (d+6) _ S rfl];have hq64:=aBI (x:=.int 0) (show rs.length<=1000 by omega)
 simp only[gR1,aJW,i0,ln,hq64,e']
theorem yZ:∀ (rs:List Rw) (W is ms aF:List Nat),∃ t,cJ rs W is ms aF=aF++t
 | [],W,is,ms,aF=>⟨[],by simp[cJ]⟩
 | _::_,W,is,[],aF=>⟨[],by simp[cJ]⟩
 | r::rs,W,is,m::ms,aF=>by
   rw[cJ]
   split
   ·obtain⟨t,h⟩:=yZ rs W is.tail ms (aF++[g0 is 0^^^m]);exact⟨[g0 is 0^^^m]++t,by rw[h,yBa]⟩
   ·obtain⟨t,h⟩:=yZ rs W is ms (aF++[cN r (aU r W) (aU r aF)^^^m]);exact⟨[cN r (aU r W) (aU r aF)^^^m]++t,by rw[h,yBa]⟩
theorem aHs{r:Rw}{rs:List Rw}{W is ms aF R:List Nat}{m:Nat}(h:cJ (r::rs) W is (m::ms) aF=R)(hr:r.wd=.in)(hi:cK (r::rs) is):∃ n is',is=n::is'/\cK rs is'/\R[aF.length]? = qq (n^^^m)/\cJ rs W is' ms (aF++[n^^^m])=R:=by
 rw[cK,if_pos hr] at hi;obtain⟨n,is',rfl,hn,hi'⟩:=hi;rw[cJ,if_pos hr] at h;have h':cJ rs W is' ms (aF++[n^^^m])=R:=h;obtain⟨t,ht⟩:=yZ rs W is' ms (aF++[n^^^m]);refine⟨n,is',rfl,hi',?_,h'⟩;rw[<- h',ht,yBa,yAh (yAc _),yBe];rfl
theorem aG0{r:Rw}{rs:List Rw}{W is ms aF R:List Nat}{m:Nat}(h:cJ (r::rs) W is (m::ms) aF=R)(hr:r.wd≠.in)(hi:cK (r::rs) is)(hf:∀ a∈r.args.take (bF r.wd),a<aF.length):cK rs is/\R[aF.length]? = qq (cN r (aU r W) (aU r R)^^^m)/\∃ z,cJ rs W is ms (aF++[z])=R:=by
 rw[cK,if_neg hr] at hi;rw[cJ,if_neg hr] at h;obtain⟨t,ht⟩:=yZ rs W is ms (aF++[cN r (aU r W) (aU r aF)^^^m]);have e:aU r aF=aU r R:=by
  rw[<- h,ht,<- aF2 (l:=aF++[cN r (aU r W) (aU r aF)^^^m]++t) hf,yBa,yFf]
 refine⟨hi,?_,_,h⟩;rw[<- e,<- h,ht,yBa,yAh (yAc _),yBe];rfl
theorem aNB{n w:Nat}(hn:n<2^w):(2^w-1)^^^n=2^w-1-n:=by
 rw[Nat.xor_comm];exact aGS hn
noncomputable def sE(n w:Nat):Ft:=⟨2^w-1-n,n,1⟩
theorem aI8{n w:Nat}(hn:n<2^w)(hw:1<=w):FtOk (sE n w) w:=⟨by show 2^w-1-n<2^w;have:=xAe w;omega,hn,yAc 1,hw⟩
theorem aPF{n w:Nat}(hn:n<2^w):Hd (sE n w) n w:=by
 refine⟨λ i hi=>?_,λ i hi=>hi,kI _ _⟩
 have hi':(2^w-1-n).testBit i=true:=hi
 by_cases c:i<w
 ·rw[zN hn c] at hi';simpa using hi'
 ·exact cL hn (by omega)
theorem aHl{w:Nat}(hw:1<=w):gK jI w=jI:=by
 have u:dD 0 1 w=0:=by
  unfold dD;rw[Nat.zero_and,if_pos rfl]
 have t:tr 0 w=0:=by
  unfold tr;rw[Nat.zero_xor];have:bl (2^w-1)=w:=aE9 (uB w) (.inr (by rw[cW,dqT (by omega)]))
  omega
 show Ft.mk (dD 0 1 w) (dD 0 1 w) (vR 1 (tr (dD 0 1 w) w) (tr (dD 0 1 w) w))=⟨0,0,1⟩;rw[u,t];rfl
theorem aNH(d n w:Nat)(hn:n<2^w)(bS:1<=w)(hw:w<=64)(S:aD):cl fns (d+4) 48 [.d (.tuple [.str "num",.int (w:Nat),.int (n:Nat)]),.d (.tuple []),.d (.tuple [])] S=qq (.d (gK (sE n w) w).d,S):=by
 have nf:cl fns (d+2) 34 [.d (.int (w:Nat)),.d (.int (n:Nat))] S=qq (.d (sE n w).d,S):=by
  rw[aV rfl (d+1) _ S rfl];have hq65:=cP d w (by omega)
  simp only[gR1,aFI,hq65,gY,aNB hn]
 have i2:aI (.tuple [.str "num",.int (w:Nat),.int (n:Nat)]) (.int 2)=qq (.int (n:Nat)):=rfl;refine aCl d _ _ _ S w (sE n w) rfl ?_ (aI8 hn bS) hw;have t1:=mB (aC fns (d+2)) (.tuple [.str "num",.int (w:Nat),.int (n:Nat)]) (.tuple []) (.tuple []) (w:Nat) S .num;have t2:=fR (aC fns (d+2)) (.tuple [.str "num",.int (w:Nat),.int (n:Nat)]) (.tuple []) (.tuple []) (w:Nat) S .num;refine cM (S1:=S) rfl (d+2) rfl rfl yAi (eC (S1:=S) (w:=.d (.str Wd.num.s)) (eN rfl rfl) rfl (eC (S1:=S) (w:=.d (.int (w:Nat))) (eN rfl rfl) rfl (aS t1 (cF t2 (bQ ?_)))));simp only[gS0,i2,nf]
theorem aOx(d w:Nat)(bS:1<=w)(hw:w<=64)(S:aD):cl fns (d+4) 48 [.d (.tuple [.str "in",.int (w:Nat)]),.d (.tuple []),.d (.tuple [])] S=qq (.d jI.d,S):=by
 have t1:=mB (aC fns (d+2)) (.tuple [.str "in",.int (w:Nat)]) (.tuple []) (.tuple []) (w:Nat) S .in;have hk:FtOk jI w:=⟨xAe w,xAe w,yAc 1,bS⟩;have r:=aCl d (.tuple [.str "in",.int (w:Nat)]) (.tuple []) (.tuple []) S w jI rfl (cM (S1:=S) rfl (d+2) rfl rfl yAi (eC (S1:=S) (w:=.d (.str Wd.in.s)) (eN rfl rfl) rfl (eC (S1:=S) (w:=.d (.int (w:Nat))) (eN rfl rfl) rfl (cF t1 (bQ rfl))))) hk hw;rw[aHl bS] at r;exact r
noncomputable def pX:List Ft->List Nat->List Nat->Prop
 | f::Fs,w::ws,n::ns=>(n<2^w/\Hd f n w)/\pX Fs ws ns
 | [],[],[]=>True
 | _,_,_=>False
noncomputable def rH:List Ft->List Nat->Prop
 | f::Fs,w::ws=>Op f w/\rH Fs ws
 | [],[]=>True
 | _,_=>False
structure RG(r:Rw)(ws:List Nat)(Fs:List Ft):Prop where
 g:∃ g:Ft,FtOk g r.w/\(∀ d S,cl fns (d+7) 48 [.d r.d,.d (.tuple (ws.map nD)),.d (.tuple (Fs.map Ft.d))] S=qq (.d (gK g r.w).d,S))/\(∀ ns,pX Fs ws ns->r.wd≠.in->Hd g (cN r ws ns) r.w)/\(r.wd=.in->∀ z,Hd g z r.w)
theorem vO{w:Nat}{Fs:List Ft}(h:rH Fs [w]):∃ f,Fs=[f]/\Op f w:=by
 rcases Fs with _ | ⟨a,_ | ⟨b,r⟩⟩
 ·exact h.elim
 ·exact⟨a,rfl,h.1⟩
 ·exact h.2.elim
theorem aDr{w v:Nat}{Fs:List Ft}(h:rH Fs [w,v]):∃ f g,Fs=[f,g]/\Op f w/\Op g v:=by
 rcases Fs with _ | ⟨a,_ | ⟨b,_ | ⟨c,r⟩⟩⟩
 ·exact h.elim
 ·exact h.2.elim
 ·exact⟨a,b,rfl,h.1,h.2.1⟩
 ·exact h.2.2.elim
theorem aVA{w v u:Nat}{Fs:List Ft}(h:rH Fs [w,v,u]):∃ f g k,Fs=[f,g,k]/\Op f w/\Op g v/\Op k u:=by
 rcases Fs with _ | ⟨a,_ | ⟨b,_ | ⟨c,_ | ⟨e,r⟩⟩⟩⟩
 ·exact h.elim
 ·exact h.2.elim
 ·exact h.2.2.elim
 ·exact⟨a,b,c,rfl,h.1,h.2.1,h.2.2.1⟩
 ·exact h.2.2.2.elim
theorem vY{f:Ft}{w:Nat}{ns:List Nat}(h:pX [f] [w] ns):∃ a,ns=[a]/\a<2^w/\Hd f a w:=by
 rcases ns with _ | ⟨a,_ | ⟨b,r⟩⟩
 ·exact h.elim
 ·exact⟨a,rfl,h.1⟩
 ·exact h.2.elim
theorem aDt{f g:Ft}{w v:Nat}{ns:List Nat}(h:pX [f,g] [w,v] ns):∃ a b,ns=[a,b]/\(a<2^w/\Hd f a w)/\b<2^v/\Hd g b v:=by
 rcases ns with _ | ⟨a,_ | ⟨b,_ | ⟨c,r⟩⟩⟩
 ·exact h.elim
 ·exact h.2.elim
 ·exact⟨a,b,rfl,h.1,h.2.1⟩
 ·exact h.2.2.elim
theorem aUG{f g k:Ft}{w v u:Nat}{ns:List Nat}(h:pX [f,g,k] [w,v,u] ns):∃ a b c,ns=[a,b,c]/\(a<2^w/\Hd f a w)/\(b<2^v/\Hd g b v)/\c<2^u/\Hd k c u:=by
 rcases ns with _ | ⟨a,_ | ⟨b,_ | ⟨c,_ | ⟨e,r⟩⟩⟩⟩
 ·exact h.elim
 ·exact h.2.elim
 ·exact h.2.2.elim
 ·exact⟨a,b,c,rfl,h.1,h.2.1,h.2.2.1⟩
 ·exact h.2.2.2.elim
theorem lQ{r:Rw}{ws:List Nat}{Fs:List Ft}(hi:r.wd≠.in)(h2:r.w<=64)(g:Ft)(hg:FtOk g r.w)(ho:∀ d S,cl fns (d+6) 47 [.d r.d,.d (.tuple (ws.map nD)),.d (.tuple (Fs.map Ft.d))] S=qq (.d g.d,S))(hh:∀ ns,pX Fs ws ns->Hd g (cN r ws ns) r.w):RG r ws Fs:=
 ⟨g,hg,λ d S=>aCl (d+3) _ _ _ S r.w g (fK r) (ho d S) hg h2,λ ns h _=>hh ns h,λ h=>absurd h hi⟩
theorem aR2{f:Ft}{w a:Nat}(o:Op f w):RG ⟨.not,w,[a]⟩ [w] [f]:=
 lQ (λ h=>nomatch h) o.w2 ⟨f.O,f.N,f.A⟩ ⟨o.ok.lO,o.ok.lN,o.ok.a1,o.ok.aw⟩ (λ d S=>aNF (d+5) _ _ _ (w:Nat) S f rfl rfl rfl) λ ns h=>by
  obtain⟨x,rfl,hx,hf⟩:=vY h;exact aNe o.ok o.dj hx hf
theorem aUA{wd:Wd}(h:wd=.left\/wd=.right\/wd=.slide):wd≠.in:=by rcases h with rfl | rfl | rfl<;>decide
theorem aT2{wd:Wd}(h:wd=.and\/wd=.or\/wd=.xor):wd≠.in:=by rcases h with rfl | rfl | rfl<;>decide
theorem aTL{wd:Wd}(h:wd=.same\/wd=.less\/wd=.under):wd≠.in:=by rcases h with rfl | rfl | rfl<;>decide
theorem aUn(s:Sw):s.wd≠.in:=by cases s<;>decide
theorem aTf{f:Ft}{w a k:Nat}(wd:Wd)(aN:wd=.left\/wd=.right\/wd=.slide)(hk:k<64)(o:Op f w):RG ⟨wd,w,[a,k]⟩ [w] [f]:=by
 refine lQ (aUA aN) o.w2 (shN wd w f k) ?_ (λ d S=>aLq (d+5) _ _ _ (w:Nat) S wd aN f k _ rfl rfl rfl rfl (aBK (d+1) wd aN w f k o.ok o.w1 o.w2 (by omega) S)) λ ns h=>?_
 ·rcases aN with rfl | rfl | rfl
  ·exact aO7 o.ok o.dj o.w1 k
  ·exact aM8 o.ok o.dj o.w1 k
  ·exact aNv o.ok o.dj o.w1 k
 ·obtain⟨x,rfl,hx,hf⟩:=vY h;rcases aN with rfl | rfl | rfl
  ·exact aMh o.ok o.dj hx hf k
  ·exact aLA o.ok o.dj hx hf k
  ·exact aLa o.ok o.dj hx hf o.w1 k
theorem aQW{f:Ft}{w v a:Nat}(h1:1<=w)(hv:w<=v)(o:Op f v):RG ⟨.cut,w,[a]⟩ [v] [f]:=
 lQ (λ h=>nomatch h) (xAh hv o.w2) (vQ v w f) (aQ6 o.ok o.dj o.w1 h1 hv) (λ d S=>aBQ (d+5) _ _ _ (w:Nat) S .cut (.inl rfl) f (v:Nat) _ rfl rfl rfl rfl (aRy (d+3) v w f hv (xAh hv o.w2) S)) λ ns h=>by
  obtain⟨x,rfl,hx,hf⟩:=vY h;exact aNK o.ok o.dj hx hf hv
theorem aPf{f:Ft}{w v a:Nat}(hv:v<=w)(h2:w<=64)(o:Op f v):RG ⟨.wide,w,[a]⟩ [v] [f]:=
 lQ (λ h=>nomatch h) h2 (lS v w f) (aPl o.ok o.dj o.w1 hv) (λ d S=>aBQ (d+5) _ _ _ (w:Nat) S .wide (.inr (.inl rfl)) f (v:Nat) _ rfl rfl rfl rfl (aOT (d+2) v w f hv h2 S)) λ ns h=>by
  obtain⟨x,rfl,hx,hf⟩:=vY h;exact aMo o.ok o.dj hx hf hv
theorem aOJ{f:Ft}{w v a:Nat}(hv:v<=w)(h2:w<=64)(o:Op f v):RG ⟨.sign,w,[a]⟩ [v] [f]:=
 lQ (λ h=>nomatch h) h2 (vD v w f) (aOr o.ok o.dj o.w1 hv) (λ d S=>aBQ (d+5) _ _ _ (w:Nat) S .sign (.inr (.inr rfl)) f (v:Nat) _ rfl rfl rfl rfl (aO2 (d+2) v w f o.w1 hv h2 S)) λ ns h=>by
  obtain⟨x,rfl,hx,hf⟩:=vY h;exact aMk o.ok o.dj hx hf o.w1 hv
theorem aUr{f g:Ft}{w a b:Nat}(wd:Wd)(aN:wd=.and\/wd=.or\/wd=.xor)(o:Op f w)(o':Op g w):RG ⟨wd,w,[a,b]⟩ [w,w] [f,g]:=by
 obtain⟨n,hb',eb,ej⟩:∃ n,(n=0\/n=1\/n=2)/\bwN wd f g=sC n f g/\∀ x y:Nat,cN ⟨wd,w,[a,b]⟩ [w,w] [x,y]=bwv n x y:=by
  rcases aN with rfl | rfl | rfl
  ·exact⟨0,.inl rfl,rfl,λ x y=>rfl⟩
  ·exact⟨1,.inr (.inl rfl),rfl,λ x y=>rfl⟩
  ·exact⟨2,.inr (.inr rfl),rfl,λ x y=>rfl⟩
 refine lQ (aT2 aN) o.w2 (sC n f g) (aT5 hb' o.ok o.dj o'.ok o'.dj) (λ d S=>?_) λ ns h=>?_
 ·have q:=aNU (d+3) (Rw.mk wd w [a,b]).d (.tuple [nD w,nD w]) (.tuple [f.d,g.d]) (w:Nat) S wd aN f g rfl rfl rfl rfl;rw[eb] at q;exact q
 ·obtain⟨x,y,rfl,⟨hx,h1⟩,hy,h2⟩:=aDt h;rw[ej];exact aNX hb' o.ok o.dj h1 o'.ok o'.dj h2
theorem aTB{f g:Ft}{w a b:Nat}(s:Sw)(o:Op f w)(o':Op g w):RG ⟨s.wd,w,[a,b]⟩ [w,w] [f,g]:=by
 obtain⟨p,hp,h⟩:=o.ho;obtain⟨q,hq,h'⟩:=o'.ho;refine lQ (aUn s) o.w2 (vT s w f g) (aQe s o.ok o'.ok hp hq h h') (λ d S=>aM5 d _ _ _ w S s f g rfl rfl rfl rfl o.ok o'.ok (aTp s w f g o.ok o'.ok hp hq h h') o.w2) λ ns hn=>?_
 obtain⟨x,y,rfl,⟨hx,h1⟩,hy,h2⟩:=aDt hn;have e:cN ⟨s.wd,w,[a,b]⟩ [w,w] [x,y]=rs (s.oc (x:Nat) (y:Nat)) w:=by cases s<;>rfl
 rw[e];exact aNQ s o.ok o'.ok hx hy h1 h2
theorem aP7{f g:Ft}{v a b:Nat}(wd:Wd)(aN:wd=.same\/wd=.less\/wd=.under)(o:Op f v)(o':Op g v):RG ⟨wd,1,[a,b]⟩ [v,v] [f,g]:=by
 have hk:FtOk (oD wd v f g) 1:=by rcases aT8 wd v f g with h | h | h<;>rw[h]<;>exact⟨by decide,by decide,by decide,by decide⟩
 refine lQ (aTL aN) (show 1<=64 by omega) (oD wd v f g) hk (λ d S=>aLS (d+1) _ _ _ ((1:Nat):Int) S wd aN v f g rfl rfl rfl rfl rfl ⟨o.ok,o.dj⟩ ⟨o'.ok,o'.dj⟩ o.w1 o.w2) λ ns hn=>?_
 obtain⟨x,y,rfl,⟨hx,h1⟩,hy,h2⟩:=aDt hn;rcases aN with rfl | rfl | rfl
 ·exact aMv o.ok hx hy h1 h2
 ·exact aMc o.ok o'.ok hx hy h1 h2
 ·exact aLv o.ok o'.ok o.dj o'.dj o.w1 hx hy h1 h2
theorem aOC{t f g:Ft}{w c a b:Nat}(ot:Op t 1)(o:Op f w)(o':Op g w):RG ⟨.pick,w,[c,a,b]⟩ [1,w,w] [t,f,g]:=
 lQ (λ h=>nomatch h) o.w2 (oG t f g) (aSU o.ok o'.ok) (λ d S=>aLw (d+4) _ _ _ (w:Nat) S t f g rfl rfl rfl rfl rfl) λ ns hn=>by
  obtain⟨z,x,y,rfl,⟨hz,h0⟩,⟨hx,h1⟩,hy,h2⟩:=aUG hn;exact aL2 h0 hz h1 h2
theorem aQv{w n:Nat}(h1:1<=w)(h2:w<=64)(hn:n<2^w):RG ⟨.num,w,[n]⟩ [] []:=
 ⟨sE n w,aI8 hn h1,λ d S=>aNH (d+3) n w hn h1 h2 S,λ ns _ _=>aPF hn,λ h=>nomatch h⟩
theorem aUg{w:Nat}(h1:1<=w)(h2:w<=64):RG ⟨.in,w,[]⟩ [] []:=by
 refine⟨jI,⟨xAe w,xAe w,yAc 1,h1⟩,λ d S=>?_,λ ns _ h=>absurd rfl h,λ _ z=>⟨λ i h=>qO h,λ i h=>qO h,kI _ _⟩⟩
 have:=aOx (d+3) w h1 h2 S;rw[aHl h1];exact this
theorem rg{r:Rw}{ws:List Nat}(h:RwOk r ws){Fs:List Ft}(o:rH Fs ws):RG r ws Fs:=by
 cases h with
 | inp h1 h2 =>
   rcases Fs with _ | ⟨f,Fs⟩
   ·exact aUg h1 h2
   ·exact o.elim
 | num h1 h2 hn =>
   rcases Fs with _ | ⟨f,Fs⟩
   ·exact aQv h1 h2 hn
   ·exact o.elim
 | nt h1 h2 =>
   obtain⟨f,rfl,o1⟩:=vO o;exact aR2 o1
 | sh h1 h2 aN hk =>
   obtain⟨f,rfl,o1⟩:=vO o;exact aTf _ aN hk o1
 | cut h1 hv h2 =>
   obtain⟨f,rfl,o1⟩:=vO o;exact aQW h1 hv o1
 | wide h1 hv h2 =>
   obtain⟨f,rfl,o1⟩:=vO o;exact aPf hv h2 o1
 | sign h1 hv h2 =>
   obtain⟨f,rfl,o1⟩:=vO o;exact aOJ hv h2 o1
 | bw h1 h2 aN =>
   obtain⟨f,g,rfl,o1,o2⟩:=aDr o;exact aUr _ aN o1 o2
 | sm h1 h2 =>
   obtain⟨f,g,rfl,o1,o2⟩:=aDr o;exact aTB _ o1 o2
 | cmp h1 h2 aN =>
   obtain⟨f,g,rfl,o1,o2⟩:=aDr o;exact aP7 _ aN o1 o2
 | pick h1 h2 =>
   obtain⟨t,f,g,rfl,ot,o1,o2⟩:=aVA o;exact aOC ot o1 o2
noncomputable def f0(F:List Ft)(a:Nat):Ft:=F.getD a ⟨0,0,1⟩
noncomputable def fG(r:Rw)(F:List Ft):List Ft:=(r.args.take (bF r.wd)).map (f0 F)
structure Snd(rs:List Rw)(F:List Ft):Prop where
 ok:∀ (i:Nat) (f:Ft) (w:Nat),F[i]? = qq f->(rs.map (·.w))[i]? = qq w->FtOk f w
 hold:∀ is,cK rs is->∀ (i:Nat) (f:Ft) (w n:Nat),F[i]? = qq f->(rs.map (·.w))[i]? = qq w->(cX rs (rs.map (·.w)) is [])[i]? = qq n->Hd f n w
theorem lG{F:List Ft}{a:Nat}(h:a<F.length):F[a]? = qq (f0 F a):=by
 show F[a]? = qq (F.getD a ⟨0,0,1⟩);rw[xAg,yAa h];rfl
theorem aPK{rs:List Rw}(p:Prg rs){a w:Nat}(h:(rs.map (·.w))[a]? = qq w):1<=w/\w<=64:=by
 rw[yAe] at h;obtain⟨r,hr,rfl⟩:=Option.map_eq_some_iff.mp h;exact p.ws a r hr
theorem aHp{rs:List Rw}(p:Prg rs){F:List Ft}(s:Snd rs F):∀ (l:List Nat),(∀ a∈l,a<F.length/\a<rs.length)->rH (l.map (f0 F)) (l.map (g0 (rs.map (·.w))))
 | [],_=>True.intro
 | a::l,h=>by
   obtain⟨h1,h2⟩:=h a xAc;have hw:=nE (l:=rs.map (·.w)) (a:=a) (by rw[yAf];exact h2)
   have hf:=lG h1;obtain⟨is,hi⟩:=p.ins;have hn:=nE (l:=cX rs (rs.map (·.w)) is []) (a:=a) (by rw[tU p hi];exact h2)
   obtain⟨w1,w2⟩:=aPK p hw;exact⟨⟨s.ok a _ _ hf hw,⟨_,zY p hi hn hw,s.hold is hi a _ _ _ hf hw hn⟩,w1,w2⟩,aHp p s l λ b hb=>h b (xAf _ hb)⟩
theorem aHD{rs:List Rw}(p:Prg rs){F:List Ft}(s:Snd rs F){is:List Nat}(hi:cK rs is):∀ (l:List Nat),(∀ a∈l,a<F.length/\a<rs.length)->pX (l.map (f0 F)) (l.map (g0 (rs.map (·.w)))) (l.map (g0 (cX rs (rs.map (·.w)) is [])))
 | [],_=>True.intro
 | a::l,h=>by
   obtain⟨h1,h2⟩:=h a xAc;have hw:=nE (l:=rs.map (·.w)) (a:=a) (by rw[yAf];exact h2)
   have hf:=lG h1;have hn:=nE (l:=cX rs (rs.map (·.w)) is []) (a:=a) (by rw[tU p hi];exact h2)
   exact⟨⟨zY p hi hn hw,s.hold is hi a _ _ _ hf hw hn⟩,aHD p s hi l λ b hb=>h b (xAf _ hb)⟩
structure Nx(rs:List Rw)(F:List Ft)(j:Nat)(r:Rw)(g:Ft):Prop where
 ok:FtOk g r.w
 rule:∀ d S,cl fns (d+7) 48 [.d r.d,.d (.tuple ((aU r (rs.map (·.w))).map nD)),.d (.tuple ((fG r F).map Ft.d))] S=qq (.d g.d,S)
 hold:∀ is,cK rs is->∀ n,(cX rs (rs.map (·.w)) is [])[j]? = qq n->Hd g n r.w
theorem aFj{rs:List Rw}(p:Prg rs){F:List Ft}(s:Snd rs F){j:Nat}{r:Rw}(hr:rs[j]? = qq r)(hF:j<=F.length):∃ g,Nx rs F j r g:=by
 obtain⟨f1,f2⟩:=p.fit j r hr;have hj:j<rs.length:=(gIm hr).1;have hb:∀ a∈r.args.take (bF r.wd),a<F.length/\a<rs.length:=λ a ha=>by have:=f2 a ha;omega
 obtain⟨g,gk,rl,h1,h2⟩:=(rg f1 (aHp p s _ hb)).g;refine⟨gK g r.w,aUs gk,rl,λ is hi n hn=>(aNn gk).mpr ?_⟩
 by_cases c:r.wd=.in
 ·exact h2 c n
 ·have e:=aQM p.fit is hr c;rw[hn] at e;cases e;exact h1 _ (aHD p s hi _ hb) c
theorem aGr{rs:List Rw}{F:List Ft}(s:Snd rs F){r:Rw}{g f:Ft}(hr:rs[F.length]? = qq r)(nx:Nx rs F F.length r g)(fk:FtOk f r.w)(hN:∀ i,f.N.testBit i=true->g.N.testBit i=true)(hO:∀ i,f.O.testBit i=true->g.O.testBit i=true)(hA:f.A<=g.A):Snd rs (F++[f]):=by
 have last:∀ {i:Nat}{x:Ft},(F++[f])[i]? = qq x->F[i]? = qq x\/(i=F.length/\x=f):=λ {i x} h=>by
  by_cases c:i<F.length
  ·rw[xAm c] at h;exact .inl h
  ·have hl:=(gIm h).1;simp at hl;have:i=F.length:=by omega
   subst this;rw[yAh (yAc _),yBe] at h;cases h;exact .inr ⟨rfl,rfl⟩
 have hw:(rs.map (·.w))[F.length]? = qq r.w:=by rw[yAe,hr];rfl
 refine⟨λ i x w h1 h2=>?_,λ is hi i x w n h1 h2 h3=>?_⟩
 ·rcases last h1 with h | ⟨rfl,rfl⟩
  ·exact s.ok i x w h h2
  ·rw[hw] at h2;cases h2;exact fk
 ·rcases last h1 with h | ⟨rfl,rfl⟩
  ·exact s.hold is hi i x w n h h2 h3
  ·rw[hw] at h2;cases h2;have q:=nx.hold is hi n h3;exact⟨λ i hi=>q.1 i (hN i hi),λ i hi=>q.2.1 i (hO i hi),qM hA q.2.2⟩
theorem aGY(rs:List Rw):Snd rs []:=⟨λ i f w h=>by simp at h,λ is hi i f w n h=>by simp at h⟩
theorem aPL(d:Nat)(r:Rw)(F:List Ft)(S0:aD)(h:∀ a∈r.args.take (bF r.wd),a<F.length):cl fns (d+2) 8 [.d r.d,.loc S0.length] (S0++[qq (F.map Ft.d)])=qq (.d (.tuple ((fG r F).map Ft.d)),S0++[qq (F.map Ft.d)]):=by
 have:=tK d r (.loc S0.length) (.list (F.map Ft.d)) (λ a=>(f0 F a).d) (S0++[qq (F.map Ft.d)]) (λ aF=>by
  show(match (S0++[qq (F.map Ft.d)]++[qq aF])[S0.length]? with | some (qq ds)=>qq (yGi ds) | _=>qz)=_
  rw[yBa,yAh (yAc _),yBe];rfl) λ a ha=>lH (by rw[yAe,lG (h a ha)];rfl)
 rw[this,fG,yBo];rfl
theorem aBJ{r:Rw}{F:List Ft}{f:Ft}(h:∀ a∈r.args.take (bF r.wd),a<F.length):fG r (F++[f])=fG r F:=by
 unfold fG;refine yCg λ a ha=>?_
 show(F++[f]).getD a ⟨0,0,1⟩=F.getD a ⟨0,0,1⟩;rw[xAg,xAg,xAm (h a ha)]
theorem aIj{F:List Ft}{f:Ft}{a:Nat}(h:a<F.length):f0 (F++[f]) a=f0 F a:=by
 show(F++[f]).getD a ⟨0,0,1⟩=F.getD a ⟨0,0,1⟩;rw[xAg,xAg,xAm h]
theorem aH8(F:List Ft)(f:Ft):f0 (F++[f]) F.length=f:=by
 show(F++[f]).getD F.length ⟨0,0,1⟩=f;rw[xAg,yAh (yAc _),yBe];rfl
def wM(rs:List Rw)(F:List Ft):Prop:=∀ (i:Nat) (r:Rw),i<F.length->rs[i]? = qq r->∃ g,g=f0 F i/\Nx rs F i r g
theorem aG3{rs:List Rw}(p:Prg rs){F:List Ft}{f:Ft}{i:Nat}{r:Rw}{g:Ft}(hi:i<=F.length)(hr:rs[i]? = qq r)(nx:Nx rs F i r g):Nx rs (F++[f]) i r g:=by
 refine⟨nx.ok,?_,nx.hold⟩;rw[aBJ λ a ha=>by have:=(p.fit i r hr).2 a ha;omega]
 exact nx.rule
theorem aM4{rs:List Rw}(p:Prg rs){F:List Ft}(h:wM rs F){r:Rw}{g:Ft}(hr:rs[F.length]? = qq r)(nx:Nx rs F F.length r g):wM rs (F++[g]):=λ i q hi hq=>by
 by_cases c:i<F.length
 ·obtain⟨g',rfl,h1⟩:=h i q c hq;exact⟨_,(aIj c).symm,aG3 p (by omega) hq h1⟩
 ·have ci:i=F.length:=by simp at hi;omega
  subst ci;rw[hr] at hq;cases hq;exact⟨g,(aH8 F g).symm,aG3 p (yAc _) hr nx⟩
theorem aKX(d:Nat)(rs:List Rw)(o:D)(p:Prg rs)(S:aD):∃ F:List Ft,F.length=rs.length/\Snd rs F/\wM rs F/\cl fns (d+9) 49 [.d (.tuple [.tuple (rs.map Rw.d),o])] S=qq (.d (.tuple (F.map Ft.d)),S):=by
 have i0:aI (.tuple [.tuple (rs.map Rw.d),o]) (.int 0)=qq (.tuple (rs.map Rw.d)):=rfl;have pl:=p.l;obtain⟨aJ,S',p1,F,c3,rfl,rfl,fl,fs,fo⟩:=iH (t:=.one 3) (fi:=lv (aC fns (d+8)) xL) (fb:=xs (aC fns (d+8)) xJ) (env:=[qq (.d (.tuple [.tuple (rs.map Rw.d),o])),qq (.d (.tuple ((rs.map (·.w)).map nD))),qq (.loc S.length),qz]) (S:=S++[qq []]) (S1:=S++[qq []]) (ds:=rs.map Rw.d)
  (λ j env S'=>∃ (F:List Ft) (c3:Option W),env=[qq (.d (.tuple [.tuple (rs.map Rw.d),o])),qq (.d (.tuple ((rs.map (·.w)).map nD))),qq (.loc S.length),c3]/\S'=S++[qq (F.map Ft.d)]/\F.length=j/\Snd rs F/\wM rs F)
  (by
    simp only[evs,xL,i0,eZ]) ⟨[],qz,rfl,rfl,rfl,aGY rs,λ i r hi=>absurd hi (yEd i)⟩ (by
    rintro j dd env S' hd ⟨F,c3,rfl,rfl,fl,fs,fo⟩;rw[yAe] at hd;obtain⟨r,hr,rfl⟩:=Option.map_eq_some_iff.mp hd;subst fl;obtain⟨f1,f2⟩:=p.fit _ r hr;have hj:F.length<rs.length:=(gIm hr).1;have hWl:(rs.map (·.w)).length=rs.length:=yAf ..;obtain⟨g,nx⟩:=aFj p fs hr (yAc _);have o1:=aCd (d+6) r (rs.map (·.w)) (S++[qq (F.map Ft.d)]) λ a ha=>by have:=f2 a ha;omega
    have o2:=aPL (d+6) r F S λ a ha=>f2 a ha
    have rl:=nx.rule (d+1) (S++[qq (F.map Ft.d)]);have ap:eJ (S++[qq (F.map Ft.d)]) (.loc S.length) (.d g.d)=qq (.d .none,S++[qq ((F++[g]).map Ft.d)]):=by
     rw[qG S (F.map Ft.d) _ (by rw[yAf];omega),yCo]
     rfl
    refine⟨_,[qq (.d (.tuple [.tuple (rs.map Rw.d),o])),qq (.d (.tuple ((rs.map (·.w)).map nD))),qq (.loc S.length),qq (.d r.d)],S++[qq ((F++[g]).map Ft.d)],rfl,?_,F++[g],_,rfl,rfl,by simp,aGr fs hr nx nx.ok (λ i h=>h) (λ i h=>h) (yAc _),aM4 p fo hr nx⟩
    simp only[evs,xJ,o1,o2,rl,gQ,ap])
 rw[yAf] at fl;refine⟨F,fl,fs,fo,?_⟩;have p1':dX (.one 3) (lv (aC fns (d+8)) xL) (xs (aC fns (d+8)) xJ) [qq (.d (.tuple [.tuple (rs.map Rw.d),o])),qq (.d (.tuple ((rs.map (·.w)).map nD))),qq (.loc S.length),qz] (S++[qq []])=qq (.nx [qq (.d (.tuple [.tuple (rs.map Rw.d),o])),qq (.d (.tuple ((rs.map (·.w)).map nD))),qq (.loc S.length),c3],S++[qq (F.map Ft.d)]):=p1;have tk1:∀ x,yDx S.length (S++[x])=S:=λ x=>yFf
 rw[aV rfl (d+8) _ S rfl];have hq66:=aBb (d+7) rs o (by omega)
 simp only[gR1,aFN,hq66,fD,p1',oK,gC,fZ,tk1]
theorem aBx:∀ (rs:List Rw) (ws:List Nat),dW ws rs->∀ (j:Nat) (r:Rw),rs[j]? = qq r->gE (ws++(rs.take j).map (·.w)) r
 | [],_,_,j,r,h=>by simp at h
 | q::rs,ws,⟨h1,h2⟩,0,r,h=>by
   cases h;simpa using h1
 | q::rs,ws,⟨h1,h2⟩,j+1,r,h=>by
   have:=aBx rs (ws++[q.w]) h2 j r (by simpa using h)
   simpa using this
theorem aJ3{a n:Nat}(h:a<n):∀ x∈[a],x<n:=λ x hx=>by
 rw[List.mem_singleton.mp hx];exact h
theorem aJo{a b n:Nat}(h:a<n)(h':b<n):∀ x∈[a,b],x<n:=λ x hx=>by
 rcases List.mem_cons.mp hx with rfl | hx
 ·exact h
 ·exact aJ3 h' x hx
theorem aVC{a b c n:Nat}(h:a<n)(h':b<n)(h'':c<n):∀ x∈[a,b,c],x<n:=λ x hx=>by
 rcases List.mem_cons.mp hx with rfl | hx
 ·exact h
 ·exact aJo h' h'' x hx
theorem aJE{n:Nat}:∀ x∈([]:List Nat),x<n:=λ x hx=>by simp at hx
section
variable {ws W : List Nat}{n : Nat}(hw : ∀ a v, ws[a]? = qq v -> g0 W a = v /\ 1 <= v /\ v <= 64 /\ a<n)
include hw
theorem oU{wd:Wd}{w a v:Nat}{args:List Nat}(e:(args.take (bF wd))=[a])(h:ws[a]? = qq v)(k:RwOk ⟨wd,w,args⟩ [v]):RwOk ⟨wd,w,args⟩ (aU ⟨wd,w,args⟩ W)/\∀ x∈args.take (bF wd),x<n:=by
 obtain⟨e1,_,_,e4⟩:=hw a v h;have:aU ⟨wd,w,args⟩ W=[v]:=by
  show(args.take (bF wd)).map (g0 W)=[v];rw[e,yBg,yFw,e1]
 rw[this,e];exact⟨k,aJ3 e4⟩
theorem oX{wd:Wd}{w a b v u:Nat}{args:List Nat}(e:(args.take (bF wd))=[a,b])(h:ws[a]? = qq v)(h':ws[b]? = qq u)(k:RwOk ⟨wd,w,args⟩ [v,u]):RwOk ⟨wd,w,args⟩ (aU ⟨wd,w,args⟩ W)/\∀ x∈args.take (bF wd),x<n:=by
 obtain⟨e1,_,_,e4⟩:=hw a v h;obtain⟨d1,_,_,d4⟩:=hw b u h';have:aU ⟨wd,w,args⟩ W=[v,u]:=by
  show(args.take (bF wd)).map (g0 W)=[v,u];rw[e,yBg,yBg,yFw,e1,d1]
 rw[this,e];exact⟨k,aJo e4 d4⟩
omit hw in
theorem aUf{wd:Wd}{w:Nat}(h:gE ws ⟨wd,w,[]⟩):RwOk ⟨wd,w,[]⟩ (aU ⟨wd,w,[]⟩ W)/\∀ x∈yDx (bF wd) [],x<n:=by
 cases wd
 case «in» => exact⟨.inp h.1 h.2.1,aJE⟩
 all_goals exact h.2.2.elim
theorem aTC{wd:Wd}{w a:Nat}(h:gE ws ⟨wd,w,[a]⟩):RwOk ⟨wd,w,[a]⟩ (aU ⟨wd,w,[a]⟩ W)/\∀ x∈yDx (bF wd) [a],x<n:=by
 cases wd
 case num=>exact⟨.num h.1 h.2.1 h.2.2,aJE⟩
 case not=>exact oU hw rfl h.2.2 (.nt h.1 h.2.1)
 case cut =>
  obtain⟨v,q1,q2⟩:=h.2.2;exact oU hw rfl q1 (.cut h.1 q2 (hw a v q1).2.2.1)
 case wide =>
  obtain⟨v,q1,q2⟩:=h.2.2;exact oU hw rfl q1 (.wide (hw a v q1).2.1 q2 h.2.1)
 case sign =>
  obtain⟨v,q1,q2⟩:=h.2.2;exact oU hw rfl q1 (.sign (hw a v q1).2.1 q2 h.2.1)
 all_goals exact h.2.2.elim
theorem aCU{wd:Wd}(aN:wd=.same\/wd=.less\/wd=.under){w a b:Nat}(q:w=1/\∃ v,ws[a]? = qq v/\ws[b]? = qq v)(e:bF wd=2):RwOk ⟨wd,w,[a,b]⟩ (aU ⟨wd,w,[a,b]⟩ W)/\∀ x∈yDx (bF wd) [a,b],x<n:=by
 obtain⟨rfl,v,q1,q2⟩:=q;exact oX hw (by rw[e];rfl) q1 q2 (.cmp (hw a v q1).2.1 (hw a v q1).2.2.1 aN)
theorem aSS{wd:Wd}{w a b:Nat}(h:gE ws ⟨wd,w,[a,b]⟩):RwOk ⟨wd,w,[a,b]⟩ (aU ⟨wd,w,[a,b]⟩ W)/\∀ x∈yDx (bF wd) [a,b],x<n:=by
 cases wd
 case left=>exact oU hw rfl h.2.2.1 (.sh h.1 h.2.1 (.inl rfl) h.2.2.2)
 case right=>exact oU hw rfl h.2.2.1 (.sh h.1 h.2.1 (.inr (.inl rfl)) h.2.2.2)
 case slide=>exact oU hw rfl h.2.2.1 (.sh h.1 h.2.1 (.inr (.inr rfl)) h.2.2.2)
 case and=>exact oX hw rfl h.2.2.1 h.2.2.2 (.bw h.1 h.2.1 (.inl rfl))
 case or=>exact oX hw rfl h.2.2.1 h.2.2.2 (.bw h.1 h.2.1 (.inr (.inl rfl)))
 case xor=>exact oX hw rfl h.2.2.1 h.2.2.2 (.bw h.1 h.2.1 (.inr (.inr rfl)))
 case add=>exact oX hw rfl h.2.2.1 h.2.2.2 (.sm (s:=.add) h.1 h.2.1)
 case sub=>exact oX hw rfl h.2.2.1 h.2.2.2 (.sm (s:=.sub) h.1 h.2.1)
 case mul=>exact oX hw rfl h.2.2.1 h.2.2.2 (.sm (s:=.mul) h.1 h.2.1)
 case same=>exact aCU hw (.inl rfl) h.2.2 rfl
 case less=>exact aCU hw (.inr (.inl rfl)) h.2.2 rfl
 case under=>exact aCU hw (.inr (.inr rfl)) h.2.2 rfl
 all_goals exact h.2.2.elim
theorem aSM{wd:Wd}{w a b c:Nat}(h:gE ws ⟨wd,w,[a,b,c]⟩):RwOk ⟨wd,w,[a,b,c]⟩ (aU ⟨wd,w,[a,b,c]⟩ W)/\∀ x∈yDx (bF wd) [a,b,c],x<n:=by
 cases wd
 case pick =>
  obtain⟨q1,q2,q3⟩:=h.2.2;obtain⟨e1,_,_,e4⟩:=hw a _ q1;obtain⟨d1,_,_,d4⟩:=hw b _ q2;obtain⟨c1,_,_,c4⟩:=hw c _ q3;have:aU ⟨.pick,w,[a,b,c]⟩ W=[1,w,w]:=by
   show [g0 W a,g0 W b,g0 W c]=[1,w,w];rw[e1,d1,c1]
  rw[this];exact⟨.pick h.1 h.2.1,aVC e4 d4 c4⟩
 all_goals exact h.2.2.elim
omit hw in
theorem aSF{wd:Wd}{w a b c e:Nat}{t:List Nat}(h:gE ws ⟨wd,w,a::b::c::e::t⟩):False:=by
 cases wd
 all_goals exact h.2.2
theorem aPN{r:Rw}(h:gE ws r):RwOk r (aU r W)/\∀ x∈r.args.take (bF r.wd),x<n:=by
 obtain⟨wd,w,args⟩:=r
 match args,h with
 | [],h=>exact aUf h
 | [a],h=>exact aTC hw h
 | [a,b],h=>exact aSS hw h
 | [a,b,c],h=>exact aSM hw h
 | _::_::_::_::_,h=>exact(aSF h).elim
end
theorem aF1:∀ rs:List Rw,∃ is,cK rs is
 | []=>⟨[],rfl⟩
 | r::rs=>by
   obtain⟨is,h⟩:=aF1 rs
   by_cases c:r.wd=.in
   ·refine⟨0::is,?_⟩;rw[cK,if_pos c];exact⟨0,is,rfl,xAe _,h⟩
   ·refine⟨is,?_⟩;rw[cK,if_neg c];exact h
theorem aRN{rs:List Rw}(h:dW [] rs)(hl:rs.length<=100):Prg rs:=by
 have ws:∀ (j:Nat) (r:Rw),rs[j]? = qq r->1<=r.w/\r.w<=64:=λ j r hr=>by
  have:=aBx rs [] h j r hr;exact⟨this.1,this.2.1⟩
 refine⟨hl,λ j r hr=>?_,aF1 rs,ws⟩
 have ok:=aBx rs [] h j r hr;rw[yEw] at ok;refine aPN (n:=j) (λ a v ha=>?_) ok
 have hj:j<rs.length:=(gIm hr).1;have haj:a<j:=by
  have:=(gIm ha).1;rw[yAf,yBz] at this;omega
 rw[yAe,yDn haj] at ha;obtain⟨q,hq,rfl⟩:=Option.map_eq_some_iff.mp ha;obtain⟨w1,w2⟩:=ws a q hq;refine⟨?_,w1,w2,haj⟩;show(rs.map (·.w)).getD a 0=q.w;rw[xAg,yAe,hq];rfl
noncomputable abbrev sT(T:aD)(ns:List Int)(k:Nat)(x:Int):aD:=qq (aH ns k x)::T
theorem rB(T:aD)(ns:List Int)(k:Nat)(x:Int)(h:T.length<=40):aP (qz::T) 0 50 ns k x []=sT T ns k x:=by
 unfold aP;rw[yEx,yEp];simp;omega
theorem aDv(T:aD)(h:T.length<=40):At0 (qz::T) 0 50:=⟨by simp,by decide⟩
section
variable {ns : List Int}{k : Nat}{x : Int}
theorem aTA(T:aD)(hT:T.length<=40)(d w:Nat)(hw:1<=w)(bV:w<=64)(hk:k<=98000):∃ (r k':Nat) (x':Int),r<2^w/\k'<=k+5/\cl fns (d+3) 63 [.loc 0,.d (.int (w:Nat))] (sT T ns k x)=qq (.d (.int (r:Nat)),sT T ns k' x'):=by
 obtain⟨r,k',x',hr,hk',e⟩:=aCz (rs:=[]) (ns:=ns) (k:=k) (x:=x) (aDv T hT) d w hw bV hk;rw[rB T _ _ _ hT,rB T _ _ _ hT] at e;exact⟨r,k',x',hr,hk',e⟩
theorem nG(T:aD)(hT:T.length<=40)(d m:Nat)(hm:0<m)(hm2:m<2^64)(hk:k<=100000):∃ (r:Nat) (x':Int),r<m/\cl fns (d+1) 60 [.loc 0,.d (.int (m:Nat))] (sT T ns k x)=qq (.d (.int (r:Nat)),sT T ns (k+1) x'):=by
 obtain⟨r,x',hr,e⟩:=fQ (rs:=[]) (ns:=ns) (k:=k) (x:=x) (aDv T hT) d m hm hm2 hk;rw[rB T _ _ _ hT,rB T _ _ _ hT] at e;exact⟨r,x',hr,e⟩
theorem aBT(T:aD)(hT:T.length<=40)(d w:Nat)(bV:w<=64)(hk:k<=99000):∃ (r k':Nat) (x':Int),r<2^w/\k'<=k+2/\cl fns (d+2) 61 [.loc 0,.d (.int (w:Nat))] (sT T ns k x)=qq (.d (.int (r:Nat)),sT T ns k' x'):=by
 obtain⟨r,k',x',hr,hk',e⟩:=aFG (rs:=[]) (ns:=ns) (k:=k) (x:=x) (aDv T hT) d w bV hk;rw[rB T _ _ _ hT,rB T _ _ _ hT] at e;exact⟨r,k',x',hr,hk',e⟩
end
section
variable {ns : List Int}{k : Nat}{x : Int}
theorem aL5(d:Nat)(rs:List Rw)(o:D)(p:Prg rs)(hk:k<=50000):∃ (is:List Nat) (k':Nat) (x':Int),cK rs is/\k'<=k+5*rs.length/\cl fns (d+4) 71 [.loc 0,.d (.tuple [.tuple (rs.map Rw.d),o])] [qq (aH ns k x)]=qq (.d (.tuple (is.map nD)),[qq (aH ns k' x')]):=by
 have i0:aI (.tuple [.tuple (rs.map Rw.d),o]) (.int 0)=qq (.tuple (rs.map Rw.d)):=rfl;have pl:=p.l;obtain⟨aJ,S',p1,is,k',x',c3,hk',al,hi,rfl,rfl⟩:=iH (t:=.one 3) (fi:=lv (aC fns (d+3)) wZ) (fb:=xs (aC fns (d+3)) sL) (env:=[qq (.loc 0),qq (.d (.tuple [.tuple (rs.map Rw.d),o])),qq (.loc 1),qz]) (S:=[qq (aH ns k x),qq []]) (S1:=[qq (aH ns k x),qq []]) (ds:=rs.map Rw.d)
  (λ j env S'=>∃ (is:List Nat) (k':Nat) (x':Int) (c3:Option W),k'<=k+5*j/\is.length<=j/\(∀ is',cK (rs.drop j) is'->cK rs (is++is'))/\env=[qq (.loc 0),qq (.d (.tuple [.tuple (rs.map Rw.d),o])),qq (.loc 1),c3]/\S'=[qq (aH ns k' x'),qq (is.map nD)])
  (by
    simp only[evs,wZ,i0,eZ]) ⟨[],k,x,qz,by omega,yAc _,λ is' h=>h,rfl,rfl⟩ (by
    rintro j dd env S' hd ⟨is,k',x',c3,hk',al,hi,rfl,rfl⟩;rw[yAe] at hd;obtain⟨r,hr,rfl⟩:=Option.map_eq_some_iff.mp hd;have hj:j<rs.length:=(gIm hr).1;obtain⟨w1,w2⟩:=p.ws j r hr
    by_cases c:r.wd=.in
    ·have t:bH .Eq (.str r.wd.s) (.str "in")=qq (.bool true):=by rw[c];exact bO .in .in
     obtain⟨n,k2,x2,hn,hk2,e2⟩:=aTA (ns:=ns) (k:=k') (x:=x') [qq (is.map nD)] (by simp) d r.w w1 w2 (by omega)
     have ap:eJ [qq (aH ns k2 x2),qq (is.map nD)] (.loc 1) (.d (.int (n:Nat)))=qq (.d .none,[qq (aH ns k2 x2),qq ((is++[n]).map nD)]):=by
      have:=qG [qq (aH ns k2 x2)] (is.map nD) (.int (n:Nat)) (by rw[yAf];omega)
      rw[yCo];exact this
     refine⟨_,[qq (.loc 0),qq (.d (.tuple [.tuple (rs.map Rw.d),o])),qq (.loc 1),qq (.d r.d)],[qq (aH ns k2 x2),qq ((is++[n]).map nD)],rfl,?_,is++[n],k2,x2,_,by omega,by simp;omega,λ is' h=>?_,rfl,rfl⟩
     ·simp only[gS1,sL,rF,t,fK,e2,gQ,ap]
     ·have:=hi (n::is') (by
       rw[yH hr,cK,if_pos c];exact⟨n,is',rfl,hn,h⟩)
      rw[yBa];exact this
    ·have t:bH .Eq (.str r.wd.s) (.str "in")=qq (.bool false):=by
      have:=bO r.wd .in;rw[dqF c] at this;exact this
     refine⟨_,[qq (.loc 0),qq (.d (.tuple [.tuple (rs.map Rw.d),o])),qq (.loc 1),qq (.d r.d)],[qq (aH ns k' x'),qq (is.map nD)],rfl,?_,is,k',x',_,by omega,by omega,λ is' h=>hi is' (by rw[yH hr,cK,if_neg c];exact h),rfl,rfl⟩
     simp only[evs,sL,rF,t])
 rw[yAf] at hk' hi;have hin:=hi [] (by rw[yFj];rfl)
 rw[yDm] at hin;refine⟨is,k',x',hin,hk',?_⟩;have p1':dX (.one 3) (lv (aC fns (d+3)) wZ) (xs (aC fns (d+3)) sL) [qq (.loc 0),qq (.d (.tuple [.tuple (rs.map Rw.d),o])),qq (.loc 1),qz] [qq (aH ns k x),qq []]=qq (.nx [qq (.loc 0),qq (.d (.tuple [.tuple (rs.map Rw.d),o])),qq (.loc 1),c3],[qq (aH ns k' x'),qq (is.map nD)]):=p1;rw[aV rfl (d+3) _ _ rfl];simp only[gR1,aEr,fD,p1',gC,fZ]
end
theorem aC9{m i:Nat}(h:m.testBit i=true):i<bl m:=by
 by_cases c:i<bl m
 ·exact c
 ·rw[cL (oZ m) (by omega)] at h
  cases h
theorem aPv(i t:Nat):(2^i).testBit t=decide (i=t):=yDw
noncomputable def iM(x w:Nat):Nat:=if x/2^w=0 then x else (x&&&(2^w-1))|||2^(w-1)
theorem aBX{x w t:Nat}(hw:1<=w):(iM x w).testBit t=true ↔ (t<w/\x.testBit t=true)\/(t=w-1/\∃ j,w<=j/\x.testBit j=true):=by
 unfold iM
 split
 ·rename_i h;rw[aBc] at h;constructor
  ·intro z;refine .inl ⟨?_,z⟩
   by_cases c:t<w
   ·exact c
   ·rw[h t (by omega)] at z;cases z
  ·rintro (⟨_,z⟩ | ⟨_,j,h1,h2⟩)
   ·exact z
   ·rw[h j h1] at h2;cases h2
 ·rename_i h;rw[xAo,yAj,cW,aPv];have h':∃ j,w<=j/\x.testBit j=true:=by
   rw[aBc] at h
   by_cases c:∃ j,w<=j/\x.testBit j=true
   ·exact c
   ·refine absurd (λ i hi=>?_) h
    cases q:x.testBit i with
    | false=>rfl
    | true=>exact absurd ⟨i,hi,q⟩ c
  constructor
  ·intro z;simp only[yEe,yBb,decide_eq_true_eq] at z;rcases z with ⟨z1,z2⟩ | z
   ·exact .inl ⟨z2,z1⟩
   ·exact .inr ⟨z.symm,h'⟩
  ·rintro (⟨z1,z2⟩ | ⟨z,_⟩)
   ·simp[z1,z2]
   ·simp[z]
theorem aGD{x w:Nat}(hw:1<=w):iM x w<2^w:=by
 apply yCi;intro i hi;cases q:(iM x w).testBit i with
 | false=>rfl
 | true =>
   rcases (aBX hw).mp q with ⟨h,_⟩ | ⟨h,_⟩<;>omega
structure Fc where
 N:Nat
 O:Nat
 A:Nat
noncomputable instance:Inhabited Fc:=⟨⟨0,0,0⟩⟩
noncomputable def bB(wd:Wd)(w kk:Nat)(ws:List Nat)(fs:List Fc)(m:Nat):List Nat:=
 if m=0 then yAb (bF wd) 0 else
 match wd with
 | .in | .num=>[]
 | .not | .cut=>[m]
 | .xor=>[m,m]
 | .and=>[bY m (bY (fs.getD 1 default).N (fs.getD 0 default).N),bY m (fs.getD 0 default).N]
 | .or=>[bY m (bY (fs.getD 1 default).O (fs.getD 0 default).O),bY m (fs.getD 0 default).O]
 | .add | .sub=>[2^bl m-1,2^bl m-1]
 | .mul=>[2^(bl m-min (bl m) (lr (fs.getD 1 default).N))-1,2^(bl m-min (bl m-min (bl m) (lr (fs.getD 1 default).N)) (lr (fs.getD 0 default).N))-1]
 | .left=>[m/2^kk]
 | .right=>[(m*2^kk)&&&(2^w-1)]
 | .slide=>[iM (m*2^kk) w]
 | .wide=>[m&&&(2^ws.getD 0 0-1)]
 | .sign=>[iM m (ws.getD 0 0)]
 | .same | .less | .under=>[2^ws.getD 0 0-1,2^ws.getD 1 0-1]
 | .pick=>if (fs.getD 0 default).O=1 then [1,m,0] else if (fs.getD 0 default).N=1 then [1,0,m] else [1,m,m]
def aAG(wd:Wd)(w:Nat)(ws:List Nat):Prop:=1<=w/\w<=64/\match wd with
 | .in | .num=>ws=[]
 | .not | .left | .right | .slide=>ws=[w]
 | .and | .or | .xor | .add | .sub | .mul=>ws=[w,w]
 | .cut=>∃ v,ws=[v]/\w<=v/\v<=64
 | .wide | .sign=>∃ v,ws=[v]/\v<=w/\1<=v
 | .same | .less | .under=>w=1/\∃ v,ws=[v,v]/\1<=v/\v<=64
 | .pick=>ws=[1,w,w]
theorem xO(x k t:Nat):(x*2^k).testBit t=(decide (k<=t)&&x.testBit (t-k)):=by rw[Nat.testBit_mul_two_pow]
theorem hB{k v:Nat}(h:k<=v):2^k-1<2^v:=by
 have h1:=xAe k;have h2:(2:Nat)^k<=2^v:=yBd (by decide) h
 omega
theorem tW{m y v:Nat}(h:m<2^v):bY m y<2^v:=xAi (yGg _ _) h
theorem aOL(wd:Wd)(w kk:Nat)(ws:List Nat)(fs:List Fc)(m c v:Nat)(hk:aAG wd w ws)(hm:m<2^w)(hv:ws[c]? = qq v):(bB wd w kk ws fs m).getD c 0<2^v:=by
 by_cases h0:m=0
 ·subst h0;have e:(bB wd w kk ws fs 0).getD c 0=0:=by
   unfold bB;rw[if_pos rfl,xAg,yCr]
   split<;>rfl
  rw[e];exact xAe _
 have hb:bl m<=w:=qZ hm;have e0:bB wd w kk ws fs m=_:=if_neg h0;rw[e0];have one:∀ {a u:Nat},ws=[u]->a<2^u->[a].getD c 0<2^v:=λ {a u} e h=>by
  subst e
  match c,hv with
  | 0,hv=>cases hv;exact h
  | c+1,hv=>simp at hv
 have two:∀ {a b u x:Nat},ws=[u,x]->a<2^u->b<2^x->[a,b].getD c 0<2^v:=λ {a b u x} e h h2=>by
  subst e
  match c,hv with
  | 0,hv=>cases hv;exact h
  | 1,hv=>cases hv;exact h2
  | c+2,hv=>simp at hv
 have three:∀ {a b e u x y:Nat},ws=[u,x,y]->a<2^u->b<2^x->e<2^y->[a,b,e].getD c 0<2^v:=λ {a b e u x y} e' h h2 h3=>by
  subst e'
  match c,hv with
  | 0,hv=>cases hv;exact h
  | 1,hv=>cases hv;exact h2
  | 2,hv=>cases hv;exact h3
  | c+3,hv=>simp at hv
 obtain⟨bS,bV,hk⟩:=hk;cases wd with
 | «in» => rw[hk] at hv;simp at hv
 | num=>rw[hk] at hv;simp at hv
 | not=>exact one hk hm
 | cut =>
   obtain⟨u,e,h1,h2⟩:=hk;exact one e (xAb hm (yBd (by decide) h1))
 | xor=>exact two hk hm hm
 | and=>exact two hk (tW hm) (tW hm)
 | or=>exact two hk (tW hm) (tW hm)
 | add=>exact two hk (hB hb) (hB hb)
 | sub=>exact two hk (hB hb) (hB hb)
 | mul=>exact two hk (hB (by omega)) (hB (by omega))
 | left=>exact one hk (xAi (Nat.div_le_self _ _) hm)
 | right=>exact one hk (Nat.and_lt_two_pow _ (hB (yAc _)))
 | slide=>exact one hk (aGD bS)
 | wide =>
   obtain⟨u,e,h1,h2⟩:=hk;subst e;exact one rfl (Nat.and_lt_two_pow _ (hB (yAc _)))
 | sign =>
   obtain⟨u,e,h1,h2⟩:=hk;subst e;exact one rfl (aGD h2)
 | same =>
   obtain⟨_,u,e,h1,h2⟩:=hk;subst e;exact two rfl (hB (yAc _)) (hB (yAc _))
 | less =>
   obtain⟨_,u,e,h1,h2⟩:=hk;subst e;exact two rfl (hB (yAc _)) (hB (yAc _))
 | under =>
   obtain⟨_,u,e,h1,h2⟩:=hk;subst e;exact two rfl (hB (yAc _)) (hB (yAc _))
 | pick =>
   simp only
   split
   ·exact three hk (by decide) hm (xAe _)
   ·split
    ·exact three hk (by decide) (xAe _) hm
    ·exact three hk (by decide) hm hm
noncomputable def Fc.d(f:Fc):D:=.tuple [.int (f.N:Nat),.int (f.O:Nat),.int (f.A:Nat)]
theorem aAE(f:Fc):aI f.d (.int 0)=qq (.int (f.N:Nat)):=rfl
theorem aAB(f:Fc):aI f.d (.int 1)=qq (.int (f.O:Nat)):=rfl
theorem aIE(a:D):aI (.tuple [a]) (.int 0)=qq a:=rfl
theorem aAu(a b:D):aI (.tuple [a,b]) (.int 0)=qq a:=rfl
theorem aAc(a b:D):aI (.tuple [a,b]) (.int 1)=qq b:=rfl
theorem aS7(a b c:D):aI (.tuple [a,b,c]) (.int 0)=qq a:=rfl
theorem aEY(d a b m:Nat)(S:aD):cl fns (d+1) 11 [.d (.int (a:Nat)),.d (.int (b:Nat)),.d (.int (m:Nat))] S=qq (.d (.tuple [.int ((bY m (bY b a):Nat):Int),.int ((bY m a:Nat):Int)]),S):=by
 rw[aV rfl d _ S rfl];simp only[gR1,aEm,oR,oP]
theorem aNb(i j:Nat):(if ((j:Nat):Int)<((i:Nat):Int) then ((j:Nat):Int) else ((i:Nat):Int))=((min i j:Nat):Int):=by
 by_cases c:j<i
 ·rw[if_pos (by omega),yGo (by omega)]
 ·rw[if_neg (by omega),Nat.min_eq_left (by omega)]
theorem aK9(d a b m:Nat)(hm:m<2^64)(S:aD):cl fns (d+3) 12 [.d (.int (a:Nat)),.d (.int (b:Nat)),.d (.int (m:Nat))] S=qq (.d (.tuple [.int ((2^(bl m-min (bl m) (lr b))-1:Nat):Int),.int ((2^(bl m-min (bl m-min (bl m) (lr b)) (lr a))-1:Nat):Int)]),S):=by
 have hb:=qZ hm;have e1:((bl m:Nat):Int)-((min (bl m) (lr b):Nat):Int)=((bl m-min (bl m) (lr b):Nat):Int):=by omega
 have e2:((bl m:Nat):Int)-((min (bl m-min (bl m) (lr b)) (lr a):Nat):Int)=((bl m-min (bl m-min (bl m) (lr b)) (lr a):Nat):Int):=by omega
 rw[aV rfl (d+2) _ S rfl];simp only[evs,eX,aFh,yV (d+1),aCL d,pG,aNb,cR,e1,e2,cP (d+1) (bl m-min (bl m) (lr b)) (by omega),cP (d+1) (bl m-min (bl m-min (bl m) (lr b)) (lr a)) (by omega)]
theorem aFM(d y w:Nat)(hw:1<=w)(bV:w<=1000)(S:aD):cl fns (d+2) 13 [.d (.int (y:Nat)),.d (.int (w:Nat))] S=qq (.d (.int ((iM y w:Nat):Int)),S):=by
 have e1:(w:Int)-1=((w-1:Nat):Int):=by omega
 rw[aV rfl (d+1) _ S rfl];unfold iM
 by_cases c:y/2^w=0
 ·have d1:(y/2^w==0)=true:=by rw[beq_iff_eq];exact c
  rw[if_pos c];simp only[gR1,aCv,mQ,bP,eV,d1]
 ·have d1:(y/2^w==0)=false:=by rw[beq_eq_false_iff_ne];exact c
  rw[if_neg c];have hq67:=cP d w (by omega)
  have hq68:=fO (show w-1<=100000 by omega)
  simp only[gR1,aCv,mQ,bP,eV,d1,hq67,dG,cR,e1,hq68,eP]
theorem aPq(d w kk m:Nat)(S:aD):cl fns (d+3) 14 [.d (.str "left"),.d (.int (w:Nat)),.d (.int (kk:Nat)),.d (.int (m:Nat))] S=qq (.d (.int ((m/2^kk:Nat):Int)),S):=by
 have c1:bH .Eq (.str "left") (.str "left")=qq (.bool true):=bO .left .left;rw[aV rfl (d+2) _ S rfl];simp only[gR1,xN,c1,mQ]
theorem aMV(d w kk m:Nat)(hw:w<=64)(hk:kk<=64)(hm:m<2^64)(S:aD):cl fns (d+3) 14 [.d (.str "right"),.d (.int (w:Nat)),.d (.int (kk:Nat)),.d (.int (m:Nat))] S=qq (.d (.int (((m*2^kk)&&&(2^w-1):Nat):Int)),S):=by
 have c1:bH .Eq (.str "right") (.str "left")=qq (.bool false):=bO .right .left;have c2:bH .Eq (.str "right") (.str "right")=qq (.bool true):=bO .right .right;rw[aV rfl (d+2) _ S rfl];have hq69:=qN hm (show 64+kk<=100000 by omega)
 have hq70:=cP (d+1) w (by omega)
 simp only[gR1,xN,c1,c2,hq69,hq70,dG]
theorem aNl(d w kk m:Nat)(bS:1<=w)(hw:w<=64)(hk:kk<=64)(hm:m<2^64)(S:aD):cl fns (d+3) 14 [.d (.str "slide"),.d (.int (w:Nat)),.d (.int (kk:Nat)),.d (.int (m:Nat))] S=qq (.d (.int ((iM (m*2^kk) w:Nat):Int)),S):=by
 have c1:bH .Eq (.str "slide") (.str "left")=qq (.bool false):=bO .slide .left;have c2:bH .Eq (.str "slide") (.str "right")=qq (.bool false):=bO .slide .right;rw[aV rfl (d+2) _ S rfl];have hq71:=qN hm (show 64+kk<=100000 by omega)
 simp only[gR1,xN,c1,c2,hq71,aFM d _ w bS (by omega)]
theorem aKP(d:Nat)(f:Fc)(m:Nat)(S:aD):cl fns (d+1) 15 [.d f.d,.d (.int (m:Nat))] S=qq (.d (.tuple ((if f.O=1 then [1,m,0] else if f.N=1 then [1,0,m] else [1,m,m]).map nD)),S):=by
 rw[aV rfl d _ S rfl]
 by_cases c1:f.O=1
 ·have d1:(f.O==1)=true:=by rw[beq_iff_eq];exact c1
  rw[if_pos c1];simp only[gR1,yB,aAB,bP,mM,d1]
 ·have d1:(f.O==1)=false:=by rw[beq_eq_false_iff_ne];exact c1
  rw[if_neg c1]
  by_cases c2:f.N=1
  ·have d2:(f.N==1)=true:=by rw[beq_iff_eq];exact c2
   rw[if_pos c2];simp only[gR1,yB,aAB,aAE,bP,mM,d1,d2]
  ·have d2:(f.N==1)=false:=by rw[beq_eq_false_iff_ne];exact c2
   rw[if_neg c2];simp only[gR1,yB,aAB,aAE,bP,mM,d1,d2]
def qU(wd:Wd)(args:List Nat)(kk:Nat):Prop:=match wd with
 | .in=>args=[]
 | .num=>∃ n,args=[n]
 | .not | .cut | .wide | .sign=>∃ a,args=[a]
 | .left | .right | .slide=>∃ a,args=[a,kk]/\kk<64
 | .pick=>∃ a b c,args=[a,b,c]
 | _=>∃ a b,args=[a,b]
theorem aBU{wd:Wd}{args:List Nat}{kk:Nat}(h:qU wd args kk):(args.take (bF wd)).length=bF wd:=by
 cases wd<;>first
  | (obtain rfl:=h;rfl)
  | (obtain⟨a,b,c,rfl⟩:=h;rfl)
  | (obtain⟨a,b,rfl⟩:=h;rfl)
  | (obtain⟨a,rfl,_⟩:=h;rfl)
  | (obtain⟨a,rfl⟩:=h;rfl)
theorem aTi(a:Wd):bH .In (.str a.s) (.tuple [.str "add",.str "sub"])=qq (.bool (decide (a=.add\/a=.sub))):=by cases a<;>rfl
theorem aTh{wd:Wd}{w a k:Nat}:aI (Rw.mk wd w [a,k]).d (.int 3)=qq (.int (k:Nat)):=rfl
theorem aAy{α:Type}{l:List α}(h:l.length=1):∃ a,l=[a]:=List.length_eq_one_iff.mp h
theorem aDs{α:Type}{l:List α}(h:l.length=2):∃ a b,l=[a,b]:=by
 match l,h with
 | [a,b],_=>exact⟨a,b,rfl⟩
theorem aVK{α:Type}{l:List α}(h:l.length=3):∃ a b c,l=[a,b,c]:=by
 match l,h with
 | [a,b,c],_=>exact⟨a,b,c,rfl⟩
noncomputable abbrev eA(R W G:D)(m:Nat)(x:Wd):aW:=[qq (.d R),qq (.d W),qq (.d G),qq (.d (.int (m:Nat))),qq (.d (.str x.s))]
noncomputable def aK:Nat->Sx
 | 0=>aT aEu
 | k+1=>aT (aK k)
section
variable (C : Calls)(R W G : D)(m : Nat)(S : aD)(x : Wd)
theorem aDm:tv C (.cmp .Eq (.var 4) (.str "and")) (eA R W G m x) S=qq (decide (x=.and),S):=cQ rfl (bO x .and)
theorem aJt:tv C (.cmp .Eq (.var 4) (.str "or")) (eA R W G m x) S=qq (decide (x=.or),S):=cQ rfl (bO x .or)
theorem aJY:tv C (.cmp .In (.var 4) (.tup (.cons (.str "add") (.cons (.str "sub") .nil)))) (eA R W G m x) S=qq (decide (x=.add\/x=.sub),S):=jR rfl rfl (aTi x)
theorem aJ1:tv C (.cmp .Eq (.var 4) (.str "mul")) (eA R W G m x) S=qq (decide (x=.mul),S):=cQ rfl (bO x .mul)
theorem aJz:tv C (.cmp .In (.var 4) (.con "SHIFTS" qI)) (eA R W G m x) S=qq (decide (x=.left\/x=.right\/x=.slide),S):=jR rfl rfl (aB0 x)
theorem aDF:tv C (.cmp .Eq (.var 4) (.str "wide")) (eA R W G m x) S=qq (decide (x=.wide),S):=cQ rfl (bO x .wide)
theorem aJh:tv C (.cmp .Eq (.var 4) (.str "sign")) (eA R W G m x) S=qq (decide (x=.sign),S):=cQ rfl (bO x .sign)
theorem aDx:tv C (.cmp .In (.var 4) (.con "COMPARES" qD)) (eA R W G m x) S=qq (decide (x=.same\/x=.less\/x=.under),S):=jR rfl rfl (zI x)
theorem aJQ:tv C (.cmp .Eq (.var 4) (.str "pick")) (eA R W G m x) S=qq (decide (x=.pick),S):=cQ rfl (bO x .pick)
variable {C R W G m S}{r : Option (Fl×aD)}
theorem jE{k:Nat}{c:E}{t:Sx}{b:Bool}(e:aK k=.seq (.ifs c t .skip) (aK (k+1)))(h:tv C c (eA R W G m x) S=qq (b,S))(hb:b=false)(g:xs C (aK (k+1)) (eA R W G m x) S=r):xs C (aK k) (eA R W G m x) S=r:=by
 subst hb;rw[e];exact aS h g
theorem aJx(h:(decide (x=.and)||decide (x=.or))=false)(g:xs C (aK 2) (eA R W G m x) S=r):xs C (aK 0) (eA R W G m x) S=r:=by
 obtain⟨h1,h2⟩:=Bool.or_eq_false_iff.mp h;exact jE x rfl (aDm C R W G m S x) h1 (jE x rfl (aJt C R W G m S x) h2 g)
theorem aJA(h:(decide (x=.and)||decide (x=.or))=false)(h2:decide (x=.add\/x=.sub)=false)(g:xs C (aK 3) (eA R W G m x) S=r):xs C (aK 0) (eA R W G m x) S=r:=aJx x h (jE x rfl (aJY C R W G m S x) h2 g)
theorem aJX(h:(decide (x=.and)||decide (x=.or))=false)(h2:(decide (x=.add\/x=.sub)||decide (x=.mul))=false)(g:xs C (aK 4) (eA R W G m x) S=r):xs C (aK 0) (eA R W G m x) S=r:=by
 obtain⟨h3,h4⟩:=Bool.or_eq_false_iff.mp h2;exact aJA x h h3 (jE x rfl (aJ1 C R W G m S x) h4 g)
theorem aDl(h:(decide (x=.and)||decide (x=.or))=false)(h2:(decide (x=.add\/x=.sub)||decide (x=.mul))=false)(h5:decide (x=.left\/x=.right\/x=.slide)=false)(g:xs C (aK 5) (eA R W G m x) S=r):xs C (aK 0) (eA R W G m x) S=r:=aJX x h h2 (jE x rfl (aJz C R W G m S x) h5 g)
theorem aDw(h:(decide (x=.and)||decide (x=.or))=false)(h2:(decide (x=.add\/x=.sub)||decide (x=.mul))=false)(h5:decide (x=.left\/x=.right\/x=.slide)=false)(h6:(decide (x=.wide)||decide (x=.sign))=false)(g:xs C (aK 7) (eA R W G m x) S=r):xs C (aK 0) (eA R W G m x) S=r:=by
 obtain⟨h3,h4⟩:=Bool.or_eq_false_iff.mp h6;exact aDl x h h2 h5 (jE x rfl (aDF C R W G m S x) h3 (jE x rfl (aJh C R W G m S x) h4 g))
theorem aUQ(h:(decide (x=.and)||decide (x=.or))=false)(h2:(decide (x=.add\/x=.sub)||decide (x=.mul))=false)(h5:decide (x=.left\/x=.right\/x=.slide)=false)(h6:(decide (x=.wide)||decide (x=.sign))=false)(h8:(decide (x=.same\/x=.less\/x=.under)||decide (x=.pick))=false)(g:xs C (aK 9) (eA R W G m x) S=r):xs C (aK 0) (eA R W G m x) S=r:=by
 obtain⟨h3,h4⟩:=Bool.or_eq_false_iff.mp h8;exact aDw x h h2 h5 h6 (jE x rfl (aDx C R W G m S x) h3 (jE x rfl (aJQ C R W G m S x) h4 g))
end
section
variable (d w kk m : Nat)(ws : List Nat)(R W : D)(S : aD)(h0 : m≠0)
include h0
theorem aPH(f g:Fc):xs (aC fns (d+3)) (aK 0) (eA R W (.tuple ([f,g].map Fc.d)) m .and) S=qq (.rt (.d (.tuple ((bB .and w kk ws [f,g] m).map nD))),S):=by
 rw[show bB .and w kk ws [f,g] m=_ from if_neg h0]
 refine cF (aDm _ _ _ _ _ _ .and) (bQ ?_);simp only[gS0,aAu,aAc,aAE,aEY (d+2),nD,yBm,yBr]
theorem aQK(f g:Fc):xs (aC fns (d+3)) (aK 0) (eA R W (.tuple ([f,g].map Fc.d)) m .or) S=qq (.rt (.d (.tuple ((bB .or w kk ws [f,g] m).map nD))),S):=by
 rw[show bB .or w kk ws [f,g] m=_ from if_neg h0]
 refine jE .or rfl (aDm _ _ _ _ _ _ .or) rfl (cF (aJt _ _ _ _ _ _ .or) (bQ ?_));simp only[gS0,aAu,aAc,aAB,aEY (d+2),nD,yBm,yBr]
theorem aG7(x:Wd)(hx:decide (x=.add\/x=.sub)=true)(h1:(decide (x=.and)||decide (x=.or))=false)(G:D)(bm:m<2^10000):xs (aC fns (d+3)) (aK 0) (eA R W G m x) S=qq (.rt (.d (.tuple ([2^bl m-1,2^bl m-1].map nD))),S):=by
 have t:=aJY (aC fns (d+3)) R W G m S x;rw[hx] at t;refine aJx x h1 (cF t (bQ ?_));simp only[gS0,aFV (d+1) m _ bm,nD]
theorem aOY(f g:Fc)(hm:m<2^64):xs (aC fns (d+3)) (aK 0) (eA R W (.tuple ([f,g].map Fc.d)) m .mul) S=qq (.rt (.d (.tuple ((bB .mul w kk ws [f,g] m).map nD))),S):=by
 rw[show bB .mul w kk ws [f,g] m=_ from if_neg h0]
 refine aJA .mul rfl rfl (cF (aJ1 _ _ _ _ _ _ .mul) (bQ ?_));simp only[evs,aAu,aAc,aAE,aK9 d f.N g.N m hm,nD,yBm,yBr]
theorem aCQ(x:Wd)(hx:decide (x=.left\/x=.right\/x=.slide)=true)(h1:(decide (x=.and)||decide (x=.or))=false)(h2:(decide (x=.add\/x=.sub)||decide (x=.mul))=false)(a:Nat)(G:D){z:Nat}(sl:cl fns (d+3) 14 [.d (.str x.s),.d (.int (w:Nat)),.d (.int (kk:Nat)),.d (.int (m:Nat))] S=qq (.d (.int (z:Nat)),S)):xs (aC fns (d+3)) (aK 0) (eA (Rw.mk x w [a,kk]).d W G m x) S=qq (.rt (.d (.tuple ([z].map nD))),S):=by
 have t:=aJz (aC fns (d+3)) (Rw.mk x w [a,kk]).d W G m S x;rw[hx] at t;have r1:aI (Rw.mk x w [a,kk]).d (.int 1)=qq (.int (w:Nat)):=fK _;refine aJX x h1 h2 (cF t (bQ ?_));simp only[evs,r1,aTh,sl,nD]
theorem aNp(v:Nat)(hv:v<=64)(G:D):xs (aC fns (d+3)) (aK 0) (eA R (.tuple ([v].map nD)) G m .wide) S=qq (.rt (.d (.tuple ([m&&&(2^v-1)].map nD))),S):=by
 refine aDl .wide rfl rfl rfl (cF (aDF _ _ _ _ _ _ .wide) (bQ ?_));have hq72:=cP (d+2) v (by omega)
 simp only[gS0,nD,aIE,hq72,dG]
theorem aMZ(v:Nat)(hv1:1<=v)(hv:v<=64)(G:D):xs (aC fns (d+3)) (aK 0) (eA R (.tuple ([v].map nD)) G m .sign) S=qq (.rt (.d (.tuple ([iM m v].map nD))),S):=by
 refine aDl .sign rfl rfl rfl (jE .sign rfl (aDF _ _ _ _ _ _ .sign) rfl (cF (aJh _ _ _ _ _ _ .sign) (bQ ?_)));have hq73:=aFM (d+1) m v hv1 (by omega)
 simp only[gS0,nD,aIE,hq73]
theorem aCp(x:Wd)(hx:decide (x=.same\/x=.less\/x=.under)=true)(h1:(decide (x=.and)||decide (x=.or))=false)(h2:(decide (x=.add\/x=.sub)||decide (x=.mul))=false)(h5:decide (x=.left\/x=.right\/x=.slide)=false)(h6:(decide (x=.wide)||decide (x=.sign))=false)(v:Nat)(hv:v<=64)(G:D):xs (aC fns (d+3)) (aK 0) (eA R (.tuple ([v,v].map nD)) G m x) S=qq (.rt (.d (.tuple ([2^v-1,2^v-1].map nD))),S):=by
 have t:=aDx (aC fns (d+3)) R (.tuple ([v,v].map nD)) G m S x;rw[hx] at t;refine aDw x h1 h2 h5 h6 (cF t (bQ ?_));have hq74:=cP (d+2) v (by omega)
 simp only[gS0,nD,aAu,aAc,hq74]
theorem aNw(f g h:Fc):xs (aC fns (d+3)) (aK 0) (eA R W (.tuple ([f,g,h].map Fc.d)) m .pick) S=qq (.rt (.d (.tuple ((bB .pick w kk ws [f,g,h] m).map nD))),S):=by
 rw[show bB .pick w kk ws [f,g,h] m=_ from if_neg h0]
 refine aDw .pick rfl rfl rfl rfl (jE .pick rfl (aDx _ _ _ _ _ _ .pick) rfl (cF (aJQ _ _ _ _ _ _ .pick) (bQ ?_)));simp only[gS0,aS7,aKP (d+2),yBm]
omit h0 in
theorem aSA(n:Nat)(h:n<=10):cG .Mult (.tuple [.int (m:Nat)]) (.int ((n:Nat):Int))=qq (.tuple ((yAb n m).map nD)):=by
 rw[aBI (k:=n) (by omega),yEa]
 rfl
theorem tO(x:Wd)(args:List Nat)(ha:qU x args kk)(h1:(decide (x=.and)||decide (x=.or))=false)(h2:(decide (x=.add\/x=.sub)||decide (x=.mul))=false)(h5:decide (x=.left\/x=.right\/x=.slide)=false)(h6:(decide (x=.wide)||decide (x=.sign))=false)(h8:(decide (x=.same\/x=.less\/x=.under)||decide (x=.pick))=false)(G:D):xs (aC fns (d+3)) (aK 0) (eA (Rw.mk x w args).d W G m x) S=qq (.rt (.d (.tuple ((yAb (bF x) m).map nD))),S):=by
 have op:cl fns (d+3) 7 [.d (Rw.mk x w args).d] S=qq (.d (.tuple ((args.take (bF x)).map nD)),S):=qC (d+2) ⟨x,w,args⟩ S;have lop:iN [.tuple ((args.take (bF x)).map nD)]=qq (.int ((bF x:Nat):Int)):=by
  simp only[eB,eD,yAf,aBU ha]
 have rp:=aSA m (bF x) (by cases x<;>decide)
 refine aUQ x h1 h2 h5 h6 h8 (bQ ?_);simp only[gS0,op,lop,rp]
end
theorem aLI(d:Nat)(wd:Wd)(w:Nat)(args:List Nat)(kk:Nat)(ws:List Nat)(fs:List Fc)(m:Nat)(hk:aAG wd w ws)(hf:fs.length=bF wd)(ha:qU wd args kk)(hm:m<2^w)(h0:m≠0)(S:aD) :
 cl fns (d+4) 16 [.d (Rw.mk wd w args).d,.d (.tuple (ws.map nD)),.d (.tuple (fs.map Fc.d)),.d (.int (m:Nat))] S=qq (.d (.tuple ((bB wd w kk ws fs m).map nD)),S):=by
 have hm64:m<2^64:=xAb hm (yBd (by decide) hk.2.1)
 have r0:aI (Rw.mk wd w args).d (.int 0)=qq (.str wd.s):=rF _;have bm:m<2^10000:=aHQ hm64 (by decide)
 refine cM rfl (d+3) rfl rfl (yAi) (eC (S1:=S) (w:=.d (.str wd.s)) (aJ:=eA (Rw.mk wd w args).d (.tuple (ws.map nD)) (.tuple (fs.map Fc.d)) m wd) (by simp only[evs,r0]) rfl ?_)
 show xs (aC fns (d+3)) (aK 0) (eA (Rw.mk wd w args).d (.tuple (ws.map nD)) (.tuple (fs.map Fc.d)) m wd) S=_;clear r0;obtain⟨bS,bV,hk⟩:=hk;have e0:bB wd w kk ws fs m=_:=if_neg h0;cases wd
 case and=>obtain⟨f,g,rfl⟩:=aDs hf;exact aPH d w kk m ws _ _ S h0 f g
 case or=>obtain⟨f,g,rfl⟩:=aDs hf;exact aQK d w kk m ws _ _ S h0 f g
 case add=>rw[e0];exact aG7 d m _ _ S h0 .add rfl rfl _ bm
 case sub=>rw[e0];exact aG7 d m _ _ S h0 .sub rfl rfl _ bm
 case mul=>obtain⟨f,g,rfl⟩:=aDs hf;exact aOY d w kk m ws _ _ S h0 f g hm64
 case left =>
  obtain⟨a,rfl,hkk⟩:=ha;rw[e0];exact aCQ d w kk m _ S h0 .left rfl rfl rfl a _ (aPq d w kk m S)
 case right =>
  obtain⟨a,rfl,hkk⟩:=ha;rw[e0];exact aCQ d w kk m _ S h0 .right rfl rfl rfl a _ (aMV d w kk m bV (by omega) hm64 S)
 case slide =>
  obtain⟨a,rfl,hkk⟩:=ha;rw[e0];exact aCQ d w kk m _ S h0 .slide rfl rfl rfl a _ (aNl d w kk m bS bV (by omega) hm64 S)
 case wide =>
  obtain⟨v,rfl,hv1,hv2⟩:=hk;rw[e0];exact aNp d m _ S h0 v (by omega) _
 case sign =>
  obtain⟨v,rfl,hv1,hv2⟩:=hk;rw[e0];exact aMZ d m _ S h0 v (by omega) (by omega) _
 case same =>
  obtain⟨_,v,rfl,hv1,hv2⟩:=hk;rw[e0];exact aCp d m _ S h0 .same rfl rfl rfl rfl rfl v (by omega) _
 case less =>
  obtain⟨_,v,rfl,hv1,hv2⟩:=hk;rw[e0];exact aCp d m _ S h0 .less rfl rfl rfl rfl rfl v (by omega) _
 case under =>
  obtain⟨_,v,rfl,hv1,hv2⟩:=hk;rw[e0];exact aCp d m _ S h0 .under rfl rfl rfl rfl rfl v (by omega) _
 case pick=>obtain⟨f,g,h,rfl⟩:=aVK hf;exact aNw d w kk m ws _ _ S h0 f g h
 case «in» => rw[e0];exact tO d w kk m _ S h0 .in args ha rfl rfl rfl rfl rfl _
 case num=>rw[e0];exact tO d w kk m _ S h0 .num args ha rfl rfl rfl rfl rfl _
 case not=>rw[e0];exact tO d w kk m _ S h0 .not args ha rfl rfl rfl rfl rfl _
 case cut=>rw[e0];exact tO d w kk m _ S h0 .cut args ha rfl rfl rfl rfl rfl _
 case xor=>rw[e0];exact tO d w kk m _ S h0 .xor args ha rfl rfl rfl rfl rfl _
theorem aNi(n:Nat)(h:n<=10):cG .Mult (.tuple [.int 0]) (.int ((n:Nat):Int))=qq (.tuple ((yAb n 0).map nD)):=by
 rw[aBI (k:=n) (by omega),yEa]
 rfl
theorem aHg(d:Nat)(wd:Wd)(w:Nat)(args:List Nat)(kk:Nat)(ws:List Nat)(fs:List Fc)(m:Nat)(hk:aAG wd w ws)(hf:fs.length=bF wd)(ha:qU wd args kk)(hm:m<2^w)(S:aD) :
 cl fns (d+5) 17 [.d (Rw.mk wd w args).d,.d (.tuple (ws.map nD)),.d (.tuple (fs.map Fc.d)),.d (.int (m:Nat))] S=qq (.d (.tuple ((bB wd w kk ws fs m).map nD)),S):=by
 rw[aV rfl (d+4) _ S rfl]
 by_cases h0:m=0
 ·have d0:(m==0)=true:=by rw[beq_iff_eq];exact h0
  have e0:bB wd w kk ws fs m=yAb (bF wd) 0:=if_pos h0;have lop:iN [.tuple ((args.take (bF wd)).map nD)]=qq (.int ((bF wd:Nat):Int)):=by
   simp only[eB,eD,yAf,aBU ha]
  have op:cl fns (d+4) 7 [.d (Rw.mk wd w args).d] S=qq (.d (.tuple ((args.take (bF wd)).map nD)),S):=qC (d+3) ⟨wd,w,args⟩ S;rw[e0];have hq75:=aNi (bF wd) (by cases wd<;>decide)
  simp only[gR1,aC5,bP,eV,d0,op,lop,hq75]
 ·have d0:(m==0)=false:=by rw[beq_eq_false_iff_ne];exact h0
  simp only[gR1,aC5,bP,eV,d0,aLI d wd w args kk ws fs m hk hf ha hm h0]
noncomputable def pT:Sx:=aT (aT (aT gL))
noncomputable def pR(k:Nat):Sx:=match k with
 | 0=>bI gL
 | 1=>bI (aT gL)
 | 2=>bI (aT (aT gL))
 | 4=>bI pT
 | 5=>bI (aT pT)
 | 6=>bI (aT (aT pT))
 | 7=>bI (aT (aT (aT pT)))
 | _=>bI (aT (aT (aT (aT pT))))
theorem aMK:pT=.seq (pR 4) (.seq (pR 5) (.seq (pR 6) (.seq (pR 7) (.seq (pR 8) .skip)))):=rfl
theorem aNV:gL=.seq (pR 0) (.seq (pR 1) (.seq (pR 2) pT)):=rfl
theorem aM0{S:aD}{p:Nat}(h:At S 0 p)(ns:List Int)(k:Nat)(x:Int)(rs:List Rw):∃ T,aP S 0 p ns k x rs=qq (aH ns k x)::T:=by
 have hs:=h.toAt0.state (ns:=ns) (k:=k) (x:=x) (rs:=rs);rcases e:aP S 0 p ns k x rs with _ | ⟨a,T⟩
 ·rw[e] at hs;cases hs
 ·rw[e] at hs;cases hs;exact⟨T,rfl⟩
theorem zH{S:aD}{p:Nat}(h:At S 0 p)(ns:List Int)(k:Nat)(x:Int)(rs:List Rw)(T:aD):aP (S++T) 0 p ns k x rs=aP S 0 p ns k x rs++T:=by
 unfold aP;rw[List.set_append_left _ _ h.hn,List.set_append_left _ _ (by rw[yBc];exact h.hp)]
theorem At.app{S:aD}{p:Nat}(h:At S 0 p)(T:aD):At (S++T) 0 p:=⟨⟨by rw[xAn];have:=h.hn;omega,h.ne⟩,by rw[xAn];have:=h.hp;omega⟩
theorem aMR{l:List Nat}{q n:Nat}(h:∀ o∈l,o<n)(hq:q<n):∀ o∈l++[q],o<n:=λ o ho=>by
 rcases List.mem_append.mp ho with ho | ho
 ·exact h o ho
 ·rw[yBu] at ho;subst ho;exact hq
theorem aPc{a m:Nat}(h:a=m+1)(h2:m<=7):a<=8:=by omega
theorem aI2{S:aD}{p:Nat}(h:At S 0 p){ns:List Int}{k:Nat}{x:Int}{rs:List Rw}(d most q:Nat)(hm:most<=30)(ok:dW [] rs)(l0:0<rs.length)(l1:rs.length<=40)(hk:k<=50000) :
 ∃ (aM:List Rw) (aE:List Nat) (k':Nat) (x':Int) (T:aD),dW [] aM/\0<aM.length/\aM.length<=40/\k'<=k+700/\(∀ o∈aE,o<aM.length)/\aE.length<=8/\xs (aC fns (d+5)) pT [qq (.loc 0),qq (.d (.int (most:Nat))),qq (.d (.int (q:Nat))),qq (.loc p),qz,qz,qz] (aP S 0 p ns k x rs)=qq (.rt (.d (.tuple [.tuple (aM.map Rw.d),.tuple (aE.map nD)])),qq (aH ns k' x')::T):=by
 obtain⟨env1,S1,p1,a4,aM,k1,x1,ok1,l0',l1',hk1,rfl,rfl⟩:=aHZ (t:=.one 4) (fi:=lv (aC fns (d+5)) wY) (fb:=xs (aC fns (d+5)) wX) (env:=[qq (.loc 0),qq (.d (.int (most:Nat))),qq (.d (.int (q:Nat))),qq (.loc p),qz,qz,qz]) (S:=aP S 0 p ns k x rs)
  (λ j env S'=>∃ (a4:Option W) (rs:List Rw) (k':Nat) (x:Int),dW [] rs/\0<rs.length/\rs.length<=40/\k'<=k+20*j/\env=[qq (.loc 0),qq (.d (.int (most:Nat))),qq (.d (.int (q:Nat))),qq (.loc p),a4,qz,qz]/\S'=aP S 0 p ns k' x rs)
  (show lv (aC fns (d+5)) wY _ _=qq ((yBk most).map (λ k=>yAp (k:Nat)),_) by
    simp only[wY,nP,mV,mP,mU,nC,nF,mS];exact qB rfl (by omega))
  ⟨qz,rs,k,x,ok,l0,l1,by omega,rfl,rfl⟩ (by
   rintro j dd env S' hj ⟨a4,rs,k',x,ok,l0,l1,hk',rfl,rfl⟩;have hj':j<most:=by simpa using hj
   refine⟨[qq (.loc 0),qq (.d (.int (most:Nat))),qq (.d (.int (q:Nat))),qq (.loc p),qq (.d dd),qz,qz],[qq (.loc 0),qq (.d (.int (most:Nat))),qq (.d (.int (q:Nat))),qq (.loc p),qq (.d dd),qz,qz],?_⟩
   by_cases c:rs.length<37
   ·have d1:decide (((rs.length:Nat):Int)<37)=true:=dqT (by omega)
    obtain⟨k2,x',aM,ok',g1,g2,hk2,e⟩:=GP.row_ok (ns:=ns) (k:=k') (x:=x) h d ok l0 (by omega) (by omega)
    refine⟨_,rfl,?_,qq (.d dd),aM,k2,x',ok',by omega,by omega,by omega,rfl,rfl⟩
    simp only[gS1,wX,h.rows,eB,eD,GP.rows_len,eO,d1,e]
   ·have d1:decide (((rs.length:Nat):Int)<37)=false:=dqF (by omega)
    refine⟨_,rfl,?_,qq (.d dd),rs,k',x,ok,l0,l1,by omega,rfl,rfl⟩
    simp only[evs,wX,h.rows,eB,eD,GP.rows_len,eO,d1])
 have hk2:k1<=k+600:=by simp at hk1;omega
 obtain⟨q2,x2,hq2,e2⟩:=fQ (ns:=ns) (k:=k1) (x:=x1) (rs:=aM) h.toAt0 (d+4) aM.length l0' (by omega) (by omega)
 obtain⟨q3,x3,hq3,e3⟩:=gW (ns:=ns) (k:=k1+1) (x:=x2) (rs:=aM) h.toAt0 (d+4) 4 (i:=4) rfl (by decide) (by decide) (by omega)
 obtain⟨b3,hb3,eb3⟩:=b2i ((q3:Int)==1);obtain⟨y,hy,ey⟩:=at2 (.int (((aM.length:Nat):Int)-1)) (.int (q2:Nat)) hb3;obtain⟨y0,hy0,rfl⟩:∃ y0:Nat,y0<aM.length/\y=nD y0:=by
  rcases hy with rfl | rfl
  ·have e9:((aM.length:Nat):Int)-1=((aM.length-1:Nat):Int):=by omega
   exact⟨aM.length-1,by omega,by rw[e9];rfl⟩
  ·exact⟨q2,hq2,rfl⟩
 have p5:xs (aC fns (d+5)) (pR 5) [qq (.loc 0),qq (.d (.int (most:Nat))),qq (.d (.int (q:Nat))),qq (.loc p),a4,qz,qz] (aP S 0 p ns k1 x1 aM)=qq (.nx [qq (.loc 0),qq (.d (.int (most:Nat))),qq (.d (.int (q:Nat))),qq (.loc p),a4,qq (.d (.list [.int (((aM.length:Nat):Int)-1),.int (q2:Nat)])),qz],aP S 0 p ns (k1+1) x2 aM):=by
  simp only[gS5,pR,pT,aT,bI,gL,h.rows,eB,eD,GP.rows_len,cR,e2]
 have p6:xs (aC fns (d+5)) (pR 6) [qq (.loc 0),qq (.d (.int (most:Nat))),qq (.d (.int (q:Nat))),qq (.loc p),a4,qq (.d (.list [.int (((aM.length:Nat):Int)-1),.int (q2:Nat)])),qz] (aP S 0 p ns (k1+1) x2 aM)=qq (.nx [qq (.loc 0),qq (.d (.int (most:Nat))),qq (.d (.int (q:Nat))),qq (.loc p),a4,qq (.d (.list [.int (((aM.length:Nat):Int)-1),.int (q2:Nat)])),qq (.loc S.length)],aP (S++[qq [nD y0]]) 0 p ns (k1+2) x3 aM):=by
  have hl:(aP S 0 p ns (k1+1+1) x3 aM).length=S.length:=h.toAt0.len;rw[zH h];simp only[gS5,pR,pT,aT,bI,gL,fD,e3,bP,aHK,aHN,eb3,ey,hl]
 obtain⟨q4,x4,hq4,e4⟩:=gW (ns:=ns) (k:=k1+2) (x:=x3) (rs:=aM) (At.app h [qq [nD y0]]).toAt0 (d+4) 3 (i:=3) rfl (by decide) (by decide) (by omega)
 obtain⟨q5,x5,hq5,e5⟩:=gW (ns:=ns) (k:=k1+3) (x:=x4) (rs:=aM) (At.app h [qq [nD y0]]).toAt0 (d+4) 8 (i:=8) rfl (by decide) (by decide) (by omega)
 obtain⟨b5,hb5,eb5⟩:=b2i ((q5:Int)==1);obtain⟨z,hz,ez⟩:=at2 (.int (q4:Nat)) (.int 7) hb5;obtain⟨m,hm7,rfl⟩:∃ m:Nat,m<=7/\z=.int (m:Nat):=by
  rcases hz with rfl | rfl
  ·exact⟨_,by omega,rfl⟩
  ·exact⟨7,by decide,rfl⟩
 obtain⟨env2,S2,p4,a4',aE,k6,x6,ol,oa,hk6,rfl,rfl⟩:=aHZ (t:=.one 4) (fi:=lv (aC fns (d+5)) aA4) (fb:=xs (aC fns (d+5)) aA5) (env:=[qq (.loc 0),qq (.d (.int (most:Nat))),qq (.d (.int (q:Nat))),qq (.loc p),a4,qq (.d (.list [.int (((aM.length:Nat):Int)-1),.int (q2:Nat)])),qq (.loc S.length)]) (S:=aP (S++[qq [nD y0]]) 0 p ns (k1+2) x3 aM) (S1:=aP (S++[qq [nD y0]]) 0 p ns (k1+2+1+1) x5 aM) (ds:=(yBk m).map (λ k=>yAp (k:Nat)))
  (λ j env S'=>∃ (a4:Option W) (aE:List Nat) (k:Nat) (x:Int),aE.length=j+1/\(∀ o∈aE,o<aM.length)/\k<=k1+4+j/\env=[qq (.loc 0),qq (.d (.int (most:Nat))),qq (.d (.int (q:Nat))),qq (.loc p),a4,qq (.d (.list [.int (((aM.length:Nat):Int)-1),.int (q2:Nat)])),qq (.loc S.length)]/\S'=aP (S++[qq (aE.map nD)]) 0 p ns k x aM)
  (by
    simp only[aA4,nP,mV,mP,mU,nC,nF,mS];refine qB ?_ (by omega)
    simp only[evs,e4,e5,bP,aHK,aHN,eb5,ez])
  ⟨a4,[y0],k1+4,x5,rfl,λ o ho=>by rw[yBu] at ho;subst ho;exact hy0,by omega,rfl,rfl⟩ (by
   rintro j dd env S' hj ⟨a4,aE,k,x,ol,oa,hk,rfl,rfl⟩;have hj':j<m:=by simpa using hj
   have hA:=At.app h [qq (aE.map nD)];obtain⟨q6,x6,hq6,e6⟩:=fQ (ns:=ns) (k:=k) (x:=x) (rs:=aM) hA.toAt0 (d+4) aM.length l0' (by omega) (by omega)
   refine⟨[qq (.loc 0),qq (.d (.int (most:Nat))),qq (.d (.int (q:Nat))),qq (.loc p),qq (.d dd),qq (.d (.list [.int (((aM.length:Nat):Int)-1),.int (q2:Nat)])),qq (.loc S.length)],[qq (.loc 0),qq (.d (.int (most:Nat))),qq (.d (.int (q:Nat))),qq (.loc p),qq (.d dd),qq (.d (.list [.int (((aM.length:Nat):Int)-1),.int (q2:Nat)])),qq (.loc S.length)],aP (S++[qq ((aE++[q6]).map nD)]) 0 p ns (k+1) x6 aM,rfl,?_,qq (.d dd),aE++[q6],k+1,x6,by simp[ol],aMR oa hq6,by omega,rfl,rfl⟩
   have ap:eJ (aP (S++[qq (aE.map nD)]) 0 p ns (k+1) x6 aM) (.loc S.length) (.d (.int (q6:Nat)))=qq (.d .none,aP (S++[qq ((aE++[q6]).map nD)]) 0 p ns (k+1) x6 aM):=by
    rw[zH h,zH h,yCo];have hl:(aP S 0 p ns (k+1) x6 aM).length=S.length:=h.toAt0.len;have:=qG (aP S 0 p ns (k+1) x6 aM) (aE.map nD) (.int (q6:Nat)) (by rw[yAf];omega)
    rw[hl] at this;exact this
   simp only[evs,aA5,hA.rows,eB,eD,GP.rows_len,e6,gQ,ap])
 have hk7:k6<=k1+4+m:=by simpa using hk6
 obtain⟨T,hT⟩:=aM0 (At.app h [qq (aE.map nD)]) ns k6 x6 aM;refine⟨aM,aE,k6,x6,T,ok1,l0',l1',by omega,oa,aPc (by simpa using ol) hm7,?_⟩
 have p4':xs (aC fns (d+5)) (pR 4) [qq (.loc 0),qq (.d (.int (most:Nat))),qq (.d (.int (q:Nat))),qq (.loc p),qz,qz,qz] (aP S 0 p ns k x rs)=qq (.nx [qq (.loc 0),qq (.d (.int (most:Nat))),qq (.d (.int (q:Nat))),qq (.loc p),a4,qz,qz],aP S 0 p ns k1 x1 aM):=p1;have p7':xs (aC fns (d+5)) (pR 7) [qq (.loc 0),qq (.d (.int (most:Nat))),qq (.d (.int (q:Nat))),qq (.loc p),a4,qq (.d (.list [.int (((aM.length:Nat):Int)-1),.int (q2:Nat)])),qq (.loc S.length)] (aP (S++[qq [nD y0]]) 0 p ns (k1+2) x3 aM)=qq (.nx [qq (.loc 0),qq (.d (.int (most:Nat))),qq (.d (.int (q:Nat))),qq (.loc p),a4',qq (.d (.list [.int (((aM.length:Nat):Int)-1),.int (q2:Nat)])),qq (.loc S.length)],aP (S++[qq (aE.map nD)]) 0 p ns k6 x6 aM):=p4;rw[aMK,dN p4',dN p5,dN p6,dN p7',<- hT];have g2:(aP (S++[qq (aE.map nD)]) 0 p ns k6 x6 aM)[S.length]? = qq (qq (aE.map nD)):=by
  rw[zH h];have hl:(aP S 0 p ns k6 x6 aM).length=S.length:=h.toAt0.len;rw[<- hl];exact oK _ _
 simp only[gS5,pR,pT,aT,bI,gL,(At.app h [qq (aE.map nD)]).rows,g2,gC,fZ]
theorem A2:At [qz,qz] 0 1:=⟨⟨by decide,by decide⟩,by decide⟩
theorem A3(j:List D):At [qz,qq j,qz] 0 2:=⟨⟨by show 0<3;decide,by decide⟩,by show 2<3;decide⟩
theorem aQS(d most:Nat)(ns:List Int)(hm:most<=30)(kk:Nat)(xx:Int)(hkk:kk<=40000):∃ (rs:List Rw) (aE:List Nat) (k:Nat) (x:Int),dW [] rs/\0<rs.length/\rs.length<=40/\k<=kk+800/\(∀ o∈aE,o<rs.length)/\aE.length<=8/\cl fns (d+6) 70 [.loc 0,.d (.int (most:Nat))] [qq (aH ns kk xx)]=qq (.d (.tuple [.tuple (rs.map Rw.d),.tuple (aE.map nD)]),[qq (aH ns k x)]):=by
 obtain⟨w,x0,bS,bV,e0⟩:=aGk (ns:=ns) (k:=kk) (x:=xx) (rs:=[]) at1 (d+3) (by omega)
 rw[aJn,aJn] at e0;have p0:xs (aC fns (d+5)) (pR 0) [qq (.loc 0),qq (.d (.int (most:Nat))),qz,qz,qz,qz,qz] [qq (aH ns kk xx)]=qq (.nx [qq (.loc 0),qq (.d (.int (most:Nat))),qq (.d (.int (w:Nat))),qz,qz,qz,qz],[qq (aH ns (kk+3) x0)]):=by
  simp only[gS3,pR,bI,gL,e0]
 have p1:xs (aC fns (d+5)) (pR 1) [qq (.loc 0),qq (.d (.int (most:Nat))),qq (.d (.int (w:Nat))),qz,qz,qz,qz] [qq (aH ns (kk+3) x0)]=qq (.nx [qq (.loc 0),qq (.d (.int (most:Nat))),qq (.d (.int (w:Nat))),qq (.loc 1),qz,qz,qz],aP [qz,qz] 0 1 ns (kk+3) x0 [⟨.in,w,[]⟩]):=by
  simp only[gS4,pR,bI,aT,gL,fD]
 obtain⟨q,x1,hq,e1⟩:=gW (ns:=ns) (k:=kk+3) (x:=x0) (rs:=[⟨.in,w,[]⟩]) A2.toAt0 (d+4) 8 (i:=8) rfl (by decide) (by decide) (by omega)
 have ok0:dW [] [⟨.in,w,[]⟩]:=⟨⟨bS,bV,True.intro⟩,True.intro⟩
 suffices H:∃ (rs:List Rw) (aE:List Nat) (k:Nat) (x:Int) (T:aD),dW [] rs/\0<rs.length/\rs.length<=40/\k<=kk+800/\(∀ o∈aE,o<rs.length)/\aE.length<=8/\xs (aC fns (d+5)) (.seq (pR 2) pT) [qq (.loc 0),qq (.d (.int (most:Nat))),qq (.d (.int (w:Nat))),qq (.loc 1),qz,qz,qz] (aP [qz,qz] 0 1 ns (kk+3) x0 [⟨.in,w,[]⟩])=qq (.rt (.d (.tuple [.tuple (rs.map Rw.d),.tuple (aE.map nD)])),qq (aH ns k x)::T) by
  obtain⟨rs,aE,k,x,T,h1,h2,h3,h4,h6,h7,h5⟩:=H;refine⟨rs,aE,k,x,h1,h2,h3,h4,h6,h7,?_⟩;have full:xs (aC fns (d+5)) gL [qq (.loc 0),qq (.d (.int (most:Nat))),qz,qz,qz,qz,qz] [qq (aH ns kk xx)]=qq (.rt (.d (.tuple [.tuple (rs.map Rw.d),.tuple (aE.map nD)])),qq (aH ns k x)::T):=by
   rw[aNV,dN p0,dN p1];exact h5
  rw[aV rfl (d+5) _ _ rfl];show((xs (aC fns (d+5)) gL [qq (.loc 0),qq (.d (.int (most:Nat))),qz,qz,qz,qz,qz] [qq (aH ns kk xx)]).bind _)=_;rw[full];rfl
 by_cases c:q=1
 ·have dq:(((q:Nat):Int)==1)=true:=by rw[beq_iff_eq];omega
  obtain⟨n,k2,x2,hn,hk2,e2⟩:=aCz (ns:=ns) (k:=kk+3+1) (x:=x1) (rs:=[⟨.in,w,[]⟩]) A2.toAt0 (d+2) w bS bV (by omega)
  have hl:(aP [qz,qz] 0 1 ns k2 x2 [⟨.in,w,[]⟩]).length=2:=rfl;have p2:xs (aC fns (d+5)) (pR 2) [qq (.loc 0),qq (.d (.int (most:Nat))),qq (.d (.int (w:Nat))),qq (.loc 1),qz,qz,qz] (aP [qz,qz] 0 1 ns (kk+3) x0 [⟨.in,w,[]⟩])=qq (.nx [qq (.loc 0),qq (.d (.int (most:Nat))),qq (.d (.int (w:Nat))),qq (.loc 2),qz,qz,qz],aP [qz,qq ([(⟨.in,w,[]⟩:Rw)].map Rw.d),qz] 0 2 ns k2 x2 [⟨.num,w,[n]⟩]):=by
   simp only[gS4,pR,bI,aT,gL,e1,bP,dq,e2,fD,hl]
  obtain⟨rs,aE,k,x,T,h1,h2,h3,h4,h6,h7,h5⟩:=aI2 (A3 ([(⟨.in,w,[]⟩:Rw)].map Rw.d)) (ns:=ns) (k:=k2) (x:=x2) (rs:=[⟨.num,w,[n]⟩]) d most w hm ⟨⟨bS,bV,hn⟩,True.intro⟩ (by simp) (by simp) (by omega)
  refine⟨rs,aE,k,x,T,h1,h2,h3,by omega,h6,h7,?_⟩
  rw[dN p2];exact h5
 ·have dq:(((q:Nat):Int)==1)=false:=by rw[beq_eq_false_iff_ne];omega
  have p2:xs (aC fns (d+5)) (pR 2) [qq (.loc 0),qq (.d (.int (most:Nat))),qq (.d (.int (w:Nat))),qq (.loc 1),qz,qz,qz] (aP [qz,qz] 0 1 ns (kk+3) x0 [⟨.in,w,[]⟩])=qq (.nx [qq (.loc 0),qq (.d (.int (most:Nat))),qq (.d (.int (w:Nat))),qq (.loc 1),qz,qz,qz],aP [qz,qz] 0 1 ns (kk+3+1) x1 [⟨.in,w,[]⟩]):=by
   simp only[gS4,pR,bI,aT,gL,e1,bP,dq]
  obtain⟨rs,aE,k,x,T,h1,h2,h3,h4,h6,h7,h5⟩:=aI2 A2 (ns:=ns) (k:=kk+3+1) (x:=x1) (rs:=[⟨.in,w,[]⟩]) d most w hm ok0 (by simp) (by simp) (by omega)
  refine⟨rs,aE,k,x,T,h1,h2,h3,by omega,h6,h7,?_⟩
  rw[dN p2];exact h5
theorem aLl(d:Nat)(rs:D)(aE N:List Nat)(ho:∀ o∈aE,o<N.length)(hl:aE.length<=8)(S:aD):cl fns (d+1) 58 [.d (.tuple [rs,.tuple (aE.map nD)]),.d (.tuple (N.map nD))] S=qq (.d (.tuple ((aE.map (g0 N)).map nD)),S):=by
 have i1:aI (.tuple [rs,.tuple (aE.map nD)]) (.int 1)=qq (.tuple (aE.map nD)):=rfl;have hc:lv (aC fns d) aEN [qq (.d (.tuple [rs,.tuple (aE.map nD)])),qq (.d (.tuple (N.map nD))),qz] S=qq ((aE.map (g0 N)).map nD,S):=by
  rw[yBo];refine kH (fi:=lv (aC fns d) (.it (.ix (.var 0) (.int 1)))) (fe:=ev (aC fns d) (.ix (.var 1) (.var 2))) nD (nD ∘ g0 N) aE ?_ (by rw[zv];omega) λ o h=>?_
  ·simp only[gS0,i1,eZ]
  ·refine⟨_,rfl,λ S'=>?_⟩
   have e:aI (.tuple (N.map nD)) (nD o)=qq (nD (g0 N o)):=fB (aAm (ho o h));simp only[gS0,clr,yBl,yCk,e]
 rw[aV rfl d _ S rfl];simp only[gR1,aFY,hc,gC,fZ]
noncomputable def iD(r:Rw):List Nat:=r.args.take (bF r.wd)
noncomputable def rR(r:Rw):Nat:=r.args.getD 1 0
noncomputable def gT(r:Rw)(F:List Ft):List Fc:=(fG r F).map λ f=>⟨f.N,f.O,f.A⟩
noncomputable def mG(rs:List Rw)(F:List Ft)(r:Rw)(m:Nat):List Nat:=bB r.wd r.w (rR r) (aU r (rs.map (·.w))) (gT r F) m
noncomputable def cH(rs:List Rw)(F:List Ft)(r:Rw)(m:Nat):List (Nat×Nat):=(iD r).zip (mG rs F r m)
noncomputable def pD(p:Nat×Nat):D:=.tuple [nD p.1,nD p.2]
theorem uU{r:Rw}{ws:List Nat}(h:RwOk r ws):aAG r.wd r.w ws/\qU r.wd r.args (rR r):=by
 cases h with
 | inp h1 h2=>exact⟨⟨h1,h2,rfl⟩,rfl⟩
 | num h1 h2 hn=>exact⟨⟨h1,h2,rfl⟩,_,rfl⟩
 | nt h1 h2=>exact⟨⟨h1,h2,rfl⟩,_,rfl⟩
 | sh h1 h2 aN hk=>rcases aN with rfl | rfl | rfl<;>exact⟨⟨h1,h2,rfl⟩,_,rfl,hk⟩
 | cut h1 hv h2=>exact⟨⟨h1,xAh hv h2,_,rfl,hv,h2⟩,_,rfl⟩
 | wide h1 hv h2=>exact⟨⟨xAh h1 hv,h2,_,rfl,hv,h1⟩,_,rfl⟩
 | sign h1 hv h2=>exact⟨⟨xAh h1 hv,h2,_,rfl,hv,h1⟩,_,rfl⟩
 | bw h1 h2 aN=>rcases aN with rfl | rfl | rfl<;>exact⟨⟨h1,h2,rfl⟩,_,_,rfl⟩
 | sm h1 h2 =>
   rename_i s w a b;cases s<;>exact⟨⟨h1,h2,rfl⟩,_,_,rfl⟩
 | cmp h1 h2 aN=>rcases aN with rfl | rfl | rfl<;>exact⟨⟨yAc 1,(show 1<=64 by decide),rfl,_,rfl,h1,h2⟩,_,_,rfl⟩
 | pick h1 h2=>exact⟨⟨h1,h2,rfl⟩,_,_,_,rfl⟩
theorem aHw:∀ as bs:List Nat,cY (as.map nD) (bs.map nD)=(as.zip bs).map pD
 | [],_=>by cases ‹List Nat› <;> rfl
 | _::_,[]=>rfl
 | a::as,b::bs=>by
   show yCx [nD a,nD b]::cY (as.map nD) (bs.map nD)=pD (a,b)::(as.zip bs).map pD;rw[aHw as bs];rfl
theorem aIV(r:Rw)(F:List Ft):(gT r F).map Fc.d=(fG r F).map Ft.d:=by
 unfold gT;rw[yBo];rfl
theorem aCA(d a:Nat){rs:List Rw}{r:Rw}(hr:rs[a]? = qq r)(o:D)(S:aD):cl fns (d+1) 9 [.d (.tuple [.tuple (rs.map Rw.d),o]),.d (.int (a:Nat))] S=qq (.d (.int (r.w:Nat)),S):=by
 have i0:aI (.tuple [.tuple (rs.map Rw.d),o]) (.int 0)=qq (.tuple (rs.map Rw.d)):=rfl;have e1:aI (.tuple (rs.map Rw.d)) (.int (a:Nat))=qq r.d:=fB (by rw[yAe,hr];rfl)
 rw[aV rfl d _ S rfl];simp only[gR1,aFl,i0,e1,fK]
theorem pK{rs:List Rw}{a:Nat}{r:Rw}(hr:rs[a]? = qq r):g0 (rs.map (·.w)) a=r.w:=by
 show(rs.map (·.w)).getD a 0=_;rw[xAg,yAe,hr];rfl
theorem aHo{fa fb:FE}{env:aW}{S S1 S2:aD}{as bs:List Nat}(h1:fa env S=qq (.d (.tuple (as.map nD)),S1))(h2:fb env S1=qq (.d (.tuple (bs.map nD)),S2))(hl:as.length<=1000):pC fa fb env S=qq ((as.zip bs).map pD,S2):=by
 have e:nY fa fb env S=qq ((as.zip bs).map pD,S2):=by
  unfold nY;rw[h1,oB,h2,oB,<- aHw];rfl
 unfold pC aJ4;rw[e,oB,if_pos];show((as.zip bs).map pD).length<=1000000;rw[yAf,List.length_zip];omega
theorem uD(r:Rw):(iD r).length<=3:=by
 have:=aHJ r.wd;unfold iD;rw[yBz];omega
section
variable {rs : List Rw}{F : List Ft}{r : Rw}{k m : Nat}
theorem aHh(p:Prg rs)(hr:rs[k]? = qq r):(gT r F).length=bF r.wd:=by
 have h:=(uU (p.fit k r hr).1).2;unfold gT fG;rw[yAf,yAf];exact aBU h
theorem aEE(d:Nat)(p:Prg rs)(hr:rs[k]? = qq r)(hF:F.length=rs.length)(hm:m<2^r.w)(o:D)(S:aD):cl fns (d+6) 18 [.d (.tuple [.tuple (rs.map Rw.d),o]),.d (.tuple (F.map Ft.d)),.d (.int (k:Nat)),.d (.int (m:Nat))] S=qq (.d (.list ((cH rs F r m).map pD)),S):=by
 have i0:aI (.tuple [.tuple (rs.map Rw.d),o]) (.int 0)=qq (.tuple (rs.map Rw.d)):=rfl;have e1:aI (.tuple (rs.map Rw.d)) (.int (k:Nat))=qq r.d:=fB (by rw[yAe,hr];rfl)
 obtain⟨f1,f2'⟩:=p.fit k r hr;have hk:k<rs.length:=(gIm hr).1;have ol:=uD r;have hc:lv (aC fns (d+5)) aEl [qq (.d (.tuple [.tuple (rs.map Rw.d),o])),qq (.d (.tuple (F.map Ft.d))),qq (.d (.int (k:Nat))),qq (.d (.int (m:Nat))),qq (.d r.d),qz,qz,qz] S=qq ((aU r (rs.map (·.w))).map nD,S):=by
  unfold aU;rw[yBo];refine kH (fi:=lv (aC fns (d+5)) (.it (.call 7 (.cons (.var 4) .nil)))) (fe:=ev (aC fns (d+5)) (.call 9 (.cons (.var 0) (.cons (.var 7) .nil)))) nD (nD ∘ g0 (rs.map (·.w))) (r.args.take (bF r.wd)) ?_ (by rw[zv];have:(r.args.take (bF r.wd)).length<=3:=ol;omega) λ a ha=>?_
  ·simp only[gS0,qC (d+4),eZ]
  ·refine⟨_,rfl,λ S'=>?_⟩
   have haj:=f2' a ha;have hq:rs[a]? = qq rs[a]:=yAa (by omega)
   have e2:=aCA (d+4) a hq o S';have e2':cl fns (d+5) 9 [.d (.tuple [.tuple (rs.map Rw.d),o]),.d (nD a)] S'=qq (.d (.int (rs[a].w:Nat)),S'):=e2;simp only[evs,clr,yBl,yCk,e2'];show _=qq (W.d (nD (g0 (rs.map (·.w)) a)),S');rw[pK hq];rfl
 have o2:=tK (d+3) r (.d (.tuple (F.map Ft.d))) (.tuple (F.map Ft.d)) (λ a=>(f0 F a).d) S (λ _=>rfl) λ a ha=>fB (by rw[yAe,lG (by have:=f2' a ha;omega)];rfl)
 have o2':cl fns (d+5) 8 [.d r.d,.d (.tuple (F.map Ft.d))] S=qq (.d (.tuple ((gT r F).map Fc.d)),S):=by
  rw[o2,aIV,fG,yBo];rfl
 obtain⟨w1,w2⟩:=uU f1;have nk:=aHg d r.wd r.w r.args (rR r) (aU r (rs.map (·.w))) (gT r F) m w1 (aHh p hr) w2 hm S;have nk':cl fns (d+5) 17 [.d r.d,.d (.tuple ((aU r (rs.map (·.w))).map nD)),.d (.tuple ((gT r F).map Fc.d)),.d (.int (m:Nat))] S=qq (.d (.tuple ((mG rs F r m).map nD)),S):=nk;have lz:∀ fa:FE,∀ env:aW,fa env S=qq (.d (.tuple ((iD r).map nD)),S)->env[6]? = qq (qq (.d (.tuple ((mG rs F r m).map nD))))->pC fa (iQ 6) env S=qq ((cH rs F r m).map pD,S):=λ fa env h h6=>aHo h (aBF h6) (by omega)
 rw[aV rfl (d+5) _ S rfl];simp only[evs,eX,aE3,i0,e1,hc,gC,fZ,o2',nk'];rw[lz _ _ (by simp only[evs,qC (d+4)];rfl) rfl]
 simp only[gS0,True]
theorem aGd(d:Nat)(p:Prg rs)(hr:rs[k]? = qq r)(o:D)(S:aD):cl fns (d+2) 73 [.d (.tuple [.tuple (rs.map Rw.d),o]),.d (.int (k:Nat))] S=qq (.d (.tuple [.tuple ((iD r).map nD),.tuple ((aU r (rs.map (·.w))).map nD)]),S):=by
 have i0:aI (.tuple [.tuple (rs.map Rw.d),o]) (.int 0)=qq (.tuple (rs.map Rw.d)):=rfl;have e1:aI (.tuple (rs.map Rw.d)) (.int (k:Nat))=qq r.d:=fB (by rw[yAe,hr];rfl)
 obtain⟨f1,f2'⟩:=p.fit k r hr;have hk:k<rs.length:=(gIm hr).1;have ol:=uD r;have op:cl fns (d+1) 7 [.d r.d] S=qq (.d (.tuple ((iD r).map nD)),S):=qC d r S;have hc:lv (aC fns (d+1)) aEe [qq (.d (.tuple [.tuple (rs.map Rw.d),o])),qq (.d (.int (k:Nat))),qq (.d (.tuple ((iD r).map nD))),qz] S=qq ((aU r (rs.map (·.w))).map nD,S):=by
  unfold aU;rw[yBo];refine kH (fi:=lv (aC fns (d+1)) (.it (.var 2))) (fe:=ev (aC fns (d+1)) (.ix (.ix (.ix (.var 0) (.int 0)) (.var 3)) (.int 1))) nD (nD ∘ g0 (rs.map (·.w))) (r.args.take (bF r.wd)) ?_ (by rw[zv];have:(r.args.take (bF r.wd)).length<=3:=ol;omega) λ a ha=>?_
  ·simp only[gS0,eZ]
  ·refine⟨_,rfl,λ S'=>?_⟩
   have haj:=f2' a ha;have hq:rs[a]? = qq rs[a]:=yAa (by omega)
   have e2:aI (.tuple (rs.map Rw.d)) (nD a)=qq rs[a].d:=fB (by rw[yAe,hq];rfl)
   simp only[evs,clr,yBl,yCk,i0,e2,fK];show _=qq (W.d (nD (g0 (rs.map (·.w)) a)),S');rw[pK hq];rfl
 rw[aV rfl (d+1) _ S rfl];simp only[gR1,aED,i0,e1,op,hc,gC,fZ]
theorem aMi(d:Nat)(p:Prg rs)(hr:rs[k]? = qq r)(hF:F.length=rs.length)(hm:m<2^r.w)(o:D)(S:aD):cl fns (d+6) 75 [.d (.tuple [.tuple (rs.map Rw.d),o]),.d (.tuple (F.map Ft.d)),.d (.int (k:Nat)),.d (.int (m:Nat))] S=qq (.d (.list ((cH rs F r m).map pD)),S):=by
 have i0:aI (.tuple [.tuple (rs.map Rw.d),o]) (.int 0)=qq (.tuple (rs.map Rw.d)):=rfl;have e1:aI (.tuple (rs.map Rw.d)) (.int (k:Nat))=qq r.d:=fB (by rw[yAe,hr];rfl)
 obtain⟨f1,f2'⟩:=p.fit k r hr;have hk:k<rs.length:=(gIm hr).1;have ol:=uD r;have ah:=aGd (d+3) p hr o S;have hc:lv (aC fns (d+5)) aEi [qq (.d (.tuple [.tuple (rs.map Rw.d),o])),qq (.d (.tuple (F.map Ft.d))),qq (.d (.int (k:Nat))),qq (.d (.int (m:Nat))),qq (.d (.tuple ((iD r).map nD))),qq (.d (.tuple ((aU r (rs.map (·.w))).map nD))),qz] S=qq ((gT r F).map Fc.d,S):=by
  rw[aIV,fG,yBo];refine kH (fi:=lv (aC fns (d+5)) (.it (.var 4))) (fe:=ev (aC fns (d+5)) (.ix (.var 1) (.var 6))) nD (Ft.d ∘ f0 F) (r.args.take (bF r.wd)) ?_ (by rw[zv];have:(r.args.take (bF r.wd)).length<=3:=ol;omega) λ a ha=>?_
  ·simp only[gS0,eZ]
  ·refine⟨_,rfl,λ S'=>?_⟩
   have e2:aI (.tuple (F.map Ft.d)) (nD a)=qq (f0 F a).d:=fB (by rw[yAe,lG (by have:=f2' a ha;omega)];rfl)
   simp only[gS0,clr,yBl,yCk,e2]
 obtain⟨w1,w2⟩:=uU f1;have nk:=aHg d r.wd r.w r.args (rR r) (aU r (rs.map (·.w))) (gT r F) m w1 (aHh p hr) w2 hm S;have nk':cl fns (d+5) 17 [.d r.d,.d (.tuple ((aU r (rs.map (·.w))).map nD)),.d (.tuple ((gT r F).map Fc.d)),.d (.int (m:Nat))] S=qq (.d (.tuple ((mG rs F r m).map nD)),S):=nk;have lz:∀ fb:FE,∀ env:aW,env[4]? = qq (qq (.d (.tuple ((iD r).map nD))))->fb env S=qq (.d (.tuple ((mG rs F r m).map nD)),S)->pC (iQ 4) fb env S=qq ((cH rs F r m).map pD,S):=λ fb env h4 h=>aHo (aBF h4) h (by omega)
 rw[aV rfl (d+5) _ S rfl];simp only[evs,eX,aEx,ah];rw[lz _ _ rfl (by simp only[evs,i0,e1,hc,gC,fZ,nk'])]
 simp only[gS0,True]
end
noncomputable def bK(M:List Nat)(q:Nat×Nat):List Nat:=M.set q.1 (M.getD q.1 0|||q.2)
noncomputable def fU(rs:List Rw)(F:List Ft)(M:List Nat)(k:Nat):List Nat:=match rs[k]? with
 | some r=>(cH rs F r (M.getD k 0)).foldl bK M
 | none=>M
noncomputable def jV(rs:List Rw)(F:List Ft):Nat->List Nat->List Nat
 | 0,M=>M
 | k+1,M=>jV rs F k (fU rs F M k)
noncomputable def cS(rs:List Rw)(M:List Nat)(o:Nat):List Nat:=M.set o (2^g0 (rs.map (·.w)) o-1)
noncomputable def gH(rs:List Rw)(aE:List Nat):List Nat:=aE.foldl (cS rs) (yAb rs.length 0)
noncomputable def jU(rs:List Rw)(F:List Ft)(aE:List Nat):List Nat:=jV rs F rs.length (gH rs aE)
structure Bd(rs:List Rw)(M:List Nat):Prop where
 l:M.length=rs.length
 lt:∀ (i:Nat) (r:Rw),rs[i]? = qq r->M.getD i 0<2^r.w
theorem xR{α β:Type}{f:β->α->β}{l:List α}{j:Nat}{q:α}(M:β)(h:l[j]? = qq q):(l.take (j+1)).foldl f M=f ((l.take j).foldl f M) q:=by
 rw[List.take_add_one,h];simp
theorem qA{M:List Nat}{a i v:Nat}(h:a≠i):(M.set a v).getD i 0=M.getD i 0:=by
 rw[xAg,xAg,yAy h]
theorem sU{M:List Nat}{a v:Nat}(h:a<M.length):(M.set a v).getD a 0=v:=by
 rw[xAg,yAx h];rfl
theorem aB8{M:List Nat}{i:Nat}(h:i<M.length):M[i]? = qq (M.getD i 0):=by
 rw[xAg,yAa h];rfl
section
variable {rs : List Rw}{F : List Ft}{r : Rw}{k m : Nat}{M : List Nat}
theorem nH(p:Prg rs)(hr:rs[k]? = qq r)(hm:m<2^r.w)(q:Nat×Nat)(hq:q∈cH rs F r m):q.1<k/\∀ r',rs[q.1]? = qq r'->q.2<2^r'.w:=by
 obtain⟨f1,f2⟩:=p.fit k r hr;obtain⟨w1,w2⟩:=uU f1;obtain⟨c,hc⟩:=yFl hq;obtain⟨a,b⟩:=q;unfold cH at hc;rw[List.getElem?_zip_eq_some] at hc;obtain⟨h1,h2⟩:=hc;refine⟨f2 a (xAk h1),λ r' hr'=>?_⟩
 have hv:(aU r (rs.map (·.w)))[c]? = qq r'.w:=by
  unfold aU;have h1':(r.args.take (bF r.wd))[c]? = qq a:=h1;rw[yAe,h1'];show qq (g0 (rs.map (·.w)) a)=_;rw[pK hr']
 have:=aOL r.wd r.w (rR r) (aU r (rs.map (·.w))) (gT r F) m c r'.w w1 hm hv;have e:(mG rs F r m).getD c 0=b:=by
  rw[xAg,h2];rfl
 rw[<- e];exact this
theorem vG(h:Bd rs M){q:Nat×Nat}(h1:q.1<rs.length)(h2:∀ r',rs[q.1]? = qq r'->q.2<2^r'.w):Bd rs (bK M q):=by
 refine⟨by unfold bK;rw[yBc];exact h.l,λ i r hr=>?_⟩
 unfold bK
 by_cases c:q.1=i
 ·rw[c] at h1 h2 ⊢;rw[sU (by rw[h.l];exact h1)]
  exact yBj (h.lt i r hr) (h2 r hr)
 ·rw[qA c];exact h.lt i r hr
theorem aCG(p:Prg rs)(hr:rs[k]? = qq r)(hm:m<2^r.w):∀ (l:List (Nat×Nat)) (M:List Nat),(∀ q∈l,q∈cH rs F r m)->Bd rs M->Bd rs (l.foldl bK M)
 | [],_,_,h=>h
 | q::l,M,hl,h=>by
   have hk:k<rs.length:=(gIm hr).1;obtain⟨a,b⟩:=nH p hr hm q (hl q xAc);exact aCG p hr hm l _ (λ x hx=>hl x (xAf _ hx)) (vG h (by omega) b)
theorem zD:Bd rs (yAb rs.length 0):=by
 refine⟨yBp,λ i r hr=>?_⟩
 have hi:i<rs.length:=(gIm hr).1;rw[xAg,yCr,if_pos hi];exact xAe _
theorem aFB{o:Nat}(hr:rs[o]? = qq r):cS rs M o=M.set o (2^r.w-1):=by
 unfold cS;rw[pK hr]
theorem aCm(h:Bd rs M){o:Nat}(ho:o<rs.length):Bd rs (cS rs M o):=by
 refine⟨by unfold cS;rw[yBc];exact h.l,λ i r hr=>?_⟩
 unfold cS
 by_cases c:o=i
 ·subst c;rw[sU (by rw[h.l];exact ho),pK hr]
  have:=xAe r.w;omega
 ·rw[qA c];exact h.lt i r hr
theorem aCg:∀ (l:List Nat) (M:List Nat),(∀ o∈l,o<rs.length)->Bd rs M->Bd rs (l.foldl (cS rs) M)
 | [],_,_,h=>h
 | o::l,M,hl,h=>aCg l _ (λ x hx=>hl x (xAf _ hx)) (aCm h (hl o xAc))
theorem uC(S:aD)(M:List Nat)(a v:Nat)(ha:a<M.length):hJ (S++[qq (M.map nD)]) (.loc S.length) (.d (.int (a:Nat))) (.d (.int (v:Nat)))=qq (S++[qq ((M.set a v).map nD)]):=by
 unfold hJ;simp only[oK];unfold jG;rw[yAf,if_pos (by omega),if_pos (by omega),oB,yAq,List.set_append_right _ _ (yAc _),yBe,List.map_set]
 rfl
theorem uP{M:List Nat}{i:Nat}(h:i<M.length):aI (.list (M.map nD)) (.int (i:Nat))=qq (.int ((M.getD i 0:Nat):Int)):=lH (by rw[yAe,aB8 h];rfl)
theorem aTU{fa fb:FE}{env:aW}{S:aD}{n:Nat}(h1:fa env S=qq (.d (.list [.int 0]),S))(h2:fb env S=qq (.d (.int (n:Nat)),S))(hn:n<=1000):wC fa fb env S=qq ((yAb n 0).map nD,S):=by
 have hz:(([.int 0]:List D)).length*(((n:Nat):Int)).toNat<=qk:=by rw[yAq,zv];simp;omega
 have hd:dr S (.d (.list [.int 0]))=qq (.list [.int 0]):=rfl;unfold wC;rw[h1,oB,h2,oB];show((dr S (.d (.list [.int 0]))).bind _)=_;rw[hd,oB];show(if ((n:Nat):Int)<2^63 /\ -(2^63)<=((n:Nat):Int)/\(([.int 0]:List D)).length*(((n:Nat):Int)).toNat<=qk then qq (wD (((n:Nat):Int)).toNat [yAp 0],S) else qz)=_
 rw[if_pos ⟨by omega,by omega,hz⟩,yAq,aM1,yEa]
 rfl
theorem aMm(d:Nat)(p:Prg rs)(hr:rs[k]? = qq r)(hF:F.length=rs.length)(o:D)(S:aD)(h:Bd rs M)(c3 c5 c6 c7 c8:Option W):∃ c7' c8':Option W,Bd rs (fU rs F M k)/\dX (.many [7,8]) (lv (aC fns (d+6)) yO) (xs (aC fns (d+6)) yN) [qq (.d (.tuple [.tuple (rs.map Rw.d),o])),qq (.d (.tuple (F.map Ft.d))),qq (.loc S.length),c3,qq (.d (.int (k:Nat))),c5,c6,c7,c8] (S++[qq (M.map nD)])=qq (.nx [qq (.d (.tuple [.tuple (rs.map Rw.d),o])),qq (.d (.tuple (F.map Ft.d))),qq (.loc S.length),c3,qq (.d (.int (k:Nat))),c5,c6,c7',c8'],S++[qq ((fU rs F M k).map nD)]):=by
 have hk:k<rs.length:=(gIm hr).1;have hm:=h.lt k r hr;have e0:=uP (M:=M) (i:=k) (by rw[h.l];exact hk)
 have rn:=aEE d p hr hF hm o (S++[qq (M.map nD)]);have eR:fU rs F M k=(cH rs F r (M.getD k 0)).foldl bK M:=by unfold fU;rw[hr]
 obtain⟨aJ,S',p1,c7',c8',hb,rfl,rfl⟩:=iH (t:=.many [7,8]) (fi:=lv (aC fns (d+6)) yO) (fb:=xs (aC fns (d+6)) yN) (env:=[qq (.d (.tuple [.tuple (rs.map Rw.d),o])),qq (.d (.tuple (F.map Ft.d))),qq (.loc S.length),c3,qq (.d (.int (k:Nat))),c5,c6,c7,c8]) (S:=S++[qq (M.map nD)]) (S1:=S++[qq (M.map nD)]) (ds:=(cH rs F r (M.getD k 0)).map pD)
  (λ j env S'=>∃ c7 c8:Option W,Bd rs (((cH rs F r (M.getD k 0)).take j).foldl bK M)/\env=[qq (.d (.tuple [.tuple (rs.map Rw.d),o])),qq (.d (.tuple (F.map Ft.d))),qq (.loc S.length),c3,qq (.d (.int (k:Nat))),c5,c6,c7,c8]/\S'=S++[qq ((((cH rs F r (M.getD k 0)).take j).foldl bK M).map nD)])
  (by simp only[evs,yO,oK,e0,rn,eZ]) ⟨c7,c8,h,rfl,rfl⟩ (by
    rintro j dd env S' hd ⟨c7,c8,hb,rfl,rfl⟩;rw[yAe] at hd;obtain⟨q,hq,rfl⟩:=Option.map_eq_some_iff.mp hd;obtain⟨q1,q2⟩:=nH p hr hm q (xAk hq);have ql:q.1<(((cH rs F r (M.getD k 0)).take j).foldl bK M).length:=by rw[hb.l];omega
    have ft:=xR (f:=bK) M hq;have e1:=uP ql;have pe:hJ (S++[qq ((((cH rs F r (M.getD k 0)).take j).foldl bK M).map nD)]) (.loc S.length) (.d (.int (q.1:Nat))) (.d (.int (((((cH rs F r (M.getD k 0)).take j).foldl bK M).getD q.1 0|||q.2:Nat):Int)))=qq (S++[qq ((bK (((cH rs F r (M.getD k 0)).take j).foldl bK M) q).map nD)]):=uC S _ q.1 _ ql
    refine⟨[qq (.d (.tuple [.tuple (rs.map Rw.d),o])),qq (.d (.tuple (F.map Ft.d))),qq (.loc S.length),c3,qq (.d (.int (k:Nat))),c5,c6,qq (.d (.int (q.1:Nat))),qq (.d (.int (q.2:Nat)))],[qq (.d (.tuple [.tuple (rs.map Rw.d),o])),qq (.d (.tuple (F.map Ft.d))),qq (.loc S.length),c3,qq (.d (.int (k:Nat))),c5,c6,qq (.d (.int (q.1:Nat))),qq (.d (.int (q.2:Nat)))],S++[qq ((bK (((cH rs F r (M.getD k 0)).take j).foldl bK M) q).map nD)],rfl,?_,_,_,?_,rfl,by rw[ft]⟩
    ·simp only[gS1,yN,oK,e1,eP,iO,pe]
    ·rw[ft];exact vG hb (by omega) q2)
 rw[yAf,yAi,<- eR] at hb p1;exact⟨c7',c8',hb,p1⟩
theorem aMI(d:Nat)(p:Prg rs)(hF:F.length=rs.length)(aE:List Nat)(ho:∀ o∈aE,o<rs.length)(S:aD):Bd rs (jU rs F aE)/\cl fns (d+7) 19 [.d (.tuple [.tuple (rs.map Rw.d),.tuple (aE.map nD)]),.d (.tuple (F.map Ft.d))] S=qq (.d (.tuple ((jU rs F aE).map nD)),S):=by
 have pl:=p.l;have lR:iN [.tuple (rs.map Rw.d)]=qq (.int (rs.length:Nat)):=by
  show qq (yAp (((rs.map Rw.d).length:Nat):Int))=_;rw[yAf]
 obtain⟨env1,S1,p1,c3,hb0,rfl,rfl⟩:=iH (t:=.one 3) (fi:=lv (aC fns (d+6)) aBC) (fb:=xs (aC fns (d+6)) aBz) (env:=[qq (.d (.tuple [.tuple (rs.map Rw.d),.tuple (aE.map nD)])),qq (.d (.tuple (F.map Ft.d))),qq (.loc S.length),qz,qz,qq (.d (.tuple (rs.map Rw.d))),qq (.d (.tuple (aE.map nD))),qz,qz]) (S:=S++[qq ((yAb rs.length 0).map nD)]) (S1:=S++[qq ((yAb rs.length 0).map nD)]) (ds:=aE.map nD)
  (λ j env S'=>∃ c3:Option W,Bd rs ((aE.take j).foldl (cS rs) (yAb rs.length 0))/\env=[qq (.d (.tuple [.tuple (rs.map Rw.d),.tuple (aE.map nD)])),qq (.d (.tuple (F.map Ft.d))),qq (.loc S.length),c3,qz,qq (.d (.tuple (rs.map Rw.d))),qq (.d (.tuple (aE.map nD))),qz,qz]/\S'=S++[qq (((aE.take j).foldl (cS rs) (yAb rs.length 0)).map nD)])
  (by simp only[evs,aBC,eZ]) ⟨qz,zD,rfl,rfl⟩ (by
    rintro j dd env S' hd ⟨c3,hb,rfl,rfl⟩;rw[yAe] at hd;obtain⟨q,hq,rfl⟩:=Option.map_eq_some_iff.mp hd;have hql:=ho q (xAk hq);have hr:rs[q]? = qq rs[q]:=yAa hql;have ft:=xR (f:=cS rs) (yAb rs.length 0) hq;have wo:=aCA (d+5) q hr (.tuple (aE.map nD)) (S++[qq (((aE.take j).foldl (cS rs) (yAb rs.length 0)).map nD)]);have fu:=cP (d+5) rs[q].w (by have:=(p.ws q _ hr).2;omega) (S++[qq (((aE.take j).foldl (cS rs) (yAb rs.length 0)).map nD)])
    have pe:hJ (S++[qq (((aE.take j).foldl (cS rs) (yAb rs.length 0)).map nD)]) (.loc S.length) (.d (.int (q:Nat))) (.d (.int ((2^rs[q].w-1:Nat):Int)))=qq (S++[qq ((cS rs ((aE.take j).foldl (cS rs) (yAb rs.length 0)) q).map nD)]):=by
     rw[aFB hr];exact uC S _ q _ (by rw[hb.l];exact hql)
    refine⟨[qq (.d (.tuple [.tuple (rs.map Rw.d),.tuple (aE.map nD)])),qq (.d (.tuple (F.map Ft.d))),qq (.loc S.length),qq (.d (.int (q:Nat))),qz,qq (.d (.tuple (rs.map Rw.d))),qq (.d (.tuple (aE.map nD))),qz,qz],[qq (.d (.tuple [.tuple (rs.map Rw.d),.tuple (aE.map nD)])),qq (.d (.tuple (F.map Ft.d))),qq (.loc S.length),qq (.d (.int (q:Nat))),qz,qq (.d (.tuple (rs.map Rw.d))),qq (.d (.tuple (aE.map nD))),qz,qz],S++[qq ((cS rs ((aE.take j).foldl (cS rs) (yAb rs.length 0)) q).map nD)],rfl,?_,_,?_,rfl,by rw[ft]⟩
    ·simp only[gS1,aBz,wo,fu,iO,pe]
    ·rw[ft];exact aCm hb hql)
 rw[yAf,yAi] at hb0 p1;have un1:pP .USub (.int 1)=qq (.int (-1)):=rfl;have i3:lv (aC fns (d+6)) yS [qq (.d (.tuple [.tuple (rs.map Rw.d),.tuple (aE.map nD)])),qq (.d (.tuple (F.map Ft.d))),qq (.loc S.length),c3,qz,qq (.d (.tuple (rs.map Rw.d))),qq (.d (.tuple (aE.map nD))),qz,qz] (S++[qq ((gH rs aE).map nD)])=qq (iY (((rs.length:Nat):Int)-1) rs.length,S++[qq ((gH rs aE).map nD)]):=by
  have hc:(-(2^62)<=((rs.length:Nat):Int)-1/\((rs.length:Nat):Int)-1<2^62 /\ -(2^62)<=(-1:Int)/\(-1:Int)<2^62)/\(-1:Int) = -1:=⟨⟨by omega,by omega,by decide,by decide⟩,rfl⟩
  have hn:(((rs.length:Nat):Int)-1-(-1)).toNat=rs.length:=by omega
  simp only[evs,yS,aAa,lR,cR,un1];rw[if_pos ⟨hc.1,True.intro⟩,hn]
 obtain⟨env2,S2,p2,c4,c7,c8,M,hb,hM,rfl,rfl⟩:=iH (t:=.one 4) (fi:=lv (aC fns (d+6)) yS) (fb:=xs (aC fns (d+6)) aBy) (env:=[qq (.d (.tuple [.tuple (rs.map Rw.d),.tuple (aE.map nD)])),qq (.d (.tuple (F.map Ft.d))),qq (.loc S.length),c3,qz,qq (.d (.tuple (rs.map Rw.d))),qq (.d (.tuple (aE.map nD))),qz,qz]) (S:=S++[qq ((gH rs aE).map nD)]) (S1:=S++[qq ((gH rs aE).map nD)]) (ds:=iY (((rs.length:Nat):Int)-1) rs.length)
  (λ j env S'=>∃ (c4 c7 c8:Option W) (M:List Nat),Bd rs M/\jV rs F (rs.length-j) M=jU rs F aE/\env=[qq (.d (.tuple [.tuple (rs.map Rw.d),.tuple (aE.map nD)])),qq (.d (.tuple (F.map Ft.d))),qq (.loc S.length),c3,c4,qq (.d (.tuple (rs.map Rw.d))),qq (.d (.tuple (aE.map nD))),c7,c8]/\S'=S++[qq (M.map nD)])
  i3 ⟨qz,qz,qz,gH rs aE,hb0,rfl,rfl,rfl⟩ (by
   rintro j dd env S' hd ⟨c4,c7,c8,M,hb,hM,rfl,rfl⟩;have hj:j<rs.length:=by
    have:=(gIm hd).1;rw[mL] at this;exact this
   rw[xU _ _ j hj] at hd;have ek:((rs.length:Nat):Int)-1-((j:Nat):Int)=((rs.length-1-j:Nat):Int):=by omega
   rw[ek] at hd;cases hd;have hr:rs[rs.length-1-j]? = qq rs[rs.length-1-j]:=yAa (by omega)
   obtain⟨c7',c8',hb',e⟩:=aMm d p hr hF (.tuple (aE.map nD)) S hb c3 (qq (.d (.tuple (rs.map Rw.d)))) (qq (.d (.tuple (aE.map nD)))) c7 c8;refine⟨[qq (.d (.tuple [.tuple (rs.map Rw.d),.tuple (aE.map nD)])),qq (.d (.tuple (F.map Ft.d))),qq (.loc S.length),c3,qq (.d (.int ((rs.length-1-j:Nat):Int))),qq (.d (.tuple (rs.map Rw.d))),qq (.d (.tuple (aE.map nD))),c7,c8],[qq (.d (.tuple [.tuple (rs.map Rw.d),.tuple (aE.map nD)])),qq (.d (.tuple (F.map Ft.d))),qq (.loc S.length),c3,qq (.d (.int ((rs.length-1-j:Nat):Int))),qq (.d (.tuple (rs.map Rw.d))),qq (.d (.tuple (aE.map nD))),c7',c8'],S++[qq ((fU rs F M (rs.length-1-j)).map nD)],rfl,?_,_,_,_,_,hb',?_,rfl,rfl⟩
   ·simp only[gS1,aBy,e]
   ·rw[<- hM,show rs.length-j=(rs.length-1-j)+1 by omega]
    show _=jV rs F (rs.length-1-j) (fU rs F M (rs.length-1-j));rw[show rs.length-(j+1)=rs.length-1-j by omega])
 rw[mL,yBe] at hM;have hM':M=jU rs F aE:=hM;subst hM';refine⟨hb,?_⟩;have tk1:∀ x,yDx S.length (S++[x])=S:=λ x=>yFf
 have q0:xs (aC fns (d+6)) (bI gB) [qq (.d (.tuple [.tuple (rs.map Rw.d),.tuple (aE.map nD)])),qq (.d (.tuple (F.map Ft.d))),qz,qz,qz,qz,qz,qz,qz] S=qq (.nx [qq (.d (.tuple [.tuple (rs.map Rw.d),.tuple (aE.map nD)])),qq (.d (.tuple (F.map Ft.d))),qz,qz,qz,qq (.d (.tuple (rs.map Rw.d))),qq (.d (.tuple (aE.map nD))),qz,qz],S):=by
  simp only[gS2,bI,gB,True]
 have q1:xs (aC fns (d+6)) (bI (aT gB)) [qq (.d (.tuple [.tuple (rs.map Rw.d),.tuple (aE.map nD)])),qq (.d (.tuple (F.map Ft.d))),qz,qz,qz,qq (.d (.tuple (rs.map Rw.d))),qq (.d (.tuple (aE.map nD))),qz,qz] S=qq (.nx [qq (.d (.tuple [.tuple (rs.map Rw.d),.tuple (aE.map nD)])),qq (.d (.tuple (F.map Ft.d))),qq (.loc S.length),qz,qz,qq (.d (.tuple (rs.map Rw.d))),qq (.d (.tuple (aE.map nD))),qz,qz],S++[qq ((yAb rs.length 0).map nD)]):=by
  simp only[bI,aT,gB,zQ,aCJ,aGB,jD,fD];rw[aTU (n:=rs.length) (by simp only[evs]) (by simp only[evs,lR]) (by omega)]
  simp only[gS0,True]
 have e:gB=.seq (bI gB) (.seq (bI (aT gB)) (.seq (bI (aT (aT gB))) (.seq (bI (aT (aT (aT gB)))) (aT (aT (aT (aT gB))))))):=rfl;have p1':xs (aC fns (d+6)) (bI (aT (aT gB))) [qq (.d (.tuple [.tuple (rs.map Rw.d),.tuple (aE.map nD)])),qq (.d (.tuple (F.map Ft.d))),qq (.loc S.length),qz,qz,qq (.d (.tuple (rs.map Rw.d))),qq (.d (.tuple (aE.map nD))),qz,qz] (S++[qq ((yAb rs.length 0).map nD)])=qq (.nx [qq (.d (.tuple [.tuple (rs.map Rw.d),.tuple (aE.map nD)])),qq (.d (.tuple (F.map Ft.d))),qq (.loc S.length),c3,qz,qq (.d (.tuple (rs.map Rw.d))),qq (.d (.tuple (aE.map nD))),qz,qz],S++[qq ((gH rs aE).map nD)]):=p1;have p2':xs (aC fns (d+6)) (bI (aT (aT (aT gB)))) [qq (.d (.tuple [.tuple (rs.map Rw.d),.tuple (aE.map nD)])),qq (.d (.tuple (F.map Ft.d))),qq (.loc S.length),c3,qz,qq (.d (.tuple (rs.map Rw.d))),qq (.d (.tuple (aE.map nD))),qz,qz] (S++[qq ((gH rs aE).map nD)])=qq (.nx [qq (.d (.tuple [.tuple (rs.map Rw.d),.tuple (aE.map nD)])),qq (.d (.tuple (F.map Ft.d))),qq (.loc S.length),c3,c4,qq (.d (.tuple (rs.map Rw.d))),qq (.d (.tuple (aE.map nD))),c7,c8],S++[qq ((jU rs F aE).map nD)]):=p2;have fl:xs (aC fns (d+6)) gB [qq (.d (.tuple [.tuple (rs.map Rw.d),.tuple (aE.map nD)])),qq (.d (.tuple (F.map Ft.d))),qz,qz,qz,qz,qz,qz,qz] S=qq (.rt (.d (.tuple ((jU rs F aE).map nD))),S++[qq ((jU rs F aE).map nD)]):=by
  rw[e,dN q0,dN q1,dN p1',dN p2'];simp only[gS2,aT,gB,oK,gC,fZ]
 rw[aV rfl (d+6) _ S rfl];show((xs (aC fns (d+6)) gB [qq (.d (.tuple [.tuple (rs.map Rw.d),.tuple (aE.map nD)])),qq (.d (.tuple (F.map Ft.d))),qz,qz,qz,qz,qz,qz,qz] S).bind _)=_;rw[fl];simp only[oB,kQ,tk1]
end
theorem aEZ{t:Tg}{fb:FS}{S:aD}{P:aW->Prop}{r:W}:∀ (ds:List D) (q:Nat) (env:aW),q<ds.length->P env->(∀ j dd env,j<q->ds[j]? = qq dd->P env->∃ e1 aJ,t.put dd env=qq e1/\fb e1 S=qq (.nx aJ,S)/\P aJ)->(∀ dd env,ds[q]? = qq dd->P env->∃ e1,t.put dd env=qq e1/\fb e1 S=qq (.rt r,S))->gO t fb ds env S=qq (.rt r,S)
 | [],q,_,h,_,_,_=>absurd h (yEd q)
 | dd::ds,0,env,_,h0,_,h2=>by
   obtain⟨e1,h3,h4⟩:=h2 dd env rfl h0;simp only[gO,h3,oB,h4]
 | dd::ds,q+1,env,hq,h0,h1,h2=>by
   obtain⟨e1,aJ,h3,h4,h5⟩:=h1 0 dd env (Nat.succ_pos q) rfl h0;simp only[gO,h3,oB,h4];exact aEZ ds q aJ (by simpa using hq) h5 (λ j x e hj hx he=>h1 (j+1) x e (by omega) (by simpa using hx) he) λ x e hx he=>h2 x e (by simpa using hx) he
noncomputable def jS(M:List Nat)(q:Nat×Nat):Bool:=!(bY q.2 (M.getD q.1 0)==0)
noncomputable def jC(rs:List Rw)(F:List Ft)(M:List Nat)(k:Nat):Bool:=match rs[k]? with
 | some r=>(cH rs F r (M.getD k 0)).any (jS M)
 | none=>false
noncomputable def lX(rs:List Rw)(aE M:List Nat):Bool:=aE.any λ o=>!(bY (2^g0 (rs.map (·.w)) o-1) (M.getD o 0)==0)
theorem aL3{α:Type}(g:α->Bool)(l:List α):qK (l.map λ x=>yDi (g x))=qq (l.map g):=by
 induction l with
 | nil=>rfl
 | cons x r ih=>simp only[yBg,qK,ih,yCb]
theorem aCI{α:Type}(g:α->Bool)(l:List α):pJ [.list (l.map λ x=>yDi (g x))]=qq (.bool (l.any g)):=by
 simp only[pJ,aL3,oB];congr 2;rw[List.any_map];rfl
section
variable {rs : List Rw}{F : List Ft}{r : Rw}{k m : Nat}{M : List Nat}
theorem aCw{M:List Nat}{i:Nat}(h:i<M.length):aI (.tuple (M.map nD)) (.int (i:Nat))=qq (.int ((M.getD i 0:Nat):Int)):=fB (by rw[yAe,aB8 h];rfl)
noncomputable abbrev dR(rs:List Rw)(F:List Ft)(aE M:List Nat)(c3 c6 c7 c8:Option W):aW:=[qq (.d (.tuple [.tuple (rs.map Rw.d),.tuple (aE.map nD)])),qq (.d (.tuple (F.map Ft.d))),qq (.d (.tuple (M.map nD))),c3,qq (.d (.tuple (rs.map Rw.d))),qq (.d (.tuple (aE.map nD))),c6,c7,c8]
theorem aCT(d:Nat)(p:Prg rs)(hF:F.length=rs.length)(aE:List Nat)(h:Bd rs M)(hk:k<rs.length)(S:aD)(c6 c7 c8:Option W):xs (aC fns (d+6)) oH (dR rs F aE M (qq (.d (.int (k:Nat)))) c6 c7 c8) S=cond (jC rs F M k) (qq (.rt (.d (.int (k:Nat))),S)) (qq (.nx (dR rs F aE M (qq (.d (.int (k:Nat)))) c6 c7 c8),S)):=by
 have hr:rs[k]? = qq rs[k]:=yAa hk;have hm:=h.lt k _ hr;have e0:=aCw (M:=M) (i:=k) (by rw[h.l];exact hk)
 have rn:=λ S=>aEE d p hr hF hm (.tuple (aE.map nD)) S
 have eb:jC rs F M k=(cH rs F rs[k] (M.getD k 0)).any (jS M):=by unfold jC;rw[hr]
 have pl:(cH rs F rs[k] (M.getD k 0)).length<=3:=by
  unfold cH;rw[List.length_zip];have:=uD rs[k];omega
 have hc:lv (aC fns (d+6)) aA6 (dR rs F aE M (qq (.d (.int (k:Nat)))) c6 c7 c8) S=qq ((cH rs F rs[k] (M.getD k 0)).map λ q=>yDi (jS M q),S):=by
  refine kH (fi:=lv (aC fns (d+6)) (.it (.call 18 (.cons (.var 0) (.cons (.var 1) (.cons (.var 3) (.cons (.ix (.var 2) (.var 3)) .nil))))))) (fe:=ev (aC fns (d+6)) (.cmp .NotEq (.bin .BitAnd (.var 8) (.un .Invert (.ix (.var 2) (.var 7)))) (.int 0))) pD (λ q=>yDi (jS M q)) (cH rs F rs[k] (M.getD k 0)) ?_ (by rw[zv];omega) λ q hq=>?_
  ·simp only[gS1,dR,e0,rn,eZ]
  ·obtain⟨q1,q2⟩:=nH p hr hm q hq;refine⟨dR rs F aE M (qq (.d (.int (k:Nat)))) c6 (qq (.d (.int (q.1:Nat)))) (qq (.d (.int (q.2:Nat)))),rfl,λ S'=>?_⟩
   have e1:=aCw (M:=M) (i:=q.1) (by rw[h.l];omega)
   have cz:(((bY q.2 (M.getD q.1 0):Nat):Int)==0)=(bY q.2 (M.getD q.1 0)==0):=eV _;simp only[gS1,dR,e1,oR,oP,kL,cz]
 have hc':lv (aC fns (d+6)) aA6 [qq (.d (.tuple [.tuple (rs.map Rw.d),.tuple (aE.map nD)])),qq (.d (.tuple (F.map Ft.d))),qq (.d (.tuple (M.map nD))),qq (.d (.int (k:Nat))),qq (.d (.tuple (rs.map Rw.d))),qq (.d (.tuple (aE.map nD))),c6,c7,c8] S=qq ((cH rs F rs[k] (M.getD k 0)).map λ q=>yDi (jS M q),S):=hc
 have an:=aCI (jS M) (cH rs F rs[k] (M.getD k 0));rw[<- eb] at an;cases c:jC rs F M k with
 | true =>
   rw[c] at an;simp only[gS2,oH,dR,hc',an,cond_true]
 | false =>
   rw[c] at an;simp only[gS2,oH,dR,hc',an,cond_false]
theorem aQF(d:Nat)(p:Prg rs)(aE:List Nat)(ho:∀ o∈aE,o<rs.length)(hol:aE.length<=8)(h:Bd rs M)(S:aD)(c3 c6 c7 c8:Option W):lv (aC fns (d+6)) aA7 (dR rs F aE M c3 c6 c7 c8) S=qq (aE.map λ o=>yDi (!(bY (2^g0 (rs.map (·.w)) o-1) (M.getD o 0)==0)),S):=by
 refine kH (fi:=lv (aC fns (d+6)) (.it (.var 5))) (fe:=ev (aC fns (d+6)) (.cmp .NotEq (.bin .BitAnd (.call 0 (.cons (.call 9 (.cons (.var 0) (.cons (.var 6) .nil))) .nil)) (.un .Invert (.ix (.var 2) (.var 6)))) (.int 0))) nD (λ o=>yDi (!(bY (2^g0 (rs.map (·.w)) o-1) (M.getD o 0)==0))) aE ?_ (by rw[zv];omega) λ q hq=>?_
 ·simp only[gS1,dR,eZ]
 ·have hql:=ho q hq;have hr:rs[q]? = qq rs[q]:=yAa hql;refine⟨dR rs F aE M c3 (qq (.d (.int (q:Nat)))) c7 c8,rfl,λ S'=>?_⟩
  have e1:=aCw (M:=M) (i:=q) (by rw[h.l];exact hql)
  have wo:=aCA (d+5) q hr (.tuple (aE.map nD)) S';have fu:=cP (d+5) rs[q].w (by have:=(p.ws q _ hr).2;omega) S'
  rw[pK hr];have cz:(((bY (2^rs[q].w-1) (M.getD q 0):Nat):Int)==0)=(bY (2^rs[q].w-1) (M.getD q 0)==0):=eV _;simp only[gS1,dR,e1,wo,fu,oR,oP,kL,cz]
end
noncomputable def aUH:Option Nat->D
 | none=>.none
 | some q=>.int (q:Nat)
def Wr(rs:List Rw)(F:List Ft)(aE M:List Nat)(o:Option Nat):Prop:=(∃ q,q<rs.length/\(∀ k,k<q->jC rs F M k=false)/\jC rs F M q=true/\o=qq q)\/((∀ k,k<rs.length->jC rs F M k=false)/\o=cond (lX rs aE M) (qq rs.length) qz)
section
variable {rs : List Rw}{F : List Ft}{r : Rw}{k m : Nat}{M : List Nat}
theorem yU{n j:Nat}{dd:D}(h:((yBk n).map λ k=>yAp ((k:Nat):Int))[j]? = qq dd):j<n/\dd=.int (j:Nat):=by
 have hj:j<n:=by
  have:=(gIm h).1;simpa using this
 rw[yAe,List.getElem?_range hj] at h;cases h;exact⟨hj,rfl⟩
theorem aMs(d:Nat)(p:Prg rs)(hF:F.length=rs.length)(aE:List Nat)(ho:∀ o∈aE,o<rs.length)(hol:aE.length<=8)(h:Bd rs M){o:Option Nat}(hw:Wr rs F aE M o)(S:aD):cl fns (d+7) 20 [.d (.tuple [.tuple (rs.map Rw.d),.tuple (aE.map nD)]),.d (.tuple (F.map Ft.d)),.d (.tuple (M.map nD))] S=qq (.d (aUH o),S):=by
 have pl:=p.l;have lR:iN [.tuple (rs.map Rw.d)]=qq (.int (rs.length:Nat)):=by
  show qq (yAp (((rs.map Rw.d).length:Nat):Int))=_;rw[yAf]
 have q0:xs (aC fns (d+6)) (bI iW) [qq (.d (.tuple [.tuple (rs.map Rw.d),.tuple (aE.map nD)])),qq (.d (.tuple (F.map Ft.d))),qq (.d (.tuple (M.map nD))),qz,qz,qz,qz,qz,qz] S=qq (.nx (dR rs F aE M qz qz qz qz),S):=by
  simp only[gS2,bI,iW,True]
 have hi:lv (aC fns (d+6)) sM (dR rs F aE M qz qz qz qz) S=qq ((yBk rs.length).map (λ k=>yAp ((k:Nat):Int)),S):=by
  simp only[sM,nP,mV,mP,mU,nC,nF,mS];exact qB (by simp only[evs,dR,lR]) (by omega)
 have e:iW=.seq (bI iW) (.seq (bI (aT iW)) (aT (aT iW))):=rfl;refine cM (S1:=S) rfl (d+6) rfl rfl yAi ?_;show xs (aC fns (d+6)) iW [qq (.d (.tuple [.tuple (rs.map Rw.d),.tuple (aE.map nD)])),qq (.d (.tuple (F.map Ft.d))),qq (.d (.tuple (M.map nD))),qz,qz,qz,qz,qz,qz] S=_;rw[e,dN q0];rcases hw with ⟨q,hq,h1,h2,rfl⟩ | ⟨h1,rfl⟩
 ·have lp:xs (aC fns (d+6)) (bI (aT iW)) (dR rs F aE M qz qz qz qz) S=qq (.rt (.d (.int (q:Nat))),S):=by
   show dX (.one 3) (lv (aC fns (d+6)) sM) (xs (aC fns (d+6)) oH) (dR rs F aE M qz qz qz qz) S=_;unfold dX;rw[hi,oB];show gO (.one 3) (xs (aC fns (d+6)) oH) ((yBk rs.length).map (λ k=>yAp ((k:Nat):Int))) (dR rs F aE M qz qz qz qz) S=_
   refine aEZ (P:=λ env=>∃ c3:Option W,env=dR rs F aE M c3 qz qz qz) _ q _ (by simpa using hq) ⟨qz,rfl⟩ ?_ ?_
   ·rintro j dd env hj hd ⟨c3,rfl⟩;obtain⟨hjn,rfl⟩:=yU hd;have w:=aCT d p hF aE h hjn S qz qz qz;rw[h1 j hj,cond_false] at w;exact⟨_,_,rfl,w,_,rfl⟩
   ·rintro dd env hd ⟨c3,rfl⟩;obtain⟨hjn,rfl⟩:=yU hd;have w:=aCT d p hF aE h hjn S qz qz qz;rw[h2,cond_true] at w;exact⟨_,rfl,w⟩
  simp only[lK,dY,lp,oB];rfl
 ·obtain⟨aJ,lp,c3,rfl⟩:=aRI (t:=.one 3) (fi:=lv (aC fns (d+6)) sM) (fb:=xs (aC fns (d+6)) oH) (env:=dR rs F aE M qz qz qz qz) (S:=S) (S1:=S) (ds:=(yBk rs.length).map (λ k=>yAp ((k:Nat):Int))) (λ env=>∃ c3:Option W,env=dR rs F aE M c3 qz qz qz) hi ⟨qz,rfl⟩ (by
   rintro dd hdd env ⟨c3,rfl⟩;obtain⟨j,hj,rfl⟩:=List.mem_map.mp hdd;have hjn:j<rs.length:=by simpa using hj
   have w:=aCT d p hF aE h hjn S qz qz qz;rw[h1 j hjn,cond_false] at w;exact⟨_,_,rfl,w,_,rfl⟩)
  have lp':xs (aC fns (d+6)) (bI (aT iW)) (dR rs F aE M qz qz qz qz) S=qq (.nx (dR rs F aE M c3 qz qz qz),S):=lp;rw[dN lp'];have wo:=aQF (F:=F) d p aE ho hol h S c3 qz qz qz;have wo':lv (aC fns (d+6)) aA7 [qq (.d (.tuple [.tuple (rs.map Rw.d),.tuple (aE.map nD)])),qq (.d (.tuple (F.map Ft.d))),qq (.d (.tuple (M.map nD))),c3,qq (.d (.tuple (rs.map Rw.d))),qq (.d (.tuple (aE.map nD))),qz,qz,qz] S=_:=wo;have an:pJ [.list (aE.map λ o=>yDi (!(bY (2^g0 (rs.map (·.w)) o-1) (M.getD o 0)==0)))]=qq (.bool (lX rs aE M)):=aCI _ aE
  cases c:lX rs aE M with
  | true =>
    rw[c] at an;simp only[gS3,aT,iW,dR,wo',an,lR,cond_true]
  | false =>
    rw[c] at an;simp only[gS3,aT,iW,dR,wo',an,cond_false]
end
def Sb(a b:Nat):Prop:=∀ i,a.testBit i=true->b.testBit i=true
theorem Sb.refl(a:Nat):Sb a a:=λ _ h=>h
theorem Sb.trans{a b c:Nat}(h:Sb a b)(k:Sb b c):Sb a c:=λ i x=>k i (h i x)
theorem aQm(a b:Nat):Sb a (a|||b):=λ i h=>by rw[xAo,h,Bool.true_or]
theorem aQg(a b:Nat):Sb b (a|||b):=λ i h=>by rw[xAo,h,yGt]
theorem tR{M:List Nat}{q:Nat×Nat}:jS M q=false ↔ Sb q.2 (M.getD q.1 0):=by
 have h:=yJ q.2 (M.getD q.1 0);unfold jS;constructor
 ·intro e;refine h.mp ?_;cases c:(bY q.2 (M.getD q.1 0)==0) with
  | true=>exact beq_iff_eq.mp c
  | false=>rw[c] at e;cases e
 ·intro e;rw[beq_iff_eq.mpr (h.mpr e)];rfl
theorem aCb(M:List Nat)(q:Nat×Nat)(i:Nat):Sb (M.getD i 0) ((bK M q).getD i 0):=by
 unfold bK
 by_cases c:q.1=i
 ·subst c
  by_cases l:q.1<M.length
  ·rw[sU l];exact aQm _ _
  ·rw[yEp (by omega)]
   exact Sb.refl _
 ·rw[qA c];exact Sb.refl _
theorem tV:∀ (l:List (Nat×Nat)) (M:List Nat) (i:Nat),Sb (M.getD i 0) ((l.foldl bK M).getD i 0)
 | [],_,_=>Sb.refl _
 | q::l,M,i=>(aCb M q i).trans (tV l (bK M q) i)
theorem aNo(M:List Nat)(q:Nat×Nat):(bK M q).length=M.length:=by unfold bK;rw[yBc]
theorem aCa:∀ (l:List (Nat×Nat)) (M:List Nat) (q:Nat×Nat),q∈l->q.1<M.length->Sb q.2 ((l.foldl bK M).getD q.1 0)
 | [],_,_,h,_=>by cases h
 | x::l,M,q,h,hl=>by
   rcases List.mem_cons.mp h with rfl | h
   ·refine Sb.trans ?_ (tV l (bK M q) q.1);unfold bK;rw[sU hl];exact aQg _ _
   ·exact aCa l (bK M x) q h (by rw[aNo];exact hl)
theorem aBV:∀ (l:List (Nat×Nat)) (M:List Nat) (i:Nat),(∀ q∈l,q.1≠i)->(l.foldl bK M).getD i 0=M.getD i 0
 | [],_,_,_=>rfl
 | q::l,M,i,h=>by
   show(l.foldl bK (bK M q)).getD i 0=_;rw[aBV l (bK M q) i λ x hx=>h x (xAf _ hx)]
   unfold bK;exact qA (h q xAc)
section
variable {rs : List Rw}{F : List Ft}{r : Rw}{k m : Nat}{M : List Nat}
theorem aB5(hr:rs[k]? = qq r):fU rs F M k=(cH rs F r (M.getD k 0)).foldl bK M:=by unfold fU;rw[hr]
theorem aHf(p:Prg rs)(hk:k<rs.length)(h:Bd rs M):Bd rs (fU rs F M k):=by
 have hr:rs[k]? = qq rs[k]:=yAa hk;rw[aB5 hr];exact aCG p hr (h.lt k _ hr) _ M (λ q hq=>hq) h
theorem aCc:∀ (k:Nat) (M:List Nat) (i:Nat),Sb (M.getD i 0) ((jV rs F k M).getD i 0)
 | 0,_,_=>Sb.refl _
 | k+1,M,i=>by
   refine Sb.trans ?_ (aCc k (fU rs F M k) i);unfold fU;cases rs[k]? with
   | none=>exact Sb.refl _
   | some r=>exact tV _ M i
theorem aNt(p:Prg rs)(h:Bd rs M){i:Nat}(hi:k<=i)(hk:k<rs.length):(fU rs F M k).getD i 0=M.getD i 0:=by
 have hr:rs[k]? = qq rs[k]:=yAa hk;rw[aB5 hr];refine aBV _ M i λ q hq=>?_
 have:=(nH p hr (h.lt k _ hr) q hq).1;omega
theorem aGe(p:Prg rs):∀ (k:Nat) (M:List Nat) (i:Nat),Bd rs M->k<=rs.length->k<=i+1->(jV rs F k M).getD i 0=M.getD i 0
 | 0,_,_,_,_,_=>rfl
 | k+1,M,i,h,hk,hi=>by
   show(jV rs F k (fU rs F M k)).getD i 0=_;rw[aGe p k _ i (aHf p (by omega) h) (by omega) (by omega),aNt p h (by omega) (by omega)]
theorem aGl(p:Prg rs):∀ (k:Nat) (M:List Nat),Bd rs M->k<=rs.length->∀ (j:Nat) (r:Rw),j<k->rs[j]? = qq r->∀ q∈cH rs F r ((jV rs F k M).getD j 0),Sb q.2 ((jV rs F k M).getD q.1 0)
 | 0,_,_,_,j,_,hj,_,_,_=>absurd hj (yEd j)
 | k+1,M,h,hk,j,r,hj,hr,q,hq=>by
   have hb:=aHf (F:=F) p (show k<rs.length by omega) h
   by_cases c:j=k
   ·subst c;have e:(jV rs F (j+1) M).getD j 0=M.getD j 0:=aGe p (j+1) M j h hk (yAc _);rw[e] at hq;have a:=(nH p hr (h.lt j r hr) q hq).1;show Sb q.2 ((jV rs F j (fU rs F M j)).getD q.1 0);refine Sb.trans ?_ (aCc j (fU rs F M j) q.1);rw[aB5 hr];exact aCa _ M q hq (by rw[h.l];omega)
   ·exact aGl p k (fU rs F M k) hb (by omega) j r (by omega) hr q hq
theorem aB9:∀ (l:List Nat) (M:List Nat) (o:Nat),o<M.length->(o∈l\/M.getD o 0=2^g0 (rs.map (·.w)) o-1)->(l.foldl (cS rs) M).getD o 0=2^g0 (rs.map (·.w)) o-1
 | [],_,_,_,h=>by
   rcases h with h | h
   ·cases h
   ·exact h
 | x::l,M,o,hl,h=>by
   show(l.foldl (cS rs) (cS rs M x)).getD o 0=_;refine aB9 l (cS rs M x) o (by unfold cS;rw[yBc];exact hl) ?_
   by_cases c:x=o
   ·subst c
    right
    unfold cS;exact sU hl
   ·rcases h with h | h
    ·rcases List.mem_cons.mp h with h | h
     ·exact absurd h.symm c
     ·exact .inl h
    ·right
     unfold cS;rw[qA c];exact h
theorem aLo(p:Prg rs){aE:List Nat}(ho:∀ o∈aE,o<rs.length):Wr rs F aE (jU rs F aE) qz:=by
 have h0:Bd rs (gH rs aE):=aCg aE _ ho zD;refine .inr ⟨λ k hk=>?_,?_⟩
 ·have hr:rs[k]? = qq rs[k]:=yAa hk;unfold jC;rw[hr];show List.any _ _=false;rw[List.any_eq_false];intro q hq;have bq:jS (jU rs F aE) q=false:=tR.mpr (aGl p rs.length (gH rs aE) h0 (yAc _) k _ hk hr q hq);rw[bq];exact yBf
 ·have:lX rs aE (jU rs F aE)=false:=by
   unfold lX;rw[List.any_eq_false];intro o hm;have e:(gH rs aE).getD o 0=2^g0 (rs.map (·.w)) o-1:=aB9 aE _ o (by rw[yBp];exact ho o hm) (.inl hm)
   have s:Sb (2^g0 (rs.map (·.w)) o-1) ((jU rs F aE).getD o 0):=by
    rw[<- e];exact aCc rs.length (gH rs aE) o
   rw[(yJ _ _).mpr s];decide
  rw[this];rfl
end
theorem uL{a b L:Nat}(h:∀ i,i<L->a.testBit i=b.testBit i):∃ q:Int,((a:Nat):Int)=(b:Nat)+((2^L:Nat):Int)*q:=by
 have e:a%2^L=b%2^L:=by
  apply xAl;intro i;rw[yAr,yAr]
  by_cases c:i<L
  ·rw[h i c]
  ·rw[dqF c,yBh,yBh]
 have h1:=yEg a (2^L);have h2:=yEg b (2^L);refine⟨((a/2^L:Nat):Int)-((b/2^L:Nat):Int),?_⟩;rw[Int.mul_sub,<- yCd,<- yCd];generalize 2^L*(a/2^L)=x at *;generalize 2^L*(b/2^L)=y at *;omega
theorem zW{a b v:Nat}(ha:a<2^v)(hb:b<2^v)(h:∀ i,i<v->a.testBit i=b.testBit i):a=b:=by
 apply xAl;intro i
 by_cases c:i<v
 ·exact h i c
 ·rw[cL ha (by omega),cL hb (by omega)]
theorem aIL(x:Int){w t:Nat}(ht:t<w):(rs x w).testBit t=(rs x (t+1)).testBit t:=by
 rw[<- aHR x (show t+1<=w by omega),yAr,dqT (show t<t+1 by omega),yAt]
theorem aCk{x y q:Int}{w t h:Nat}(ht:t<w)(hh:t<h)(e:x=y+((2^h:Nat):Int)*q):(rs x w).testBit t=(rs y w).testBit t:=by
 rw[aIL x ht,aIL y ht];have e2:x=y+((2^(t+1):Nat):Int)*(((2^(h-(t+1)):Nat):Int)*q):=by
  rw[e,<- Int.mul_assoc,<- yCd,<- yEl,show t+1+(h-(t+1))=h by omega]
 rw[e2,aP3]
theorem aF5{a u:Nat}(h:∀ i,i<u->a.testBit i=false):∃ y:Int,((a:Nat):Int)=((2^u:Nat):Int)*y:=by
 obtain⟨q,e⟩:=uL (a:=a) (b:=0) (L:=u) λ i hi=>by rw[h i hi,yAz]
 exact⟨q,by rw[e];omega⟩
def rX(fs:List Fc)(ns:List Nat):Prop:=∀ c i,((fs.getD c default).N.testBit i=true->(g0 ns c).testBit i=false)/\((fs.getD c default).O.testBit i=true->(g0 ns c).testBit i=true)
def Ag(want os ns:List Nat):Prop:=∀ c i,(want.getD c 0).testBit i=true->(g0 os c).testBit i=(g0 ns c).testBit i
section
variable {w kk m t : Nat}{fs : List Fc}(hm : m<2 ^ w)(ht : m.testBit t = true)
include hm ht
theorem rN:t<w:=by
 by_cases c:t<w
 ·exact c
 ·rw[cL hm (by omega)] at ht;cases ht
theorem iB:m≠0:=λ h=>by rw[h,yAz] at ht;cases ht
theorem aRR{a b:Nat}(ha:a<2^w)(hb:b<2^w)(ag:Ag (bB .not w kk [w] fs m) [b] [a]):(2^w-1-b).testBit t=(2^w-1-a).testBit t:=by
 have h0:=iB hm ht;have e:(bB .not w kk [w] fs m).getD 0 0=m:=by unfold bB;rw[if_neg h0];rfl
 have q:b.testBit t=a.testBit t:=ag 0 t (by rw[e];exact ht)
 have tl:=rN hm ht;have c1:=mY hb t;have c2:=mY ha t;unfold oE at c1 c2;rw[c1,c2,q]
theorem aN6{a b:Nat}(ag:Ag (bB .left w kk [w] fs m) [b] [a]):(b*2^kk%2^w).testBit t=(a*2^kk%2^w).testBit t:=by
 have h0:=iB hm ht;have e:(bB .left w kk [w] fs m).getD 0 0=m/2^kk:=by unfold bB;rw[if_neg h0];rfl
 rw[yAr,yAr,xO,xO]
 by_cases c:kk<=t
 ·have q:b.testBit (t-kk)=a.testBit (t-kk):=ag 0 (t-kk) (by rw[e,gM,show kk+(t-kk)=t by omega];exact ht)
  rw[q]
 ·rw[dqF c,yBh,yBh]
theorem aM2{a b:Nat}(ha:a<2^w)(hb:b<2^w)(ag:Ag (bB .right w kk [w] fs m) [b] [a]):(b/2^kk).testBit t=(a/2^kk).testBit t:=by
 have h0:=iB hm ht;have e:(bB .right w kk [w] fs m).getD 0 0=(m*2^kk)&&&(2^w-1):=by unfold bB;rw[if_neg h0];rfl
 rw[gM,gM]
 by_cases c:kk+t<w
 ·exact ag 0 (kk+t) (by rw[e,yAj,cW,xO,dqT c,dqT (show kk<=kk+t by omega),show kk+t-kk=t by omega,ht];rfl)
 ·rw[cL ha (by omega),cL hb (by omega)]
theorem aGK{f a b v:Nat}(hv:1<=v){j:Nat}(hj:f.testBit j=true)(ag:∀ i,(iM f v).testBit i=true->b.testBit i=a.testBit i):(if j<v then b.testBit j else b.testBit (v-1))=(if j<v then a.testBit j else a.testBit (v-1)):=by
 by_cases c:j<v
 ·rw[if_pos c,if_pos c];exact ag j ((aBX hv).mpr (.inl ⟨c,hj⟩))
 ·rw[if_neg c,if_neg c];exact ag (v-1) ((aBX hv).mpr (.inr ⟨rfl,j,by omega,hj⟩))
theorem aMF{a b:Nat}(hw:1<=w)(ha:a<2^w)(hb:b<2^w)(ag:Ag (bB .slide w kk [w] fs m) [b] [a]):(dF b w (w+kk)/2^kk).testBit t=(dF a w (w+kk)/2^kk).testBit t:=by
 have h0:=iB hm ht;have tl:=rN hm ht;have e:(bB .slide w kk [w] fs m).getD 0 0=iM (m*2^kk) w:=by unfold bB;rw[if_neg h0];rfl
 have hj:(m*2^kk).testBit (kk+t)=true:=by rw[xO,dqT (show kk<=kk+t by omega),show kk+t-kk=t by omega,ht];rfl
 have q:=aGK hm ht (v:=w) (a:=a) (b:=b) hw hj λ i hi=>ag 0 i (by rw[e];exact hi)
 rw[gM,gM,pZ hb hw (by omega),pZ ha hw (by omega),dqT (show kk+t<w+kk by omega),yAt,yAt]
 exact q
theorem aPy{a b v:Nat}(hv:1<=v)(hvw:v<=w)(ha:a<2^v)(hb:b<2^v)(ag:Ag (bB .sign w kk [v] fs m) [b] [a]):(dF b v w).testBit t=(dF a v w).testBit t:=by
 have h0:=iB hm ht;have tl:=rN hm ht;have e:(bB .sign w kk [v] fs m).getD 0 0=iM m v:=by unfold bB;rw[if_neg h0];rfl
 have q:=aGK hm ht (v:=v) (a:=a) (b:=b) hv ht λ i hi=>ag 0 i (by rw[e];exact hi)
 rw[pZ hb hv hvw,pZ ha hv hvw,dqT tl,yAt,yAt];exact q
theorem aQZ{a b v:Nat}(ag:Ag (bB .cut w kk [v] fs m) [b] [a]):(b%2^w).testBit t=(a%2^w).testBit t:=by
 have h0:=iB hm ht;have e:(bB .cut w kk [v] fs m).getD 0 0=m:=by unfold bB;rw[if_neg h0];rfl
 have q:b.testBit t=a.testBit t:=ag 0 t (by rw[e];exact ht)
 rw[yAr,yAr,q]
theorem aN3{a b v:Nat}(ha:a<2^v)(hb:b<2^v)(ag:Ag (bB .wide w kk [v] fs m) [b] [a]):b.testBit t=a.testBit t:=by
 have h0:=iB hm ht;have e:(bB .wide w kk [v] fs m).getD 0 0=m&&&(2^v-1):=by unfold bB;rw[if_neg h0];rfl
 by_cases c:t<v
 ·exact ag 0 t (by rw[e,yAj,cW,ht,dqT c];rfl)
 ·rw[cL ha (by omega),cL hb (by omega)]
theorem aRd{a b c e:Nat}{ws:List Nat}(ag:Ag (bB .xor w kk ws fs m) [c,e] [a,b]):(c^^^e).testBit t=(a^^^b).testBit t:=by
 have h0:=iB hm ht;have e0:(bB .xor w kk ws fs m).getD 0 0=m:=by unfold bB;rw[if_neg h0];rfl
 have e1:(bB .xor w kk ws fs m).getD 1 0=m:=by unfold bB;rw[if_neg h0];rfl
 have q:c.testBit t=a.testBit t:=ag 0 t (by rw[e0];exact ht)
 have r:e.testBit t=b.testBit t:=ag 1 t (by rw[e1];exact ht)
 rw[yAo,yAo,q,r]
theorem aQn{a b c e:Nat}{ws:List Nat}(F:rX fs [a,b])(ag:Ag (bB .and w kk ws fs m) [c,e] [a,b]):(c&&&e).testBit t=(a&&&b).testBit t:=by
 have h0:=iB hm ht;have e0:(bB .and w kk ws fs m).getD 0 0=bY m (bY (fs.getD 1 default).N (fs.getD 0 default).N):=by unfold bB;rw[if_neg h0];rfl
 have e1:(bB .and w kk ws fs m).getD 1 0=bY m (fs.getD 0 default).N:=by unfold bB;rw[if_neg h0];rfl
 have g0':=ag 0 t;have g1':=ag 1 t;have f0:=(F 0 t).1;have f1:=(F 1 t).1;rw[e0,lC,lC,ht,yAt] at g0';rw[e1,lC,ht,yAt] at g1'
 change _->c.testBit t=a.testBit t at g0'
 change _->e.testBit t=b.testBit t at g1'
 change _->a.testBit t=false at f0
 change _->b.testBit t=false at f1
 rw[yAj,yAj]
 revert g0' g1' f0 f1
 cases (fs.getD 0 default).N.testBit t<;>cases (fs.getD 1 default).N.testBit t<;>cases a.testBit t<;>cases b.testBit t<;>cases c.testBit t<;>cases e.testBit t<;>decide
theorem aTg{a b c e:Nat}{ws:List Nat}(F:rX fs [a,b])(ag:Ag (bB .or w kk ws fs m) [c,e] [a,b]):(c|||e).testBit t=(a|||b).testBit t:=by
 have h0:=iB hm ht;have e0:(bB .or w kk ws fs m).getD 0 0=bY m (bY (fs.getD 1 default).O (fs.getD 0 default).O):=by unfold bB;rw[if_neg h0];rfl
 have e1:(bB .or w kk ws fs m).getD 1 0=bY m (fs.getD 0 default).O:=by unfold bB;rw[if_neg h0];rfl
 have g0':=ag 0 t;have g1':=ag 1 t;have f0:=(F 0 t).2;have f1:=(F 1 t).2;rw[e0,lC,lC,ht,yAt] at g0';rw[e1,lC,ht,yAt] at g1'
 change _->c.testBit t=a.testBit t at g0'
 change _->e.testBit t=b.testBit t at g1'
 change _->a.testBit t=true at f0
 change _->b.testBit t=true at f1
 rw[xAo,xAo]
 revert g0' g1' f0 f1
 cases (fs.getD 0 default).O.testBit t<;>cases (fs.getD 1 default).O.testBit t<;>cases a.testBit t<;>cases b.testBit t<;>cases c.testBit t<;>cases e.testBit t<;>decide
theorem aIb{wd:Wd}{ws:List Nat}(aN:wd=.add\/wd=.sub){a b c e:Nat}(ag:Ag (bB wd w kk ws fs m) [c,e] [a,b]):(∃ q:Int,((c:Nat):Int)=(a:Nat)+((2^bl m:Nat):Int)*q)/\∃ q:Int,((e:Nat):Int)=(b:Nat)+((2^bl m:Nat):Int)*q:=by
 have h0:=iB hm ht;have e0:(bB wd w kk ws fs m).getD 0 0=2^bl m-1:=by unfold bB;rw[if_neg h0];rcases aN with rfl | rfl<;>rfl
 have e1:(bB wd w kk ws fs m).getD 1 0=2^bl m-1:=by unfold bB;rw[if_neg h0];rcases aN with rfl | rfl<;>rfl
 exact⟨uL λ i hi=>ag 0 i (by rw[e0,cW,dqT hi]),uL λ i hi=>ag 1 i (by rw[e1,cW,dqT hi])⟩
theorem aRJ{ws:List Nat}{a b c e:Nat}(ag:Ag (bB .add w kk ws fs m) [c,e] [a,b]):(rs ((c:Nat)+(e:Nat):Int) w).testBit t=(rs ((a:Nat)+(b:Nat):Int) w).testBit t:=by
 obtain⟨⟨q,e1⟩,r,e2⟩:=aIb hm ht (.inl rfl) ag;refine aCk (q:=q+r) (rN hm ht) (aC9 ht) ?_;rw[e1,e2,Int.mul_add];omega
theorem aQC{ws:List Nat}{a b c e:Nat}(ag:Ag (bB .sub w kk ws fs m) [c,e] [a,b]):(rs ((c:Nat)-(e:Nat):Int) w).testBit t=(rs ((a:Nat)-(b:Nat):Int) w).testBit t:=by
 obtain⟨⟨q,e1⟩,r,e2⟩:=aIb hm ht (.inr rfl) ag;refine aCk (q:=q-r) (rN hm ht) (aC9 ht) ?_;rw[e1,e2,Int.mul_sub];omega
theorem aQ3{ws:List Nat}{a b c e:Nat}(F:rX fs [a,b])(ag:Ag (bB .mul w kk ws fs m) [c,e] [a,b]):(rs ((c:Nat)*(e:Nat):Int) w).testBit t=(rs ((a:Nat)*(b:Nat):Int) w).testBit t:=by
 have h0:=iB hm ht;have e0:(bB .mul w kk ws fs m).getD 0 0=2^(bl m-min (bl m) (lr (fs.getD 1 default).N))-1:=by unfold bB;rw[if_neg h0];rfl
 have e1:(bB .mul w kk ws fs m).getD 1 0=2^(bl m-min (bl m-min (bl m) (lr (fs.getD 1 default).N)) (lr (fs.getD 0 default).N))-1:=by unfold bB;rw[if_neg h0];rfl
 obtain⟨u,hu⟩:∃ u,u=min (bl m) (lr (fs.getD 1 default).N):=⟨_,rfl⟩;obtain⟨g,hg⟩:∃ g,g=min (bl m-u) (lr (fs.getD 0 default).N):=⟨_,rfl⟩;rw[<- hu] at e0 e1;rw[<- hg] at e1;have a0:∀ i,i<bl m-u->c.testBit i=a.testBit i:=λ i hi=>ag 0 i (by rw[e0,cW,dqT hi])
 have a1:∀ i,i<bl m-g->e.testBit i=b.testBit i:=λ i hi=>ag 1 i (by rw[e1,cW,dqT hi])
 have zb:∀ i,i<u->b.testBit i=false:=λ i hi=>(F 1 i).1 (qP (by omega))
 have za:∀ i,i<g->a.testBit i=false:=λ i hi=>(F 0 i).1 (qP (by omega))
 obtain⟨q,eq⟩:=uL a0;obtain⟨r,er⟩:=uL a1;obtain⟨y,ey⟩:=aF5 (a:=e) (u:=u) λ i hi=>by rw[a1 i (by omega)];exact zb i hi
 obtain⟨z,ez⟩:=aF5 za;have p1:((2^(bl m-u):Nat):Int)*((2^u:Nat):Int)=((2^bl m:Nat):Int):=by rw[<- yCd,<- yEl,show bl m-u+u=bl m by omega]
 have p2:((2^g:Nat):Int)*((2^(bl m-g):Nat):Int)=((2^bl m:Nat):Int):=by rw[<- yCd,<- yEl,show g+(bl m-g)=bl m by omega]
 refine aCk (q:=q*y+z*r) (rN hm ht) (aC9 ht) ?_;generalize ((2^(bl m-u):Nat):Int)=P1 at *;generalize ((2^(bl m-g):Nat):Int)=P2 at *;generalize ((2^bl m:Nat):Int)=P at *;generalize ((2^u:Nat):Int)=Q1 at *;generalize ((2^g:Nat):Int)=Q2 at *;generalize ((a:Nat):Int)=A at *;generalize ((b:Nat):Int)=B at *;generalize ((c:Nat):Int)=C at *;generalize ((e:Nat):Int)=E' at *
 calc C*E'=A*E'+P1*q*E':=by rw[eq,Int.add_mul]
  _=A*(B+P2*r)+P1*q*(Q1*y):=by rw[<- er,<- ey]
  _=A*B+Q2*z*(P2*r)+P1*q*(Q1*y):=by rw[Int.mul_add,<- ez]
  _=A*B+P*(q*y+z*r):=by
   have h1:Q2*z*(P2*r)=P*(z*r):=by rw[<- p2];simp only[Int.mul_assoc,Int.mul_left_comm]
   have h2:P1*q*(Q1*y)=P*(q*y):=by rw[<- p1];simp only[Int.mul_assoc,Int.mul_left_comm]
   rw[h1,h2,Int.mul_add];omega
theorem aQN{wd:Wd}{v:Nat}(aN:wd=.same\/wd=.less\/wd=.under){a b c e:Nat}(ha:a<2^v)(hb:b<2^v)(hc:c<2^v)(he:e<2^v)(ag:Ag (bB wd w kk [v,v] fs m) [c,e] [a,b]):c=a/\e=b:=by
 have h0:=iB hm ht;have e0:(bB wd w kk [v,v] fs m).getD 0 0=2^v-1:=by unfold bB;rw[if_neg h0];rcases aN with rfl | rfl | rfl<;>rfl
 have e1:(bB wd w kk [v,v] fs m).getD 1 0=2^v-1:=by unfold bB;rw[if_neg h0];rcases aN with rfl | rfl | rfl<;>rfl
 exact⟨zW hc ha λ i hi=>ag 0 i (by rw[e0,cW,dqT hi]),zW he hb λ i hi=>ag 1 i (by rw[e1,cW,dqT hi])⟩
theorem aOW{ws:List Nat}{z a b z' c e:Nat}(hz:z<2^1)(hz':z'<2^1)(F:rX fs [z,a,b])(ag:Ag (bB .pick w kk ws fs m) [z',c,e] [z,a,b]):(if z'=1 then c else e).testBit t=(if z=1 then a else b).testBit t:=by
 have h0:=iB hm ht;have en:bB .pick w kk ws fs m=if (fs.getD 0 default).O=1 then [1,m,0] else if (fs.getD 0 default).N=1 then [1,0,m] else [1,m,m]:=by unfold bB;rw[if_neg h0]
 have e0:(bB .pick w kk ws fs m).getD 0 0=1:=by rw[en];split;rfl;split<;>rfl
 have ez:z'=z:=zW hz' hz λ i hi=>ag 0 i (by rw[e0,show i=0 by omega];rfl)
 subst ez;have o1:(fs.getD 0 default).O=1->z'=1:=λ h=>by
  have:=(F 0 0).2 (by rw[h];rfl)
  have q:z'.testBit 0=true:=this;rcases (show z'=0\/z'=1 by omega) with rfl | rfl
  ·cases q
  ·rfl
 have n1:(fs.getD 0 default).N=1->z'≠1:=λ h=>by
  have:=(F 0 0).1 (by rw[h];rfl)
  have q:z'.testBit 0=false:=this;rintro rfl;cases q
 by_cases c1:z'=1
 ·rw[if_pos c1,if_pos c1];refine ag 1 t ?_;rw[en]
  split
  ·exact ht
  ·rw[if_neg λ h=>n1 h c1]
   exact ht
 ·rw[if_neg c1,if_neg c1];refine ag 2 t ?_;rw[en,if_neg λ h=>c1 (o1 h)]
  split
  ·exact ht
  ·exact ht
end
theorem aR3{wd:Wd}{w kk m t:Nat}{args ws ns os:List Nat}{fs:List Fc}(h:RwOk ⟨wd,w,args⟩ ws)(hk:qU wd args kk)(hm:m<2^w)(ht:m.testBit t=true)(ln:mK ws ns)(lo:mK ws os)(F:rX fs ns)(ag:Ag (bB wd w kk ws fs m) os ns):(cN ⟨wd,w,args⟩ ws os).testBit t=(cN ⟨wd,w,args⟩ ws ns).testBit t:=by
 cases h with
 | inp=>rfl
 | num=>rfl
 | nt h1 h2 =>
   obtain⟨a,rfl,ha⟩:=fF ln;obtain⟨b,rfl,hb⟩:=fF lo;exact aRR hm ht ha hb ag
 | sh h1 h2 aN hk' =>
   rename_i a0 k;obtain⟨a,rfl,ha⟩:=fF ln;obtain⟨b,rfl,hb⟩:=fF lo;have ek:k=kk:=by
    rcases aN with rfl | rfl | rfl
    all_goals
     obtain⟨a1,e,_⟩:=hk;injection e with _ e
     injection e
   subst ek;rcases aN with rfl | rfl | rfl
   ·exact aN6 hm ht ag
   ·exact aM2 hm ht ha hb ag
   ·exact aMF hm ht h1 ha hb ag
 | cut h1 hv h2 =>
   obtain⟨a,rfl,ha⟩:=fF ln;obtain⟨b,rfl,hb⟩:=fF lo;exact aQZ hm ht ag
 | wide h1 hv h2 =>
   obtain⟨a,rfl,ha⟩:=fF ln;obtain⟨b,rfl,hb⟩:=fF lo;exact aN3 hm ht ha hb ag
 | sign h1 hv h2 =>
   obtain⟨a,rfl,ha⟩:=fF ln;obtain⟨b,rfl,hb⟩:=fF lo;exact aPy hm ht h1 hv ha hb ag
 | bw h1 h2 aN =>
   obtain⟨a,b,rfl,ha,hb⟩:=jX ln;obtain⟨c,e,rfl,hc,he⟩:=jX lo;rcases aN with rfl | rfl | rfl
   ·exact aQn hm ht F ag
   ·exact aTg hm ht F ag
   ·exact aRd hm ht ag
 | sm h1 h2 =>
   rename_i s _ _;obtain⟨a,b,rfl,ha,hb⟩:=jX ln;obtain⟨c,e,rfl,hc,he⟩:=jX lo;cases s with
   | add=>exact aRJ hm ht ag
   | sub=>exact aQC hm ht ag
   | mul=>exact aQ3 hm ht F ag
 | cmp h1 h2 aN =>
   obtain⟨a,b,rfl,ha,hb⟩:=jX ln;obtain⟨c,e,rfl,hc,he⟩:=jX lo;obtain⟨rfl,rfl⟩:=aQN hm ht aN ha hb hc he ag;rfl
 | pick h1 h2 =>
   obtain⟨z,a,b,rfl,hz,ha,hb⟩:=aAC ln;obtain⟨z',c,e,rfl,hz',hc,he⟩:=aAC lo;exact aOW hm ht hz hz' F ag
theorem yT:∀ (rs:List Rw) (W is aF:List Nat),cJ rs W is (yAb rs.length 0) aF=cX rs W is aF
 | [],_,_,_=>rfl
 | r::rs,W,is,aF=>by
   rw[yBs,yAw,cJ,cX,yEs,yEs,yT rs,yT rs]
theorem aIs{W:List Nat}:∀ (rs:List Rw) (is ms ms' aF acc' R R':List Nat),aF.length=acc'.length->cK rs is->ms.length=rs.length->ms'.length=rs.length->(∀ (j:Nat) (r:Rw),rs[j]? = qq r->∀ a∈r.args.take (bF r.wd),a<aF.length+j)->cJ rs W is ms aF=R->cJ rs W is ms' acc'=R'->∀ (j:Nat) (r:Rw),rs[j]? = qq r->(∃ n,R[aF.length+j]? = qq (n^^^ms.getD j 0)/\R'[aF.length+j]? = qq (n^^^ms'.getD j 0))\/(R[aF.length+j]? = qq (cN r (aU r W) (aU r R)^^^ms.getD j 0)/\R'[aF.length+j]? = qq (cN r (aU r W) (aU r R')^^^ms'.getD j 0))
 | [],_,_,_,_,_,_,_,_,_,_,_,_,_,_,j,r,h=>by simp at h
 | r0::rs,is,[],_,_,_,_,_,_,_,h,_,_,_,_,_,_,_=>by simp at h
 | r0::rs,is,_::_,[],_,_,_,_,_,_,_,h,_,_,_,_,_,_=>by simp at h
 | r0::rs,is,m::ms,m'::ms',aF,acc',R,R',ha,hi,l1,l2,hf,h1,h2,j,r,hr=>by
   have go:∀ (is':List Nat) (z z':Nat),cK rs is'->cJ rs W is' ms (aF++[z])=R->cJ rs W is' ms' (acc'++[z'])=R'->∀ j,rs[j]? = qq r->(∃ n,R[aF.length+(j+1)]? = qq (n^^^ms.getD j 0)/\R'[aF.length+(j+1)]? = qq (n^^^ms'.getD j 0))\/(R[aF.length+(j+1)]? = qq (cN r (aU r W) (aU r R)^^^ms.getD j 0)/\R'[aF.length+(j+1)]? = qq (cN r (aU r W) (aU r R')^^^ms'.getD j 0)):=λ is' z z' hi' g1 g2 j hj=>by
    have e:(aF++[z]).length=aF.length+1:=by simp
    have e':(acc'++[z']).length=aF.length+1:=by simp[ha]
    have:=aIs rs is' ms ms' (aF++[z]) (acc'++[z']) R R' (by rw[e,e']) hi' (by simpa using l1) (by simpa using l2) (λ j r hr a q=>by
     have:=hf (j+1) r hr a q;rw[e];omega) g1 g2 j r hj
    rw[e,Nat.add_right_comm,Nat.add_assoc] at this;exact this
   by_cases c:r0.wd=.in
   ·obtain⟨n,is1,rfl,hi1,a1,g1⟩:=aHs h1 c hi;obtain⟨n',is2,e,hi2,a2,g2⟩:=aHs h2 c hi;cases e;cases j with
    | zero=>exact .inl ⟨n,a1,by rw[ha];exact a2⟩
    | succ j=>exact go is1 _ _ hi1 g1 g2 j hr
   ·have hf0:∀ a∈r0.args.take (bF r0.wd),a<aF.length:=λ a q=>hf 0 r0 rfl a q
    obtain⟨hi1,a1,z,g1⟩:=aG0 h1 c hi hf0;obtain⟨hi2,a2,z',g2⟩:=aG0 h2 c hi (ha▸hf0);cases j with
    | zero =>
      cases hr;exact .inr ⟨a1,by rw[ha];exact a2⟩
    | succ j=>exact go is z z' hi1 g1 g2 j hr
section
variable {rs : List Rw}{F : List Ft}{M T is aE : List Nat}
theorem aMU(p:Prg rs)(s:Snd rs F)(hF:F.length=rs.length)(hi:cK rs is){k:Nat}{r:Rw}(hr:rs[k]? = qq r):rX (gT r F) (aU r (cX rs (rs.map (·.w)) is [])):=λ c i=>by
 obtain⟨f1,f2⟩:=p.fit k r hr;have hk:k<rs.length:=(gIm hr).1;unfold gT fG aU g0;rw[yBo,xAg,xAg,yAe,yAe];cases e:(r.args.take (bF r.wd))[c]? with
 | none=>exact⟨λ z=>absurd z (by rw[show((Option.map _ qz:Option Fc).getD default).N=0 from rfl,yAz];decide),λ z=>absurd z (by rw[show((Option.map _ qz:Option Fc).getD default).O=0 from rfl,yAz];decide)⟩
 | some a =>
   have ha:=f2 a (xAk e);have hw:=nE (l:=rs.map (·.w)) (a:=a) (by rw[yAf];omega)
   have hn:=nE (l:=cX rs (rs.map (·.w)) is []) (a:=a) (by rw[tU p hi];omega)
   obtain⟨h1,h2,_⟩:=s.hold is hi a _ _ _ (lG (by omega)) hw hn
   exact⟨h1 i,h2 i⟩
theorem aLz(p:Prg rs)(s:Snd rs F)(hF:F.length=rs.length)(hi:cK rs is)(hb:Bd rs M)(hw:∀ k,k<rs.length->jC rs F M k=false)(hT:MsOk rs T)(lt:∀ (i a w:Nat),(cJ rs (rs.map (·.w)) is T [])[i]? = qq a->(rs.map (·.w))[i]? = qq w->a<2^w)(ll:(cJ rs (rs.map (·.w)) is T []).length=rs.length)(dj:∀ k i,(M.getD k 0).testBit i=true->(T.getD k 0).testBit i=false):∀ k,k<rs.length->∀ i,(M.getD k 0).testBit i=true->(g0 (cJ rs (rs.map (·.w)) is T []) k).testBit i=(g0 (cX rs (rs.map (·.w)) is []) k).testBit i:=by
 intro k
 induction k using Nat.strongRecOn with
 | ind k ih =>
   intro hk i hb';have hr:rs[k]? = qq rs[k]:=yAa hk;generalize rs[k]=r at hr;obtain⟨f1,f2⟩:=p.fit k r hr;have R:=aIs (W:=rs.map (·.w)) rs is T (yAb rs.length 0) [] [] _ _ rfl hi hT.l yBp (λ j r hr a ha=>by rw[yCn,yDs];exact(p.fit j r hr).2 a ha) rfl rfl k r hr
   rw[yT,yCn,yDs,show(yAb rs.length 0).getD k 0=0 by rw[xAg,yCr,if_pos hk];rfl,yEs] at R
   have t0:=dj k i hb';have hx:∀ n:Nat,(n^^^T.getD k 0).testBit i=n.testBit i:=λ n=>by rw[yAo,t0,Bool.xor_false]
   have gk:∀ {l:List Nat}{v:Nat},l[k]? = qq v->g0 l k=v:=λ {l v} e=>by
    show l.getD k 0=v;rw[xAg,e];rfl
   rcases R with ⟨n,r1,r2⟩ | ⟨r1,r2⟩
   ·rw[gk r1,gk r2,hx,yEs]
   ·rw[gk r1,gk r2,hx];obtain⟨w1,w2⟩:=uU f1;have len:∀ a∈r.args.take (bF r.wd),a<rs.length:=λ a ha=>by have:=f2 a ha;omega
    refine aR3 (kk:=rR r) (fs:=gT r F) f1 w2 (hb.lt k r hr) hb' (tX (λ i a w h1 h2=>zY p hi h1 h2) _ λ a ha=>⟨by rw[tU p hi];exact len a ha,by rw[yAf];exact len a ha⟩) (tX lt _ λ a ha=>⟨by rw[ll];exact len a ha,by rw[yAf];exact len a ha⟩) (aMU p s hF hi hr) λ c j hj=>?_
    unfold aU g0;rw[xAg,xAg,yAe,yAe];cases e:(r.args.take (bF r.wd))[c]? with
    | none=>rfl
    | some a =>
      have ha:=f2 a (xAk e);refine ih a ha (by omega) j ?_
      have hq:∃ v,(mG rs F r (M.getD k 0))[c]? = qq v/\v.testBit j=true:=by
       have hj':((mG rs F r (M.getD k 0)).getD c 0).testBit j=true:=hj;rw[xAg] at hj';cases q:(mG rs F r (M.getD k 0))[c]? with
       | none=>rw[q] at hj';rw[show(qz:Option Nat).getD 0=0 from rfl,yAz] at hj';cases hj'
       | some v=>rw[q] at hj';exact⟨v,rfl,hj'⟩
      obtain⟨v,hv,hj2⟩:=hq;have hm:(a,v)∈cH rs F r (M.getD k 0):=by
       refine xAk (i:=c) ?_;unfold cH iD;rw[List.getElem?_zip_eq_some];exact⟨e,hv⟩
      have b1:=hw k hk;unfold jC at b1;rw[hr] at b1;exact tR.mp (by simpa using List.any_eq_false.mp b1 _ hm) j hj2
end
theorem aHS{f g:Ft}(hN:∀ i,f.N.testBit i=true->g.N.testBit i=true)(hO:∀ i,f.O.testBit i=true->g.O.testBit i=true)(hA:f.A<=g.A):sG f g=true:=by
 unfold sG;rw[(yJ f.N g.N).mpr hN,(yJ f.O g.O).mpr hO,dqT hA];rfl
def sA(rs:List Rw)(F:List Ft):Prop:=∀ (i:Nat) (r:Rw),i<F.length->rs[i]? = qq r->∃ g,(∀ d S,cl fns (d+7) 48 [.d r.d,.d (.tuple ((aU r (rs.map (·.w))).map nD)),.d (.tuple ((fG r F).map Ft.d))] S=qq (.d g.d,S))/\sG (f0 F i) g=true
theorem aNA{rs:List Rw}(p:Prg rs){F:List Ft}(h:sA rs F){r:Rw}{g f:Ft}(hr:rs[F.length]? = qq r)(nx:Nx rs F F.length r g)(hw:sG f g=true):sA rs (F++[f]):=λ i q hi hq=>by
 by_cases c:i<F.length
 ·obtain⟨g',h1,h2⟩:=h i q c hq;refine⟨g',?_,by rw[aIj c];exact h2⟩
  rw[aBJ λ a ha=>by have:=(p.fit i q hq).2 a ha;omega]
  exact h1
 ·have ci:i=F.length:=by simp at hi;omega
  subst ci;rw[hr] at hq;cases hq;refine⟨g,?_,by rw[aH8];exact hw⟩
  rw[aBJ λ a ha=>(p.fit _ r hr).2 a ha]
  exact nx.rule
theorem aMP(d:Nat){rs:List Rw}{F:List Ft}(p:Prg rs)(hl:F.length=rs.length)(hw:sA rs F)(o:D)(S:aD):cl fns (d+9) 50 [.d (.tuple [.tuple (rs.map Rw.d),o]),.d (.tuple (F.map Ft.d))] S=qq (.d .none,S):=by
 have i0:aI (.tuple [.tuple (rs.map Rw.d),o]) (.int 0)=qq (.tuple (rs.map Rw.d)):=rfl;have pl:=p.l;obtain⟨aJ,S',p1,c3,c4,rfl,rfl⟩:=iH (t:=.many [3,4]) (fi:=lv (aC fns (d+8)) xB) (fb:=xs (aC fns (d+8)) xD) (env:=[qq (.d (.tuple [.tuple (rs.map Rw.d),o])),qq (.d (.tuple (F.map Ft.d))),qq (.d (.tuple ((rs.map (·.w)).map nD))),qz,qz]) (S:=S) (S1:=S) (ds:=(rs.map Rw.d).zipIdx.map (λ q=>yCx [.int (q.2:Nat),q.1]))
  (λ j env S'=>∃ c3 c4:Option W,env=[qq (.d (.tuple [.tuple (rs.map Rw.d),o])),qq (.d (.tuple (F.map Ft.d))),qq (.d (.tuple ((rs.map (·.w)).map nD))),c3,c4]/\S'=S)
  (by
    simp only[xB,nP,mV,mP,mU,nC,nF,mS];exact aKT (by simp only[evs,i0])) ⟨qz,qz,rfl,rfl⟩ (by
    rintro j dd env S' hd ⟨c3,c4,rfl,rfl⟩;obtain⟨r,hr,rfl⟩:∃ r,rs[j]? = qq r/\dd=.tuple [.int (j:Nat),r.d]:=by
     simp only[yAe,List.getElem?_zipIdx,Option.map_map] at hd;obtain⟨r,h1,h2⟩:=Option.map_eq_some_iff.mp hd;exact⟨r,h1,by rw[<- h2];simp⟩
    have hj:j<rs.length:=(gIm hr).1;have hWl:(rs.map (·.w)).length=rs.length:=yAf ..;obtain⟨f1,f2⟩:=p.fit j r hr;obtain⟨g,rl,wk⟩:=hw j r (by omega) hr
    have o1:=aCd (d+6) r (rs.map (·.w)) S' λ a ha=>by have:=f2 a ha;omega
    have o2:=tK (d+6) r (.d (.tuple (F.map Ft.d))) (.tuple (F.map Ft.d)) (λ a=>(f0 F a).d) S' (λ _=>rfl) λ a ha=>fB (by rw[yAe,lG (by have:=f2 a ha;omega)];rfl)
    have o2':cl fns (d+8) 8 [.d r.d,.d (.tuple (F.map Ft.d))] S'=qq (.d (.tuple ((fG r F).map Ft.d)),S'):=by
     rw[o2,fG,yBo];rfl
    have e3:aI (.tuple (F.map Ft.d)) (.int (j:Nat))=qq (f0 F j).d:=fB (by rw[yAe,lG (by omega)];rfl)
    have e4:=aMl (d+7) (f0 F j) g S';rw[wk] at e4;refine⟨_,[qq (.d (.tuple [.tuple (rs.map Rw.d),o])),qq (.d (.tuple (F.map Ft.d))),qq (.d (.tuple ((rs.map (·.w)).map nD))),qq (.d (.int (j:Nat))),qq (.d r.d)],S',rfl,?_,_,_,rfl,rfl⟩;simp only[evs,xD,e3,o1,o2',rl (d+1),e4])
 have p1':dX (.many [3,4]) (lv (aC fns (d+8)) xB) (xs (aC fns (d+8)) xD) [qq (.d (.tuple [.tuple (rs.map Rw.d),o])),qq (.d (.tuple (F.map Ft.d))),qq (.d (.tuple ((rs.map (·.w)).map nD))),qz,qz] S'=qq (.nx [qq (.d (.tuple [.tuple (rs.map Rw.d),o])),qq (.d (.tuple (F.map Ft.d))),qq (.d (.tuple ((rs.map (·.w)).map nD))),c3,c4],S'):=p1;rw[aV rfl (d+8) _ S' rfl];have hq76:=aBb (d+7) rs o (by omega)
 simp only[gR1,aEC,hq76,p1']
theorem aN7{rs:List Rw}{O:List Ft}(oo:wM rs O):sA rs O:=λ i r hi hr=>by
 obtain⟨g,rfl,nx⟩:=oo i r hi hr;exact⟨_,nx.rule,aHS (λ _ h=>h) (λ _ h=>h) (yAc _)⟩
section
variable {ns : List Int}{k : Nat}{x : Int}
theorem aNJ(d w:Nat)(T:aD)(hT:T.length<=40)(f:Ft)(hf:FtOk f w)(hw:w<=64)(hk:k<=90000):∃ (g:Ft) (k':Nat) (x':Int),FtOk g w/\(∀ i,g.N.testBit i=true->f.N.testBit i=true)/\(∀ i,g.O.testBit i=true->f.O.testBit i=true)/\g.A<=f.A/\k'<=k+6/\cl fns (d+3) 72 [.loc 0,.d f.d,.d (.int (w:Nat))] (sT T ns k x)=qq (.d g.d,sT T ns k' x'):=by
 obtain⟨q,x1,hq,e1⟩:=nG (ns:=ns) (k:=k) (x:=x) T hT (d+1) 3 (by decide) (by decide) (by omega)
 have e1':cl fns (d+2) 60 [.loc 0,.d (.int 3)] (sT T ns k x)=qq (.d (.int (q:Nat)),sT T ns (k+1) x1):=e1;have tk:∀ (k':Nat) (x':Int),yDx (List.length T+1) (sT T ns k' x')=sT T ns k' x':=λ k' x'=>by
  rw[show T.length+1=(sT T ns k' x').length from rfl,yAi]
 have fa:=hf.a1;have fw:=hf.aw
 by_cases c:0<q
 ·have d1:decide ((0:Int)<((q:Nat):Int))=true:=dqT (by omega)
  refine⟨f,k+1,x1,hf,λ _ h=>h,λ _ h=>h,yAc _,by omega,?_⟩
  rw[aV rfl (d+2) _ _ rfl];simp only[gR1,aA9,e1',iI,d1,tk]
 ·have d1:decide ((0:Int)<((q:Nat):Int))=false:=dqF (by omega)
  obtain⟨n1,k2,x2,hn1,hk2,e2⟩:=aBT (ns:=ns) (k:=k+1) (x:=x1) T hT d w hw (by omega)
  obtain⟨n2,k3,x3,hn2,hk3,e3⟩:=aBT (ns:=ns) (k:=k2) (x:=x2) T hT d w hw (by omega)
  obtain⟨u,x4,hu,e4⟩:=nG (ns:=ns) (k:=k3) (x:=x3) T hT (d+1) f.A (by omega) (by omega) (by omega)
  have ea:(1:Int)+(u:Int)=((1+u:Nat):Int):=by omega
  refine⟨⟨f.N&&&(n1|||n2),f.O&&&(n1|||n2),1+u⟩,k3+1,x4,⟨xAi yBy hf.lN,xAi yBy hf.lO,by show 1<=1+u;omega,by show 1+u<=w;omega⟩,λ i h=>?_,λ i h=>?_,by show 1+u<=f.A;omega,by omega,?_⟩
  ·have h':(f.N&&&(n1|||n2)).testBit i=true:=h
   rw[yAj,yBb] at h';exact h'.1
  ·have h':(f.O&&&(n1|||n2)).testBit i=true:=h
   rw[yAj,yBb] at h';exact h'.1
  ·rw[aV rfl (d+2) _ _ rfl];simp only[gR1,aA9,e1',iI,d1,e2,e3,eP,fL,fS,iS,dG,e4,eI,ea,tk]
theorem aMH(F:List Ft)(f:Ft):(F++[f]).map Ft.d=F.map Ft.d++[f.d]:=by
 rw[yCo];rfl
theorem aMj(d:Nat)(rs:List Rw)(o:D)(p:Prg rs)(hk:k<=50000):∃ (F:List Ft) (k':Nat) (x':Int),F.length=rs.length/\Snd rs F/\sA rs F/\k'<=k+1+6*rs.length/\cl fns (d+10) 74 [.loc 0,.d (.tuple [.tuple (rs.map Rw.d),o])] [qq (aH ns k x)]=qq (.d (.tuple (F.map Ft.d)),[qq (aH ns k' x')]):=by
 have pl:=p.l;have i0:aI (.tuple [.tuple (rs.map Rw.d),o]) (.int 0)=qq (.tuple (rs.map Rw.d)):=rfl;have lR:iN [.tuple (rs.map Rw.d)]=qq (.int (rs.length:Nat)):=by
  show qq (yAp (((rs.map Rw.d).length:Nat):Int))=_;rw[yAf]
 obtain⟨q,x1,hq,e1⟩:=nG (ns:=ns) (k:=k) (x:=x) [] (by decide) (d+8) 2 (by decide) (by decide) (by omega)
 have e1':cl fns (d+9) 60 [.loc 0,.d (.int 2)] [qq (aH ns k x)]=qq (.d (.int (q:Nat)),[qq (aH ns (k+1) x1)]):=e1
 by_cases c:q=1
 ·have dq:(((q:Nat):Int)==1)=true:=by rw[beq_iff_eq];omega
  obtain⟨F,fl,fs,fo,eF⟩:=aKX d rs o p [qq (aH ns (k+1) x1)];refine⟨F,k+1,x1,fl,fs,aN7 fo,by omega,?_⟩
  rw[aV rfl (d+9) _ _ rfl];simp only[gR1,aBh,e1',bP,dq,eF]
 ·have dq:(((q:Nat):Int)==1)=false:=by rw[beq_eq_false_iff_ne];omega
  obtain⟨P,hP⟩:∃ P:D,P=.tuple [.tuple (rs.map Rw.d),o]:=⟨_,rfl⟩;obtain⟨aJ,S',p1,F,k',x',c3,c4,c5,c6,c7,fl,fs,fw,hk',rfl,rfl⟩:=iH (t:=.one 3) (fi:=lv (aC fns (d+9)) xA) (fb:=xs (aC fns (d+9)) xH) (env:=[qq (.loc 0),qq (.d P),qq (.loc 1),qz,qz,qz,qz,qz,qz]) (S:=[qq (aH ns (k+1) x1),qq []]) (S1:=[qq (aH ns (k+1) x1),qq []]) (ds:=(yBk rs.length).map (λ k=>yAp ((k:Nat):Int)))
   (λ j env S'=>∃ (F:List Ft) (k':Nat) (x':Int) (c3 c4 c5 c6 c7:Option W),F.length=j/\Snd rs F/\sA rs F/\k'<=k+1+6*j/\env=[qq (.loc 0),qq (.d P),qq (.loc 1),c3,c4,c5,c6,c7,qz]/\S'=[qq (aH ns k' x'),qq (F.map Ft.d)])
   (by
     simp only[xA,nP,mV,mP,mU,nC,nF,mS];exact qB (by rw[hP];simp only[evs,i0,lR]) (by omega)) ⟨[],k+1,x1,qz,qz,qz,qz,qz,rfl,aGY rs,(λ i r hi=>absurd hi (yEd i)),by omega,rfl,rfl⟩ (by
     rintro j dd env S' hd ⟨F,k',x',c3,c4,c5,c6,c7,fl,fs,fw,hk',rfl,rfl⟩;obtain⟨hj,rfl⟩:=yU hd;subst fl;have hr:rs[F.length]? = qq rs[F.length]:=yAa hj;obtain⟨r,er⟩:∃ r,r=rs[F.length]:=⟨_,rfl⟩;rw[<- er] at hr;obtain⟨w1,w2⟩:=p.ws _ r hr;obtain⟨f1,f2'⟩:=p.fit _ r hr;have ol:=uD r;have er1:aI (.tuple (rs.map Rw.d)) (.int (F.length:Nat))=qq r.d:=fB (by rw[yAe,hr];rfl)
     obtain⟨g,nx⟩:=aFj p fs hr (yAc _);have ah:=aGd (d+7) p hr o [qq (aH ns k' x'),qq (F.map Ft.d)];rw[<- hP] at ah;obtain⟨vs,S2,ec,hS2,hI,hvl,hq⟩:=aGg (t:=.one 8) (fi:=lv (aC fns (d+9)) (.it (.var 6))) (fe:=ev (aC fns (d+9)) (.ix (.var 2) (.var 8))) (env:=[qq (.loc 0),qq (.d P),qq (.loc 1),qq (.d (.int (F.length:Nat))),c4,c5,qq (.d (.tuple ((iD r).map nD))),qq (.d (.tuple ((aU r (rs.map (·.w))).map nD))),qz]) (S:=[qq (aH ns k' x'),qq (F.map Ft.d)]) (S1:=[qq (aH ns k' x'),qq (F.map Ft.d)]) nD (λ _ S'=>S'=[qq (aH ns k' x'),qq (F.map Ft.d)]) (λ a v=>v=(f0 F a).d) (iD r) (by
      simp only[evs,eZ]) (by rw[zv];omega) rfl (by
      intro a ha;refine⟨_,rfl,?_⟩;rintro i S3 aF hi hSl rfl;have hx:aI (.list (F.map Ft.d)) (nD a)=qq (f0 F a).d:=lH (by rw[yAe,lG (f2' a ha)];rfl)
      refine⟨(f0 F a).d,_,?_,rfl,rfl,rfl⟩;simp only[evs,clr,yBl,yCk,hx])
     subst hI;have ev1:vs=(fG r F).map Ft.d:=by
      rw[aE0 hvl hq,fG,yBo];rfl
     subst ev1;have ec':lv (aC fns (d+9)) aEf [qq (.loc 0),qq (.d P),qq (.loc 1),qq (.d (.int (F.length:Nat))),c4,c5,qq (.d (.tuple ((iD r).map nD))),qq (.d (.tuple ((aU r (rs.map (·.w))).map nD))),qz] [qq (aH ns k' x'),qq (F.map Ft.d)]=qq ((fG r F).map Ft.d,[qq (aH ns k' x'),qq (F.map Ft.d)]):=ec;have rl:=nx.rule (d+2) [qq (aH ns k' x'),qq (F.map Ft.d)];obtain⟨f,k2,x2,fk,hN,hO,hA,hk2,ew⟩:=aNJ (ns:=ns) (k:=k') (x:=x') (d+6) r.w [qq (F.map Ft.d)] (by show 1<=40;decide) g nx.ok w2 (by omega)
     have ew':cl fns (d+9) 72 [.loc 0,.d g.d,.d (.int (r.w:Nat))] [qq (aH ns k' x'),qq (F.map Ft.d)]=qq (.d f.d,[qq (aH ns k2 x2),qq (F.map Ft.d)]):=ew;have ap:eJ [qq (aH ns k2 x2),qq (F.map Ft.d)] (.loc 1) (.d f.d)=qq (.d .none,[qq (aH ns k2 x2),qq ((F++[f]).map Ft.d)]):=by
      rw[aMH];exact qG [qq (aH ns k2 x2)] (F.map Ft.d) f.d (by rw[yAf];omega)
     have iP:aI P (.int 0)=qq (.tuple (rs.map Rw.d)):=by rw[hP];rfl
     refine⟨[qq (.loc 0),qq (.d P),qq (.loc 1),qq (.d (.int (F.length:Nat))),c4,c5,c6,c7,qz],[qq (.loc 0),qq (.d P),qq (.loc 1),qq (.d (.int (F.length:Nat))),qq (.d (.tuple ((fG r F).map Ft.d))),qq (.d r.d),qq (.d (.tuple ((iD r).map nD))),qq (.d (.tuple ((aU r (rs.map (·.w))).map nD))),qz],[qq (aH ns k2 x2),qq ((F++[f]).map Ft.d)],rfl,?_,F++[f],k2,x2,_,_,_,_,_,by simp,aGr fs hr nx fk hN hO hA,aNA p fw hr nx (aHS hN hO hA),by omega,rfl,rfl⟩
     simp only[evs,xH,ah,ec',gC,fZ,iP,er1,rl,fK,ew',gQ,ap])
  rw[yAf,List.length_range] at fl hk';refine⟨F,k',x',fl,fs,fw,hk',?_⟩;rw[<- hP];have p1':dX (.one 3) (lv (aC fns (d+9)) xA) (xs (aC fns (d+9)) xH) [qq (.loc 0),qq (.d P),qq (.loc 1),qz,qz,qz,qz,qz,qz] [qq (aH ns (k+1) x1),qq []]=qq (.nx [qq (.loc 0),qq (.d P),qq (.loc 1),c3,c4,c5,c6,c7,qz],[qq (aH ns k' x'),qq (F.map Ft.d)]):=p1;rw[aV rfl (d+9) _ _ rfl];simp only[gR1,aBh,e1',bP,dq,fD,p1',gC,fZ]
end
section
variable {rs : List Rw}{F : List Ft}{M aE : List Nat}
theorem aMp{a:Nat}(h:a<M.length):bK M (a,0)=M:=by
 unfold bK;rw[Nat.or_zero];apply List.ext_getElem?;intro j
 by_cases c:a=j
 ·subst c;rw[yAx h,aB8 h]
 ·rw[yAy c]
structure Clo(rs:List Rw)(F:List Ft)(aE M:List Nat)(j:Nat):Prop where
 bd:Bd rs M
 ou:∀ o∈aE,Sb (2^g0 (rs.map (·.w)) o-1) (M.getD o 0)
 me:∀ (k:Nat) (r:Rw),j<=k->rs[k]? = qq r->∀ q∈cH rs F r (M.getD k 0),Sb q.2 (M.getD q.1 0)
theorem aMO(p:Prg rs){a v:Nat}{r:Rw}(h:Clo rs F aE M (a+1))(hr:rs[a]? = qq r)(hv:v<2^r.w):Clo rs F aE ((cH rs F r ((bK M (a,v)).getD a 0)).foldl bK (bK M (a,v))) a:=by
 have hal:a<rs.length:=(gIm hr).1;have b1:Bd rs (bK M (a,v)):=vG h.bd hal λ r' hr'=>by
  rw[hr] at hr';cases hr';exact hv
 have hm:=b1.lt a r hr;have far:∀ i,a<=i->((cH rs F r ((bK M (a,v)).getD a 0)).foldl bK (bK M (a,v))).getD i 0=(bK M (a,v)).getD i 0:=λ i hi=>aBV _ _ i λ q hq=>by
  have:=(nH p hr hm q hq).1;omega
 refine⟨aCG p hr hm _ _ (λ q hq=>hq) b1,λ o ho=>(h.ou o ho).trans ((aCb M (a,v) o).trans (tV _ _ o)),λ k r' hk hr' q hq=>?_⟩
 rw[far k hk] at hq
 by_cases c:k=a
 ·subst c;rw[hr] at hr';cases hr';exact aCa _ _ q hq (by rw[b1.l];have:=(nH p hr hm q hq).1;omega)
 ·rw[show(bK M (a,v)).getD k 0=M.getD k 0 from qA (λ z=>c z.symm)] at hq
  exact(h.me k r' (by omega) hr' q hq).trans ((aCb M (a,v) q.1).trans (tV _ _ q.1))
theorem aSn(h:Clo rs F aE M 0):Wr rs F aE M qz:=by
 refine .inr ⟨λ k hk=>?_,?_⟩
 ·unfold jC;rw[yAa hk];refine List.any_eq_false.mpr λ q hq=>?_
  rw[tR.mpr (h.me k _ (yFb _) (yAa hk) q hq)];decide
 ·have:lX rs aE M=false:=by
   unfold lX;refine List.any_eq_false.mpr λ o ho=>?_
   have:=tR (M:=M) (q:=(o,2^g0 (rs.map (·.w)) o-1)).mpr (h.ou o ho);unfold jS at this;rw[this];decide
  rw[this];rfl
theorem aLK(p:Prg rs)(ho:∀ o∈aE,o<rs.length):Clo rs F aE (gH rs aE) rs.length:=
 ⟨aCg aE _ ho zD,λ o h=>by
  have e:(gH rs aE).getD o 0=2^g0 (rs.map (·.w)) o-1:=aB9 aE (yAb rs.length 0) o (by rw[yBp];exact ho o h) (.inl h)
  rw[e];exact Sb.refl _,λ k r hk hr=>absurd (gIm hr).1 (by omega)⟩
end
section
variable {rs : List Rw}{F : List Ft}{ns : List Int}{k : Nat}{x : Int}
noncomputable abbrev eM(P:D)(F:List Ft)(c4 c6 c7:Option W):aW:=[qq (.loc 0),qq (.d P),qq (.d (.tuple (F.map Ft.d))),qq (.loc 1),c4,qz,c6,c7]
theorem aOS(d:Nat)(p:Prg rs){a:Nat}{r:Rw}{M:List Nat}(hr:rs[a]? = qq r)(hF:F.length=rs.length)(o:D)(st:Option (List D))(h:Bd rs M)(c6 c7:Option W):∃ (c6' c7':Option W),dX (.many [6,7]) (lv (aC fns (d+6)) sN) (xs (aC fns (d+6)) sO) (eM (.tuple [.tuple (rs.map Rw.d),o]) F (qq (.d (.int (a:Nat)))) c6 c7) [st,qq (M.map nD)]=qq (.nx (eM (.tuple [.tuple (rs.map Rw.d),o]) F (qq (.d (.int (a:Nat)))) c6' c7'),[st,qq (((cH rs F r (M.getD a 0)).foldl bK M).map nD)]):=by
 have hk:a<rs.length:=(gIm hr).1;have hm:=h.lt a r hr;have e0:=uP (M:=M) (i:=a) (by rw[h.l];exact hk)
 have ln:=aMi d p hr hF hm o [st,qq (M.map nD)];obtain⟨P,hP⟩:∃ P:D,P=.tuple [.tuple (rs.map Rw.d),o]:=⟨_,rfl⟩;rw[<- hP] at ln ⊢;have it:lv (aC fns (d+6)) sN (eM P F (qq (.d (.int (a:Nat)))) c6 c7) [st,qq (M.map nD)]=qq ((cH rs F r (M.getD a 0)).map pD,[st,qq (M.map nD)]):=by
  simp only[gS2,sN,eM,e0,ln,eZ]
 obtain⟨aJ,S',p1,c6',c7',hb,rfl,rfl⟩:=iH (t:=.many [6,7]) (fb:=xs (aC fns (d+6)) sO)
  (λ j env S'=>∃ c6 c7:Option W,Bd rs (((cH rs F r (M.getD a 0)).take j).foldl bK M)/\env=eM P F (qq (.d (.int (a:Nat)))) c6 c7/\S'=[st,qq ((((cH rs F r (M.getD a 0)).take j).foldl bK M).map nD)])
  it ⟨c6,c7,h,rfl,rfl⟩ (by
   rintro j dd env S' hd ⟨c6,c7,hb,rfl,rfl⟩;rw[yAe] at hd;obtain⟨q,hq,rfl⟩:=Option.map_eq_some_iff.mp hd;obtain⟨q1,q2⟩:=nH p hr hm q (xAk hq);have ft:=xR (f:=bK) M hq;generalize hM1:((cH rs F r (M.getD a 0)).take j).foldl bK M=M1 at hb ft ⊢;have ql:q.1<M1.length:=by rw[hb.l];omega
   have e1:=uP ql;have pe:hJ [st,qq (M1.map nD)] (.loc 1) (.d (.int (q.1:Nat))) (.d (.int ((M1.getD q.1 0|||q.2:Nat):Int)))=qq [st,qq ((bK M1 q).map nD)]:=uC [st] M1 q.1 _ ql
   refine⟨eM P F (qq (.d (.int (a:Nat)))) (qq (.d (.int (q.1:Nat)))) (qq (.d (.int (q.2:Nat)))),eM P F (qq (.d (.int (a:Nat)))) (qq (.d (.int (q.1:Nat)))) (qq (.d (.int (q.2:Nat)))),[st,qq ((bK M1 q).map nD)],rfl,?_,qq (.d (.int (q.1:Nat))),qq (.d (.int (q.2:Nat))),?_,rfl,by rw[ft]⟩
   ·simp only[gS2,sO,eM,e1,eP,iO,pe]
   ·rw[ft];exact vG hb (by omega) q2)
 rw[yAf,yAi] at p1;exact⟨c6',c7',p1⟩
theorem aPm(d:Nat)(p:Prg rs)(hF:F.length=rs.length){aE M:List Nat}{a:Nat}(h:Clo rs F aE M (a+1))(ha:a<rs.length)(o:D)(hk:k<=90000)(c6 c7:Option W):∃ (M':List Nat) (k':Nat) (x':Int) (c6' c7':Option W),Clo rs F aE M' a/\k'<=k+2/\xs (aC fns (d+6)) jJ (eM (.tuple [.tuple (rs.map Rw.d),o]) F (qq (.d (.int (a:Nat)))) c6 c7) [qq (aH ns k x),qq (M.map nD)]=qq (.nx (eM (.tuple [.tuple (rs.map Rw.d),o]) F (qq (.d (.int (a:Nat)))) c6' c7'),[qq (aH ns k' x'),qq (M'.map nD)]):=by
 have hr:rs[a]? = qq rs[a]:=yAa ha;generalize rs[a]=r at hr;have w1:=p.ws a r hr;have al:a<M.length:=by rw[h.bd.l];exact ha
 obtain⟨q,x1,hq,d1⟩:=nG (ns:=ns) (k:=k) (x:=x) [qq (M.map nD)] (by show 1<=40;decide) (d+5) 8 (by decide) (by decide) (by omega)
 have d1':cl fns (d+6) 60 [.loc 0,.d (.int 8)] [qq (aH ns k x),qq (M.map nD)]=qq (.d (.int (q:Nat)),[qq (aH ns (k+1) x1),qq (M.map nD)]):=d1;have e1:aI (.tuple (rs.map Rw.d)) (.int (a:Nat))=qq r.d:=fB (by rw[yAe,hr];rfl)
 have lp:=λ(M:List Nat) (b:Bd rs M) st=>aOS d p hr hF o st b c6 c7
 have i0:aI (.tuple [.tuple (rs.map Rw.d),o]) (.int 0)=qq (.tuple (rs.map Rw.d)):=rfl;obtain⟨P,hP⟩:∃ P:D,P=.tuple [.tuple (rs.map Rw.d),o]:=⟨_,rfl⟩;simp only[<- hP] at lp i0 ⊢;obtain⟨v,k1,x2,hv,hk1,e3⟩:∃ (v k1:Nat) (x2:Int),v<2^r.w/\k1<=k+2/\xs (aC fns (d+6)) (bI jJ) (eM P F (qq (.d (.int (a:Nat)))) c6 c7) [qq (aH ns k x),qq (M.map nD)]=qq (.nx (eM P F (qq (.d (.int (a:Nat)))) c6 c7),[qq (aH ns k1 x2),qq ((bK M (a,v)).map nD)]):=by
  by_cases c:q=1
  ·have dq:(((q:Nat):Int)==1)=true:=by rw[beq_iff_eq];omega
   obtain⟨u,x2,hu,d2⟩:=nG (ns:=ns) (k:=k+1) (x:=x1) [qq (M.map nD)] (by show 1<=40;decide) (d+5) r.w (by omega) (by omega) (by omega)
   have d2':cl fns (d+6) 60 [.loc 0,.d (.int (r.w:Nat))] [qq (aH ns (k+1) x1),qq (M.map nD)]=qq (.d (.int (u:Nat)),[qq (aH ns (k+1+1) x2),qq (M.map nD)]):=d2;have sh:cG .LShift (.int 1) (.int (u:Nat))=qq (.int ((2^u:Nat):Int)):=fO (by omega)
   have e0:=uP (M:=M) (i:=a) al;have rw1:=fK r;have pe:hJ [qq (aH ns (k+1+1) x2),qq (M.map nD)] (.loc 1) (.d (.int (a:Nat))) (.d (.int ((M.getD a 0|||2^u:Nat):Int)))=qq [qq (aH ns (k+1+1) x2),qq ((bK M (a,2^u)).map nD)]:=uC [qq (aH ns (k+1+1) x2)] M a _ al
   refine⟨2^u,k+1+1,x2,yDl (by decide) hu,by omega,?_⟩
   simp only[gS3,bI,jJ,eM,d1',bP,dq,e0,i0,e1,rw1,d2',sh,eP,iO,pe]
  ·have dq:(((q:Nat):Int)==1)=false:=by rw[beq_eq_false_iff_ne];omega
   refine⟨0,k+1,x1,xAe _,by omega,?_⟩
   rw[aMp al];simp only[gS3,bI,jJ,eM,d1',bP,dq]
 have hb1:Bd rs (bK M (a,v)):=vG h.bd ha λ r' hr'=>by
  rw[hr] at hr';cases hr';exact hv
 obtain⟨c6',c7',lp1⟩:=lp _ hb1 (qq (aH ns k1 x2));refine⟨_,k1,x2,c6',c7',aMO p h hr hv,hk1,?_⟩;have e:jJ=.seq (bI jJ) (aT jJ):=rfl;rw[e,dN e3];have lp':dX (.many [6,7]) (lv (aC fns (d+6)) sN) (xs (aC fns (d+6)) sO) [qq (.loc 0),qq (.d P),qq (.d (.tuple (F.map Ft.d))),qq (.loc 1),qq (.d (.int (a:Nat))),qz,c6,c7] [qq (aH ns k1 x2),qq ((bK M (a,v)).map nD)]=_:=lp1;simp only[gS3,aT,jJ,eM,lp']
theorem aLU(d:Nat)(p:Prg rs)(hF:F.length=rs.length)(aE:List Nat)(ho:∀ o∈aE,o<rs.length)(hk:k<=50000):∃ (M:List Nat) (k':Nat) (x':Int),Bd rs M/\Wr rs F aE M qz/\k'<=k+1+2*rs.length/\cl fns (d+8) 76 [.loc 0,.d (.tuple [.tuple (rs.map Rw.d),.tuple (aE.map nD)]),.d (.tuple (F.map Ft.d))] [qq (aH ns k x)]=qq (.d (.tuple (M.map nD)),[qq (aH ns k' x')]):=by
 have pl:=p.l;obtain⟨q,x1,hq,e1⟩:=nG (ns:=ns) (k:=k) (x:=x) [] (by decide) (d+6) 2 (by decide) (by decide) (by omega)
 have e1':cl fns (d+7) 60 [.loc 0,.d (.int 2)] [qq (aH ns k x)]=qq (.d (.int (q:Nat)),[qq (aH ns (k+1) x1)]):=e1
 by_cases c:q=1
 ·have dq:(((q:Nat):Int)==1)=true:=by rw[beq_iff_eq];omega
  obtain⟨bd,ak⟩:=aMI d p hF aE ho [qq (aH ns (k+1) x1)];refine⟨_,k+1,x1,bd,aLo p ho,by omega,?_⟩
  rw[aV rfl (d+7) _ _ rfl];simp only[gR1,aBe,e1',bP,dq,ak]
 ·have dq:(((q:Nat):Int)==1)=false:=by rw[beq_eq_false_iff_ne];omega
  have i0:aI (.tuple [.tuple (rs.map Rw.d),.tuple (aE.map nD)]) (.int 0)=qq (.tuple (rs.map Rw.d)):=rfl;have i1:aI (.tuple [.tuple (rs.map Rw.d),.tuple (aE.map nD)]) (.int 1)=qq (.tuple (aE.map nD)):=rfl;have turn:=λ(M:List Nat) (a:Nat) (h:Clo rs F aE M (a+1)) (ha:a<rs.length) (k:Nat) (x:Int) (hk:k<=90000)=>aPm (ns:=ns) (k:=k) (x:=x) (d+1) p hF h ha (.tuple (aE.map nD)) hk
  obtain⟨P,hP⟩:∃ P:D,P=.tuple [.tuple (rs.map Rw.d),.tuple (aE.map nD)]:=⟨_,rfl⟩;simp only[<- hP] at i0 i1 turn ⊢;have c0:lv (aC fns (d+7)) aEg [qq (.loc 0),qq (.d P),qq (.d (.tuple (F.map Ft.d))),qz,qz,qz,qz,qz] [qq (aH ns (k+1) x1)]=qq ((yAb rs.length 0).map nD,[qq (aH ns (k+1) x1)]):=by
   rw[show(yAb rs.length 0).map nD=rs.map λ _=>nD 0 by rw[yEa,List.map_const']]
   refine kH (fi:=lv (aC fns (d+7)) (.it (.ix (.var 1) (.int 0)))) (fe:=ev (aC fns (d+7)) (.int 0)) Rw.d (λ _=>nD 0) rs ?_ (by rw[zv];omega) λ a _=>?_
   ·simp only[gS0,i0,eZ]
   ·exact⟨_,rfl,λ S'=>rfl⟩
  have it2:lv (aC fns (d+7)) xC (eM P F qz qz qz) [qq (aH ns (k+1) x1),qq ((yAb rs.length 0).map nD)]=qq (aE.map nD,[qq (aH ns (k+1) x1),qq ((yAb rs.length 0).map nD)]):=by
   simp only[gS2,xC,eM,i1,eZ]
  obtain⟨env1,S1,p1,c4,hb1,rfl,rfl⟩:=iH (t:=.one 4) (fb:=xs (aC fns (d+7)) xF)
   (λ j env S'=>∃ (c4:Option W),Bd rs ((aE.take j).foldl (cS rs) (yAb rs.length 0))/\env=eM P F c4 qz qz/\S'=[qq (aH ns (k+1) x1),qq (((aE.take j).foldl (cS rs) (yAb rs.length 0)).map nD)])
   it2 ⟨qz,zD,rfl,rfl⟩ (by
    rintro j dd env S' hd ⟨c4,hb,rfl,rfl⟩;rw[yAe] at hd;obtain⟨u,hu,rfl⟩:=Option.map_eq_some_iff.mp hd;have ft:=xR (f:=cS rs) (yAb rs.length 0) hu;generalize hM1:(aE.take j).foldl (cS rs) (yAb rs.length 0)=M at hb ft ⊢;have hul:=ho u (xAk hu);have hr:rs[u]? = qq rs[u]:=yAa hul;have er:aI (.tuple (rs.map Rw.d)) (.int (u:Nat))=qq rs[u].d:=fB (by rw[yAe,hr];rfl)
    have rw1:=fK rs[u];have w1:=(p.ws u _ hr).2;have sh:cG .LShift (.int 1) (.int (rs[u].w:Nat))=qq (.int ((2^rs[u].w:Nat):Int)):=fO (by omega)
    have fc:=tE rs[u].w;have pe:hJ [qq (aH ns (k+1) x1),qq (M.map nD)] (.loc 1) (.d (.int (u:Nat))) (.d (.int ((2^rs[u].w-1:Nat):Int)))=qq [qq (aH ns (k+1) x1),qq ((cS rs M u).map nD)]:=by
     rw[aFB hr];exact uC [qq (aH ns (k+1) x1)] M u _ (by rw[hb.l];exact hul)
    refine⟨eM P F (qq (.d (.int (u:Nat)))) qz qz,eM P F (qq (.d (.int (u:Nat)))) qz qz,[qq (aH ns (k+1) x1),qq ((cS rs M u).map nD)],rfl,?_,qq (.d (.int (u:Nat))),by rw[ft];exact aCm hb hul,rfl,by rw[ft]⟩
    simp only[evs,xF,eM,i0,er,rw1,sh,cR,fc,iO,pe])
  rw[yAf,yAi] at hb1 p1;have cl0:=aLK (F:=F) p ho;have hM1:aE.foldl (cS rs) (yAb rs.length 0)=gH rs aE:=rfl;rw[hM1] at hb1 p1;generalize gH rs aE=M1 at hb1 p1 cl0;have lM1:iN [.list (M1.map nD)]=qq (.int (rs.length:Nat)):=by
   show qq (yAp (((M1.map nD).length:Nat):Int))=_;rw[yAf,hb1.l]
  have it0:lv (aC fns (d+7)) xE (eM P F c4 qz qz) [qq (aH ns (k+1) x1),qq (M1.map nD)]=qq (iY (((rs.length:Nat):Int)-1) rs.length,[qq (aH ns (k+1) x1),qq (M1.map nD)]):=by
   simp only[evs,xE,eM,aAp,lM1];rw[if_pos ⟨by omega,by omega⟩,yAq]
  obtain⟨env2,S2,p2,M2,k2,x2,a4,a6,a7,hb2,hk2,rfl,rfl⟩:=iH (t:=.one 4) (fb:=xs (aC fns (d+7)) jJ)
   (λ j env S'=>∃ (M:List Nat) (k':Nat) (x':Int) (c4 c6 c7:Option W),Clo rs F aE M (rs.length-j)/\k'<=k+1+2*j/\env=eM P F c4 c6 c7/\S'=[qq (aH ns k' x'),qq (M.map nD)])
   it0 ⟨M1,k+1,x1,c4,qz,qz,cl0,by omega,rfl,rfl⟩ (by
    rintro j dd env S' hd ⟨M,k',x',c4,c6,c7,hb,hk',rfl,rfl⟩;have hj:j<rs.length:=by
     have:=(gIm hd).1;rw[mL] at this;exact this
    rw[xU _ _ j hj] at hd;have ek:((rs.length:Nat):Int)-1-((j:Nat):Int)=((rs.length-1-j:Nat):Int):=by omega
    rw[ek] at hd;cases hd;have ea:rs.length-j=(rs.length-1-j)+1:=by omega
    rw[ea] at hb;obtain⟨M',k2,x2,b6,b7,hb',hk2,e⟩:=turn M _ hb (by omega) k' x' (by omega) c6 c7
    exact⟨eM P F (qq (.d (.int ((rs.length-1-j:Nat):Int)))) c6 c7,eM P F (qq (.d (.int ((rs.length-1-j:Nat):Int)))) b6 b7,[qq (aH ns k2 x2),qq (M'.map nD)],rfl,e,M',k2,x2,_,b6,b7,by rw[show rs.length-(j+1)=rs.length-1-j by omega];exact hb',by omega,rfl,rfl⟩)
  rw[mL] at hk2 hb2;rw[yBe] at hb2;refine⟨M2,k2,x2,hb2.bd,aSn hb2,hk2,?_⟩;have p1':dX (.one 4) (lv (aC fns (d+7)) xC) (xs (aC fns (d+7)) xF) [qq (.loc 0),qq (.d P),qq (.d (.tuple (F.map Ft.d))),qq (.loc 1),qz,qz,qz,qz] [qq (aH ns (k+1) x1),qq ((yAb rs.length 0).map nD)]=qq (.nx (eM P F c4 qz qz),[qq (aH ns (k+1) x1),qq (M1.map nD)]):=p1;have p2':dX (.one 4) (lv (aC fns (d+7)) xE) (xs (aC fns (d+7)) jJ) [qq (.loc 0),qq (.d P),qq (.d (.tuple (F.map Ft.d))),qq (.loc 1),c4,qz,qz,qz] [qq (aH ns (k+1) x1),qq (M1.map nD)]=qq (.nx (eM P F a4 a6 a7),[qq (aH ns k2 x2),qq (M2.map nD)]):=p2;rw[aV rfl (d+7) _ _ rfl];simp only[gR2,aBe,eM,e1',bP,dq,c0,fD,p1',p2',gC,fZ]
end
section
variable {rs : List Rw}{M : List Nat}{ns : List Int}{k : Nat}{x : Int}
structure Tok(rs:List Rw)(M T:List Nat)(j:Nat):Prop where
 l:T.length=j
 lt:∀ (i:Nat) (r:Rw) (m:Nat),rs[i]? = qq r->T[i]? = qq m->m<2^r.w
 dj:∀ k i,(M.getD k 0).testBit i=true->(T.getD k 0).testBit i=false
theorem aNk{T:List Nat}{j n:Nat}{r:Rw}(h:Tok rs M T j)(hr:rs[j]? = qq r)(hn:n<2^r.w):Tok rs M (T++[bY n (M.getD j 0)]) (j+1):=by
 obtain⟨l,lt,dj⟩:=h;subst l;refine⟨by simp,λ i r' m h1 h2=>?_,λ k i hb=>?_⟩
 ·by_cases c:i<T.length
  ·rw[xAm c] at h2;exact lt i r' m h1 h2
  ·have ci:i=T.length:=by
    have:=(gIm h2).1;simp at this;omega
   subst ci;rw[yAh (yAc _),yBe] at h2;rw[hr] at h1;cases h1;cases h2;exact tW hn
 ·by_cases c:k<T.length
  ·have:=dj k i hb;rw[xAg] at this ⊢;rw[xAm c];exact this
  ·by_cases ck:k=T.length
   ·subst ck;rw[xAg,yAh (yAc _),yBe];show(bY n (M.getD T.length 0)).testBit i=false;rw[lC,hb,Bool.not_true,yCl]
   ·rw[xAg,yDf (by simp;omega)]
    exact yAz i
theorem aNW:Tok rs M [] 0:=⟨rfl,λ i r m _ h=>by simp at h,λ k i _=>yAz i⟩
theorem aHC{T:List Nat}(h:Tok rs M T rs.length):MsOk rs T:=⟨h.l,h.lt⟩
noncomputable abbrev eT(P:D)(M:List Nat)(q:Nat)(c5 c6 c7 c8:Option W):aW:=[qq (.loc 0),qq (.d P),qq (.d (.tuple (M.map nD))),qq (.loc 1),qq (.d (.int (q:Nat))),c5,c6,c7,c8]
theorem aN4(d:Nat){q j:Nat}{r:Rw}{m:Nat}{T:List Nat}(P:D)(bS:1<=r.w)(hw:r.w<=64)(hT:T.length<=100)(hk:k<=90000)(c7 c8:Option W):∃ (n k':Nat) (x':Int) (c7' c8':Option W),n<2^r.w/\k'<=k+2/\xs (aC fns (d+2)) eG (eT P M q (qq (.d r.d)) (qq (.d (.int (m:Nat)))) c7 c8) [qq (aH ns k x),qq (T.map nD)]=qq (.nx (eT P M q (qq (.d r.d)) (qq (.d (.int (m:Nat)))) c7' c8'),[qq (aH ns k' x'),qq ((T++[bY n m]).map nD)]):=by
 have sh:cG .LShift (.int 1) (.int (r.w:Nat))=qq (.int ((2^r.w:Nat):Int)):=fO (by omega)
 have fc:=tE r.w;have rw1:=fK r;have ap:∀ (k':Nat) (x':Int) (n:Nat),eJ [qq (aH ns k' x'),qq (T.map nD)] (.loc 1) (.d (.int ((bY n m:Nat):Int)))=qq (.d .none,[qq (aH ns k' x'),qq ((T++[bY n m]).map nD)]):=λ k' x' n=>by
  rw[yCo];exact qG [qq (aH ns k' x')] (T.map nD) (nD (bY n m)) (by rw[yAf];omega)
 have s1:xs (aC fns (d+2)) (bI eG) (eT P M q (qq (.d r.d)) (qq (.d (.int (m:Nat)))) c7 c8) [qq (aH ns k x),qq (T.map nD)]=qq (.nx (eT P M q (qq (.d r.d)) (qq (.d (.int (m:Nat)))) (qq (.d (.int ((2^r.w-1:Nat):Int)))) c8),[qq (aH ns k x),qq (T.map nD)]):=by
  simp only[gS3,bI,eG,eT,rw1,sh,cR,fc]
 have s2:xs (aC fns (d+2)) (bI (aT eG)) (eT P M q (qq (.d r.d)) (qq (.d (.int (m:Nat)))) (qq (.d (.int ((2^r.w-1:Nat):Int)))) c8) [qq (aH ns k x),qq (T.map nD)]=qq (.nx (eT P M q (qq (.d r.d)) (qq (.d (.int (m:Nat)))) (qq (.d (.int ((2^r.w-1:Nat):Int)))) (qq (.d (.int ((2^r.w-1:Nat):Int))))),[qq (aH ns k x),qq (T.map nD)]):=by
  simp only[gS4,bI,aT,eG,eT,True]
 obtain⟨v,hv⟩:∃ v:Nat,v=2^r.w-1:=⟨_,rfl⟩;have hvl:v<2^r.w:=by have:=xAe r.w;omega
 rw[<- hv] at s1 s2;obtain⟨n1,k1,x1,hn1,hk0,hk1,s3⟩:∃ (n1 k1:Nat) (x1:Int),n1<2^r.w/\k1<=k+1/\(q=2->k1=k)/\xs (aC fns (d+2)) (bI (aT (aT eG))) (eT P M q (qq (.d r.d)) (qq (.d (.int (m:Nat)))) (qq (.d (.int (v:Nat)))) (qq (.d (.int (v:Nat))))) [qq (aH ns k x),qq (T.map nD)]=qq (.nx (eT P M q (qq (.d r.d)) (qq (.d (.int (m:Nat)))) (qq (.d (.int (v:Nat)))) (qq (.d (.int (n1:Nat))))),[qq (aH ns k1 x1),qq (T.map nD)]):=by
  by_cases c:q=1
  ·have dq:(((q:Nat):Int)==1)=true:=by rw[beq_iff_eq];omega
   obtain⟨u,x1,hu,d1⟩:=nG (ns:=ns) (k:=k) (x:=x) [qq (T.map nD)] (by show 1<=40;decide) (d+1) 3 (by decide) (by decide) (by omega)
   have d1':cl fns (d+2) 60 [.loc 0,.d (.int 3)] [qq (aH ns k x),qq (T.map nD)]=qq (.d (.int (u:Nat)),[qq (aH ns (k+1) x1),qq (T.map nD)]):=d1
   by_cases cu:u=0
   ·have du:decide (((u:Nat):Int)>0)=false:=by rw[decide_eq_false_iff_not];omega
    refine⟨v,k+1,x1,hvl,by omega,λ z=>by omega,?_⟩
    simp only[gS4,bI,aT,eG,eT,bP,dq,d1',iI,du]
   ·have du:decide (((u:Nat):Int)>0)=true:=by rw[decide_eq_true_iff];omega
    refine⟨0,k+1,x1,xAe _,by omega,λ z=>by omega,?_⟩
    simp only[gS4,bI,aT,eG,eT,bP,dq,d1',iI,du]
  ·have dq:(((q:Nat):Int)==1)=false:=by rw[beq_eq_false_iff_ne];omega
   refine⟨v,k,x,hvl,by omega,λ _=>rfl,?_⟩
   simp only[gS4,bI,aT,eG,eT,bP,dq]
 obtain⟨n,k2,x2,hn,hk2,s4⟩:∃ (n k2:Nat) (x2:Int),n<2^r.w/\k2<=k+2/\xs (aC fns (d+2)) (bI (aT (aT (aT eG)))) (eT P M q (qq (.d r.d)) (qq (.d (.int (m:Nat)))) (qq (.d (.int (v:Nat)))) (qq (.d (.int (n1:Nat))))) [qq (aH ns k1 x1),qq (T.map nD)]=qq (.nx (eT P M q (qq (.d r.d)) (qq (.d (.int (m:Nat)))) (qq (.d (.int (v:Nat)))) (qq (.d (.int (n:Nat))))),[qq (aH ns k2 x2),qq (T.map nD)]):=by
  by_cases c:q=2
  ·have dq:(((q:Nat):Int)==2)=true:=by rw[beq_iff_eq];omega
   obtain⟨n,k2,x2,hn,hk2,e⟩:=aBT (ns:=ns) (k:=k1) (x:=x1) [qq (T.map nD)] (by show 1<=40;decide) d r.w hw (by omega)
   have e':cl fns (d+2) 61 [.loc 0,.d (.int (r.w:Nat))] [qq (aH ns k1 x1),qq (T.map nD)]=qq (.d (.int (n:Nat)),[qq (aH ns k2 x2),qq (T.map nD)]):=e;refine⟨n,k2,x2,hn,by have:=hk1 c;omega,?_⟩
   simp only[gS4,bI,aT,eG,eT,bP,dq,rw1,e']
  ·have dq:(((q:Nat):Int)==2)=false:=by rw[beq_eq_false_iff_ne];omega
   refine⟨n1,k1,x1,hn1,by omega,?_⟩
   simp only[gS4,bI,aT,eG,eT,bP,dq]
 refine⟨n,k2,x2,qq (.d (.int (v:Nat))),qq (.d (.int (n:Nat))),hn,hk2,?_⟩;have e:eG=.seq (bI eG) (.seq (bI (aT eG)) (.seq (bI (aT (aT eG))) (.seq (bI (aT (aT (aT eG)))) (aT (aT (aT (aT eG))))))):=rfl;rw[e,dN s1,dN s2,dN s3,dN s4];have ap1:=ap k2 x2 n;simp only[gS3,aT,eG,eT,oR,oP,gQ,ap1]
theorem aMw(d:Nat)(p:Prg rs)(hb:Bd rs M)(o:D)(hk:k<=60000):∃ (T:List Nat) (k':Nat) (x':Int),Tok rs M T rs.length/\k'<=k+1+2*rs.length/\cl fns (d+3) 77 [.loc 0,.d (.tuple [.tuple (rs.map Rw.d),o]),.d (.tuple (M.map nD))] [qq (aH ns k x)]=qq (.d (.tuple (T.map nD)),[qq (aH ns k' x')]):=by
 have pl:=p.l;obtain⟨q,x1,hq,e1⟩:=nG (ns:=ns) (k:=k) (x:=x) [qq []] (by show 1<=40;decide) (d+1) 3 (by decide) (by decide) (by omega)
 have e1':cl fns (d+2) 60 [.loc 0,.d (.int 3)] [qq (aH ns k x),qq []]=qq (.d (.int (q:Nat)),[qq (aH ns (k+1) x1),qq []]):=e1;have i0:aI (.tuple [.tuple (rs.map Rw.d),o]) (.int 0)=qq (.tuple (rs.map Rw.d)):=rfl;obtain⟨P,hP⟩:∃ P:D,P=.tuple [.tuple (rs.map Rw.d),o]:=⟨_,rfl⟩;rw[<- hP] at i0 ⊢;have zd:∀ (rs:List Rw) (M:List Nat),cY (rs.map Rw.d) (M.map nD)=(rs.zip M).map λ t=>yCx [t.1.d,nD t.2]:=λ rs=>by
  induction rs with
  | nil=>intro M;rfl
  | cons r rs ih =>
    intro M;cases M with
    | nil=>rfl
    | cons m M =>
      show yCx [r.d,nD m]::cY (rs.map Rw.d) (M.map nD)=_;rw[ih M];rfl
 have it:lv (aC fns (d+2)) xG (eT P M q qz qz qz qz) [qq (aH ns (k+1) x1),qq []]=qq ((rs.zip M).map (λ t=>yCx [t.1.d,nD t.2]),[qq (aH ns (k+1) x1),qq []]):=by
  rw[<- zd];simp only[gS2,xG,eT,i0,nY,lU]
 obtain⟨aJ,S',p1,T,k',x',c5,c6,c7,c8,hT,hk',rfl,rfl⟩:=iH (t:=.many [5,6]) (fb:=xs (aC fns (d+2)) eG)
  (λ j env S'=>∃ (T:List Nat) (k':Nat) (x':Int) (c5 c6 c7 c8:Option W),Tok rs M T j/\k'<=k+1+2*j/\env=eT P M q c5 c6 c7 c8/\S'=[qq (aH ns k' x'),qq (T.map nD)])
  it ⟨[],k+1,x1,qz,qz,qz,qz,aNW,by omega,rfl,rfl⟩ (by
   rintro j dd env S' hd ⟨T,k',x',c5,c6,c7,c8,hT,hk',rfl,rfl⟩;rw[yAe] at hd;obtain⟨⟨r,m⟩,hq',rfl⟩:=Option.map_eq_some_iff.mp hd;obtain⟨hr,hm⟩:=List.getElem?_zip_eq_some.mp hq';have hj:j<rs.length:=(gIm hr).1;have em:m=M.getD j 0:=by rw[xAg,hm];rfl
   have w1:=p.ws j r hr;have tl:=hT.l;obtain⟨n,k2,x2,c7',c8',hn,hk2,e⟩:=aN4 (M:=M) (ns:=ns) (k:=k') (x:=x') d (q:=q) (j:=j) (r:=r) (m:=m) (T:=T) P w1.1 w1.2 (by omega) (by omega) c7 c8
   exact⟨eT P M q (qq (.d r.d)) (qq (.d (.int (m:Nat)))) c7 c8,eT P M q (qq (.d r.d)) (qq (.d (.int (m:Nat)))) c7' c8',[qq (aH ns k2 x2),qq ((T++[bY n m]).map nD)],rfl,e,T++[bY n m],k2,x2,_,_,c7',c8',by rw[em];exact aNk hT hr hn,by omega,rfl,rfl⟩)
 rw[yAf,List.length_zip,hb.l,Nat.min_self] at hT hk';refine⟨T,k',x',hT,hk',?_⟩;have p1':dX (.many [5,6]) (lv (aC fns (d+2)) xG) (xs (aC fns (d+2)) eG) [qq (.loc 0),qq (.d P),qq (.d (.tuple (M.map nD))),qq (.loc 1),qq (.d (.int (q:Nat))),qz,qz,qz,qz] [qq (aH ns (k+1) x1),qq []]=qq (.nx (eT P M q c5 c6 c7 c8),[qq (aH ns k' x'),qq (T.map nD)]):=p1;rw[aV rfl (d+2) _ _ rfl];simp only[gR2,aEH,eT,fD,e1',p1',gC,fZ]
end
theorem aIe:∀ L:List Nat,PyData.eqvAll (L.map nD) (L.map nD)=true
 | []=>rfl
 | a::r=>by
   have ih:=aIe r;simp only[yBg,PyData.eqvAll,ih,yCj];simp[nD,yEo]
theorem aM9(L:List Nat):bH .NotEq (.tuple (L.map nD)) (.tuple (L.map nD))=qq (.bool false):=by
 have h1:(yCx (L.map nD)).canLay0=true:=aCB L;have h2:(yCx (L.map nD)).depth<=60:=by
  show yFq (L.map nD)+1<=60;rw[aB2];decide
 have h3:yEo (.tuple (L.map nD)) (.tuple (L.map nD))=true:=by
  have:=aIe L;simp only[yEo,this]
 unfold bH rM;simp only[];rw[if_pos ⟨h1,h1,h2⟩,h3];rfl
noncomputable def kY:List Nat->List Nat->List Nat->List (Nat×Nat×Nat)
 | a::A,b::B,c::C=>(a,b,c)::kY A B C
 | _,_,_=>[]
noncomputable def tD(t:Nat×Nat×Nat):D:=.tuple [nD t.1,nD t.2.1,nD t.2.2]
theorem aIR:∀ A B C:List Nat,gF (A.map nD) (B.map nD) (C.map nD)=(kY A B C).map tD
 | [],_,_=>rfl
 | _::_,[],_=>rfl
 | _::_,_::_,[]=>rfl
 | a::A,b::B,c::C=>by
   have ih:=aIR A B C;simp only[yBg,gF,kY,ih];rfl
theorem aHz:∀ (A B C:List Nat) (t:Nat×Nat×Nat),t∈kY A B C->∃ k:Nat,A[k]? = qq t.1/\B[k]? = qq t.2.1/\C[k]? = qq t.2.2
 | [],_,_,t,h=>by cases h
 | _::_,[],_,t,h=>by cases h
 | _::_,_::_,[],t,h=>by cases h
 | a::A,b::B,c::C,t,h=>by
   rcases List.mem_cons.mp h with rfl | h
   ·exact⟨0,rfl,rfl,rfl⟩
   ·obtain⟨k,h1,h2,h3⟩:=aHz A B C t h;exact⟨k+1,h1,h2,h3⟩
theorem aGM:∀ A B C:List Nat,(kY A B C).length<=A.length
 | [],_,_=>yAc _
 | _::_,[],_=>yFb _
 | _::_,_::_,[]=>yFb _
 | a::A,b::B,c::C=>Nat.succ_le_succ (aGM A B C)
theorem aNr{a b m:Nat}(h:∀ i,m.testBit i=true->b.testBit i=a.testBit i):(a^^^b)&&&m=0:=by
 apply xAl;intro i;rw[yAj,yAo,yAz];cases c:m.testBit i with
 | false=>rw[yCl]
 | true=>rw[h i c,Bool.xor_self];rfl
section
variable {rs : List Rw}{F : List Ft}{M aE : List Nat}{ns : List Int}{k : Nat}{x : Int}
noncomputable abbrev eY(sc:Option W)(P:D)(F:List Ft)(M:List Nat)(c5 c6 c7 c8:Option W):aW:=[sc,qq (.loc 0),qq (.d P),qq (.d (.tuple (F.map Ft.d))),qq (.d (.tuple (M.map nD))),c5,c6,c7,c8,qz,qz,qz,qz]
theorem aNa(C:Calls)(sc:Option W)(P:D)(F:List Ft){R0 R:List Nat}(hl:R0.length<=100)(h:∀ t∈kY R0 R M,(t.1^^^t.2.1)&&&t.2.2=0)(c5 c6:Option W)(S:aD):∃ L,lv C aCe (eY sc P F M c5 c6 (qq (.d (.tuple (R0.map nD)))) (qq (.d (.tuple (R.map nD))))) S=qq (L,S)/\pJ [.list L]=qq (.bool false):=by
 refine⟨(kY R0 R M).map λ t=>yDi false,?_,?_⟩
 ·refine kH (fi:=lv C (.zip3 (.var 7) (.var 8) (.var 4))) (fe:=ev C (.cmp .NotEq (.bin .BitAnd (.bin .BitXor (.var 9) (.var 10)) (.var 11)) (.int 0))) tD (λ _=>yDi false) (kY R0 R M) ?_ (by rw[zv];have:=aGM R0 R M;omega) λ t ht=>?_
  ·have hz:=aIR R0 R M;simp only[gS1,eY,hz]
  ·have e:=h t ht;refine⟨[sc,qq (.loc 0),qq (.d P),qq (.d (.tuple (F.map Ft.d))),qq (.d (.tuple (M.map nD))),c5,c6,qq (.d (.tuple (R0.map nD))),qq (.d (.tuple (R.map nD))),qq (.d (.int (t.1:Nat))),qq (.d (.int (t.2.1:Nat))),qq (.d (.int (t.2.2:Nat))),qz],rfl,λ S'=>?_⟩
   simp only[gS0,gY,dG,e,kL]
 ·rw[aCI (λ _:Nat×Nat×Nat=>false) (kY R0 R M),List.any_eq_false.mpr λ _ _=>by decide]
theorem aSW(d:Nat)(p:Prg rs)(s:Snd rs F)(hF:F.length=rs.length)(hb:Bd rs M)(hw:Wr rs F aE M qz)(ho:∀ o∈aE,o<rs.length)(hol:aE.length<=8)(hk:k<=40000)(sc c5 c6 c7 c8:Option W):∃ (k':Nat) (x':Int) (c6' c7' c8':Option W),k'<=k+5*rs.length+1+2*rs.length/\xs (aC fns (d+10)) tT (eY sc (.tuple [.tuple (rs.map Rw.d),.tuple (aE.map nD)]) F M c5 c6 c7 c8) [qq (aH ns k x)]=qq (.nx (eY sc (.tuple [.tuple (rs.map Rw.d),.tuple (aE.map nD)]) F M c5 c6' c7' c8'),[qq (aH ns k' x')]):=by
 have pl:=p.l;obtain⟨is,k1,x1,hi,hk1,e1⟩:=aL5 (ns:=ns) (k:=k) (x:=x) (d+6) rs (.tuple (aE.map nD)) p (by omega)
 have e2:=λ S=>aGI (d+3) rs (.tuple (aE.map nD)) is pl p.fit hi S
 have e2b:=λ S=>aGI (d+2) rs (.tuple (aE.map nD)) is pl p.fit hi S
 simp only[yT] at e2 e2b;obtain⟨T,k2,x2,hT,hk2,e3⟩:=aMw (ns:=ns) (k:=k1) (x:=x1) (d+7) p hb (.tuple (aE.map nD)) (by omega)
 obtain⟨e4,l4,b4⟩:=aES (d+4) rs (.tuple (aE.map nD)) is T pl p.fit hi (aHC hT) [qq (aH ns k2 x2)];obtain⟨bS,bV⟩:(∀ k,k<rs.length->jC rs F M k=false)/\lX rs aE M=false:=by
  rcases hw with ⟨q,_,_,_,z⟩ | ⟨z1,z2⟩
  ·cases z
  ·refine⟨z1,?_⟩;cases c:lX rs aE M with
   | false=>rfl
   | true=>rw[c] at z2;cases z2
 have ag:=aLz p s hF hi hb bS (aHC hT) b4 l4 hT.dj;have l0:=tU p hi;have lt0:=λ i a w h1 h2=>zY p hi (i:=i) (a:=a) (w:=w) h1 h2
 have e5:=aLl (d+8) (.tuple (rs.map Rw.d)) aE (cX rs (rs.map (·.w)) is []) (λ o h=>by rw[l0];exact ho o h) hol [qq (aH ns k2 x2)]
 have e2a:=e2b [qq (aH ns k2 x2)];generalize hR:cJ rs (rs.map (·.w)) is T []=R at e4 l4 b4 ag;generalize hR0:cX rs (rs.map (·.w)) is []=R0 at e2 e2a ag l0 lt0 e5;have same:∀ o∈aE,g0 R o=g0 R0 o:=λ o h=>by
  have hol':=ho o h;have hr:rs[o]? = qq rs[o]:=yAa hol';have hwo:(rs.map (·.w))[o]? = qq rs[o].w:=by rw[yAe,hr];rfl
  have f:=List.any_eq_false.mp bV o h;have full:Sb (2^rs[o].w-1) (M.getD o 0):=by
   refine(tR (M:=M) (q:=(o,2^rs[o].w-1))).mp ?_;unfold jS;rw[pK hr] at f;simpa using f
  refine zW (b4 o _ _ (nE (by omega)) hwo) (lt0 o _ _ (nE (by omega)) hwo) λ i hi'=>ag o hol' i (full i ?_)
  rw[Nat.testBit_two_pow_sub_one];exact dqT hi'
 have outs_eq:(aE.map (g0 R)).map nD=(aE.map (g0 R0)).map nD:=by rw[yCg same]
 have hno:∀ t∈kY R0 R M,(t.1^^^t.2.1)&&&t.2.2=0:=λ t ht=>by
  obtain⟨j,h1,h2,h3⟩:=aHz R0 R M t ht;have hj:j<rs.length:=by have:=(gIm h1).1;omega
  have a1:g0 R0 j=t.1:=by show R0.getD j 0=_;rw[xAg,h1];rfl
  have a2:g0 R j=t.2.1:=by show R.getD j 0=_;rw[xAg,h2];rfl
  have a3:M.getD j 0=t.2.2:=by rw[xAg,h3];rfl
  have:=ag j hj;rw[a1,a2,a3] at this;exact aNr this
 have i1:aI (.tuple [.tuple (rs.map Rw.d),.tuple (aE.map nD)]) (.int 1)=qq (.tuple (aE.map nD)):=rfl;obtain⟨P,hP⟩:∃ P:D,P=.tuple [.tuple (rs.map Rw.d),.tuple (aE.map nD)]:=⟨_,rfl⟩;rw[<- hP] at e1 e3 e4 e5 i1 e2a ⊢;simp only[<- hP] at e2;obtain⟨L,eL,an⟩:=aNa (M:=M) (aC fns (d+10)) sc P F (R0:=R0) (R:=R) (by omega) hno c5 (qq (.d (.tuple (is.map nD)))) [qq (aH ns k2 x2)]
 have eL':lv (aC fns (d+10)) aCe [sc,qq (.loc 0),qq (.d P),qq (.d (.tuple (F.map Ft.d))),qq (.d (.tuple (M.map nD))),c5,qq (.d (.tuple (is.map nD))),qq (.d (.tuple (R0.map nD))),qq (.d (.tuple (R.map nD))),qz,qz,qz,qz] [qq (aH ns k2 x2)]=qq (L,[qq (aH ns k2 x2)]):=eL;have c0:lv (aC fns (d+10)) aGU [sc,qq (.loc 0),qq (.d P),qq (.d (.tuple (F.map Ft.d))),qq (.d (.tuple (M.map nD))),c5,qq (.d (.tuple (is.map nD))),qq (.d (.tuple (R0.map nD))),qq (.d (.tuple (R.map nD))),qz,qz,qz,qz] [qq (aH ns k2 x2)]=qq ((aE.map (g0 R0)).map nD,[qq (aH ns k2 x2)]):=by
  rw[<- outs_eq,yBo];refine kH (fi:=lv (aC fns (d+10)) (.it (.ix (.var 2) (.int 1)))) (fe:=ev (aC fns (d+10)) (.ix (.var 8) (.var 12))) nD (nD ∘ g0 R) aE ?_ (by rw[zv];omega) λ a ha=>?_
  ·simp only[gS0,i1,eZ]
  ·have hx:aI (.tuple (R.map nD)) (nD a)=qq (nD (g0 R a)):=fB (aAm (by rw[l4];exact ho a ha))
   refine⟨_,rfl,λ S'=>?_⟩
   simp only[gS0,clr,yBl,yCk,hx]
 have told:cl fns (d+10) 59 [.d P,.d (.tuple (is.map nD))] [qq (aH ns k2 x2)]=qq (.d (.tuple ((aE.map (g0 R0)).map nD)),[qq (aH ns k2 x2)]):=by
  rw[aV rfl (d+9) _ _ rfl];simp only[gR1,aIz,e2a,e5]
 have ne:=aM9 (aE.map (g0 R0));refine⟨k2,x2,qq (.d (.tuple (is.map nD))),qq (.d (.tuple (R0.map nD))),qq (.d (.tuple (R.map nD))),by omega,?_⟩
 simp only[gS2,tT,eY,e1,e2,e3,e4,eL',an,c0,gC,fZ,told,ne]
theorem aRL(d:Nat)(ns:List Int)(h1:ns.length<=63):∃ S',cl fns (d+11) 78 [.d (.list (ns.map yAp))] []=qq (.d (.bool true),S'):=by
 obtain⟨most,hm,et⟩:∃ t:Nat,t<=30/\(1:Int)+(if (24:Int)<((ns.length:Nat):Int) then 24 else ((ns.length:Nat):Int))=((t:Nat):Int):=by
  refine⟨1+min ns.length 24,by omega,?_⟩
  split<;>omega
 obtain⟨rs,aE,k0,x0,ok,l0,l1,hk0,ho,hol,e0⟩:=aQS (d+4) most ns hm 0 0 (by omega)
 have mn:pG [.int ((ns.length:Nat):Int),.int 24]=qq (.int (if (24:Int)<((ns.length:Nat):Int) then 24 else ((ns.length:Nat):Int))):=rfl
 have lN:iN [.list (ns.map yAp)]=qq (.int (ns.length:Nat)):=by
  show qq (yAp (((ns.map yAp).length:Nat):Int))=_;rw[yAf]
 have p:=aRN ok (by omega)
 obtain⟨F,k1,x1,hF,fs,fw,hk1,eF⟩:=aMj (ns:=ns) (k:=k0) (x:=x0) d rs (.tuple (aE.map nD)) p (by omega)
 obtain⟨M,k2,x2,hb,wr,hk2,eM'⟩:=aLU (ns:=ns) (k:=k1) (x:=x1) (d+2) p hF aE ho (by omega)
 have eW1:=aMP (d+1) p hF fw (.tuple (aE.map nD)) [qq (aH ns k2 x2)];have eW2:=aMs (d+3) p hF aE ho hol hb wr [qq (aH ns k2 x2)];have t0:=λ(k:Nat) (x:Int) (hk:k<=40000)=>aSW (ns:=ns) (k:=k) (x:=x) d p fs hF hb wr ho hol hk
 have isn:bH .IsNot .none .none=qq (.bool false):=rfl;have eW2':cl fns (d+10) 20 [.d (.tuple [.tuple (rs.map Rw.d),.tuple (aE.map nD)]),.d (.tuple (F.map Ft.d)),.d (.tuple (M.map nD))] [qq (aH ns k2 x2)]=qq (.d .none,[qq (aH ns k2 x2)]):=eW2;obtain⟨P,hP⟩:∃ P:D,P=.tuple [.tuple (rs.map Rw.d),.tuple (aE.map nD)]:=⟨_,rfl⟩;simp only[<- hP] at e0 eF eM' eW1 eW2' t0;obtain⟨sc,hsc⟩:∃ sc:Option W,sc=qq (.d (.list (ns.map yAp))):=⟨_,rfl⟩;have it0:lv (aC fns (d+10)) zG (eY sc P F M qz qz qz qz) [qq (aH ns k2 x2)]=qq ((yBk 4).map (λ k=>yAp ((k:Nat):Int)),[qq (aH ns k2 x2)]):=by
  simp only[zG,nP,mV,mP,mU,nC,nF,mS];exact qB (w:=4) rfl (by omega)
 obtain⟨env2,S2,p2,k3,x3,b5,b6,b7,b8,hk3,rfl,rfl⟩:=iH (t:=.one 5) (fb:=xs (aC fns (d+10)) tT)
  (λ j env S'=>∃ (k':Nat) (x':Int) (c5 c6 c7 c8:Option W),k'<=k2+301*j/\env=eY sc P F M c5 c6 c7 c8/\S'=[qq (aH ns k' x')])
  it0 ⟨k2,x2,qz,qz,qz,qz,by omega,rfl,rfl⟩ (by
   rintro j dd env S' hd ⟨k',x',c5,c6,c7,c8,hk',rfl,rfl⟩;obtain⟨hj,rfl⟩:=yU hd;obtain⟨k4,x4,a6,a7,a8,hk4,e⟩:=t0 k' x' (by omega) sc (qq (.d (.int (j:Nat)))) c6 c7 c8
   exact⟨eY sc P F M (qq (.d (.int (j:Nat)))) c6 c7 c8,eY sc P F M (qq (.d (.int (j:Nat)))) a6 a7 a8,[qq (aH ns k4 x4)],rfl,e,k4,x4,qq (.d (.int (j:Nat))),a6,a7,a8,by omega,rfl,rfl⟩)
 have p2':dX (.one 5) (lv (aC fns (d+10)) zG) (xs (aC fns (d+10)) tT) [sc,qq (.loc 0),qq (.d P),qq (.d (.tuple (F.map Ft.d))),qq (.d (.tuple (M.map nD))),qz,qz,qz,qz,qz,qz,qz,qz] [qq (aH ns k2 x2)]=qq (.nx (eY sc P F M b5 b6 b7 b8),[qq (aH ns k3 x3)]):=p2;have e:iR=.seq (bI iR) (.seq (bI (aT iR)) (aT (aT iR))):=rfl;refine⟨[],?_⟩;rw[aV rfl (d+10) _ [] rfl];have s0:xs (aC fns (d+10)) (bI iR) [qq (.d (.list (ns.map yAp))),qz,qz,qz,qz,qz,qz,qz,qz,qz,qz,qz,qz] []=qq (.nx [qq (.d (.list (ns.map yAp))),qq (.loc 0),qz,qz,qz,qz,qz,qz,qz,qz,qz,qz,qz],[qq (aH ns 0 0)]):=by
  simp only[gS2,bI,iR,fD]
 have s1:xs (aC fns (d+10)) (bI (aT iR)) [qq (.d (.list (ns.map yAp))),qq (.loc 0),qz,qz,qz,qz,qz,qz,qz,qz,qz,qz,qz] [qq (aH ns 0 0)]=qq (.nx [qq (.d (.list (ns.map yAp))),qq (.loc 0),qq (.d P),qz,qz,qz,qz,qz,qz,qz,qz,qz,qz],[qq (aH ns k0 x0)]):=by
  simp only[gS3,bI,aT,iR,lN,mn,eI,et,e0]
 rw[<- hsc] at s1 s0;have tl:xs (aC fns (d+10)) (aT (aT iR)) [sc,qq (.loc 0),qq (.d P),qz,qz,qz,qz,qz,qz,qz,qz,qz,qz] [qq (aH ns k0 x0)]=qq (.rt (.d (.bool true)),[qq (aH ns k3 x3)]):=by
  simp only[gS3,aT,iR,eY,eF,eM',eW1,eW2',isn,p2']
 have full:xs (aC fns (d+10)) iR [sc,qz,qz,qz,qz,qz,qz,qz,qz,qz,qz,qz,qz] []=qq (.rt (.d (.bool true)),[qq (aH ns k3 x3)]):=by
  rw[e,dN s0,dN s1,tl]
 rw[hsc] at full;show((xs (aC fns (d+10)) iR [qq (.d (.list (ns.map yAp))),qz,qz,qz,qz,qz,qz,qz,qz,qz,qz,qz,qz] []).bind _)=_;rw[full];rfl
end
theorem main(ns:List Int)(h1:ns.length<=63)(h2:∀ i∈ns,yAn i<=1048576):∃ call S',aC fns 12 78=qq (1,call)/\call [.d (.list (ns.map yAp))] []=qq (.d (.bool true),S'):=by
 obtain⟨S',e⟩:=aRL 1 ns h1;exact aO1 (d:=11) rfl rfl e
theorem oks:∀ F∈fns,aAw fns tbs F=true:=by decide +kernel
theorem bok:∀ F∈fns,aC7 F=true:=by decide +kernel
theorem binds:∀ F∈fns,aCo F:=λ F hF=>aNz (bok F hF)
end K57
structure PySem.W.Fast:Prop where (tw5948096615080727515 tw5122578290132780138 tw13040921283623000744 tw9206491700078627165 tw7581517763256534255 tw14750975592544077930 tw6481147214916814877 tw16153505819400853804 tw8186295684291392629 tw4377495413141247457 tw561785498190148765 tw15836215087237778337 tw4980279092706675736 tw7351852795241288424 tw4519351929213336680 tw458704241842038465 tw17711200229962359085 tw10111860403120340589 tw18387754165869092576 tw15136745485949433641 tw10547217549914736551 tw4461492944413306086 tw10574342486151503730 tw4293409431694256580 tw9117574147185466123 tw12689403861388487780 tw2833938704168681113 tw15903731961596260809 tw1413591472729964387 tw12305484438887477861 tw9665643006776821755 tw1735988365894326769 tw3781527803370212245 tw5413969389638888163 tw12452940124074245037 tw13251243870589430880 tw8479002798114151632 tw566132427954149642 tw594259557184004183 tw18416836841944352828 tw3126289733400299914 tw6271142135135460212 tw2109468283556024883 tw14230882321689308499 tw2962702915326142771 tw13865342001224377590 tw401756957554694 tw17372287763201644687 tw7221111293275058879 tw4593316076168765565 tw5958859648862578245 tw6147381221724380363 tw6473305738550439207 tw16960411414268136320 tw7619473546297627489 tw595434018043277517 tw16940072735753163100 tw7612139827408139584 tw11486594314352238225 tw9493040975697746016 tw747119360198772829 tw7860584032327887268 tw7465391762595547367 tw14431666436998399795 tw1459155275874699520 tw6279331127910785621 tw1129858038032419926 tw11097276160999086003 tw7902510410956432489 tw564688396609964510 tw1352680351691851110 tw16166345395935412954 tw13709252937437166470 tw1401991246170941866 tw11066728341567861499 tw18408627973397726734 tw11100013029231217744 tw9451585759431963281 tw13435128693437771775 tw10764854178347162294 tw1352607531666279362 tw10522858148853787789 tw17969326280858297719 tw8189330476336868057 tw11081033297619112664 tw17838958795577866437 tw2280059224700040326 tw16892249728980099667 tw11982129234141495182 tw3024114821447819353 tw9698792771174484115 tw11400790176739153822 tw12928272286749435826 tw11305699358380411304 tw14311007117016406056 tw10177660671843841598 tw11555424713409415066 tw18010710883798397260 tw9786742986728271329 tw15328260826094233627 tw10820725540917635419 tw6480544383769950111 tw1546269324757160001 tw16962135991699226128 tw9802402648805619401 tw3654723090658845263 tw4755138414756400163 tw3246123104325473894 tw13044214155178123391 tw10556511544046535790 tw6455479011058006946 tw10465075107105814732 tw9081548847875303218 tw10473335225174490327 tw15031850791077788347 tw17427047447503878510 tw2895652176082351533 tw9196937056035208308 tw7178118312454896996 tw13286236390038531651 tw14841074688823438750 tw9537731628315874354 tw6062756581284967978 tw6542136842487969818 tw1416326793886183161 tw3282520305084930912 tw16021397286628160642 tw12607091068006891152 tw10826036926507179004 tw240562411608921303 tw9268322189556959763 tw2095705071414298302 tw16477946028861427316 tw16686336170748238380 tw13681859277862086839 tw17986212666044687958 tw8396152965147666598 tw17280505362329377556 tw8843196871919387094 tw11214873622304752873 tw17955450022597447805 tw10143248122141620198 tw10930977449998409922 tw11285677944810441255 tw11787032100688384624 tw2692339620107516218 tw17078762168709114810 tw491956087466352404 tw8745300228358123664 tw6950163637523675189 tw9658765337776031597 tw17376394909724138403 tw1796464449575584077 tw7101788957697647760 tw5028288531426938661 tw13494539747622610106 tw15325876144697148196 tw16176031844756220046 tw1764695933710206164 tw10340107141802168853 tw12895126566249799646 tw15188443186049209063 tw49936971804482529 tw8308327362872147729 tw16265091545328400324 tw7777190129299806398 tw5130041139520901083 tw17258082368044494591 tw9208983527305851568 tw15647438124579965768 tw10680762094476283142 tw926593722580621258 tw18267934274803771626 tw1511410858733149012 tw10664879403738404716 tw16958388082884726547 tw11915235880753768337 tw2916529499981031860 tw17693331759213592167 tw5521353665516749325 tw13403098316826735372 tw15328934272839687353 tw12546035669915316999 tw1482056100475550719 tw13139150672030574260 tw12276877916516641100 tw6088905561078236288 tw1558767017299489934 tw6894571628953287563 tw1518207668927752355 tw8201560444772544415 tw15406631533131091881 tw16868117291386601783 tw6087782708295016711 tw6974644795061818275 tw2427683376292685967 tw4419123236359016979 tw9061769989188271888 tw6549046697523189126 tw6049503915298062381 tw11957253600929057608 tw1633345247518246402 tw17047118476985915114 tw12222737893290522539 tw14271665836969549387 tw16897451245030361721 tw16818966939354780289 tw2654772391655263172 tw3356949762774342972 tw2414845511513491629 tw4174661038721761950 tw7654342481228571709 tw1432616426583506354 tw10665798889188397835 tw17190820740766361194 tw15345203913385809065 tw15517376444363150473 tw3136821577548818777 tw18273328672665459536 tw8606217113904392650 tw13551378360537757880 tw11302649474078196197 tw10040488159462364248 tw8297641182659892646 tw6737196017470068562 tw8426190640530726966 tw12962446373386140147 tw17466245910740667039 tw13798712651812000542 tw7332442019916388660 tw457050582637210696 tw13265683979056753169 tw1761305801585947661 tw1667496238407943699 tw12194210819602890198 tw14952507484510457419 tw6708657386087760590 tw10492360542931972168 tw17161344775795346886 tw14436798445966440620 tw9151822888766952583 tw10946569483511843830 tw2773834544896661308 tw2706600860341822148 tw7320224722164129919 tw15271210815696477493 tw4069462798643500157 tw216570709312989313 tw9211733264661713572 tw13767177376199359210 tw16399453481596366671 tw15818220342063621885 tw4958232101331638984 tw3029059999439849463 tw2425050756823644554 tw3876468784956730334 tw18163311810074887700 tw224447491587134963 tw4572881961855751033 tw9427548498701231281 tw3998921787545902758 tw5895446767918741836 tw6877727424967813471 tw18126070203309753170 tw16493412450801147561 tw3840364452349371038 tw5384325349308499292 tw17051661146013691029 tw12653885841427992967 tw10959739836164715859 tw15544936114135706081 tw4225584727193339514 tw13269610857063309015 tw5626587159839559734 tw18413035476077445303 tw4541262539519020554 tw7726664847927907240 tw16277381271409617221 tw9583531945827888472 tw99026505507210008 tw5726884168370080697 tw9106796159173173634 tw6384082026330979061 tw16451959405623145936 tw1600519508804262626 tw9851484912464316217 tw10040386440544589068 tw4392732353915013112 tw4541277551292934127 tw5676004393793141140 tw558747111470085246 tw3250611466308957203 tw14043287249177491391 tw8486250710431494131 tw4239896876494057457 tw42512154470219052 tw17574165468150334463 tw1572573368114195770 tw16056508880944643565 tw14826726935770099319 tw11453557667058710738 tw2308772128480711005 tw13164559134999233005 tw2392404596934550180 tw8162905241468020472 tw2911264301738118251 tw446765245355696927 tw10901920385600797284 tw12891909603202380164 tw18009936890765568773 tw9331296103687095892 tw6370798482782056824 tw7223000639842022616 tw10442245564026658089 tw16975193559497296186 tw13987984903044040524 tw2079253324526517378 tw14576447942135580267 tw5939792739240667086 tw17352763327734396696 tw9247828823881439225 tw15738779021481866018 tw2369420843881316641 tw15916106784440517614 tw749638401853131228 tw7645152038574064327 tw2316684064074806775 tw11872038271402730885 tw15290844609373312011 tw5687688885055724336 tw4070514454089621492 tw14779683881440069871 tw10112514973620954840 tw15144210623548719785 tw17225073255841496167 tw1374131250119660138 tw11131713954550383904 tw12225374425526643322 tw17578425565147317993 tw8988079737016397399 tw8683507606459475870 tw519334883128854590 tw386598080438847691 tw15914987362019254885 tw7711177293804456909 tw4953861811981710812 tw15350619196246592000 tw11781115443794415896 tw7344638517309331777 tw10036104629625853426 tw2166376893727444507 tw5676822543600373016 tw3343455168724993494 tw17602902585141606383 tw12112237584969408776 tw17594087337589881555 tw255576182931726663 tw18044600786811227421 tw9431549461114141104 tw5485010309774055487 tw14114795537627887417 tw11873179023938284191 tw2677418539489006452 tw12846853069566636341 tw6804149860531170545 tw9608935614376730290 tw17817730543312466411 tw4610738451898432162 tw17760717774465404946 tw5148906509206958814 tw3493028506647174670 tw484608493131046670 tw5606075674477439673 tw16464976591653699833 tw9547158111356659112 tw7976742011480880286 tw7684322244948286954 tw8904860330493689324 tw7896718755516254542 tw13696847813173417944 tw1645981778810399033 tw11686735100830331198 tw10691192032927359175 tw11955512891804016110 tw9379333487681797630 tw10414463824369193220 tw1492141565800504409 tw2616608290681918513 tw12760743007042537337 tw5429264178081758408 tw3965327047841627799 tw6763911089301694422 tw15690143950206116540 tw11091540199303794582 tw9489484605279554350 tw10851928713145010685 tw14178021101931775202 tw13840059851885312722 tw14605386156043400633:True)
set_option maxRecDepth 100000 in
set_option maxHeartbeats 0 in
theorem PySem.Challenge.cw_fewbits_k57_whole_turned_where_unasked_holds : PySem.Challenge.rw_fewbits_k57_whole_turned_where_unasked.Holds := by
 w_on;o_law;k_head;(case hw=>w_witness2)
 k_fill
 refine EV.law_of (l:=PySem.Challenge.rw_fewbits_k57_whole_turned_where_unasked) K57.fns K57.tbs 78 12 _ "_law_script" rfl rfl ⟨rfl,by decide,by decide⟩ (λ w h Y=>PySem.W.kIn_of Y) K57.oks K57.binds rfl rfl rfl ?top ?tbl ?cnl ?tbn K57.main
 case top =>
  intro w h KX F hF;simp only[K57.fns,yCh,yCe,or_false] at hF;rcases hF with rfl | rfl | rfl | rfl | rfl | rfl | rfl | rfl | rfl | rfl | rfl | rfl | rfl | rfl | rfl | rfl | rfl | rfl | rfl | rfl | rfl | rfl | rfl | rfl | rfl | rfl | rfl | rfl | rfl | rfl | rfl | rfl | rfl | rfl | rfl | rfl | rfl | rfl | rfl | rfl | rfl | rfl | rfl | rfl | rfl | rfl | rfl | rfl | rfl | rfl | rfl | rfl | rfl | rfl | rfl | rfl | rfl | rfl | rfl | rfl | rfl | rfl | rfl | rfl | rfl | rfl | rfl | rfl | rfl | rfl | rfl | rfl | rfl | rfl | rfl | rfl | rfl | rfl | rfl
  all_goals
   refine' EV.top_mk ?a1 ?l1 ?c1 ?k1
   (case a1=>k_is)
   (case l1=>k_is)
   (case c1=>k_is)
   (case k1=>k_is)
 case tbl =>
  intro w h KX t ht;simp only[K57.tbs,yCh,yCe,or_false] at ht;rcases ht with rfl
  all_goals
   refine' EV.tab_mk ?a1 ?l1 ?c1
   (case a1=>k_is)
   (case l1=>k_is)
   (case c1=>(repeat' (first | exact True.intro | apply And.intro))<;>first | rfl | exact⟨_,rfl⟩)
 case cnl =>
  intro w h KX t ht;simp only[K57.tbs,yCh,yCe,or_false] at ht;rcases ht with rfl | rfl | rfl | rfl | rfl | rfl
  all_goals
   refine' EV.con_mk ?a1 ?l1 ?z1 ?c1
   (case a1=>k_is)
   (case l1=>k_is)
   (case z1=>decide)
   (case c1=>(repeat' (first | exact True.intro | apply And.intro))<;>first | rfl | exact⟨_,rfl⟩)
 case tbn =>
  intro w h KX x hx;simp only[EV.bltNames,yCh,yCe,or_false] at hx;rcases hx with rfl | rfl | rfl | rfl | rfl | rfl | rfl | rfl | rfl | rfl | rfl | rfl | rfl | rfl | rfl | rfl | rfl | rfl
  all_goals k_is
